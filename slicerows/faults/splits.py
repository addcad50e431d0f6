"""How far apart two signals from the left of a row from the left are: the least ends that part them."""

from slicerows.base.walks import numbered


class Splits:
    """For each width, from 0 on, the signals numbered so that ends of this width part those with other numbers."""

    def __init__(self, row):
        self.table = row.on
        self.outs = [line[0] for line in row.out]
        self.rounds = [[0] * row.lefts]
        finer = self.finer()
        while max(finer) > max(self.rounds[-1]):
            self.rounds.append(finer)
            finer = self.finer()

    def finer(self):
        """The numbers for one column more."""
        last = self.rounds[-1]
        return numbered([(made, tuple([last[led] for led in line])) for made, line in zip(self.outs, self.table)])

    def classes(self):
        """For each signal the number of its class, whether it is reached or not."""
        return self.rounds[-1]

    def distance(self, one, other):
        """The least width of an end that parts two signals, or None."""
        for width, numbers in enumerate(self.rounds):
            if numbers[one] != numbers[other]:
                return width
        return None

    def places(self, one, other):
        """The places of the columns of a least end that parts two signals of different classes."""
        found = []
        for numbers in self.rounds[:self.distance(one, other)][::-1]:
            views = [(self.outs[one][place], numbers[led]) for place, led in enumerate(self.table[one])]
            others = [(self.outs[other][place], numbers[led]) for place, led in enumerate(self.table[other])]
            place = [at for at, view in enumerate(views) if view != others[at]][0]
            found.append(place)
            one, other = self.table[one][place], self.table[other][place]
        return found
