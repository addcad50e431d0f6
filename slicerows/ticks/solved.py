"""How many steps are expected on ways that end by chance, as a fraction, however many states there are.

The expected numbers solve equations with small integers. These are solved modulo a prime, and from the rests, digit
by digit, modulo a power of this prime that is so great that it leaves one fraction only.
"""

# One less than 2 to these powers is a prime. No number that could be no divisor here comes up to the second prime.
EXPONENTS = (521, 9689)


def inverse_of(number, prime):
    """The number whose product with a number has the rest 1 modulo a prime."""
    one, other = prime, number % prime
    first, second = 0, 1
    while other > 0:
        many = one // other
        one, other = other, one - many * other
        first, second = second, first - many * second
    return first % prime


class Equations:
    """Equations modulo a prime, told by a dict of factors for each, the one at its own index not being 0."""

    def __init__(self, lines, prime):
        self.prime = prime
        self.table = [{at: factor % prime for at, factor in line.items()} for line in lines]
        self.users = [{} for _ in lines]
        for number, line in enumerate(lines):
            for at in line:
                self.users[at][number] = True
        # For each number in the order in which it goes: the inverse of its factor, the other factors in its equation,
        # and how many times this is taken from which others.
        self.order = []

    def reduce(self):
        """Whether each number could be put out of all equations that are left, one number behind the other."""
        left = {number: True for number in range(len(self.table))}
        while left:
            number = min(list(left), key=lambda at: len(self.table[at]) * len(self.users[at]))
            if self.table[number][number] == 0:
                return False
            del left[number]
            self.take_out(number)
        return True

    def take_out(self, number):
        """Put a number out of the equations that are left."""
        prime = self.prime
        line = self.table[number]
        inverse = inverse_of(line[number], prime)
        del line[number]
        del self.users[number][number]
        others = list(line.items())
        for at, _ in others:
            del self.users[at][number]
        taken = []
        for user in list(self.users[number]):
            changed = self.table[user]
            many = changed[number] * inverse % prime
            del changed[number]
            taken.append((user, many))
            for at, factor in others:
                changed[at] = (changed.get(at, 0) - many * factor) % prime
                self.users[at][user] = True
        self.order.append((number, inverse, others, taken))

    def solved(self, rights):
        """The numbers for which the equations have these right sides."""
        prime = self.prime
        rights = list(rights)
        for number, _, _, taken in self.order:
            for user, many in taken:
                rights[user] = (rights[user] - many * rights[number]) % prime
        for number, inverse, others, _ in self.order[::-1]:
            total = rights[number] - sum([factor * rights[at] for at, factor in others])
            rights[number] = total * inverse % prime
        return rights


def fraction_of(rest, modulus, most):
    """The fraction of integers from 0 up to a greatest one that has a rest modulo a modulus."""
    one, other = modulus, rest
    first, second = 0, 1
    while other > most:
        many = one // other
        one, other = other, one - many * other
        first, second = second, first - many * second
    return (other, second)


def first_fraction(lines, right, equations, most):
    """The first of the numbers that solve equations with this right side everywhere."""
    rights = [right] * len(lines)
    modulus = 1
    rest = 0
    while modulus <= 2 * most * most:
        digits = equations.solved(rights)
        rest += digits[0] * modulus
        modulus *= equations.prime
        rights = [(have - sum([factor * digits[at] for at, factor in line.items()])) // equations.prime
                  for have, line in zip(rights, lines)]
    return fraction_of(rest, modulus, most)


def expected_steps(table, bits):
    """The expected number of steps from state 0 on until the way ends, as a pair of integers.

    `table[state]` tells the pairs of a state and of how many of all steps, 2 to the power of `bits`, lead there; the
    others end the way. From each state some way ends.
    """
    every = 1 << bits
    lines = []
    for state, line in enumerate(table):
        factors = {led: -many for led, many in line}
        factors[state] = factors.get(state, 0) + every
        lines.append(factors)
    # Both integers of the fraction are sums of at most so many products of numbers of steps.
    most = len(lines) << (bits * len(lines))
    for exponent in EXPONENTS:
        equations = Equations(lines, (1 << exponent) - 1)
        if equations.reduce():
            break
    return first_fraction(lines, every, equations, most)
