"""Inputs told from outputs: 0.4 to 0.6, 0.17, 1.3, 13.1 and stage 13."""

import random

from slicerows.back.pairs import MAX_STATES, is_one_paper, is_one_to_one, one_paper, same_inputs
from slicerows.base.bits import is_input
from slicerows.errors import InvalidRow, TooMany
from slicerows.judge.least import least_row
from slicerows.rows.joined import behind, beside, together
from slicerows.rows.ready import added, copied, filled, gate, last, later, negated, parity, picked, sooner, times
from slicerows.rows.rows import Row, row_with
from tests.helpers import ADD, AGAIN, HALF, KINDS, ODD, TOP, Checks, all_words, doubled, not_rows, output_words
from tests.helpers import random_tables, same, some_rows, spoiled, wide_row
from tests.test_counts import widest

GRAY = behind(together(copied(1), HALF), gate(2, "0110"))
ONE = [GRAY, ~GRAY, negated(), copied(1), copied(2), copied(3), picked(2, (1, 0)), times(3), ~times(5), picked(1, (0, 0)),
       together(ADD, picked(2, (1,))), together(later("0"), last()), beside(GRAY, ~GRAY), behind(GRAY, GRAY),
       together(HALF, picked(1, (0,)))]
NOT = [ADD, AGAIN, HALF, TOP, ODD, last(), later("1"), sooner("1"), filled(), gate(3, "01101001"), times(2), picked(2, (0,)),
       added(), together(TOP, last()), together(TOP, parity())]


def some_one_rows(seed, many):
    """Rows with as many output lines as input lines, whose output column tells the column beside both signals."""
    source = random.Random(seed)
    found = []
    for at in range(many):
        lines = source.choice((1, 1, 2))
        lefts, rights = source.randint(1, 3), source.randint(1, 3)
        on, back, _ = random_tables(source, lefts, rights, lines, lines)
        made = [column[0] for column in all_words(1, lines)]
        out = tuple([tuple([tuple(source.sample(made, len(made))) for _ in range(rights)]) for _ in range(lefts)])
        if at % 3 == 0:
            back = ((0,) * len(made),)
            out = tuple([line[:1] for line in out])
        found.append(Row(on, back, out))
    return found


SOME = some_rows(161, 60, 3) + some_rows(162, 20, 3, 1, 2) + some_one_rows(163, 90) + some_rows(164, 10, 2, 2, 1)


def first_states(row):
    return [(0, 0, right, other, 0) for right in range(row.rights) for other in range(row.rights)]


def led_states(row, state):
    """The pair states to which columns and signals lead a pair state, straight from 13.1."""
    left, other_left, right, other_right, parted = state
    found = []
    for place in range(2 ** row.inputs):
        for other_place in range(2 ** row.inputs):
            for behind_it in range(row.rights):
                for other_behind in range(row.rights):
                    if row.back[behind_it][place] != right or row.back[other_behind][other_place] != other_right:
                        continue
                    if row.out[left][behind_it][place] != row.out[other_left][other_behind][other_place]:
                        continue
                    found.append((row.on[left][place], row.on[other_left][other_place], behind_it, other_behind,
                                  1 if parted or place != other_place else 0))
    return found


def states_of(row, more=()):
    """The pair states to which the first ones, and others, are led."""
    queue = list(dict.fromkeys(first_states(row) + list(more)))
    seen = dict.fromkeys(queue)
    for state in queue:
        for found in led_states(row, state):
            if found not in seen:
                seen[found] = None
                queue.append(found)
    return queue


def is_right(row, states):
    """Whether states show that a row is one-to-one, straight from stage 13."""
    if type(states) is not tuple:
        return False
    most = (row.lefts, row.lefts, row.rights, row.rights, 2)
    for state in states:
        if type(state) is not tuple or len(state) != 5:
            return False
        if not all([type(part) is int and 0 <= part < many for part, many in zip(state, most)]):
            return False
    if list(states) != sorted(set(states)) or not all([state in states for state in first_states(row)]):
        return False
    if any([state[2:] == (0, 0, 1) for state in states]):
        return False
    return all([found in states for state in states for found in led_states(row, state)])


def least_clash(row, most):
    """The least width of two different inputs with the same output, or None, by looking at all inputs."""
    for width in range(most + 1):
        outputs = [output_words(row, words) for words in all_words(row.inputs, width)]
        if len(set(outputs)) < len(outputs):
            return width
    return None


def constant(lefts, rights, more=0):
    """A row that always makes 0, with 10 * 4 signals from the left: a place on a ring, and a number of bits 1.

    So many signals more go ahead.
    """
    ahead = [(at + 1, at + 1) for at in range(more)]
    ring = [tuple([more + (place + 1) % lefts * 4 + (many + bit) % 4 for bit in (0, 1)])
            for place in range(lefts) for many in range(4)]
    on = tuple(ahead + ring)
    return row_with(on, ((0, 0),) * rights, ((("0", "0"),) * rights,) * len(on))


class OneToOne(Checks):
    def test_known_rows(self):
        for row in ONE:
            self.holds([is_one_to_one(row), same_inputs(row), one_paper(row)[0]], [True, None, "one"])
            self.holds(least_clash(row, widest(row)), None)
        for row in NOT:
            self.holds([is_one_to_one(row), one_paper(row)[0]], [False, "same"])
            self.holds(len(same_inputs(row)[0][0]), least_clash(row, 3))

    def test_against_all_inputs(self):
        found = {True: 0, False: 0}
        for row in SOME:
            both = same_inputs(row)
            found[both is None] += 1
            self.assertIs(is_one_to_one(row), both is None)
            width = least_clash(row, widest(row) + (row.inputs == 1))
            if both is None:
                self.holds(width, None)
                continue
            self.assertTrue(all([is_input(row.inputs, words) for words in both]) and both[0] != both[1])
            self.holds(output_words(row, both[0]), output_words(row, both[1]))
            if width is None:
                self.assertGreater(len(both[0][0]), widest(row))
            else:
                self.holds(len(both[0][0]), width)
        self.assertGreater(min(found.values()), 8)

    def test_wide_clashes(self):
        row = row_with(tuple([(min(at + 1, 9),) * 2 for at in range(10)]), ((0, 0),),
                       ((("0", "1"),),) * 9 + ((("0", "0"),),))
        both = same_inputs(row)
        self.holds([len(both[0][0]), row(both[0]) == row(both[1])], [10, True])
        self.holds([len(same_inputs(~row)[0][0]), is_one_to_one(~row)], [10, False])
        self.holds(is_one_paper(row, ("same",) + both), True)

    def test_a_difference_may_come_late(self):
        row = Row(((0, 1), (1, 1)), ((0, 0),), ((("0", "0"),), (("0", "0"),)))
        self.holds(len(same_inputs(row)[0][0]), 1)
        self.holds([len(words[0]) for words in same_inputs(ODD)], [2, 2])

    def test_rows_with_needless_signals(self):
        for row in ONE[:6] + NOT[:6]:
            self.assertIs(is_one_to_one(doubled(row)), row in ONE)
            self.assertIs(is_one_to_one(least_row(row)), row in ONE)

    def test_rows_with_many_signals(self):
        row = behind(times(7), times(5))
        self.holds([row.lefts, is_one_to_one(row), is_one_to_one(~row)], [35, True, True])
        self.holds([is_one_to_one(behind(times(8), times(7))), is_one_to_one(wide_row(165, 60, 1, 1, 1))], [False, False])
        row = wide_row(166, 20, 4, 1, 1)
        both = same_inputs(row)
        self.holds([row(both[0]) == row(both[1]), len(both[0][0])], [True, least_clash(row, 6)])

    def test_just_enough_states(self):
        row = constant(10, 10)
        self.holds([row.lefts, row.rights, MAX_STATES], [40, 10, 20000])
        self.holds([len(words[0]) for words in same_inputs(row)], [1, 1])
        self.holds([is_one_to_one(row), one_paper(row)[0]], [False, "same"])
        # The row is too large for looking at all; a smaller one of its kind tells how many states there are.
        self.holds([len(states_of(constant(2, 3))), len(states_of(constant(2, 3, more=1)))],
                   [9 * 2 * 4 * 5, 9 * (2 * 4 * 5 + 1)])

    def test_too_many_states(self):
        row = constant(10, 10, more=1)
        for call in (is_one_to_one, same_inputs, one_paper):
            with self.assertRaises(TooMany) as caught:
                call(row)
            self.holds(caught.exception.limit, 20000)
        self.holds(is_one_paper(row, ("same", ("0",), ("1",))), True)
        self.holds(is_one_paper(row, None), False)

    def test_errors(self):
        for call in (is_one_to_one, same_inputs, one_paper):
            self.checks_in_order(call, (ADD, InvalidRow, not_rows()))
        for wrong in not_rows():
            for value in KINDS[::3]:
                self.refuses(InvalidRow, is_one_paper, wrong, value)


class Papers(Checks):
    def judge(self, row):
        return lambda value: is_one_paper(row, value)

    def test_papers(self):
        for row in SOME + ONE + NOT:
            paper = one_paper(row)
            self.judges(self.judge(row), paper, True)
            if paper[0] == "one":
                self.holds(paper, ("one", tuple(sorted(states_of(row)))))
            else:
                self.holds([paper[0], len(paper), len(paper[1][0])], ["same", 3, len(same_inputs(row)[0][0])])

    def test_papers_of_others(self):
        source = random.Random(167)
        accepted = 0
        for row in [row for row in SOME + ONE if row.rights < 4 and is_one_to_one(row)]:
            own = states_of(row)
            for _ in range(6):
                left, right = source.randrange(row.lefts), source.randrange(row.rights)
                more = [(left, source.randrange(row.lefts), right, source.randrange(row.rights), source.randint(0, 1))]
                states = tuple(sorted(states_of(row, more)))
                wanted = is_right(row, states)
                accepted += wanted and len(states) > len(own)
                self.judges(self.judge(row), ("one", states), wanted)
        self.assertGreater(accepted, 5)

    def test_papers_that_are_near_right(self):
        for row in (GRAY, negated(), times(3), together(later("0"), last())):
            states = list(one_paper(row)[1])
            self.assertGreater(len(states), 1)
            for at in range(len(states)):
                self.judges(self.judge(row), ("one", tuple(states[:at] + states[at + 1:])), False)
            for wrong in (states[::-1], states + states[-1:], states[:1] + states):
                self.judges(self.judge(row), ("one", tuple(wrong)), False)
            self.judges(self.judge(row), ("one", states), False)
        for row in NOT[:8]:
            self.judges(self.judge(row), ("one", tuple(sorted(states_of(row)))), False)

    def test_other_inputs(self):
        for one, other, wanted in ((("01",), ("10",), True), (("10",), ("01",), True), (("01",), ("01",), False),
                                   (("1" * 4000,), ("0" * 4000,), True), (("1" * 3999,), ("0" * 3999,), False),
                                   (("0",), ("00",), False), (("",), ("",), False), (("011", "011"), ("101", "101"), False),
                                   (("1" * 4002,), ("0" * 4002,), False), (("0",), ("1",), False)):
            self.judges(self.judge(ODD), ("same", one, other), wanted)
        self.judges(self.judge(ADD), ("same", ("0", "1"), ("1", "0")), True)
        self.judges(self.judge(ADD), ("same", ("0", "1"), ("1", "1")), False)
        self.judges(self.judge(ADD), ("same", ("0",), ("1",)), False)
        self.judges(self.judge(copied(1)), ("same", ("0",), ("0",)), False)

    def test_other_values(self):
        for row in (GRAY, copied(1), negated()):
            for value in spoiled(one_paper(row)):
                right = isinstance(value, tuple) and len(value) == 2 and same(value[0], "one")
                self.judges(self.judge(row), value, right and is_right(row, value[1]))
        self.refuses_spoiled(self.judge(ODD), ("same", ("01",), ("10",)))
        for value in (("one",), ("one", ()), ("same", ("01",)), ("same", ("01",), ("10",), ()), ("Same", ("01",), ("10",)),
                      ("one", ((0, 0, 0, 0),)), ("one", ((0, 0, 0, 0, 0), (0, 0, 0, 0, 2))), ("one", ("0",)),
                      ("one", ((0, 0, 0, 0, False),)), ("one", [(0, 0, 0, 0, 0)])):
            self.judges(self.judge(copied(1)), value, False)
        self.judges(self.judge(copied(1)), ("one", ((0, 0, 0, 0, 0),)), True)

    def test_values_that_are_no_pair_states(self):
        for row in (GRAY, negated(), ~negated(), together(later("0"), last())):
            states = states_of(row)
            many = (row.lefts, row.lefts, row.rights, row.rights, 2)
            for state in states:
                for at, size in enumerate(many):
                    for part in (state[at] - size, -1, size, size + 1, -size):
                        wrong = tuple(sorted(states + [state[:at] + (part,) + state[at + 1:]]))
                        self.judges(self.judge(row), ("one", wrong), part in range(size) and is_right(row, wrong))

    def test_equal_calls(self):
        for row in ONE[:4] + NOT[:4]:
            self.holds(one_paper(row), one_paper(row))
