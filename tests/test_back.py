"""Rows that lead back: 0.4, 0.17, 0.20, 1.3, 15.1, 15.2 and stage 15."""

import random

from slicerows.back.back import cycle_length, is_undone, undoing
from slicerows.back.pairs import is_one_to_one, same_inputs
from slicerows.errors import InvalidNumber, InvalidOperation, InvalidRow, SameOutput, TooMany
from slicerows.judge.alike import are_alike
from slicerows.judge.least import is_least
from slicerows.judge.sides import goes_left, goes_right
from slicerows.rows.joined import behind, beside, repeated, together
from slicerows.rows.ready import copied, filled, gate, last, later, negated, picked, sooner, subtracted, times
from slicerows.rows.rows import Row, row_with
from tests.helpers import ADD, HALF, ODD, TOP, Checks, all_words, doubled, not_numbers, not_rows, output_words
from tests.helpers import random_tables, some_rows, wide_row
from tests.test_counts import left_sets, widest
from tests.test_pairs import GRAY, constant, some_one_rows

# The second word stays, so the first one can be had back.
SUMS = together(ADD, picked(2, (1,)))
LESS = together(subtracted(), picked(2, (1,)))
SQUARE = [GRAY, ~GRAY, negated(), ~negated(), copied(1), copied(3), picked(2, (1, 0)), picked(3, (2, 0, 1)), times(3),
          times(7), ~times(5), SUMS, LESS, ~SUMS, beside(GRAY, ~GRAY), behind(GRAY, negated()), behind(negated(), GRAY),
          beside(negated(), copied(2)), behind(~negated(), GRAY)]


def left_one(source, lefts, lines):
    """A one-to-one row from the left whose output column tells the column beside the signal."""
    on, _, _ = random_tables(source, lefts, 1, lines, lines)
    made = [column[0] for column in all_words(1, lines)]
    return Row(on, ((0,) * len(made),), tuple([(tuple(source.sample(made, len(made))),) for _ in range(lefts)]))


def two_sided(seed, many):
    """One-to-one rows that need signals from both sides."""
    source = random.Random(seed)
    found = []
    while len(found) < many:
        lines = source.choice((1, 1, 2))
        one, other = left_one(source, source.randint(2, 3), lines), ~left_one(source, 2, lines)
        row = behind(one, other) if len(found) % 2 else behind(other, one)
        if row.lefts > 1 and row.rights > 1:
            found.append(row)
    return found


def threads(many, seed, ahead, threads_many=3):
    """A row that copies with needless signals: a left set tells where each signal from the right stands by itself.

    The signal from the right stays as it is, and the column is the output column turned on by it; so each signal
    from the right has a signal from the left of its own. So many signals from the left more go ahead.
    """
    source = random.Random(seed)
    on = [(at + 1,) * 4 for at in range(ahead)]
    on = on + [tuple([ahead + source.randrange(many) for _ in range(4)]) for _ in range(many)]
    told = ("00", "01", "10", "11")
    cells = tuple([tuple([told[(place + right) % 4] for place in range(4)]) for right in range(threads_many)])
    return row_with(tuple(on), tuple([(right,) * 4 for right in range(threads_many)]), (cells,) * len(on))


ONE = [row for row in some_rows(241, 200, 3) + some_one_rows(242, 90) if row.inputs == row.outputs and is_one_to_one(row)]
BOTH = two_sided(243, 24)


def leads_back(row, back, width):
    """Whether a row has the inputs of another one as outputs for its outputs, at a width."""
    return all([output_words(back, output_words(row, words)) == words for words in all_words(row.inputs, width)])


class Undoing(Checks):
    def check(self, row):
        back = undoing(row)
        self.assertTrue(is_least(back))
        for width in range(widest(row)):
            self.assertTrue(leads_back(row, back, width) and leads_back(back, row, width))
        return back

    def test_known_rows(self):
        for row in SQUARE:
            self.check(row)
        self.assertTrue(undoing(negated()) == negated())
        self.assertTrue(undoing(SUMS) == LESS and undoing(LESS) == SUMS)
        self.assertTrue(undoing(picked(3, (2, 0, 1))) == picked(3, (1, 2, 0)))
        self.holds([undoing(times(7)).lefts, undoing(repeated(times(7), 2)).lefts], [7, 49])

    def test_some_rows(self):
        for row in ONE:
            self.check(row)
        self.assertGreater(len(ONE), 60)
        self.assertGreater(len([row for row in ONE if row.lefts > 1 and row.rights > 1]), 15)

    def test_rows_from_both_sides(self):
        for row in BOTH:
            back = self.check(row)
            self.assertTrue(undoing(~row) == ~back)
        backs = [undoing(row) for row in BOTH]
        self.assertGreater(len([back for back in backs if back.lefts > 1 and back.rights > 1]), 5)

    def test_back_by_one_side(self):
        self.holds([goes_left(undoing(times(5))), goes_right(undoing(GRAY)), goes_left(undoing(GRAY))], [True, True, False])

    def test_neither_side_is_enough(self):
        # 0.20: a row that can be led back is led back by a row from the left, or by one from the right.
        self.assertTrue(any([not goes_left(undoing(row)) and not goes_right(undoing(row)) for row in BOTH]))

    def test_needless_signals(self):
        for row in SQUARE + BOTH[:8]:
            back = undoing(row)
            if row.lefts <= 29 and row.rights <= 29:
                self.assertTrue(undoing(doubled(row)) == back)

    def test_back_and_forth(self):
        for row in SQUARE + ONE[::4] + BOTH[:12]:
            back = undoing(row)
            self.assertTrue(are_alike(undoing(back), row))
            self.assertTrue(is_undone(row, back) and is_undone(back, row))
            self.assertTrue(behind(row, back) == copied(row.inputs) and behind(back, row) == copied(row.inputs))

    def test_one_row_behind_another(self):
        rows = [row for row in SQUARE + ONE[::3] if row.inputs == 1 and row.lefts * row.rights < 8]
        both = 0
        for one in rows:
            for other in rows[::3]:
                try:
                    back = undoing(behind(one, other))
                except TooMany as error:
                    if error.limit == 60:
                        self.refuses(TooMany, behind, undoing(other), undoing(one))
                    continue
                both += back.lefts > 1 and back.rights > 1
                self.assertTrue(back == behind(undoing(other), undoing(one)))
        self.assertGreater(both, 20)

    def test_rows_that_are_not_one_to_one(self):
        for row in (HALF, TOP, ODD, last(), later("1"), sooner("1"), filled(), times(2), picked(2, (1, 1))):
            with self.assertRaises(SameOutput) as caught:
                undoing(row)
            one, other = caught.exception.one, caught.exception.other
            self.assertNotEqual(one, other)
            self.holds(output_words(row, one), output_words(row, other))
            self.holds(len(one[0]), len(same_inputs(row)[0][0]))

    def test_just_enough_left_sets_and_more(self):
        row = threads(14, 370, 1)
        self.holds([len(left_sets(row)), len(left_sets(threads(14, 370, 2)))], [2000, 2001])
        self.assertTrue(undoing(row) == copied(2))
        self.assertTrue(undoing(~row) == copied(2))
        for more in (threads(14, 370, 2), ~threads(14, 370, 2)):
            with self.assertRaises(TooMany) as caught:
                undoing(more)
            self.holds(caught.exception.limit, 2000)

    def test_too_many_signals(self):
        for seed, forward in ((54, False), (180, True), (209, True)):
            source = random.Random(seed)
            lines = 1 if seed % 2 else 2
            one, other = (left_one(source, source.randint(4, 8), lines), ~left_one(source, source.randint(2, 3), lines))
            row = behind(one, other) if forward else behind(other, one)
            for told in (row, ~row):
                with self.assertRaises(TooMany) as caught:
                    undoing(told)
                self.holds(caught.exception.limit, 60)

    def test_too_many_pair_states(self):
        self.refuses(InvalidOperation, undoing, wide_row(244, 60, 60, 1, 2))
        source = random.Random(6)
        one, other = left_one(source, source.randint(4, 8), 2), ~left_one(source, source.randint(2, 3), 2)
        # The first row is not one-to-one, the second one is.
        for row in (constant(10, 10, more=1), behind(one, other)):
            with self.assertRaises(TooMany) as caught:
                undoing(row)
            self.holds(caught.exception.limit, 20000)
        self.refuses(SameOutput, undoing, constant(10, 10))

    def test_errors(self):
        self.checks_in_order(undoing, (GRAY, InvalidRow, not_rows()))
        for row in (ADD, picked(1, (0, 0)), together(TOP, ODD), gate(3, "00000000")):
            self.refuses(InvalidOperation, undoing, row)

    def test_equal_calls(self):
        for row in SQUARE[:6]:
            self.assertTrue(undoing(row) == undoing(row))


class Undone(Checks):
    def test_known_rows(self):
        self.holds([is_undone(GRAY, undoing(GRAY)), is_undone(GRAY, GRAY), is_undone(negated(), negated())],
                   [True, False, True])
        self.holds([is_undone(SUMS, LESS), is_undone(LESS, SUMS), is_undone(SUMS, SUMS)], [True, True, False])

    def test_other_numbers_of_lines(self):
        twice = picked(1, (0, 0))
        self.holds([is_undone(twice, picked(2, (0,))), is_undone(twice, picked(2, (1,))), is_undone(twice, ADD)],
                   [True, True, False])
        self.holds([is_undone(picked(2, (0,)), twice), is_undone(together(later("0"), last()), picked(2, (0,)))],
                   [False, False])
        # The row needs a signal to tell it back, although the bit is there.
        self.assertTrue(is_undone(together(later("0"), copied(1)), picked(2, (1,))))

    def test_against_all_inputs(self):
        rows = [row for row in ONE + BOTH if row.inputs == 1][:30] + [HALF, TOP, ODD, later("0")]
        for one in rows:
            for other in rows[::5]:
                wanted = all([leads_back(one, other, width) for width in range(6)])
                self.assertIs(is_undone(one, other), wanted)

    def test_signals_that_are_too_many(self):
        far = repeated(later("0"), 5)
        self.refuses(TooMany, is_undone, far, far)
        self.holds(is_undone(far, ~far), False)

    def test_errors(self):
        self.checks_in_order(is_undone, (GRAY, InvalidRow, not_rows()), (HALF, InvalidRow, not_rows()))
        for one, other in ((ADD, copied(1)), (ADD, copied(2)), (copied(1), ADD), (copied(2), copied(3)), (SUMS, ADD),
                           (picked(1, (0, 0)), SUMS), (wide_row(245, 60, 60, 1, 2), copied(1))):
            self.refuses(InvalidOperation, is_undone, one, other)


def turned_on(lines):
    """The row that makes the next column, behind the last one the first one."""
    made = [column[0] for column in all_words(1, lines)]
    return Row(((0,) * len(made),), ((0,) * len(made),), ((tuple(made[1:] + made[:1]),),))


class Cycles(Checks):
    def test_lengths(self):
        self.holds([cycle_length(copied(lines), most) for lines in (1, 2, 3) for most in (1, 8)], [1] * 6)
        self.holds([cycle_length(negated(), most) for most in (1, 2, 3, 8)], [None, 2, 2, 2])
        self.holds([cycle_length(picked(3, (1, 2, 0)), most) for most in (2, 3, 8)], [None, 3, 3])
        self.holds([cycle_length(turned_on(3), most) for most in (7, 8)], [None, 8])
        self.holds([cycle_length(turned_on(2), 8), cycle_length(beside(turned_on(1), turned_on(2)), 8)], [4, 4])
        self.holds([cycle_length(beside(turned_on(2), negated()), most) for most in (3, 4)], [None, 4])

    def test_rows_without_cycles(self):
        for row in (HALF, TOP, ODD, last()):
            self.holds([cycle_length(row, most) for most in (1, 2, 3)], [None, None, None])
        self.holds([cycle_length(GRAY, 5), cycle_length(picked(2, (0, 0)), 8), cycle_length(times(3), 3)], [None] * 3)

    def test_needless_signals(self):
        for row in (copied(1), negated(), turned_on(2)):
            self.holds(cycle_length(doubled(row), 8), cycle_length(row, 8))

    def test_against_repeated(self):
        for row in [row for row in ONE if row.lefts * row.rights < 4][::3] + SQUARE[:6]:
            found = None
            for many in (3, 2, 1):
                found = many if repeated(row, many) == copied(row.inputs) else found
            self.holds(cycle_length(row, 3), found)

    def test_only_the_numbers_that_are_looked_at_count(self):
        for row in (later("0"), sooner("1")):
            self.holds(cycle_length(row, 5), None)
            with self.assertRaises(TooMany) as caught:
                cycle_length(row, 6)
            self.holds(caught.exception.limit, 60)
        self.holds(cycle_length(times(3), 3), None)
        self.refuses(TooMany, cycle_length, times(3), 4)
        self.holds(cycle_length(wide_row(246, 60, 60, 1, 1), 1), None)

    def test_errors(self):
        self.checks_in_order(cycle_length, (GRAY, InvalidRow, not_rows()), (2, InvalidNumber, not_numbers(1, 8)))
        for row in (ADD, picked(1, (0, 0))):
            self.checks_in_order(cycle_length, (row, InvalidRow, not_rows()[:3]), (9, InvalidNumber, not_numbers(1, 8)))
            self.refuses(InvalidOperation, cycle_length, row, 1)
            self.refuses(InvalidOperation, cycle_length, row, 8)
