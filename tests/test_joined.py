"""Rows made of rows: 0.4, 0.15, 1.3, 7.1 and stage 7."""

import random

from slicerows.errors import InvalidNumber, InvalidOperation, InvalidRow, TooMany
from slicerows.judge.alike import are_alike
from slicerows.judge.least import is_least, least_row
from slicerows.rows.joined import MAX_TOLD, behind, beside, repeated, together
from slicerows.rows.ready import added, copied, gate, highest, later, lowest, negated, parity, picked, sooner, times
from slicerows.rows.rows import Row, row_with
from tests.helpers import ADD, AGAIN, HALF, ODD, TOP, Checks, all_words, doubled, not_numbers, not_rows, output_words
from tests.helpers import place_of, poor_tables, random_tables, wide_row


def one_sided(on, out):
    """The row from the left with these tables, with any number of signals."""
    return row_with(tuple(on), ((0,) * len(on[0]),), tuple([(tuple(line),) for line in out]))


def counter(many, bit, ahead=0):
    """A row that counts the bits that are told, modulo a number, behind so many cells; its output is its input."""
    on = [(at + 1, at + 1) for at in range(ahead)]
    for at in range(many):
        moved = ahead + (at + 1) % many
        on.append((moved, ahead + at) if bit == "0" else (ahead + at, moved))
    return one_sided(on, [("0", "1")] * (ahead + many))


def beyond(many):
    """A row that makes bits 1 from an index on, so that it has one signal more than this index."""
    on = [(min(at + 1, many),) * 2 for at in range(many + 1)]
    return one_sided(on, [("0", "0")] * many + [("1", "1")])


def told_signals(one, other):
    """The told signals from the left that count, straight from 7.1."""
    seen = [(0, (0,) * one.rights)]
    for left, told in seen:
        for place in range(2 ** one.inputs):
            found = []
            for right in range(one.rights):
                made = place_of(one.out[left][right][place])
                found.append(other.on[told[one.back[right][place]]][made])
            state = (one.on[left][place], tuple(found))
            if state not in seen:
                seen.append(state)
    return len(seen)


def some_pairs(seed, many):
    """Pairs of rows, the second one with as many input lines as the first one has output lines."""
    source = random.Random(seed)
    for at in range(many):
        inputs, middle, outputs = [source.randint(1, 2) for _ in range(3)]
        makes = (random_tables, poor_tables, random_tables)
        sizes = [source.randint(1, 3) for _ in range(4)]
        yield (Row(*makes[at % 3](source, sizes[0], sizes[1], inputs, middle)),
               Row(*makes[at % 2](source, sizes[2], sizes[3], middle, outputs)))


class Behind(Checks):
    def test_outputs_are_those_of_the_outputs(self):
        for one, other in some_pairs(71, 60):
            found = behind(one, other)
            self.holds([found.inputs, found.outputs], [one.inputs, other.outputs])
            for width in range(6 if one.inputs == 1 else 4):
                for words in all_words(one.inputs, width):
                    self.holds(output_words(found, words), output_words(other, output_words(one, words)))

    def test_rows_are_least(self):
        for one, other in some_pairs(72, 60):
            found = behind(one, other)
            self.assertIs(is_least(found), True)
            self.assertTrue(behind(doubled(one), doubled(other)) == found)
            self.assertTrue(behind(~one, ~other) == ~found)

    def test_three_lines(self):
        source = random.Random(73)
        one = Row(*random_tables(source, 2, 2, 3, 3))
        other = Row(*random_tables(source, 2, 2, 3, 3))
        found = behind(one, other)
        for width in range(3):
            for words in all_words(3, width):
                self.holds(output_words(found, words), output_words(other, output_words(one, words)))

    def test_rows_of_calls(self):
        self.assertTrue(behind(negated(), negated()) == copied(1))
        self.assertTrue(behind(TOP, lowest()) == TOP)
        self.assertTrue(behind(times(8), times(7)) == one_sided_times(56))
        self.assertTrue(behind(AGAIN, negated()) == behind(ADD, negated()))
        self.assertIs(are_alike(behind(HALF, later("0")), gate(1, "01")), False)

    def test_just_enough_told_signals(self):
        one, other = counter(40, "1"), counter(50, "0")
        self.holds([told_signals(one, other), MAX_TOLD], [2000, 2000])
        self.assertTrue(behind(one, other) == copied(1))
        self.assertTrue(behind(~one, ~other) == copied(1))

    def test_too_many_told_signals(self):
        one, other = counter(40, "1", ahead=1), counter(50, "0", ahead=1)
        self.holds(told_signals(one, other), 2001)
        for call in (lambda: behind(one, other), lambda: behind(~one, ~other)):
            with self.assertRaises(TooMany) as caught:
                call()
            self.holds(caught.exception.limit, 2000)

    def test_signals_count_as_they_are_passed(self):
        one, other = counter(41, "1"), counter(50, "0")
        self.refuses(TooMany, behind, one, other)
        self.assertTrue(behind(least_row(one), other) == copied(1))
        self.assertTrue(behind(one, least_row(other)) == copied(1))

    def test_told_tuples_count(self):
        source = random.Random(74)
        over = 0
        for _ in range(12):
            one = Row(*random_tables(source, 4, 8, 2, 2))
            other = Row(*random_tables(source, 7, 2, 2, 1))
            many = max(limited(one, other), limited(~one, ~other))
            try:
                behind(one, other)
            except TooMany as error:
                over += error.limit == 2000
                self.holds(error.limit, 2000 if many > 2000 else 60)
            else:
                self.assertLessEqual(many, 2000)
        self.assertGreater(over, 0)

    def test_least_rows_of_sixty_signals_and_more(self):
        found = behind(beyond(58), later("0"))
        self.holds([found.lefts, is_least(found)], [60, True])
        self.holds(found(("0" * 61,)), ("0" * 59 + "11",))
        self.assertTrue(behind(~beyond(58), sooner("0")) == ~found)
        for one, other in ((beyond(59), later("0")), (~beyond(59), sooner("0")), (found, later("0"))):
            with self.assertRaises(TooMany) as caught:
                behind(one, other)
            self.holds(caught.exception.limit, 60)

    def test_sixty_signals_that_one_cell_tells_apart(self):
        made = [column[0] for column in all_words(1, 3)]
        on = [((at + 1) % 60, (at + 1) % 60) for at in range(60)]
        row = one_sided(on, [(made[at // 8], made[at % 8]) for at in range(60)])
        self.assertTrue(behind(copied(1), row) == row)
        self.assertTrue(behind(row, copied(3)) == row)
        self.assertTrue(behind(~row, copied(3)) == ~row)

    def test_told_signals_come_ahead_of_classes(self):
        one = one_sided(counter(40, "1").on, [("0", "1")] * 40)
        source = random.Random(75)
        other = one_sided(counter(51, "0").on, [(source.choice("01"), source.choice("01")) for _ in range(51)])
        with self.assertRaises(TooMany) as caught:
            behind(one, other)
        self.holds(caught.exception.limit, 2000)
        shorter = one_sided(counter(50, "0").on, [(source.choice("01"), source.choice("01")) for _ in range(50)])
        self.holds(told_signals(one, shorter), 2000)
        self.assertTrue(behind(one, shorter) == least_row(shorter))

    def test_errors(self):
        self.checks_in_order(behind, (ADD, InvalidRow, not_rows()), (HALF, InvalidRow, not_rows()))
        for one, other in ((ADD, ADD), (copied(3), HALF), (HALF, wide_row(76, 60, 60, 2, 1)),
                           (counter(41, "1"), beside(counter(50, "0"), copied(1)))):
            self.refuses(InvalidOperation, behind, one, other)


def limited(one, other):
    """The number of told signals, up to a few above 2000, quicker than by 7.1."""
    seen = {(0, (0,) * one.rights): None}
    queue = list(seen)
    while queue and len(seen) <= 2000:
        left, told = queue.pop()
        for place in range(2 ** one.inputs):
            state = (one.on[left][place], tuple([
                other.on[told[one.back[right][place]]][place_of(one.out[left][right][place])]
                for right in range(one.rights)]))
            if state not in seen:
                seen[state] = None
                queue.append(state)
    return len(seen)


def one_sided_times(number):
    """The row that multiplies by a number of two digits."""
    on = [tuple([(signal + bit * number) // 2 for bit in (0, 1)]) for signal in range(number)]
    return least_row(one_sided(on, [tuple([str((signal + bit * number) % 2) for bit in (0, 1)])
                                    for signal in range(number)]))


class Repeated(Checks):
    def test_each_number_of_times(self):
        for row, most in ((later("0"), 5), (sooner("1"), 5), (parity(), 8), (TOP, 8), (negated(), 8), (lowest(), 8),
                          (gate(1, "10"), 8), (beyond(4), 8)):
            for many in range(1, most + 1):
                found = repeated(row, many)
                self.assertIs(is_least(found), True)
                for words in all_words(1, 4) + [("0110101101",), ("",)]:
                    wanted = words
                    for _ in range(many):
                        wanted = output_words(row, wanted)
                    self.holds(output_words(found, words), wanted)

    def test_rows_with_signals_of_both_sides(self):
        found = 0
        for one, _ in some_pairs(78, 60):
            if one.inputs == one.outputs:
                found += 1
                for many in (2, 3):
                    try:
                        row = repeated(one, many)
                    except TooMany:
                        continue
                    for words in all_words(one.inputs, 3):
                        wanted = words
                        for _ in range(many):
                            wanted = output_words(one, wanted)
                        self.holds(output_words(row, words), wanted)
        self.assertGreater(found, 10)

    def test_once(self):
        for row in (ADD, AGAIN, copied(3), HALF, added(), doubled(ADD), wide_row(79, 20, 20, 2, 1)):
            self.assertTrue(repeated(row, 1) == least_row(row))

    def test_the_row_comes_behind_what_has_come(self):
        row = counter(45, "1")
        self.assertTrue(repeated(row, 8) == copied(1))
        two = one_sided([(1, 0), (0, 1)], [("0", "1"), ("1", "0")])
        self.assertTrue(repeated(two, 3) == behind(behind(least_row(two), two), two))

    def test_too_many_signals(self):
        self.holds(repeated(later("0"), 5).lefts, 32)
        with self.assertRaises(TooMany) as caught:
            repeated(later("0"), 6)
        self.holds(caught.exception.limit, 60)
        self.holds(repeated(times(3), 3).lefts, 27)
        self.refuses(TooMany, repeated, times(3), 4)

    def test_errors(self):
        self.checks_in_order(repeated, (HALF, InvalidRow, not_rows()), (2, InvalidNumber, not_numbers(1, 8)))
        self.checks_in_order(repeated, (ADD, InvalidRow, not_rows()), (1, InvalidNumber, not_numbers(1, 8)))
        for many in (2, 8):
            self.refuses(InvalidOperation, repeated, ADD, many)
        self.refuses((InvalidNumber, 9), repeated, ADD, 9)


class Together(Checks):
    def test_outputs_of_both(self):
        source = random.Random(80)
        for at in range(40):
            inputs = source.randint(1, 2)
            sizes = [source.randint(1, 4) for _ in range(4)]
            one = Row(*(random_tables, poor_tables)[at % 2](source, sizes[0], sizes[1], inputs, 1))
            other = Row(*random_tables(source, sizes[2], sizes[3], inputs, source.randint(1, 2)))
            found = together(one, other)
            self.assertIs(is_least(found), True)
            self.assertTrue(together(doubled(one), doubled(other)) == found)
            for width in range(6 if inputs == 1 else 4):
                for words in all_words(inputs, width):
                    self.holds(output_words(found, words), output_words(one, words) + output_words(other, words))

    def test_beside(self):
        source = random.Random(81)
        for at in range(40):
            inputs = source.choice(((1, 1), (2, 1), (1, 2)))
            outputs = source.choice(((1, 1), (2, 1), (1, 2)))
            sizes = [source.randint(1, 3) for _ in range(4)]
            one = Row(*(random_tables, poor_tables)[at % 2](source, sizes[0], sizes[1], inputs[0], outputs[0]))
            other = Row(*random_tables(source, sizes[2], sizes[3], inputs[1], outputs[1]))
            found = beside(one, other)
            self.assertIs(is_least(found), True)
            self.assertTrue(beside(doubled(one), doubled(other)) == found)
            for width in range(4 if sum(inputs) == 2 else 3):
                for words in all_words(sum(inputs), width):
                    wanted = output_words(one, words[:inputs[0]]) + output_words(other, words[inputs[0]:])
                    self.holds(output_words(found, words), wanted)

    def test_sixty_signals_and_more(self):
        ten = one_sided(counter(10, "1").on, [("0", "1")] + [("0", "0")] * 9)
        seven = one_sided(counter(7, "0").on, [("0", "1")] + [("0", "0")] * 6)
        six = one_sided(counter(6, "0").on, [("0", "1")] + [("0", "0")] * 5)
        self.holds([together(ten, six).lefts, beside(ten, six).lefts, beside(~ten, ~six).rights], [60, 60, 60])
        self.holds(together(wide_row(82, 60, 60, 1, 1), copied(1)).lefts, least_row(wide_row(82, 60, 60, 1, 1)).lefts)
        for call, one, other in ((together, ten, seven), (beside, ten, seven), (together, ~ten, ~seven),
                                 (beside, ~ten, ~seven)):
            with self.assertRaises(TooMany) as caught:
                call(one, other)
            self.holds(caught.exception.limit, 60)
        self.holds(together(counter(60, "1"), counter(60, "0")).lefts, 1)

    def test_only_pairs_that_come_together_count(self):
        ring = [((at + 1) % 8, (at + 1) % 8) for at in range(8)]
        row = one_sided(ring, [("0", "1")] + [("0", "0")] * 7)
        self.holds([together(row, row).lefts, beside(row, row).lefts], [8, 8])

    def test_signals_of_both_sides(self):
        found = together(later("0"), HALF)
        self.holds([found.lefts, found.rights, found(("011",))], [2, 2, ("001", "110")])
        found = beside(ODD, TOP)
        self.holds([found.lefts, found.rights], [2, 4])

    def test_errors(self):
        for call in (together, beside):
            self.checks_in_order(call, (HALF, InvalidRow, not_rows()), (HALF, InvalidRow, not_rows()))
        for one, other in ((ADD, HALF), (copied(2), picked(2, (0, 1))), (copied(3), gate(3, "0" * 8)), (copied(3), ADD)):
            self.refuses(InvalidOperation, together, one, other)
        for one, other in ((ADD, ADD), (copied(2), copied(2)), (picked(1, (0, 0)), picked(1, (0, 0))),
                           (gate(3, "0" * 8), copied(1)), (wide_row(83, 60, 60, 3, 1), wide_row(84, 60, 60, 1, 1))):
            self.refuses(InvalidOperation, beside, one, other)
        self.holds([together(picked(1, (0, 0)), copied(1)).outputs, beside(ADD, gate(1, "01")).inputs], [3, 3])


class Highest(Checks):
    def test_least_rows_do_not_hang_on_how_they_are_made(self):
        self.assertTrue(behind(highest(), copied(1)) == highest())
        self.assertTrue(together(highest(), lowest()) == ~together(lowest(), highest()))
        self.assertTrue(behind(together(HALF, later("0")), picked(2, (0,))) == HALF)
        self.assertTrue(behind(beside(HALF, ODD), picked(2, (1,))) == behind(picked(2, (1,)), ODD))
