"""Outputs that come: 0.4 to 0.6, 0.17, 1.3, 14.1, 14.2 and stage 14."""

import random

from slicerows.back.onto import MAX_SETS, is_onto, is_onto_paper, left_set, missing_output, onto_paper
from slicerows.back.pairs import is_one_to_one
from slicerows.base.bits import is_input
from slicerows.counts.counts import input_for
from slicerows.errors import InvalidInput, InvalidRow, TooMany
from slicerows.rows.joined import behind, beside, repeated, together
from slicerows.rows.ready import copied, filled, gate, greater, last, later, negated, picked, sooner, subtracted, times
from slicerows.rows.rows import Row
from tests.helpers import ADD, AGAIN, HALF, KINDS, ODD, TOP, Checks, all_words, doubled, not_inputs, not_rows, output_words
from tests.helpers import same, some_rows, spoiled, wide_row
from tests.test_counts import left_sets, rings, widest
from tests.test_decided import columns_of
from tests.test_pairs import GRAY, some_one_rows

ONTO = [ADD, AGAIN, GRAY, ~GRAY, negated(), copied(1), copied(3), times(3), ~times(7), subtracted(), picked(3, (2, 0)),
        gate(3, "01101001"), behind(ADD, negated()), beside(ADD, copied(1)), doubled(GRAY),
        greater()]
NOT = [HALF, TOP, ODD, last(), later("0"), later("1"), sooner("1"), filled(), times(2), picked(1, (0, 0)),
       together(TOP, last()), gate(2, "0000"), together(copied(1), HALF)]
SOME = some_rows(171, 60, 3) + some_rows(172, 30, 3, 2, 1) + some_one_rows(173, 60) + some_rows(174, 10, 2, 1, 2)


def first_set(row):
    return tuple([(0, right) for right in range(row.rights)])


def led_set(row, pairs, output):
    """The left set to which an output column leads one, straight from 14.1."""
    found = []
    for left, right in pairs:
        for place in range(2 ** row.inputs):
            for behind_it in range(row.rights):
                if row.back[behind_it][place] == right and row.out[left][behind_it][place] == output:
                    found.append((row.on[left][place], behind_it))
    return tuple(sorted(set(found)))


def sets_of(row, more=()):
    """The left sets to which the first one, and others, are led."""
    queue = list(dict.fromkeys([first_set(row)] + list(more)))
    seen = dict.fromkeys(queue)
    for pairs in queue:
        for output in columns_of(row.outputs):
            found = led_set(row, pairs, output)
            if found not in seen:
                seen[found] = None
                queue.append(found)
    return queue


def is_right(row, sets):
    """Whether left sets show that a row is onto, straight from stage 14."""
    if type(sets) is not tuple:
        return False
    for pairs in sets:
        if type(pairs) is not tuple:
            return False
        for pair in pairs:
            if type(pair) is not tuple or len(pair) != 2:
                return False
            if not all([type(part) is int and 0 <= part < many for part, many in zip(pair, (row.lefts, row.rights))]):
                return False
        if list(pairs) != sorted(set(pairs)) or not any([right == 0 for _, right in pairs]):
            return False
    if list(sets) != sorted(set(sets)) or first_set(row) not in sets:
        return False
    return all([led_set(row, pairs, output) in sets for pairs in sets for output in columns_of(row.outputs)])


def least_missing(row, most):
    """The least width of words that are no output, or None, by looking at all inputs."""
    for width in range(most + 1):
        made = {output_words(row, words) for words in all_words(row.inputs, width)}
        if len(made) < 2 ** (width * row.outputs):
            return width
    return None


class Onto(Checks):
    def test_known_rows(self):
        for row in ONTO:
            self.holds([is_onto(row), missing_output(row), onto_paper(row)[0]], [True, None, "onto"])
            self.holds(least_missing(row, widest(row)), None)
        for row in NOT:
            words = missing_output(row)
            self.holds([is_onto(row), onto_paper(row)[0], input_for(row, words)], [False, "missing", None])
            self.holds(len(words[0]), least_missing(row, 4))

    def test_against_all_inputs(self):
        found = {True: 0, False: 0}
        for row in SOME:
            words = missing_output(row)
            found[words is None] += 1
            self.assertIs(is_onto(row), words is None)
            width = least_missing(row, widest(row))
            if words is None:
                self.holds(width, None)
                continue
            self.assertTrue(is_input(row.outputs, words))
            if width is None:
                self.assertGreater(len(words[0]), widest(row))
                self.holds(input_for(row, words), None)
            else:
                self.holds(len(words[0]), width)
                self.assertNotIn(words, [output_words(row, given) for given in all_words(row.inputs, width)])
        self.assertGreater(min(found.values()), 15)

    def test_numbers_of_lines(self):
        for row in SOME + ONTO + NOT:
            if row.outputs > row.inputs:
                self.holds(is_onto(row), False)
            elif row.outputs < row.inputs:
                self.holds(is_one_to_one(row), False)
            else:
                self.holds(is_onto(row), is_one_to_one(row))

    def test_mirrored_rows(self):
        for row in SOME[::3] + ONTO + NOT:
            self.holds(is_onto(~row), is_onto(row))

    def test_rows_with_many_signals(self):
        row = behind(times(7), times(5))
        self.holds([row.lefts, is_onto(row), is_onto(~row), is_onto(behind(times(5), later("0")))], [35, True, True, False])
        far = repeated(later("0"), 5)
        for row in (far, ~far, behind(far, negated()), behind(~far, TOP)):
            words = missing_output(row)
            self.holds([input_for(row, words), is_onto_paper(row, onto_paper(row))], [None, True])
            self.holds(len(words[0]), least_missing(row, 3))

    def test_just_enough_sets_and_more(self):
        row = rings((37, 9, 6))
        self.holds([len(left_sets(row)), MAX_SETS, missing_output(row) in (("0", "1"), ("1", "0"), ("1", "1"))],
                   [2000, 2000, True])
        for more in (rings((37, 9, 6), ahead=1), rings((20, 10, 10))):
            for call in (is_onto, missing_output, onto_paper):
                with self.assertRaises(TooMany) as caught:
                    call(more)
                self.holds(caught.exception.limit, 2000)
            self.holds(is_onto_paper(more, ("missing", ("0", "1"))), True)
            self.holds(is_onto_paper(more, None), False)
            self.holds(left_set(more, ("", "")), ((0, 0),))

    def test_errors(self):
        for call in (is_onto, missing_output, onto_paper):
            self.checks_in_order(call, (ADD, InvalidRow, not_rows()))
        for wrong in not_rows():
            for value in KINDS[::3]:
                self.refuses(InvalidRow, is_onto_paper, wrong, value)


class LeftSets(Checks):
    def test_sets(self):
        for row in SOME[::2] + ONTO + NOT:
            for width in range(3 if row.outputs == 3 else 4):
                for words in all_words(row.outputs, width):
                    pairs = first_set(row)
                    for at in range(width):
                        pairs = led_set(row, pairs, "".join([word[at] for word in words]))
                    self.holds(left_set(row, words), pairs)

    def test_wide(self):
        self.holds(left_set(HALF, ("1" * 4000,)), ((0, 1),))
        self.holds(left_set(later("0"), ("1" * 4000,)), ())
        self.holds(left_set(wide_row(176, 1, 60, 1, 1), ("",)), tuple([(0, right) for right in range(60)]))

    def test_errors(self):
        for row, words in ((ADD, ("01",)), (picked(1, (0, 0)), ("01", "00")), (copied(3), ("0", "1", "1"))):
            self.checks_in_order(left_set, (row, InvalidRow, not_rows()), (words, InvalidInput, not_inputs(row.outputs)))
        self.refuses(InvalidInput, left_set, ADD, ("01", "00"))


class Papers(Checks):
    def judge(self, row):
        return lambda value: is_onto_paper(row, value)

    def test_papers(self):
        for row in SOME + ONTO + NOT:
            paper = onto_paper(row)
            self.judges(self.judge(row), paper, True)
            if paper[0] == "onto":
                self.holds(paper, ("onto", tuple(sorted(sets_of(row)))))
            else:
                self.holds(paper, ("missing", missing_output(row)))

    def test_papers_of_others(self):
        source = random.Random(177)
        accepted = 0
        for row in [row for row in SOME + ONTO if row.outputs < 3 and is_onto(row)]:
            own = sets_of(row)
            every = [(left, right) for left in range(row.lefts) for right in range(row.rights)]
            for _ in range(6):
                more = [tuple(sorted(source.sample(every, source.randint(1, len(every))))) for _ in range(2)]
                sets = tuple(sorted(sets_of(row, more)))
                wanted = is_right(row, sets)
                accepted += wanted and len(sets) > len(own)
                self.judges(self.judge(row), ("onto", sets), wanted)
        self.assertGreater(accepted, 10)

    def test_papers_that_are_near_right(self):
        for row in (ADD, behind(ADD, GRAY), negated(), times(3), AGAIN):
            sets = list(onto_paper(row)[1])
            self.assertGreater(len(sets), 1)
            for at, pairs in enumerate(sets):
                self.judges(self.judge(row), ("onto", tuple(sets[:at] + sets[at + 1:])), False)
                for wrong in (pairs + pairs[-1:], pairs[::-1] if len(pairs) > 1 else pairs * 2, pairs[1:], list(pairs)):
                    self.judges(self.judge(row), ("onto", tuple(sorted(sets[:at] + sets[at + 1:])) + (wrong,)), False)
            for wrong in (sets[::-1], sets + sets[-1:], sets[:1] + sets, [()] + sets):
                self.judges(self.judge(row), ("onto", tuple(wrong)), False)
            self.judges(self.judge(row), ("onto", sets), False)
        for row in NOT[:8]:
            self.judges(self.judge(row), ("onto", tuple(sorted(sets_of(row)))), False)
            self.judges(self.judge(row), ("onto", tuple(sorted([pairs for pairs in sets_of(row) if pairs]))), False)

    def test_other_outputs(self):
        for words, wanted in ((("11",), True), (("10",), False), (("01" * 2000,), True), (("0" * 3999 + "1",), False),
                              (("1" * 4001,), False), (("",), False), (("1", "1"), False), ("11", False), (["11"], False),
                              (("12",), False)):
            self.judges(self.judge(TOP), ("missing", words), wanted)
        self.judges(self.judge(ADD), ("missing", ("1", "0")), False)
        self.judges(self.judge(picked(1, (0, 0))), ("missing", ("1", "0")), True)
        self.judges(self.judge(picked(1, (0, 0))), ("missing", ("1",)), False)

    def test_other_values(self):
        for row in (GRAY, copied(1), ADD):
            for value in spoiled(onto_paper(row)):
                right = isinstance(value, tuple) and len(value) == 2 and same(value[0], "onto")
                self.judges(self.judge(row), value, right and is_right(row, value[1]))
        self.refuses_spoiled(self.judge(later("0")), ("missing", ("1",)))
        for value in (("onto",), ("onto", ()), ("missing",), ("onto", (((0, 0),),), ()), ("Onto", (((0, 0),),)),
                      ("onto", ((), ((0, 0),))), ("onto", (((0, 0), (0, 0)),)), ("onto", (((0, 0), (0, 1)),)),
                      ("onto", (((False, 0),),)), ("onto", ([(0, 0)],)), ("onto", (((0,),),)), ("onto", ((0, 0),))):
            self.judges(self.judge(copied(1)), value, False)
        self.judges(self.judge(copied(1)), ("onto", (((0, 0),),)), True)

    def test_values_that_are_no_signals(self):
        for row in (ADD, GRAY, ~ADD):
            sets = sets_of(row)
            for pair in ((-1, 0), (0, -1), (row.lefts, 0), (0, row.rights), (0, -row.rights), (row.lefts - 1, row.rights)):
                for pairs in sets:
                    wrong = [one for one in sets if one != pairs] + [tuple(sorted(pairs + (pair,)))]
                    self.judges(self.judge(row), ("onto", tuple(sorted(wrong))), False)
                    more = sets + [tuple(sorted(pairs + (pair,)))]
                    self.judges(self.judge(row), ("onto", tuple(sorted(more))), False)

    def test_right_signals_that_no_input_has(self):
        row = Row(((0, 0),), ((0, 0), (1, 1)), ((("0", "1"), ("0", "1")),))
        self.holds(onto_paper(row), ("onto", (((0, 0), (0, 1)),)))
        self.judges(self.judge(row), ("onto", (((0, 0), (0, 1)),)), True)
        self.judges(self.judge(row), ("onto", (((0, 0),), ((0, 0), (0, 1)))), True)
        self.judges(self.judge(row), ("onto", (((0, 0),),)), False)
        self.judges(self.judge(row), ("onto", (((0, 0), (0, 1)), ((0, 1),))), False)
        self.holds(ODD == row, False)
