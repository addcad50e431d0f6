"""Conditions as rows, and what they imply: 0.4 to 0.6, 0.16, 10.1, 10.2 and stage 10."""

import random

from slicerows.base.bits import is_input
from slicerows.errors import InvalidCondition, InvalidOperation, TooMany
from slicerows.judge.least import is_least
from slicerows.numbers.conditions import Condition
from slicerows.numbers.decided import MAX_PAIRS, MAX_REACHED, are_same, can_hold, first_keeping, implied_paper, is_first_keeping
from slicerows.numbers.decided import is_implied, is_implied_paper, row_of
from slicerows.rows.ready import gate, greater
from tests.helpers import KINDS, Checks, all_words, not_conditions, output_words, same, spoiled
from tests.test_conditions import holds_for, holds_there, some_conditions, state_behind

LOW = Condition("most", (1,), 3)
EVEN = Condition("rest", (1,), 0, modulus=2)
# So many states are reached from these conditions, as the tests see for themselves.
REACHED = {2000: Condition("most", (7,), 675 * 2 ** 244 + 949), 2001: Condition("most", (7,), 1631 * 2 ** 243 + 78),
           4000: Condition("most", (7,), 1436 * 2 ** 493 + 650), 4001: Condition("most", (7,), 200 * 2 ** 496 + 974)}


def columns_of(lines):
    return [column[0] for column in all_words(1, lines)]


def reached_states(condition):
    """The states that are reached, straight from 10.1."""
    seen = {condition.first: None}
    queue = [condition.first]
    for state in queue:
        for column in columns_of(condition.lines):
            found = state_behind(condition, state, column)
            if found not in seen:
                seen[found] = None
                queue.append(found)
    return queue


def reached_pairs(one, other, first=None):
    """The pairs of states that are reached together from some pairs, straight from 10.2."""
    queue = list(first or [(one.first, other.first)])
    seen = {pair: None for pair in queue}
    for pair in queue:
        for column in columns_of(one.lines):
            found = (state_behind(one, pair[0], column), state_behind(other, pair[1], column))
            if found not in seen:
                seen[found] = None
                queue.append(found)
    return queue


def paper_of(pairs):
    return ("implied", tuple(sorted(pairs, key=repr)))


def is_state(condition, value):
    """Whether a value has the form of a state, straight from 9.2."""
    if condition.rule in ("and", "or"):
        return type(value) is tuple and len(value) == 2 and all(map(is_state, condition.parts, value))
    if condition.rule == "not":
        return is_state(condition.parts[0], value)
    if condition.rule == "rest":
        return type(value) is tuple and len(value) == 2 and all([type(rest) is int and 0 <= rest < condition.modulus
                                                                 for rest in value])
    return type(value) is int and abs(value) < 10 ** 200 or value is None and condition.rule != "most"


def is_right(one, other, pairs):
    """Whether pairs of states show that one condition implies another one, straight from stage 10."""
    if type(pairs) is not tuple or not all([type(pair) is tuple and len(pair) == 2 and is_state(one, pair[0])
                                            and is_state(other, pair[1]) for pair in pairs]):
        return False
    told = [repr(pair) for pair in pairs]
    if told != sorted(set(told)) or (one.first, other.first) not in pairs:
        return False
    for first, second in pairs:
        for column in columns_of(one.lines):
            led = (state_behind(one, first, column), state_behind(other, second, column))
            if led not in pairs or holds_there(one, first, column) and not holds_there(other, second, column):
                return False
    return True


def least_width(holds, lines, widest):
    """The least width from 1 on of an input for which something holds, or None, by looking at all inputs."""
    for width in range(1, widest + 1):
        if any([holds(words) for words in all_words(lines, width)]):
            return width
    return None


def some_pairs(seed, many, parts=2):
    """Pairs of conditions about as many words."""
    source = random.Random(seed)
    for _ in range(many):
        lines = source.randint(1, 2)
        found = some_conditions(source.random(), 2, lines, parts)
        yield found[0], found[1]
    for condition in some_conditions(seed, many // 4, 1, parts):
        yield condition, condition | LOW if condition.kind == "plain" else ~~condition
        yield condition & condition, condition


class Rows(Checks):
    def test_rows_tell_the_truth_of_each_beginning(self):
        made = 0
        for condition in some_conditions(111, 60, 1) + some_conditions(112, 40, 2, 2) + some_conditions(113, 8, 3, 1):
            try:
                row = row_of(condition)
            except TooMany as error:
                self.assertIs(error.limit == 2000, len(reached_states(condition)) > 2000)
                continue
            made += 1
            self.holds([row.inputs, row.outputs, row.rights, is_least(row)], [condition.lines, 1, 1, True])
            for width in range({1: 7, 2: 4, 3: 3}[condition.lines]):
                for words in all_words(condition.lines, width):
                    wanted = "".join(["1" if holds_for(condition, tuple([word[:at + 1] for word in words])) else "0"
                                      for at in range(width)])
                    self.holds(output_words(row, words), (wanted,))
        self.assertGreater(made, 80)

    def test_ready_rows(self):
        self.assertTrue(row_of(~Condition("most", (1, -1), 0)) == greater())
        self.assertTrue(row_of(Condition("wrapped", (1,), 0) | Condition("most", (-1,), 0)) == gate(1, "11"))
        self.assertTrue(row_of(Condition("most", (1,), -1)) == gate(1, "00"))

    def test_just_enough_states_and_more(self):
        self.holds(MAX_REACHED, 2000)
        for many in (2000, 2001):
            self.holds(len(reached_states(REACHED[many])), many)
            for condition in (REACHED[many] | ~REACHED[many], ~(REACHED[many] | ~REACHED[many])):
                if many == 2000:
                    self.assertTrue(row_of(condition) == gate(1, "00" if condition.rule == "not" else "11"))
                else:
                    self.too_many(2000, row_of, condition)

    def test_sixty_signals_and_more(self):
        for number, lefts in ((2 ** 57 - 1, 59), (2 ** 58 - 1, 60)):
            row = row_of(Condition("most", (1,), number))
            self.holds([row.lefts, is_least(row)], [lefts, True])
        self.too_many(60, row_of, Condition("most", (1,), 2 ** 59 - 1))
        self.too_many(60, row_of, REACHED[2000])
        self.too_many(2000, row_of, REACHED[2001])

    def too_many(self, limit, call, *given):
        with self.assertRaises(TooMany) as caught:
            call(*given)
        self.holds(caught.exception.limit, limit)

    def test_errors(self):
        self.checks_in_order(row_of, (LOW, InvalidCondition, not_conditions()))
        for lines in (4, 5, 6):
            for kind in ("plain", "signed"):
                self.refuses(InvalidOperation, row_of, Condition("most", (1,) * lines, 0, kind=kind))
        big = REACHED[2001].number
        self.refuses(InvalidOperation, row_of, Condition("most", (7, 0, 0, 0), big))
        self.too_many(2000, row_of, Condition("most", (7, 0, 0), big))


class Implied(Checks):
    def test_against_all_inputs(self):
        both = {True: 0, False: 0}
        for one, other in some_pairs(114, 160):
            fails = least_width(lambda words: holds_for(one, words) and not holds_for(other, words), one.lines,
                                6 if one.lines == 1 else 3)
            implied = is_implied(one, other)
            both[implied] += 1
            if implied:
                self.holds(fails, None)
            paper = implied_paper(one, other)
            self.holds(paper[0], "implied" if implied else "fails")
            if not implied:
                words = paper[1]
                self.assertTrue(is_input(one.lines, words) and holds_for(one, words) and not holds_for(other, words))
                self.assertLessEqual(len(words[0]), fails or len(words[0]))
            self.assertIs(is_implied_paper(one, other, paper), True)
            self.assertIs(are_same(one, other), implied and is_implied(other, one))
        self.assertGreater(min(both.values()), 30)

    def test_papers_have_the_pairs_that_are_reached(self):
        found = 0
        for one, other in some_pairs(115, 100):
            paper = implied_paper(one, other)
            if paper[0] == "implied":
                found += 1
                self.holds(paper, paper_of(reached_pairs(one, other)))
                self.assertTrue(all([repr(pair) < repr(behind) for pair, behind in zip(paper[1], paper[1][1:])]))
        self.assertGreater(found, 20)

    def test_pairs_ascend_by_repr(self):
        paper = implied_paper(Condition("most", (1,), 20), Condition("most", (1,), 21))
        self.holds(paper, ("implied", ((-1, -1), (-1, 0), (0, 0), (0, 1), (1, 1), (1, 2), (10, 10), (2, 2), (20, 21),
                                       (4, 4), (4, 5), (5, 5), (9, 10))))

    def test_papers_of_others(self):
        source = random.Random(116)
        accepted = 0
        for one, other in some_pairs(117, 60):
            more = [(one.first, other.first)]
            for state in source.sample(reached_states(one), min(2, len(reached_states(one)))):
                more.append((state, source.choice(reached_states(other))))
            pairs = reached_pairs(one, other, list(dict.fromkeys(more)))
            wanted = not any([holds_there(one, first, column) and not holds_there(other, second, column)
                              for first, second in pairs for column in columns_of(one.lines)])
            accepted += wanted and len(pairs) > len(reached_pairs(one, other))
            self.assertIs(is_implied_paper(one, other, paper_of(pairs)), wanted)
        self.assertGreater(accepted, 5)

    def test_papers_that_are_near_right(self):
        one, other = Condition("equal", (1,), 6), LOW | EVEN
        pairs = list(implied_paper(one, other)[1])
        self.assertGreater(len(pairs), 5)
        for at in range(len(pairs)):
            self.judges(self.judge(one, other), ("implied", tuple(pairs[:at] + pairs[at + 1:])), False)
        for wrong in (pairs[::-1], pairs + pairs[-1:], sorted(pairs, key=lambda pair: repr(pair)[1:][::-1])):
            self.judges(self.judge(one, other), ("implied", tuple(wrong)), False)
        self.judges(self.judge(other, one), paper_of(reached_pairs(other, one)), False)
        self.judges(self.judge(one, other), ("fails", ("011",)), False)
        self.judges(self.judge(other, one), ("fails", ("011",)), False)
        self.judges(self.judge(other, one), ("fails", ("11100" * 800,)), False)
        self.judges(self.judge(other, one), ("fails", ("01" + "0" * 3998,)), True)
        self.judges(self.judge(other, one), ("fails", ("01" + "0" * 3999,)), False)

    def test_width_none_is_no_paper(self):
        one, other = Condition("most", (1,), 3), Condition("most", (-1,), -1)
        self.judges(self.judge(one, other), ("fails", ("",)), False)
        self.judges(self.judge(one, other), ("fails", ("0",)), True)
        zero = Condition("wrapped", (1,), 1)
        self.holds([zero(("",)), LOW(("",)), is_implied(zero, ~Condition("most", (1,), 0))], [True, True, True])

    def judge(self, one, other):
        return lambda value: is_implied_paper(one, other, value)

    def test_other_values(self):
        equal = Condition("equal", (1,), 1)
        self.judges_spoiled(equal, LOW & EVEN | equal)
        self.judges_spoiled(~LOW, ~(EVEN & LOW))
        self.refuses_spoiled(self.judge(EVEN, EVEN), implied_paper(EVEN, EVEN))
        self.refuses_spoiled(self.judge(LOW, EVEN), ("fails", ("1",)))
        for value in (("implied",), ("implied", ()), ("fails",), ("fails", "1"), ("fails", ("1", "0")), ("fails", ("2",)),
                      ("implied", ((3, (0, 1)),)), ("Fails", ("1",)), ("fails", ("1",), ())):
            self.judges(self.judge(LOW, EVEN), value, False)
        one, other = Condition("most", (1,), -1), Condition("equal", (1,), 0)
        self.judges(self.judge(one, other), ("implied", ((-1, 0), (-1, None))), True)
        for pairs in (((-1, None), (-1, 0)), ((-1, 0), (-1, None), (None, 0)), ((-1, False), (-1, None)),
                      ((-1, 0), (-1, None), (10 ** 200, None)), ((-1, 0), [-1, None]), ((-1, 0), (-1, None, 0)),
                      ((-1, 0), (-1, None), (-1, (0, 1)))):
            self.judges(self.judge(one, other), ("implied", pairs), False)

    def judges_spoiled(self, one, other):
        """A part of another kind makes a paper wrong, or other pairs of states, which a paper may have."""
        paper = implied_paper(one, other)
        refused = 0
        for value in spoiled(paper):
            wanted = same(value[:1], ("implied",)) and len(value) == 2 and is_right(one, other, value[1]) \
                if isinstance(value, tuple) else False
            refused += not wanted
            self.judges(self.judge(one, other), value, wanted)
        self.assertGreater(refused, 100)

    def test_long_states(self):
        one = Condition("most", (1,), -1)
        pairs = reached_pairs(one, one, [(-1, -1), (-10 ** 200 + 1, -1)])
        self.assertIs(is_implied_paper(one, one, paper_of(pairs)), True)
        pairs = reached_pairs(one, one, [(-1, -1), (-10 ** 200, -1)])
        self.assertIs(is_implied_paper(one, one, paper_of(pairs)), False)

    def test_six_words(self):
        one = Condition("equal", (1, 2, 3, -1, -2, -3), 4)
        other = Condition("rest", (1, 2, 3, -1, -2, -3), 1, modulus=3)
        self.holds([is_implied(one, other), is_implied(other, one), are_same(one, one & other)], [True, False, True])
        words = implied_paper(other, one)[1]
        self.holds([len(words), holds_for(other, words), holds_for(one, words)], [6, True, False])
        self.assertIs(is_implied_paper(one, other, implied_paper(one, other)), True)

    def test_kinds_may_differ(self):
        one, other = Condition("most", (1,), 0, kind="signed"), Condition("most", (-1,), -1)
        self.holds([is_implied(one, other), is_implied(other & ~LOW, ~LOW)], [False, True])
        self.holds(implied_paper(one, other), ("fails", ("0",)))
        low = Condition("most", (1,), -1, kind="signed")
        self.holds([is_implied(low, other), is_implied(other, low)], [True, False])

    def test_just_enough_pairs_and_more(self):
        self.holds(MAX_PAIRS, 4000)
        for many in (4000, 4001):
            condition = REACHED[many]
            self.holds(len(reached_states(condition)), many)
            for call in (is_implied, are_same, implied_paper):
                for one, other in ((condition, condition), (condition, Condition("most", (1,), -1)), (~condition, condition)):
                    if many == 4001:
                        self.too_many(4000, call, one, other)
                    elif one == other:
                        self.assertIn(call(one, other) if call is not implied_paper else call(one, other)[0],
                                      (True, "implied"))

    def too_many(self, limit, call, *given):
        with self.assertRaises(TooMany) as caught:
            call(*given)
        self.holds(caught.exception.limit, limit)

    def test_judges_do_not_count(self):
        condition = REACHED[4001]
        pairs = reached_pairs(condition, condition)
        self.holds(len(pairs), 4001)
        self.assertIs(is_implied_paper(condition, condition, paper_of(pairs)), True)
        self.assertIs(is_implied_paper(condition, condition, None), False)
        self.assertIs(is_implied_paper(condition, Condition("most", (1,), -1), ("fails", ("0",))), True)

    def test_errors(self):
        for call in (is_implied, are_same, implied_paper):
            self.checks_in_order(call, (LOW, InvalidCondition, not_conditions()), (EVEN, InvalidCondition, not_conditions()))
            self.refuses(InvalidOperation, call, LOW, Condition("most", (1, 1), 3))
            self.refuses(InvalidOperation, call, REACHED[4001], Condition("most", (1,) * 6, 3))
        for value in KINDS:
            for wrong in not_conditions():
                self.refuses(InvalidCondition, is_implied_paper, wrong, LOW, value)
                self.refuses(InvalidCondition, is_implied_paper, LOW, wrong, value)
            self.refuses(InvalidOperation, is_implied_paper, LOW, Condition("most", (1, 1), 3), value)


class Holding(Checks):
    def test_against_all_inputs(self):
        both = {True: 0, False: 0}
        for condition in some_conditions(118, 100, 1) + some_conditions(119, 60, 2, 3) + some_conditions(120, 20, 3, 2):
            widest = {1: 7, 2: 4, 3: 3}[condition.lines]
            width = least_width(lambda words: holds_for(condition, words), condition.lines, widest)
            words = first_keeping(condition)
            both[words is not None] += 1
            self.assertIs(can_hold(condition), words is not None)
            if words is None:
                self.holds(width, None)
                continue
            self.assertTrue(is_input(condition.lines, words) and holds_for(condition, words))
            if width is None:
                self.assertGreater(len(words[0]), widest)
            else:
                self.holds(len(words[0]), width)
                for others in all_words(condition.lines, width):
                    self.assertIs(is_first_keeping(condition, others), holds_for(condition, others))
                for others in all_words(condition.lines, width + 1)[:40]:
                    self.assertIs(is_first_keeping(condition, others), False)
            self.assertIs(is_first_keeping(condition, words), True)
        self.assertGreater(min(both.values()), 15)

    def test_far_numbers(self):
        number = 10 ** 150
        condition = Condition("equal", (1,), number)
        word = first_keeping(condition)[0]
        self.holds([len(word), int(word[::-1], 2) == number], [number.bit_length(), True])
        self.holds([can_hold(Condition("equal", (2,), number + 1)), first_keeping(Condition("equal", (2,), 3))],
                   [False, None])
        self.holds(len(first_keeping(Condition("most", (1,), -5, kind="signed"))[0]), 4)

    def test_width_none_does_not_count(self):
        self.holds([first_keeping(Condition("most", (1,), 0)), first_keeping(Condition("wrapped", (1,), 1))],
                   [("0",), ("1",)])
        self.holds(can_hold(Condition("wrapped", (2,), 1)), False)
        self.holds(Condition("wrapped", (2,), 1)(("",)), True)
        for condition in (Condition("wrapped", (2,), 1), Condition("most", (1,), 0)):
            self.judges(lambda value: is_first_keeping(condition, value), ("",), False)

    def test_six_words(self):
        condition = Condition("equal", (6, 10, -15, 4, 9, -25), 1, kind="signed")
        words = first_keeping(condition)
        self.holds([len(words), holds_for(condition, words), is_first_keeping(condition, words)], [6, True, True])
        self.holds(len(words[0]), least_width(lambda told: holds_for(condition, told), 6, 2))
        self.judges(lambda value: is_first_keeping(condition, value), words[:5], False)

    def test_other_values(self):
        condition = Condition("equal", (1, -1), 2)
        self.refuses_spoiled(lambda value: is_first_keeping(condition, value), ("01", "00"))
        for value in (("01", "0"), ("010", "000"), ["01", "00"], ("01",), ("01", "00", "00"), ("01", "02"), ("", "")):
            self.judges(lambda given: is_first_keeping(condition, given), value, False)
        for value in spoiled(("0",)):
            self.judges(lambda given: is_first_keeping(Condition("most", (1,), -1), given), value, False)

    def test_just_enough_states_and_more(self):
        self.holds(can_hold(REACHED[4000]), True)
        self.holds(is_first_keeping(REACHED[4000], ("0",)), True)
        for call in (can_hold, first_keeping):
            self.refuses(TooMany, call, REACHED[4001])
            self.refuses(TooMany, call, ~~(REACHED[4001] & REACHED[4001]))
        for value in KINDS:
            self.refuses(TooMany, is_first_keeping, REACHED[4001], value)
        with self.assertRaises(TooMany) as caught:
            can_hold(REACHED[4001])
        self.holds(caught.exception.limit, 4000)

    def test_errors(self):
        for call in (can_hold, first_keeping):
            self.checks_in_order(call, (LOW, InvalidCondition, not_conditions()))
        for wrong in not_conditions():
            self.refuses(InvalidCondition, is_first_keeping, wrong, ("0",))
