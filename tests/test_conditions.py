"""Conditions and their states: 0.1, 0.2, 0.4, 0.13, 1.3, 9.1, 9.2 and stage 9."""

import itertools
import random

from slicerows.errors import InvalidInput, InvalidNumber, InvalidOperation, InvalidWord, TooMany
from slicerows.numbers.conditions import MAX_CONDITIONS, MAX_FACTOR, MAX_MODULUS, RULES, Condition
from tests.helpers import ADD, FAR, KINDS, Checks, all_words, cell_columns, not_conditions, not_inputs, not_numbers
from tests.helpers import not_whole, place_of

LONG = 10 ** 200 - 1


def number_of(word, kind):
    """The number of a word, straight from 0.13."""
    number = sum([2 ** at for at, bit in enumerate(word) if bit == "1"])
    return number - 2 ** len(word) if kind == "signed" and word.endswith("1") else number


def holds_for(condition, words):
    """Whether a condition holds for words, straight from 9.1."""
    if condition.rule in ("and", "or", "not"):
        held = [holds_for(part, words) for part in condition.parts]
        return {"and": all(held), "or": any(held), "not": not held[0]}[condition.rule]
    total = sum([factor * number_of(word, condition.kind) for factor, word in zip(condition.factors, words)])
    left = total - condition.number
    return {"equal": left == 0, "most": left <= 0, "rest": left % (condition.modulus or 1) == 0,
            "wrapped": left % 2 ** len(words[0]) == 0}[condition.rule]


def sum_at(condition, column):
    """The sum of the factors at which a column has the bit 1."""
    return sum([factor for factor, bit in zip(condition.factors, column) if bit == "1"])


def state_behind(condition, state, column):
    """The state to which a column leads a state, straight from 9.2."""
    if condition.rule in ("and", "or"):
        return tuple([state_behind(part, one, column) for part, one in zip(condition.parts, state)])
    if condition.rule == "not":
        return state_behind(condition.parts[0], state, column)
    total = sum_at(condition, column)
    if condition.rule == "rest":
        return ((state[0] - state[1] * total) % condition.modulus, 2 * state[1] % condition.modulus)
    if condition.rule == "most":
        return (state - total) // 2
    return None if state is None or (state - total) % 2 else (state - total) // 2


def holds_there(condition, state, column):
    """Whether a condition holds at a state and a last column, straight from 9.2."""
    if condition.rule in ("and", "or", "not"):
        states = (state,) if condition.rule == "not" else state
        held = [holds_there(part, one, column) for part, one in zip(condition.parts, states)]
        return {"and": all(held), "or": any(held), "not": not held[0]}[condition.rule]
    if state is None:
        return False
    total = sum_at(condition, column) * (1 if condition.kind == "plain" else -1)
    if condition.rule == "rest":
        return (state[0] - state[1] * total) % condition.modulus == 0
    return {"equal": state == total, "most": state >= total, "wrapped": (state - total) % 2 == 0}[condition.rule]


def some_linear(source, lines, kind, most=6):
    """Any linear condition with small numbers."""
    factors = tuple([source.randint(-most, most) for _ in range(lines)])
    rule = source.choice(RULES)
    modulus = source.randint(1, 9) if rule == "rest" else None
    return Condition(rule, factors, source.randint(-9, 12), modulus=modulus, kind=kind)


def some_condition(source, lines, kind, parts=3):
    """Any condition of at most so many linear ones."""
    if parts == 1:
        found = some_linear(source, lines, kind)
    else:
        ahead = source.randint(1, parts - 1)
        one, other = some_condition(source, lines, kind, ahead), some_condition(source, lines, kind, parts - ahead)
        found = source.choice((one & other, one | other, one))
    return ~found if source.random() < 0.3 else found


def some_conditions(seed, many, lines=None, parts=4):
    """So many conditions of all rules and both kinds."""
    source = random.Random(seed)
    return [some_condition(source, lines or source.randint(1, 6), source.choice(("plain", "signed")),
                           source.randint(1, parts)) for _ in range(many)]


def not_factors():
    """Values that are no factors."""
    return list(KINDS) + [(100,), (-100,), (1,) * 7, [1], (1, True), (1, "1"), (1, None), (10 ** 200,)]


def linear(rule, factors, number, modulus, kind):
    """A linear condition, with its modulus and kind by position."""
    return Condition(rule, factors, number, modulus=modulus, kind=kind)


class Linear(Checks):
    def test_values(self):
        self.holds([MAX_FACTOR, MAX_MODULUS, MAX_CONDITIONS, RULES], [99, 60, 8, ("equal", "most", "rest", "wrapped")])
        condition = Condition("rest", (1, -99, 99), -5, modulus=60, kind="signed")
        self.holds([condition.rule, condition.factors, condition.number, condition.modulus, condition.kind],
                   ["rest", (1, -99, 99), -5, 60, "signed"])
        self.holds([condition.parts, condition.lines, condition.first, len(condition), str(condition)],
                   [(), 3, (55, 1), 1, "condition on 3 words, 1 parts"])
        condition = Condition("most", (0,) * 6, -LONG)
        self.holds([condition.modulus, condition.kind, condition.lines, condition.first], [None, "plain", 6, -LONG])
        self.holds(Condition("rest", (1,), 7, modulus=1).first, (0, 0))
        for name in ("rule", "factors", "number", "modulus", "kind", "parts", "lines", "first"):
            with self.assertRaises(AttributeError):
                setattr(condition, name, 1)

    def test_truth_is_that_of_the_numbers(self):
        for condition in some_conditions(101, 250, parts=1) + some_conditions(102, 150):
            source = random.Random(repr(condition))
            for width in (0, 1, 2, 3, 5, 9):
                for _ in range(6):
                    words = tuple(["".join([source.choice("01") for _ in range(width)]) for _ in range(condition.lines)])
                    self.assertIs(condition(words), holds_for(condition, words))
                    self.assertIs(condition.is_kept(words), holds_for(condition, words))

    def test_each_rule_and_kind(self):
        for kind in ("plain", "signed"):
            for rule, modulus in (("equal", None), ("most", None), ("rest", 1), ("rest", 60), ("rest", 7), ("wrapped", None)):
                for factors, number in (((3, -2), 4), ((-99, 99), 99), ((0, 1), -1), ((1, 1), 0)):
                    condition = Condition(rule, factors, number, modulus=modulus, kind=kind)
                    for width in range(4):
                        for words in all_words(2, width):
                            self.assertIs(condition(words), holds_for(condition, words))

    def test_long_numbers(self):
        words = ("1" * 600, "1" * 600)
        number = 2 ** 600 - 1
        self.holds([Condition("equal", (1, 0), number)(words), Condition("equal", (1, 1), 2 * number)(words),
                    Condition("most", (1, 0), number - 1)(words), Condition("equal", (1, 1), -2, kind="signed")(words),
                    Condition("most", (99, 99), LONG)(words), Condition("most", (-1, 0), -LONG)(words),
                    Condition("wrapped", (1, 0), LONG)(words)],
                   [True, True, False, True, True, False, LONG % 2 ** 600 == number])
        self.holds(Condition("rest", (1,), 15, modulus=60)(("1" * 4000,)), (2 ** 4000 - 1) % 60 == 15)

    def test_width_none(self):
        for kind in ("plain", "signed"):
            self.holds([Condition(rule, (5, 7), number, modulus=3 if rule == "rest" else None, kind=kind)(("", ""))
                        for rule in RULES for number in (0, 1, -3)],
                       [True, False, False, True, True, False, True, False, True, True, True, True])

    def test_wrong_values(self):
        for given in ("equal", "most", "wrapped"):
            self.checks_in_order(linear, (given, InvalidOperation, list(KINDS) + ["and", "not", "Equal", ("equal",)]),
                                 ((1, -1), InvalidOperation, not_factors()), (3, InvalidNumber, not_whole()),
                                 (None, InvalidNumber, [value for value in KINDS if value is not None] + [1, 60]),
                                 ("plain", InvalidOperation, list(KINDS) + ["Plain", ("plain",)]))
        self.checks_in_order(linear, ("rest", InvalidOperation, list(KINDS) + ["or", "rests"]),
                             ((1,), InvalidOperation, not_factors()), (LONG, InvalidNumber, not_whole()),
                             (60, InvalidNumber, not_numbers(1, 60)), ("signed", InvalidOperation, list(KINDS) + ["sign"]))

    def test_wrong_inputs(self):
        for lines in range(1, 7):
            condition = Condition("most", (1,) * lines, 3)
            for call in (condition, condition.is_kept):
                for wrong in not_inputs(lines) + [("0",) * (lines + 1), ("0",) * (lines - 1)]:
                    self.refuses(InvalidInput, call, wrong)

    def test_equality(self):
        one = Condition("rest", (1, 2), 3, modulus=5)
        self.assertTrue(one == Condition("rest", (1, 2), 3, modulus=5, kind="plain"))
        for other in (Condition("rest", (1, 2), 3, modulus=6), Condition("rest", (1, 2), 3, modulus=5, kind="signed"),
                      Condition("rest", (1, 3), 3, modulus=5), Condition("rest", (1, 2), 8, modulus=5), ~one, one & one,
                      Condition("wrapped", (1, 2), 3), ~~one):
            self.assertIs(one == other, False)
            self.assertIs(one != other, True)
        for value in KINDS:
            self.assertIs(one == value, False)
        self.assertTrue((one & ~one) | one == (one & ~one) | one)
        self.assertTrue((one & one) & one != one & (one & one))
        self.assertTrue(one & one != one | one)

    def test_no_iteration(self):
        for call in (iter, list, lambda condition: 1 in condition, lambda condition: [*condition]):
            with self.assertRaises(TypeError):
                call(Condition("most", (1,), 1))


class Made(Checks):
    def test_parts(self):
        one, other = Condition("most", (1, 2), 3), Condition("rest", (2, 2), 1, modulus=4)
        for found, rule, parts in ((one & other, "and", (one, other)), (other | one, "or", (other, one)),
                                   (~one, "not", (one,)), (~(one & other), "not", (one & other,))):
            self.holds([found.rule, found.factors, found.number, found.modulus, found.kind, found.lines],
                       [rule, None, None, None, "plain", 2])
            self.assertTrue(found.parts == parts)
        self.holds([(one & other).first, (~one).first, ((one & other) | ~(one & other)).first],
                   [(3, (1, 1)), 3, ((3, (1, 1)), (3, (1, 1)))])
        self.holds([len(one & other | ~one), str(one & other | ~one)], [3, "condition on 2 words, 3 parts"])

    def test_eight_parts(self):
        one = Condition("most", (1,), 3)
        four = one & one | one & one
        eight = ~four & four
        self.holds([len(eight), len(~eight), eight(("01",)), len(four & (one & one & one & one))], [8, 8, False, 8])
        for call in (lambda: eight & one, lambda: one & eight, lambda: one | eight, lambda: eight | eight,
                     lambda: (four & ~four) | ~one):
            with self.assertRaises(TooMany) as caught:
                call()
            self.holds(caught.exception.limit, 8)

    def test_wrong_operands(self):
        one = Condition("most", (1,), 3)
        eight = (one & one | one & one) & (one & one | one & one)
        for other in not_conditions() + [Condition("most", (1, 1), 3), Condition("most", (1,), 3, kind="signed"),
                                         ~Condition("most", (1, 1), 3) & Condition("most", (1, 1), 3)]:
            for first in (one, ~one, one & one, eight):
                self.refuses(InvalidOperation, lambda value: first & value, other)
                self.refuses(InvalidOperation, lambda value: first | value, other)

    def test_long_chains(self):
        one = Condition("rest", (1,), 1, modulus=2)
        found = one
        for _ in range(2000):
            found = ~found
        self.holds([found(("1",)), len(found), found.first, found.behind((1, 1), "1"), found.holds_at((1, 1), "1")],
                   [True, 1, (1, 1), (0, 0), True])
        self.holds((~found)(("1",)), False)
        self.assertTrue(~~found != found)
        self.assertTrue((~found).parts[0] == found)

    def test_texts_make_the_condition(self):
        for condition in some_conditions(103, 60):
            self.assertTrue(eval(repr(condition)) == condition)


class States(Checks):
    def test_states_tell_the_truth(self):
        for condition in some_conditions(104, 250, parts=1) + some_conditions(105, 200):
            source = random.Random(repr(condition))
            for width in (1, 2, 3, 7):
                words = tuple(["".join([source.choice("01") for _ in range(width)]) for _ in range(condition.lines)])
                state = condition.first
                taken = cell_columns(words)
                for column in taken[:-1]:
                    self.holds(condition.behind(state, column), state_behind(condition, state, column))
                    state = condition.behind(state, column)
                self.assertIs(condition.holds_at(state, taken[-1]), condition(words))
                self.assertIs(condition.holds_at(state, taken[-1]), holds_there(condition, state, taken[-1]))

    def test_states_that_are_not_reached(self):
        source = random.Random(106)
        for condition in some_conditions(107, 150):
            for _ in range(8):
                state = self.some_state(source, condition)
                column = "".join([source.choice("01") for _ in range(condition.lines)])
                self.holds(condition.behind(state, column), state_behind(condition, state, column))
                self.holds(condition.holds_at(state, column), holds_there(condition, state, column))

    def some_state(self, source, condition):
        if condition.rule in ("and", "or"):
            return tuple([self.some_state(source, part) for part in condition.parts])
        if condition.rule == "not":
            return self.some_state(source, condition.parts[0])
        if condition.rule == "rest":
            return (source.randrange(condition.modulus), source.randrange(condition.modulus))
        if condition.rule != "most" and source.random() < 0.2:
            return None
        return source.choice((source.randint(-20, 20), LONG, -LONG))

    def test_each_rule(self):
        equal, wrapped = Condition("equal", (3,), 5), Condition("wrapped", (3,), 5)
        for condition in (equal, wrapped):
            self.holds([condition.behind(5, "1"), condition.behind(5, "0"), condition.behind(None, "1"),
                        condition.behind(-5, "1"), condition.behind(LONG, "1")], [1, None, None, -4, (LONG - 3) // 2])
        most = Condition("most", (3,), 5, kind="signed")
        self.holds([most.behind(5, "0"), most.behind(4, "1"), most.behind(-5, "1"), most.behind(-LONG, "0")],
                   [2, 0, -4, (-LONG) // 2])
        self.holds([most.holds_at(-3, "1"), most.holds_at(-4, "1"), most.holds_at(0, "0"), most.holds_at(-1, "0")],
                   [True, False, True, False])
        self.holds([equal.holds_at(3, "1"), equal.holds_at(-3, "1"), equal.holds_at(None, "0"), equal.holds_at(0, "0")],
                   [True, False, False, True])
        signed = Condition("equal", (3,), 5, kind="signed")
        self.holds([signed.holds_at(3, "1"), signed.holds_at(-3, "1")], [False, True])
        self.holds([wrapped.holds_at(3, "1"), wrapped.holds_at(2, "1"), wrapped.holds_at(None, "0"),
                    wrapped.holds_at(2, "0")], [True, False, False, True])
        rest = Condition("rest", (3,), 5, modulus=7)
        self.holds([rest.first, rest.behind((5, 1), "1"), rest.behind((2, 6), "1"), rest.holds_at((3, 1), "1"),
                    rest.holds_at((4, 1), "1")], [(5, 1), (2, 2), (5, 5), True, False])
        rest = Condition("rest", (3,), 5, modulus=7, kind="signed")
        self.holds([rest.holds_at((3, 1), "1"), rest.holds_at((4, 1), "1")], [False, True])

    def test_wrong_states(self):
        whole, rest = Condition("most", (1,), 3), Condition("rest", (1,), 0, modulus=3)
        equal, wrapped = Condition("equal", (1,), 3), Condition("wrapped", (1,), 3)
        pair = (2, (0, 2))
        cases = (
            (whole, 3, not_whole() + [None, (3,), (3, 1)]),
            (equal, 3, [value for value in not_whole() if value is not None] + [(None,)]),
            (wrapped, None, [value for value in not_whole() if value is not None]),
            (rest, (2, 0), list(KINDS) + [None, 1, (1,), (0, 3), (3, 0), (-1, 0), (True, 0), (0, None), [0, 1], (0, 1, 2)]),
            (whole & rest, pair, list(KINDS) + [3, (2,), ((0, 2), 2), (2, 2), (None, (0, 2)), (2, (0, 3)), [2, (0, 2)],
                                                (2, (0, 2), 1), (2, [0, 2]), (True, (0, 2)), ((2, (0, 2)),)]),
            (~(equal | ~rest), (None, (0, 0)), list(KINDS) + [((0, 0), None), (None, None), (None, (0, 0), 0)]),
            ((whole & rest) | equal, (pair, 1), [pair, (pair,), (1, pair), ((2, 1), 1), (pair, (1,)), (pair, True)]),
        )
        for condition, right, wrong in cases:
            columns = (("0", InvalidWord, list(KINDS) + ["", "00", "2", 0, ("0",)]),)
            self.checks_in_order(condition.behind, (right, InvalidOperation, wrong), *columns)
            self.checks_in_order(condition.holds_at, (right, InvalidOperation, wrong), *columns)

    def test_columns_of_up_to_six_bits(self):
        for lines in range(1, 7):
            condition = Condition("most", tuple(range(1, lines + 1)), 9)
            for bits in itertools.product("01", repeat=lines):
                column = "".join(bits)
                self.holds(condition.behind(9, column), state_behind(condition, 9, column))
            for wrong in ("0" * (lines + 1), "0" * (lines - 1), "2" * lines, ("0",) * lines):
                self.refuses(InvalidWord, condition.behind, 9, wrong)
                self.refuses(InvalidWord, condition.holds_at, 9, wrong)
        self.holds(place_of("10"), 2)


class Keeps(Checks):
    def test_numbers_of_words(self):
        for condition in some_conditions(108, 200):
            if "wrapped" in repr(condition):
                self.refuses(InvalidOperation, condition.keeps, (0,) * condition.lines)
                continue
            source = random.Random(repr(condition))
            for _ in range(6):
                words = tuple(["".join([source.choice("01") for _ in range(6)]) for _ in range(condition.lines)])
                numbers = tuple([number_of(word, condition.kind) for word in words])
                self.assertIs(condition.keeps(numbers), holds_for(condition, words))

    def test_numbers(self):
        most = Condition("most", (1, -1), 5, kind="signed")
        self.holds([most.keeps((LONG, LONG - 5)), most.keeps((LONG, LONG - 6)), most.keeps((-LONG, LONG)),
                    most.keeps((1, -5))], [True, False, True, False])
        self.holds([Condition("rest", (2, 1), 1, modulus=3).keeps((5, 6)),
                    Condition("rest", (2,), -1, modulus=3, kind="signed").keeps((-2,))], [True, True])

    def test_wrong_numbers(self):
        plain, other = Condition("most", (1,), 5), Condition("most", (1, 1), 5, kind="signed")
        for wrong in list(KINDS) + [(1, 2), [1], 1, ("1",), (None,), (-1,), (10 ** 200,), (True,), (FAR,), (ADD,)]:
            self.refuses(InvalidOperation, plain.keeps, wrong)
            self.refuses(InvalidOperation, other.keeps, wrong if wrong != (1, 2) else (1,))
        self.holds([plain.keeps((0,)), other.keeps((-1, -2))], [True, True])
        self.refuses(InvalidOperation, (~Condition("wrapped", (1,), 5) & plain).keeps, (1,))
        self.refuses(InvalidOperation, other.keeps, (1, 2, 3))
