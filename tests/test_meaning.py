"""What rows mean: 0.4 to 0.6, 0.16, 11.1, 11.2 and stage 11."""

import random

from slicerows.base.bits import is_input
from slicerows.errors import InvalidCondition, InvalidOperation, InvalidRow, TooMany
from slicerows.numbers.conditions import Condition
from slicerows.numbers.meaning import first_exception, is_meaning_paper, meaning_paper, means
from slicerows.rows.joined import behind, together
from slicerows.rows.ready import added, copied, gate, greater, highest, last, later, negated, parity, sooner, subtracted
from slicerows.rows.ready import times
from slicerows.rows.rows import Row
from tests.helpers import ADD, AGAIN, HALF, KINDS, ODD, TOP, Checks, all_words, doubled, not_conditions, not_rows
from tests.helpers import output_words, poor_tables, random_tables, same, spoiled
from tests.test_conditions import holds_for, holds_there, some_condition, state_behind
from tests.test_decided import LOW, REACHED, columns_of, is_state

SUM = Condition("equal", (1, 1, -1), 0)
ALWAYS = Condition("rest", (1, 1), 0, modulus=1)


def copying(condition):
    """A condition about two words that holds for a word and itself as a linear one about one word does."""
    return Condition(condition.rule, (condition.factors[0] - 1, 1), condition.number)


def steps_of(row, condition, triple):
    """The triples to which columns lead a triple, with the column and its output column, straight from 11.2."""
    left, right, state = triple
    found = []
    for place, column in enumerate(columns_of(row.inputs)):
        for behind_it in range(row.rights):
            if row.back[behind_it][place] == right:
                both = column + row.out[left][behind_it][place]
                found.append((both, (row.on[left][place], behind_it, state_behind(condition, state, both))))
    return found


def triples_of(row, condition, more=()):
    """The triples that walks have, straight from 11.2, with others from which walks go on."""
    queue = [(0, right, condition.first) for right in range(row.rights)]
    queue += [triple for triple in more if triple not in queue]
    seen = {triple: None for triple in queue}
    for triple in queue:
        for _, found in steps_of(row, condition, triple):
            if found not in seen:
                seen[found] = None
                queue.append(found)
    return queue


def is_right(row, condition, triples):
    """Whether triples show that a row means a condition, straight from stage 11."""
    if type(triples) is not tuple:
        return False
    for triple in triples:
        if type(triple) is not tuple or len(triple) != 3 or not is_state(condition, triple[2]):
            return False
        for signal, many in ((triple[0], row.lefts), (triple[1], row.rights)):
            if type(signal) is not int or not 0 <= signal < many:
                return False
    told = [repr(triple) for triple in triples]
    if told != sorted(set(told)) or not all([(0, right, condition.first) in triples for right in range(row.rights)]):
        return False
    return all([found in triples and (found[1] != 0 or holds_there(condition, triple[2], both))
                for triple in triples for both, found in steps_of(row, condition, triple)])


def least_exception(row, condition, widest):
    """The least width of an input for which a condition does not hold, or None, by looking at all inputs."""
    for width in range(1, widest + 1):
        for words in all_words(row.inputs, width):
            if not holds_for(condition, words + output_words(row, words)):
                return width
    return None


def some_cases(seed, many):
    """Rows with conditions about their words."""
    source = random.Random(seed)
    for at in range(many):
        inputs, outputs = source.choice(((1, 1), (2, 1), (1, 2), (1, 1)))
        make = (random_tables, poor_tables)[at % 2]
        row = Row(*make(source, source.randint(1, 3), source.randint(1, 3), inputs, outputs))
        condition = some_condition(source, inputs + outputs, source.choice(("plain", "signed")), source.randint(1, 2))
        yield row, condition


PLAIN = (
    (ADD, Condition("wrapped", (1, 1, -1), 0)), (AGAIN, Condition("wrapped", (1, 1, -1), 0)),
    (subtracted(), Condition("wrapped", (1, -1, -1), 0)), (negated(), Condition("wrapped", (1, 1), 0)),
    (times(3), Condition("wrapped", (3, -1), 0)), (times(8), Condition("rest", (0, 1), 0, modulus=2)),
    (HALF, Condition("most", (1, -2), 1) & Condition("most", (-1, 2), 0)), (TOP, Condition("most", (-1, 1), 0)),
    (TOP, Condition("most", (1, -2), 0)), (last(), Condition("equal", (0, 1), 0) | Condition("most", (-1, 0), -1)),
    (later("0"), Condition("wrapped", (2, -1), 0)), (sooner("1"), Condition("most", (1, -2), 0)),
    (copied(1), Condition("equal", (1, -1), 0)), (greater(), Condition("most", (1, -1, 0), 0) | Condition("most", (0, 0, -1), -1)),
    (together(copied(1), negated()), Condition("wrapped", (1, 0, 1), 0)), (gate(3, "0" * 8), Condition("equal", (0, 0, 0, 1), 0)),
    (together(copied(1), together(HALF, later("0"))), Condition("wrapped", (2, 0, 0, -1), 0)),
)
SIGNED = (
    (copied(1), Condition("equal", (1, -1), 0, kind="signed")), (ADD, Condition("wrapped", (1, 1, -1), 0, kind="signed")),
    (last(), Condition("most", (0, 1), 0, kind="signed") & Condition("most", (0, -1), 1, kind="signed")),
    (negated(), Condition("equal", (1, 1), 0, kind="signed") | Condition("most", (1, 0), -1, kind="signed")
     & Condition("equal", (1, -1), 0, kind="signed")),
)


class Means(Checks):
    def test_ready_rows(self):
        for row, condition in PLAIN + SIGNED:
            self.holds(least_exception(row, condition, 5 if row.inputs == 1 else 3), None)
            self.holds([means(row, condition), first_exception(row, condition)], [True, None])
            self.holds([means(doubled(row), condition), meaning_paper(row, condition)[0]], [True, "means"])
        self.holds([means(negated(), Condition("equal", (1, 1), 0, kind="signed")), means(ADD, SUM), means(ADD, ~SUM)],
                   [False, False, False])

    def test_against_all_inputs(self):
        both = {True: 0, False: 0}
        for row, condition in some_cases(131, 250):
            width = least_exception(row, condition, 6 if row.inputs == 1 else 3)
            words = first_exception(row, condition)
            both[words is None] += 1
            self.assertIs(means(row, condition), words is None)
            if len(triples_of(row, condition)) < 400:
                self.assertIs(means(doubled(row), condition), words is None)
            if words is None:
                self.holds(width, None)
            else:
                self.assertTrue(is_input(row.inputs, words))
                self.assertIs(holds_for(condition, words + output_words(row, words)), False)
                if width is None:
                    self.assertGreater(len(words[0]), 3)
                else:
                    self.holds(len(words[0]), width)
        self.assertGreater(min(both.values()), 30)

    def test_width_none_does_not_count(self):
        one = Condition("most", (-1, 0), -1) | Condition("equal", (1, -1), 0)
        self.holds([means(copied(1), ~ALWAYS), first_exception(copied(1), ~ALWAYS) in (("0",), ("1",))], [False, True])
        self.holds([means(gate(1, "10"), Condition("equal", (1, -1), 0) | Condition("wrapped", (1, 1), -1)),
                    means(negated(), one)], [True, True])
        shown = Condition("most", (-1, -1), -1)
        self.holds([shown(("", "")), means(gate(1, "11"), shown), means(gate(1, "10"), shown)], [False, True, True])

    def test_rows_with_many_signals(self):
        row = behind(times(8), times(7))
        condition = Condition("wrapped", (56, -1), 0)
        self.holds([row.lefts, means(row, condition), means(~row, condition)], [56, True, False])
        line = ~behind(times(5), times(8))
        self.holds([line.rights, means(line, Condition("rest", (0, 0), 0, modulus=60))], [40, True])
        words = first_exception(line, Condition("wrapped", (40, -1), 0))
        self.holds(len(words[0]), least_exception(line, Condition("wrapped", (40, -1), 0), 6))

    def test_three_lines_to_three(self):
        row = together(copied(1), together(negated(), HALF))
        self.holds(row.outputs, 3)
        self.holds(means(row, Condition("wrapped", (3, -1, 2, 0), 0)), True)
        self.holds(means(copied(3), Condition("equal", (1, 2, 3, -1, -2, -3), 0)), True)
        self.holds(first_exception(copied(3), Condition("equal", (1, 2, 3, -1, -2, -4), 0))[2], "1")

    def test_just_enough_triples_and_more(self):
        for many in (4000, 4001):
            condition = copying(REACHED[many])
            self.holds(len(triples_of(copied(1), condition)), many)
            for call in (means, meaning_paper, first_exception):
                for given in (condition, ~condition, condition | ~condition):
                    if many == 4000 or given.rule == "or":
                        continue
                    self.refuses(TooMany, call, copied(1), given)
        self.holds(means(copied(1), copying(REACHED[4000])), False)
        whole = copying(REACHED[2000]) | ~copying(REACHED[2000])
        row = Row(((0, 0),), ((0, 0), (1, 1)), ((("0", "1"), ("0", "1")),))
        self.holds([len(triples_of(row, copying(REACHED[2000]))), means(row, whole)], [4000, True])
        more = copying(REACHED[2001]) | ~copying(REACHED[2001])
        with self.assertRaises(TooMany) as caught:
            means(row, more)
        self.holds(caught.exception.limit, 4000)
        self.holds(means(copied(1), more), True)

    def test_errors(self):
        for call in (means, meaning_paper, first_exception):
            self.checks_in_order(call, (ADD, InvalidRow, not_rows()), (SUM, InvalidCondition, not_conditions()))
            for row in (HALF, copied(2), copied(3)):
                self.refuses(InvalidOperation, call, row, SUM)
            self.refuses(InvalidOperation, call, ADD, copying(REACHED[4001]))
        for value in KINDS:
            for wrong in not_rows()[::5]:
                self.refuses(InvalidRow, is_meaning_paper, wrong, LOW, value)
            for wrong in not_conditions()[::5]:
                self.refuses(InvalidCondition, is_meaning_paper, ADD, wrong, value)
            self.refuses(InvalidOperation, is_meaning_paper, HALF, SUM, value)


class Papers(Checks):
    def judge(self, row, condition):
        return lambda value: is_meaning_paper(row, condition, value)

    def paper_of(self, triples):
        return ("means", tuple(sorted(triples, key=repr)))

    def test_papers(self):
        found = 0
        for row, condition in list(some_cases(132, 200)) + list(PLAIN + SIGNED):
            paper = meaning_paper(row, condition)
            self.holds(paper[0], "means" if means(row, condition) else "fails")
            self.assertIs(is_meaning_paper(row, condition, paper), True)
            if paper[0] == "means":
                found += 1
                self.holds(paper, self.paper_of(triples_of(row, condition)))
            else:
                self.holds(holds_for(condition, paper[1] + output_words(row, paper[1])), False)
        self.assertGreater(found, 40)

    def test_papers_of_others(self):
        source = random.Random(133)
        accepted = 0
        for row, condition in list(some_cases(134, 120)) + list(PLAIN):
            own = triples_of(row, condition)
            more = [(source.randrange(row.lefts), source.randrange(row.rights), source.choice(own)[2]) for _ in range(2)]
            triples = triples_of(row, condition, more)
            paper = self.paper_of(triples)
            wanted = is_right(row, condition, paper[1])
            accepted += wanted and len(triples) > len(own)
            self.judges(self.judge(row, condition), paper, wanted)
        self.assertGreater(accepted, 5)

    def test_papers_that_are_near_right(self):
        for row, condition in (PLAIN[0], PLAIN[6], PLAIN[9], SIGNED[2]):
            triples = list(meaning_paper(row, condition)[1])
            self.assertGreater(len(triples), 1)
            for at in range(len(triples)):
                self.judges(self.judge(row, condition), ("means", tuple(triples[:at] + triples[at + 1:])), False)
            for wrong in (triples[::-1], triples + triples[-1:], triples[:1] + triples, [list(part) for part in triples]):
                self.judges(self.judge(row, condition), ("means", tuple(wrong)), False)
            self.judges(self.judge(row, condition), ("means", triples), False)
            self.judges(self.judge(row, ~condition), ("means", tuple(triples)), False)

    def test_only_ends_count(self):
        row = Row(((0, 0),), ((0, 0), (0, 0)), ((("0", "0"), ("1", "1")),))
        zero = Condition("equal", (0, 1), 0)
        self.holds(means(row, ~zero), False)
        self.assertIs(is_meaning_paper(row, zero, self.paper_of(triples_of(row, zero))), means(row, zero))

    def test_other_values(self):
        for row, condition in ((ADD, Condition("wrapped", (1, 1, -1), 0)), (HALF, PLAIN[6][1])):
            paper = meaning_paper(row, condition)
            for value in spoiled(paper):
                right = isinstance(value, tuple) and len(value) == 2 and same(value[0], "means")
                self.judges(self.judge(row, condition), value, right and is_right(row, condition, value[1]))
        self.refuses_spoiled(self.judge(ADD, SUM), ("fails", ("1", "1")))
        for value in (("fails", ("1", "0")), ("fails", ("", "")), ("fails", ("1", "1", "0")), ("fails", ("1", "11")),
                      ("fails", "11"), ("fails",), ("means",), ("means", ()), ("Fails", ("1", "1")),
                      ("fails", ("1", "1"), ()), ("fails", ("1" * 4001, "1" * 4001))):
            self.judges(self.judge(ADD, SUM), value, False)
        self.judges(self.judge(ADD, SUM), ("fails", ("1" * 4000, "1" * 4000)), True)
        self.judges(self.judge(ODD, ALWAYS), meaning_paper(ODD, ALWAYS), True)

    def test_values_that_are_no_signals(self):
        row, always = Row(((1, 1), (1, 1)), ((1, 1), (1, 1)), ((("0", "1"),) * 2,) * 2), ALWAYS
        triples = triples_of(row, always)
        self.judges(self.judge(row, always), self.paper_of(triples), True)
        for wrong in ((-1, 0), (0, -1), (2, 0), (0, 2), (-2, 1), (1, 3)):
            more = [(wrong[0], wrong[1], state) for state in {triple[2] for triple in triples}]
            self.judges(self.judge(row, always), self.paper_of(triples + more), False)

    def test_width_none_is_no_paper(self):
        shown = Condition("most", (-1, -1), -1)
        self.judges(self.judge(gate(1, "11"), shown), ("fails", ("",)), False)
        self.judges(self.judge(copied(1), shown), ("fails", ("0",)), True)

    def test_judges_do_not_count(self):
        condition = copying(REACHED[4001])
        self.judges(self.judge(copied(1), ~condition & condition), ("fails", ("0",)), True)
        self.judges(self.judge(copied(1), condition), None, False)
        row = Row(((0, 0),), ((0, 0), (1, 1)), ((("0", "1"), ("0", "1")),))
        more = copying(REACHED[2001]) | ~copying(REACHED[2001])
        triples = triples_of(row, more)
        self.holds(len(triples), 4002)
        self.judges(self.judge(row, more), self.paper_of(triples), True)

    def test_triples_ascend_by_repr(self):
        told = [repr(triple) for triple in meaning_paper(copied(1), Condition("most", (1, -1), 20))[1]]
        self.holds(told, sorted(told))
        self.assertTrue(any([triple[2] > 9 for triple in meaning_paper(copied(1), Condition("most", (1, -1), 20))[1]]))

    def test_rows_from_the_right(self):
        for row in (highest(), ~highest(), parity(), ~later("0")):
            self.holds([means(row, ALWAYS), means(row, ~ALWAYS)], [True, False])
        mirrored = Condition("wrapped", (1, 1, -1), 0)
        self.holds([means(added(), mirrored), means(~added(), mirrored)], [True, False])
