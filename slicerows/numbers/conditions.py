"""Conditions on the whole numbers of words."""

from slicerows.base.bits import are_words, is_whole, is_within, is_word, need_whole, plain, signed
from slicerows.errors import InvalidCondition, InvalidInput, InvalidNumber, InvalidOperation, InvalidWord, TooMany
from slicerows.numbers.forms import combined, first_flat, flattened, holds_flat, led_flat, nested, written
from slicerows.numbers.linear import is_met

MAX_FACTOR = 99
MAX_MODULUS = 60
MAX_CONDITIONS = 8
RULES = ("equal", "most", "rest", "wrapped")

KINDS = ("plain", "signed")
MAX_WORDS = 6


def need_linear(rule, factors, number, modulus, kind):
    """Raise unless the values tell a linear condition."""
    if not isinstance(rule, str) or rule not in RULES:
        raise InvalidOperation("not a rule")
    if not isinstance(factors, tuple) or not 1 <= len(factors) <= MAX_WORDS:
        raise InvalidOperation("not one to six factors")
    if not all([is_within(factor, -MAX_FACTOR, MAX_FACTOR) for factor in factors]):
        raise InvalidOperation("not factors")
    need_whole(number)
    if not (is_within(modulus, 1, MAX_MODULUS) if rule == "rest" else modulus is None):
        raise InvalidNumber(modulus)
    if not isinstance(kind, str) or kind not in KINDS:
        raise InvalidOperation("not a kind")


class Joined:
    """A rule and the conditions that it joins. What the operators make goes to Condition as such an object."""

    def __init__(self, rule, parts):
        self.told = (rule, parts)


class Condition:
    """A condition on the numbers of one to six words. It never changes."""

    def __init__(self, rule, factors, number, *, modulus=None, kind="plain"):
        if isinstance(rule, Joined):
            self._rule, self._parts = rule.told
            self._linears = tuple([linear for part in self._parts for linear in part._linears])
        else:
            need_linear(rule, factors, number, modulus, kind)
            self._rule, self._parts = rule, ()
            self._linears = ((rule, factors, number, modulus, kind),)

    @property
    def rule(self):
        """The rule, or "and", "or", "not"."""
        return self._rule

    @property
    def factors(self):
        """The factors of a linear condition."""
        return None if self._parts else self._linears[0][1]

    @property
    def number(self):
        """The number of a linear condition."""
        return None if self._parts else self._linears[0][2]

    @property
    def modulus(self):
        """The modulus of a linear condition, None for all rules but "rest"."""
        return None if self._parts else self._linears[0][3]

    @property
    def parts(self):
        """The conditions of which it is made."""
        return self._parts

    @property
    def kind(self):
        """How the words are read, "plain" or "signed"."""
        return self._linears[0][4]

    @property
    def lines(self):
        """The number of words."""
        return len(self._linears[0][1])

    @property
    def first(self):
        """The first state."""
        form = form_of(self)
        return nested(form, first_flat(form))

    def __call__(self, words):
        return self.is_kept(words)

    def is_kept(self, words):
        """Whether it holds for an input."""
        if not are_words(self.lines, words):
            raise InvalidInput("not an input with a word for each factor")
        numbers = [signed(word) if self.kind == "signed" else plain(word) for word in words]
        return combined(form_of(self), [is_met(linear, numbers, len(words[0])) for linear in self._linears])

    def behind(self, state, column):
        """The state to which a column leads a state."""
        form = form_of(self)
        return nested(form, led_flat(form, self._flat(form, state, column), column))

    def holds_at(self, state, column):
        """Whether it holds at a state and a last column."""
        form = form_of(self)
        return holds_flat(form, self._flat(form, state, column), column)

    def keeps(self, numbers):
        """Whether it holds for numbers."""
        if not isinstance(numbers, tuple) or len(numbers) != self.lines:
            raise InvalidOperation("not a number for each factor")
        if not all([is_whole(number) and (number >= 0 or self.kind == "signed") for number in numbers]):
            raise InvalidOperation("not numbers of its kind")
        if any([linear[0] == "wrapped" for linear in self._linears]):
            raise InvalidOperation("the rule wrapped asks for a width")
        return combined(form_of(self), [is_met(linear, numbers, 0) for linear in self._linears])

    def __and__(self, other):
        return Condition(self._joined("and", other), None, None)

    def __or__(self, other):
        return Condition(self._joined("or", other), None, None)

    def __invert__(self):
        return Condition(Joined("not", (self,)), None, None)

    def __eq__(self, other):
        return isinstance(other, Condition) and form_of(self) == form_of(other)

    def __len__(self):
        return len(self._linears)

    def __str__(self):
        return f"condition on {self.lines} words, {len(self._linears)} parts"

    def __repr__(self):
        return str(written(form_of(self)))

    def _joined(self, rule, other):
        """Both conditions joined by a rule."""
        if not isinstance(other, Condition) or other.lines != self.lines or other.kind != self.kind:
            raise InvalidOperation("not a condition of this kind about as many words")
        if len(self) + len(other) > MAX_CONDITIONS:
            raise TooMany(MAX_CONDITIONS)
        return Joined(rule, (self, other))

    def _flat(self, form, state, column):
        """The flat state of a nested one, where a column is passed, too."""
        flat = flattened(form, state)
        if flat is None:
            raise InvalidOperation("not a state of this condition")
        if not is_word(column) or len(column) != self.lines:
            raise InvalidWord("not a column with a bit for each word")
        return flat


def need_condition(value):
    """Raise unless a value is a condition."""
    if not isinstance(value, Condition):
        raise InvalidCondition("not a condition")


def form_of(condition):
    """The form of a condition. It is not kept in each, because a long chain of "not" would have one for each link."""
    form = []
    left = [condition]
    while len(left) > 0:
        last = left[-1]
        left = left[:-1] + list(last.parts)
        form.append(last.rule if last.parts else last._linears[0])
    # What stood ahead of its parts, and ahead of the second part the first one, stands behind them now.
    return tuple(form[::-1])
