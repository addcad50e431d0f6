"""The errors: 1.1, 1.2, and what they keep [0.2]."""

from slicerows import errors
from slicerows.base.bits import columns
from slicerows.errors import Broken, InvalidNumber, NothingToUndo, ParseError, RowError, SameOutput, TooMany
from slicerows.errors import UnknownName
from tests.helpers import ADD, Checks

PLAIN = ("InvalidName", "InvalidWord", "InvalidInput", "InvalidRow", "InvalidCondition", "InvalidProgram",
         "InvalidFault", "InvalidOperation")
ALONE = ((InvalidNumber, IndexError, "value"), (UnknownName, KeyError, "name"), (TooMany, OverflowError, "limit"),
         (NothingToUndo, LookupError, "many"), (Broken, ArithmeticError, "label"))
VALUES = (0, -1, True, None, "", "a b", "it's", 10 ** 299, (1, ("0",)), [1, [2]], {"a": [1]}, {(0, 1): None}, ADD)


class Errors(Checks):
    def test_row_error_derives_from_value_error(self):
        self.assertEqual(RowError.__bases__, (ValueError,))

    def test_errors_of_values_derive_from_row_error_alone(self):
        for name in PLAIN:
            error = getattr(errors, name)
            self.assertEqual(error.__bases__, (RowError,), name)
            self.assertEqual(str(error("why")), "why")

    def test_parse_error_keeps_its_index(self):
        self.assertEqual(ParseError.__bases__, (RowError,))
        self.holds(ParseError(6).index, 6)
        with self.assertRaises(RowError):
            raise ParseError(0)

    def test_errors_that_keep_a_value_have_one_base(self):
        for error, base, name in ALONE:
            self.assertEqual(error.__bases__, (base,))
            for value in VALUES:
                self.holds(getattr(error(value), name), value)
            self.assertNotIsInstance(error(0), RowError)

    def test_same_output_keeps_both(self):
        self.assertEqual(SameOutput.__bases__, (RuntimeError,))
        error = SameOutput(("0",), ("1",))
        self.holds((error.one, error.other), (("0",), ("1",)))

    def test_text_is_the_repr_of_what_is_kept(self):
        for value in VALUES:
            self.assertEqual(str(InvalidNumber(value)), repr(value))
            self.assertEqual(str(UnknownName(value)), repr(value))

    def test_nothing_is_shared_with_what_is_kept(self):
        for error, _, name in ALONE + ((ParseError, None, "index"),):
            inner = [1]
            value = {"a": (inner,)}
            raised = error(value)
            self.assertFalse([part for part in raised.args if part is value])
            inner.append(2)
            value["b"] = 3
            self.holds(getattr(raised, name), {"a": ([1],)})
            getattr(raised, name)["a"][0].append(4)
            self.holds(inner, [1, 2])
        one = [1]
        raised = SameOutput(one, one)
        self.assertFalse([part for part in raised.args if part is one])
        raised.one.append(2)
        self.holds([one, raised.other], [[1], [1]])

    def test_a_raised_error_does_not_share(self):
        lines = [1, [2]]
        with self.assertRaises(InvalidNumber) as caught:
            columns(lines)
        lines[1].append(3)
        self.holds(caught.exception.value, [1, [2]])
        self.assertEqual(str(caught.exception), "[1, [2]]")
