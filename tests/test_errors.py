"""[1.1] and [1.2]: the errors, what they derive from, and what they keep."""

from flatwebs import errors
from tests.samples import Case

PLAIN = ("InvalidPlace", "InvalidTie", "InvalidWeb", "InvalidTable", "InvalidDrawing", "InvalidRoute", "InvalidRim",
         "InvalidBar", "InvalidParting", "InvalidPart", "InvalidFlip", "InvalidNoose", "InvalidCover", "InvalidOrder",
         "InvalidEars", "InvalidBeams", "InvalidTrees", "InvalidCorners", "InvalidPicture", "InvalidColours",
         "InvalidOperation")
OTHERS = (("UnknownName", KeyError, "word"), ("Undrawn", LookupError, "bar"), ("InvalidNumber", IndexError, "value"),
          ("NothingToUndo", RuntimeError, "many"), ("TooMany", OverflowError, "limit"),
          ("Refused", ArithmeticError, "pledge"))
KEPT = (None, True, 0, -3, 10 ** 80, "", "a", (), (1, (2,)), ["a"], {"a": ()})


class Errors(Case):

    def test_web_error(self):
        self.assertEqual(errors.WebError.__bases__, (ValueError,))
        self.assertIsInstance(errors.WebError("words"), ValueError)

    def test_plain_errors(self):
        for name in PLAIN:
            error = getattr(errors, name)
            self.assertEqual(error.__bases__, (errors.WebError,), name)
            self.assertEqual(error.__module__, "flatwebs.errors")
            with self.assertRaises(error):
                raise error("words")

    def test_parse_error(self):
        self.assertEqual(errors.ParseError.__bases__, (errors.WebError,))
        for number in (0, 7, None):
            self.assertEqual(errors.ParseError(number).number, number)

    def test_other_errors(self):
        for name, base, kept in OTHERS:
            error = getattr(errors, name)
            self.assertEqual(error.__bases__, (base,), name)
            self.assertFalse(issubclass(error, errors.WebError), name)
            for value in KEPT:
                self.assertIs(getattr(error(value), kept), value)
                with self.assertRaises(base):
                    raise error(value)
                self.assertIsInstance(str(error(value)), str)

    def test_not_from_one_another(self):
        names = PLAIN + ("ParseError",) + tuple(name for name, _, _ in OTHERS)
        for one in names:
            for other in names:
                if one != other:
                    self.assertFalse(issubclass(getattr(errors, one), getattr(errors, other)), (one, other))
