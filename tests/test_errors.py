from helpers import Case, anything
from everycut import errors

PLAIN = ["InvalidPicture", "InvalidDisk", "InvalidBlock", "InvalidCut", "InvalidName", "InvalidDeed",
         "InvalidTree", "InvalidRow", "InvalidOperation", "Stopped"]
KEEPING = {"ParseError": ("EveryError", "at"), "InvalidNumber": (IndexError, "given"),
           "UnknownName": (KeyError, "wanted"), "TooMany": (OverflowError, "most"),
           "NoRoom": (OverflowError, "wanted"), "Refused": (ArithmeticError, "reason")}


class Errors(Case):
    def test_bases(self):
        self.assertEqual(errors.EveryError.__bases__, (ValueError,))
        for name in PLAIN:
            self.assertEqual(getattr(errors, name).__bases__, (errors.EveryError,), name)
        for name, (base, _) in KEEPING.items():
            base = errors.EveryError if base == "EveryError" else base
            self.assertEqual(getattr(errors, name).__bases__, (base,), name)

    def test_each_is_defined_in_the_module(self):
        for name in PLAIN + list(KEEPING) + ["EveryError"]:
            self.assertEqual(getattr(errors, name).__module__, "everycut.errors")

    def test_what_is_kept(self):
        for name, (_, attribute) in KEEPING.items():
            for value in anything():
                error = getattr(errors, name)(value)
                self.assertIs(getattr(error, attribute), value)
                with self.assertRaises(getattr(errors, name)) as caught:
                    raise error
                self.assertIs(getattr(caught.exception, attribute), value)

    def test_messages_are_taken(self):
        for name in PLAIN + ["EveryError"]:
            self.assertIsInstance(getattr(errors, name)("some message"), ValueError)

    def test_none_is_caught_as_another_one(self):
        names = PLAIN + list(KEEPING)
        for name in names:
            error = getattr(errors, name)("x")
            for other in names:
                self.assertEqual(isinstance(error, getattr(errors, other)), name == other, (name, other))
            derives = name in PLAIN or name == "ParseError"
            self.assertEqual(isinstance(error, errors.EveryError), derives)
            self.assertEqual(isinstance(error, ValueError), derives)
            self.assertEqual(isinstance(error, LookupError), name in ("InvalidNumber", "UnknownName"))
            self.assertEqual(isinstance(error, ArithmeticError), name in ("TooMany", "NoRoom", "Refused"))
