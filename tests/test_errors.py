import unittest

from wendleaf import errors

NAMES = (
    "BadRows TooMany BadText BadDeed Unfit BadLog BadImage BadPage BadNumber BadLot NoMove NoRing Older BadCosts Fallen"
    " BadPlace BadEntry BadRoll BadRoom Open NotOpen Full NotYet NotKnown Known Wounded BadStoreDeed NoTable NoName"
    " BadWidth OverLimit TooGreat BookFull NoPage BadTape NotLost BadStretch"
).split()


class Errors(unittest.TestCase):
    def test_each_class_stands_directly_under_refused(self):
        self.assertEqual(errors.Refused.__bases__, (ValueError,))
        for name in NAMES:
            self.assertEqual(getattr(errors, name).__bases__, (errors.Refused,), name)

    def test_there_are_no_others(self):
        found = [name for name, thing in vars(errors).items() if isinstance(thing, type)]
        self.assertEqual(sorted(found), sorted(NAMES + ["Refused"]))

    def test_what_is_kept(self):
        for name in NAMES + ["Refused"]:
            made = getattr(errors, name)
            for what in (-1, 0, "t.a", (1, 2), None, True, ("put", 0, "k", None, (1,))):
                self.assertEqual(made(what).what, what)
                self.assertEqual(made(what=what).what, what)
            for arguments in ((), (1, 2)):
                with self.assertRaises(TypeError):
                    made(*arguments)


if __name__ == "__main__":
    unittest.main()
