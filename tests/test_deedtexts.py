import unittest

from samples import GREATEST, RIGHT, chance, refusal
from wendleaf.deedtexts import deed_text, read_deed

TEXTS = (
    (("put", 3, "k.a", None, (5, 7)), "put 3 k.a - 5,7"),
    (("put", 31, "k", (-1,), None), "put 31 k -1 -"),
    (("put", 0, "0", (1, 2, 3, 4), (0,)), "put 0 0 1,2,3,4 0"),
    (("bump", 0, "k", 0, -5), "bump 0 k 0 -5"),
    (("bump", 10, "k", 3, 2 * GREATEST), "bump 10 k 3 2000000000000"),
    (("rename", 1, "abcdefghijkl", "."), "rename 1 abcdefghijkl ."),
    (("take", 5, 2, "m", None), "take 5 2 m -"),
    (("take", 5, 2, None, None), "take 5 2 - -"),
    (("drop", 5, 21, None, "m"), "drop 5 21 - m"),
    (("drop", 5, 21, "l", "m"), "drop 5 21 l m"),
    (("add", 5, "s", 0, 2, "a", 0, -1), "add 5 s 0 2 a 0 -1"),
    (("tally", 5, "s", 0, 2, None, "b", 3, 1), "tally 5 s 0 2 - b 3 1"),
    (("carry", 3, (), (("key", (5, 7)), ("key2", (1,)))), "carry 3 . key=5,7;key2=1"),
    (("carry", 3, ((".", (-GREATEST, GREATEST)),), ()), "carry 3 .=-1000000000000,1000000000000 ."),
)

WRONG = (
    "", " ", "-", ".", "put", "take", "end", "none 1", "take 5 2  -", "take 5 2 m - ", "take 5 2 m", "take 5 5 m -", "take 5 2 b a",
    "take 5 2 m None", "take 5 2 M -", "take - 2 m -", "take 5 2 m .-", "Take 5 2 m -", "take 32 2 m -", "take 05 2 m -",
    "take -0 2 m -", "take 5 2 m --", "bump 0 k 0 +1", "bump 0 k 0 0", "bump 0 k 0 -0", "bump 0 k 0 2000000000001", "bump 0 - 0 1",
    "bump 0 k - 1", "bump 0 k 0 -", "bump 0 k 4 1", "bump 0 k 0 1.0", "bump 0 k 0 1,2", "bump 0 k 0 " + "9" * 6000,
    "put 3 k.a - -", "put 3 k.a 5,7 5,7", "put 3 k.a - 5, 7", "put 3 k.a - 5,", "put 3 k.a - ,5", "put 3 k.a - 5,,7",
    "put 3 k.a - 1,2,3,4,5", "put 3 k.a - 1000000000001", "put 3 k.a - .", "put 3 k.a x 5", "put 3 k.a  5", "put 3 k.a - 05",
    "put 3 k.a (5,) 7", "carry 3 . .", "carry 3 - key=1", "carry 3 . -", "carry 3 . key", "carry 3 . key=", "carry 3 . =1",
    "carry 3 . key=1;", "carry 3 . ;key=1", "carry 3 . key=1;key=2", "carry 3 . key2=1;key=2", "carry 3 . key=1=2",
    "carry 3 . key=1,key2=2", "carry 3 . key=1;;key2=2", "carry 3 . .;key=1", "carry 3  key=1", "carry 3 . key=01",
    "rename 1 a a", "rename 1 a -", "add 5 s 0 5 a 0 -1", "add 5 s 0 2 a 0 0", "add 5 s 0 2 - 0 1", "tally 5 s 0 2 b b 3 1",
    "tally 5 s 0 2 - b 3 2", "bump \u0661 k 0 1", "bump 0 k 0 \u00b2",
)


class DeedTexts(unittest.TestCase):
    def refused(self, text):
        self.assertEqual(refusal(read_deed, text), ("BadText", 0), text)

    def test_known_texts(self):
        for deed, text in TEXTS:
            self.assertEqual(deed_text(deed), text)
            self.assertEqual(read_deed(text), deed)

    def test_there_and_back(self):
        for deed in RIGHT + tuple(deed for deed, _ in TEXTS):
            self.assertEqual(read_deed(deed_text(deed)), deed)

    def test_wrong_texts(self):
        for text in WRONG:
            self.refused(text)

    def test_a_sign_too_many(self):
        for _, text in TEXTS:
            for other in (text + " ", text + "\n", " " + text, "\n" + text, text + " -", text + " 1", text + ";", text + "\r"):
                self.refused(other)
            blanks = [place for place, sign in enumerate(text) if sign == " "]
            for place in blanks:
                for instead in ("  ", "\t", "\n", "", ",", "\u00a0"):
                    self.refused(text[:place] + instead + text[place + 1:])

    def test_parts_left_out_or_written_otherwise(self):
        for deed, text in TEXTS:
            parts = text.split(" ")
            for index in range(len(parts)):
                self.refused(" ".join(parts[:index] + parts[index + 1:]))
                self.refused(" ".join(parts[:index] + parts[index:index + 1] + parts[index:]))
            self.refused(text[0].upper() + text[1:])
            self.refused(text.upper())
            for index in range(1, len(parts)):
                if isinstance(deed[index], int):
                    plain = parts[index].removeprefix("-")
                    for other in ("0" + plain, "+" + plain, "-0" + plain, plain + ".0", "--" + plain):
                        self.refused(" ".join(parts[:index] + [other] + parts[index + 1:]))

    def test_what_is_read_is_written_alike(self):
        luck = chance(7)
        signs = "abkmtu0123456789.,;=- +"
        accepted = 0
        for _ in range(20000):
            text = luck.choice(TEXTS)[1]
            for _ in range(luck.randint(1, 2)):
                place = luck.randrange(len(text))
                text = text[:place] + luck.choice(("", luck.choice(signs))) + text[place + luck.randint(0, 1):]
            try:
                deed = read_deed(text)
            except ValueError:
                continue
            accepted += 1
            self.assertEqual(deed_text(deed), text)
        self.assertGreater(accepted, 1000)


if __name__ == "__main__":
    unittest.main()
