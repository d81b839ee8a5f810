import unittest

from samples import THINGS, chance, refusal
from tables_model import BLANK, MOST, Dicts, doing, outcome, some_storedeed, view_of
from views import drawn
from wendleaf.checker import faults, meaning
from wendleaf.storetexts import read_store, read_storedeed, store_text, storedeed_text
from wendleaf.tables import is_storedeed, planned

TEXTS = (
    ("make a 2 60", ("make", "a", 2, 60)), ("make 0 1 0", ("make", "0", 1, 0)), ("make zzzzzz 2 400", ("make", "zzzzzz", 2, 400)),
    ("end a", ("end", "a")), ("end end", ("end", "end")), ("call a b", ("call", "a", "b")), ("snap a s", ("snap", "a", "s")), ("clone s a", ("clone", "s", "a")),
    ("fade s", ("fade", "s")), ("put a k1 5,7", ("put", "a", "k1", (5, 7))), ("put a 00 0", ("put", "a", "00", (0,))),
    ("put 7 7 1000000000,-1000000000", ("put", "7", "7", (MOST, -MOST))), ("drop a 0", ("drop", "a", "0")),
    ("drop a abcdefghijkl", ("drop", "a", "abcdefghijkl")), ("rename a k1 k2", ("rename", "a", "k1", "k2")), ("shift a k1 0 -5", ("shift", "a", "k1", 0, -5)),
    ("shift a k1 1 2000000000", ("shift", "a", "k1", 1, 2 * MOST)), ("shift a k1 1 0", ("shift", "a", "k1", 1, 0)),
    ("post a k1 0 s.b k2 1 -1", ("post", "a", "k1", 0, "s.b", "k2", 1, -1)), ("post a 1 1 t.a 1 0 1", ("post", "a", "1", 1, "t.a", "1", 0, 1)),
    ("clear a - k5", ("clear", "a", None, "k5")), ("clear a k5 -", ("clear", "a", "k5", None)), ("clear a - -", ("clear", "a", None, None)),
    ("clear a 0 1", ("clear", "a", "0", "1")),
)
WRONG = (
    "", " ", "make", "make a", "make a 2", "make a 2 401", "make a 3 60", "make a 0 60", "make a -1 60", "make a 2 -1", "make a +2 60", "make a 2 060",
    "make a 02 60", "make a 2 60 1", "make a 2 -", "make - 2 60", "make a  60", "Make a 2 60", "make A 2 60", "make abcdefg 2 60", "make a 2 6\u0660",
    "end", "end a b", "end -", "end t.a", "end a\n", "\nend a", "call a", "call a b c", "snap a -", "clone s.s a", "fade", "fade s.s",
    "put a k1", "put a k1 ", "put a k1 -", "put a k1 5,", "put a k1 ,5", "put a k1 5,,7", "put a k1 5,7,9", "put a k1 5 7", "put a k1 5, 7", "put a k1 05",
    "put a k1 -0", "put a k1 +5", "put a k1 5.0", "put a k1 1000000001", "put a k1 5,-1000000001", "put a k.1 5", "put a . 5", "put a abcdefghijklm 5",
    "put a k1 " + "9" * 5000, "drop a", "drop a -", "drop a k.1", "rename a k1", "rename a k1 -", "rename a - k1", "shift a k1 0", "shift a k1 2 5",
    "shift a k1 0 2000000001", "shift a k1 0 -2000000001", "shift a k1 0 +5", "shift a k1 -1 5", "shift a k1 0 -", "shift a k1 00 5", "shift a k1 0 --5",
    "post a k1 0 s.b k2 1", "post a k1 0 s.b k2 1 0", "post a k1 0 s.b k2 1 +1", "post a k1 0 s.b k2 1 2", "post a k1 0 s.b k2 2 1", "post a k1 0 b k2 1 1",
    "post a k1 0 s. k2 1 1", "post a k1 0 - k2 1 1", "post t.a k1 0 s.b k2 1 1", "clear a", "clear a -", "clear a - - -", "clear a k5 k5", "clear a k6 k5",
    "clear a None k5", "clear a . k5", "clear - - -", "take 5 2 m -", "bump 0 k 0 1", "carry 3 . key=5",
)
ADDED = (" ", "0", "-", "+", ",", "1", "a", ".", "\n", "_", "\u00e9")


class StoreDeeds(unittest.TestCase):
    def test_there_and_back(self):
        self.assertEqual({deed[0] for _, deed in TEXTS}, {
            "make", "end", "call", "snap", "clone", "fade", "put", "drop", "rename", "shift", "post", "clear"})
        for text, deed in TEXTS:
            self.assertEqual(storedeed_text(deed), text)
            self.assertEqual(read_storedeed(text), deed)

    def test_drawn_ones(self):
        luck = chance(81)
        for _ in range(400):
            dicts = Dicts({"t.a": (2, 400, {"k": (1, 2)}), "s.x": (1, 9, {"m": (-3,), "n": (MOST,)})})
            deed = some_storedeed(luck, dicts, ["0", "k", "m", "n", "z9"])
            self.assertEqual(read_storedeed(storedeed_text(deed)), deed)

    def test_wrong_ones(self):
        for text in WRONG:
            self.assertEqual(refusal(read_storedeed, text), ("BadText", 0), text)
        for thing in THINGS:
            if isinstance(thing, str):
                self.assertEqual(refusal(read_storedeed, thing), ("BadText", 0), thing)

    def test_a_sign_more_or_less(self):
        """What is accepted is, sign for sign, the text of what is returned; blanks and zeros more are refused."""
        for text, deed in TEXTS:
            for place in range(len(text) + 1):
                for sign in ADDED:
                    self.check(text[:place] + sign + text[place:], deed)
                self.check(text[:place] + text[place + 1:], deed)
            for place in [place for place, sign in enumerate(text) if sign == " "]:
                self.assertEqual(refusal(read_storedeed, text[:place] + " " + text[place:]), ("BadText", 0))
                self.assertEqual(refusal(read_storedeed, text[:place]), ("BadText", 0))
            for more in (" ", "\n", " -", " 0", " a"):
                self.assertEqual(refusal(read_storedeed, text + more), ("BadText", 0))
                self.assertEqual(refusal(read_storedeed, more + text), ("BadText", 0))

    def check(self, text, deed):
        found, error = outcome(read_storedeed, text)
        if error is not None:
            self.assertEqual(error, ("BadText", 0))
            return
        self.assertIs(is_storedeed(found), True)
        self.assertEqual(storedeed_text(found), text)
        self.assertIs(found == deed, text == storedeed_text(deed))


# Two tables and a snapshot, of both widths; table 0 is there, so that the least free name is 1.
FEW = (
    ("make", "0", 1, 60), ("put", "0", "k", (5,)), ("put", "0", "a9", (-7,)), ("snap", "0", "0"), ("drop", "0", "k"), ("make", "b", 2, 400),
    ("put", "b", "k", (5, -7)), ("put", "b", "0", (0, MOST)), ("make", "c", 1, 0))
FEW_TEXT = "s.0 1 60\na9 -7\nk 5\nt.0 1 60\na9 -7\nt.b 2 400\n0 0,1000000000\nk 5,-7\nt.c 1 0\n"
FEW_READ = (
    ("make", "1", 1, 60), ("put", "1", "a9", (-7,)), ("put", "1", "k", (5,)), ("snap", "1", "0"), ("end", "1"), ("make", "0", 1, 60), ("put", "0", "a9", (-7,)),
    ("make", "b", 2, 400), ("put", "b", "0", (0, MOST)), ("put", "b", "k", (5, -7)), ("make", "c", 1, 0))


def plain_text(told):
    """The text of a meaning, by the words of [27.2]."""
    text = ""
    for source, width, most, rows in told:
        text += f"{source} {width} {most}\n"
        for name, numbers in rows:
            text += name + " " + ",".join(str(number) for number in numbers) + "\n"
    return text


class Stores(unittest.TestCase):
    def test_the_blank_view(self):
        self.assertEqual(store_text(BLANK), "")
        self.assertEqual(read_store(""), ())

    def test_a_few_sources(self):
        pages = view_of(*FEW)
        self.assertEqual(store_text(pages), FEW_TEXT)
        self.assertEqual(read_store(FEW_TEXT), FEW_READ)
        self.assertEqual(meaning(view_of(*FEW_READ)), meaning(pages))

    def test_the_least_free_name(self):
        for tables, helper in ((("a",), "0"), (("0", "1", "3"), "2"), (("00", "a"), "0"), (("0", "1", "2", "3", "4", "5", "6", "7", "8", "9"), "a"),
                               (("0", "1", "2", "3", "4", "5", "6", "7", "8", "9", "a"), "b"), ((), "0")):
            text = "s.0 1 5\nk 1\n" + "".join(f"t.{name} 2 7\n" for name in tables)
            self.assertEqual(read_store(text)[:4], (("make", helper, 1, 5), ("put", helper, "k", (1,)), ("snap", helper, "0"), ("end", helper)))
            self.assertEqual(read_store(text)[4:], tuple(("make", name, 2, 7) for name in tables))

    def test_many_views(self):
        luck = chance(82)
        led = full = 0
        for _ in range(120):
            builder = drawn(luck)
            pages = builder.view()
            text = store_text(pages)
            self.assertEqual(text, plain_text(builder.meaning()))
            found, error = self.led(read_store(text))
            if error is not None:
                self.assertIn(error, (("NoPage", 0), ("BookFull", 12)))
                full += 1
                continue
            self.assertEqual(meaning(found), meaning(pages))
            self.assertEqual(store_text(found), text)
            led += 1
        self.assertGreater(led, 80)

    def test_views_that_store_deeds_have_made(self):
        led = 0
        for seed in range(12):
            luck = chance(seed)
            pages, dicts = BLANK, Dicts()
            names = [f"n{n:02}" for n in range(30)]
            for _ in range(120):
                deed = some_storedeed(luck, dicts, names)
                plan, error = outcome(planned, pages, (deed,), (), "short")
                if error is None:
                    pages = doing(pages, plan)
                    dicts.do(deed)
                self.assertEqual(store_text(pages), plain_text(dicts.meaning()))
            found, error = self.led(read_store(store_text(pages)))
            if error is None:
                self.assertEqual(meaning(found), dicts.meaning())
                led += 1
        self.assertGreater(led, 8)

    def led(self, deeds):
        """The view behind the store deeds, each by itself on the blank view; or None, and the error of the first one that is refused."""
        pages = BLANK
        for deed in deeds:
            plan, error = outcome(planned, pages, (deed,), (), "short")
            if error is not None:
                return None, error
            pages = doing(pages, plan)
            self.assertEqual(faults(pages), ())
        return pages, None

    def test_a_full_book(self):
        names = "0123456789ab"
        text = "".join(f"t.{name} 1 9\nk 1\n" for name in names)
        self.assertEqual(store_text(self.led(read_store(text))[0]), text)
        # A snapshot needs a row of the book more for a moment; it stands ahead of the tables, and only the twelfth one finds no room.
        text = "s.s 1 9\n" + "".join(f"t.{name} 1 9\nk 1\n" for name in names[:11])
        self.assertEqual(store_text(self.led(read_store(text))[0]), text)
        text = "".join(f"s.{name} 1 9\n" for name in names)
        self.assertEqual(self.led(read_store(text)), (None, ("BookFull", 12)))


class WrongLines(unittest.TestCase):
    def bad(self, text, index):
        self.assertEqual(refusal(read_store, text), ("BadText", index), text)

    def test_signs_behind_the_last_line_end(self):
        many = FEW_TEXT.count("\n")
        for rest in ("x", " ", "t.d 1 0", "z 1", "k 5"):
            self.bad(FEW_TEXT + rest, many)
        self.bad("x", 0)
        self.bad("t.a 1 60", 0)
        self.bad("t.a 1 60\nk 5", 1)
        self.bad(FEW_TEXT[:-1], many - 1)

    def test_the_first_line(self):
        for line in ("k 5", "\n", "", " ", "t.a", "t.a 1", "t.a 1 60 1", "a 1 60", "t.A 1 60", "t.abcdefg 1 60", "t. 1 60", "u.a 1 60", "t.a 0 60", "t.a 3 60",
                     "t.a 1 401", "t.a 1 -1", "t.a 01 60", "t.a 1 060", "t.a +1 60", "t.a 1  60", " t.a 1 60", "t.a 1 60 ", "t.a  1 60", "t.a 1,2 60", "t.a 1 -",
                     "t.a 1 6\u0660", "t.a 1 " + "9" * 5000):
            self.bad(line + "\n", 0)
            self.bad(line + "\nt.b 1 60\nx\n", 0)
            self.bad("t.0 1 60\nk 5\n" + line + "\n", 2)

    def test_rows(self):
        for line in ("m", "m 5,6", "m -", "m ", "m 05", "m -0", "m +5", "m 5,", "m ,5", "m 1000000001", "m -1000000001", "M 5", "m.m 5", ". 5", "- 5",
                     "abcdefghijklm 5", "k 5", "j 5", "  5", " m 5", "m 5 ", "m  5", "m 5 6", "", " ", "m five", "m 5\t", "m " + "1" * 5000):
            self.bad("t.a 1 60\nk 5\n" + line + "\n", 2)
            self.bad("s.a 1 60\nk 5\n" + line + "\nx\n", 2)
        for line in ("m 5", "m 5,6,7", "m 5,1000000001", "m 5, 6", "m 5,06"):
            self.bad("t.a 2 60\nk 5,6\n" + line + "\n", 2)
        self.assertEqual(len(read_store("t.a 1 60\nk 5\nk0 1000000000\nk00 -1000000000\nm 0\n")), 5)
        self.bad("t.a 1 60\na 1\nc 1\nb 1\n", 3)
        self.bad("t.a 1 60\na 1\nc 1\nd 1\nc 1\ne 1\n", 4)

    def test_sources(self):
        self.bad("t.a 1 60\nt.a 1 60\n", 1)
        self.bad("t.b 1 60\nk 5\nt.a 1 60\n", 2)
        self.bad("t.b 1 60\ns.c 1 60\n", 1)
        self.bad("t.a 1 60\nt.c 1 60\nt.b 1 60\n", 2)
        self.bad("s.b 1 60\ns.b 1 60\n", 1)
        self.assertEqual(read_store("s.z 1 60\nt.a 1 60\nt.aa 1 60\n")[-1], ("make", "aa", 1, 60))
        # Names rise within one source only.
        self.assertEqual(read_store("t.a 1 60\nz 5\nt.b 1 60\na 5\n")[-1], ("put", "b", "a", (5,)))

    def test_a_thirteenth_source(self):
        twelve = "".join(f"t.{name} 1 9\n" for name in "0123456789ab")
        self.assertEqual(len(read_store(twelve)), 12)
        self.bad(twelve + "t.c 1 9\n", 12)
        self.bad(twelve + "k 5\nt.c 1 9\n", 13)
        self.bad("s.s 1 9\nk 5\n" + twelve, 13)

    def test_a_row_beyond_the_most(self):
        self.bad("t.a 1 0\nk 5\n", 1)
        self.bad("t.a 1 2\na 1\nb 1\nc 1\n", 3)
        self.bad("s.a 1 1\na 1\nb 1\n", 2)
        self.assertEqual(len(read_store("t.a 1 2\na 1\nb 1\nt.b 1 1\nk 1\n")), 5)
        rows = "".join(f"n{n:03} {n}\n" for n in range(400))
        self.assertEqual(len(read_store("t.a 1 400\n" + rows)), 401)
        self.bad("t.a 1 400\n" + rows + "z 1\n", 401)

    def test_a_wrong_line_anywhere(self):
        lines = FEW_TEXT.split("\n")[:-1]
        for index in range(len(lines)):
            for wrong in ("", "x", lines[index] + " ", lines[index] + "x y z", " " + lines[index], "k\u00e9 5", lines[index].replace(" ", "  ")):
                self.bad("\n".join(lines[:index] + [wrong] + lines[index + 1:]) + "\n", index)
            self.bad("\n".join(lines[:index] + [""] + lines[index:]) + "\n", index)

    def test_a_sign_more_or_less(self):
        """What is accepted is, sign for sign, the text of a meaning."""
        for place in range(len(FEW_TEXT) + 1):
            for sign in ADDED:
                self.check(FEW_TEXT[:place] + sign + FEW_TEXT[place:], place)
            self.check(FEW_TEXT[:place] + FEW_TEXT[place + 1:], place)

    def check(self, text, place):
        deeds, error = outcome(read_store, text)
        if error is not None:
            self.assertEqual(error[0], "BadText")
            self.assertLessEqual(text[:place].count("\n"), error[1] + 1)
            return
        dicts = Dicts()
        for deed in deeds:
            self.assertIs(dicts.do(deed), None)
        self.assertEqual(plain_text(dicts.meaning()), text)


if __name__ == "__main__":
    unittest.main()
