import unittest

from samples import GREATEST, RIGHT, THINGS, chance, refusal
from wendleaf.deeds import inverse
from wendleaf.deedtexts import deed_text
from wendleaf.frames import sum_of
from wendleaf.logs import entry_line, is_entry, made_entry, read_line

PUT = ("put", 0, "k", None, (5,))
TAKE = ("take", 1, 0, None, "m")
ZEROS = (0,) * 32
HEAD = (7, "head", (7, 0, 5) + (0,) * 28 + (6,))

RIGHT_ENTRIES = (
    (1, "begin", None), (1, "end", None), (1, "deed", PUT), (2, "back", (1, inverse(PUT))), HEAD, (0, "head", ZEROS),
    (10, "begin", None), (GREATEST, "begin", None), (GREATEST, "end", None), (GREATEST, "deed", TAKE), (3, "back", (2, TAKE)),
    (GREATEST, "back", (1, PUT)), (GREATEST, "back", (GREATEST - 1, PUT)), (GREATEST, "head", (GREATEST,) * 32), (1, "head", (1,) * 32),
    (1, "head", ZEROS), (12, "head", (12,) + (0,) * 31),
) + tuple((17, "deed", deed) for deed in RIGHT) + tuple((17, "back", (9, deed)) for deed in RIGHT)

# Things that are no entries, with the index of the first bad part.
WRONG_ENTRIES = (
    (None, 0), (1, 0), (True, 0), ("1 begin", 0), ((), 0), ((1,), 0), ((1, "begin"), 0), ((1, "begin", None, None), 0),
    ((1, "head", ZEROS, None), 0),
    # numbers
    ((0, "begin", None), 0), ((0, "end", None), 0), ((0, "deed", PUT), 0), ((0, "back", (1, PUT)), 0), ((0, "start", None), 0),
    ((0, None, None), 0), ((-1, "begin", None), 0), ((-1, "head", ZEROS), 0), ((GREATEST + 1, "begin", None), 0),
    ((GREATEST + 1, "end", None), 0), ((GREATEST + 1, "deed", PUT), 0), ((GREATEST + 1, "back", (1, PUT)), 0),
    ((GREATEST + 1, "head", ZEROS), 0), ((True, "begin", None), 0), ((False, "head", ZEROS), 0), ((None, "begin", None), 0),
    (("1", "begin", None), 0), (((1,), "begin", None), 0), ((0, "begin", 5), 0), ((None, "start", 5), 0), ((True, "head", ZEROS), 0),
    # marks
    ((1, "start", None), 1), ((1, "", None), 1), ((1, "Begin", None), 1), ((1, "begin ", None), 1), ((1, None, None), 1), ((1, 1, None), 1),
    ((1, ("begin",), None), 1), ((1, "heads", ZEROS), 1), ((1, True, PUT), 1), ((1, "start", PUT), 1), ((1, "put", PUT), 1),
    # begin and end
    ((1, "begin", ()), 2), ((1, "begin", 0), 2), ((1, "begin", False), 2), ((1, "begin", PUT), 2), ((1, "begin", ""), 2),
    ((1, "end", ()), 2), ((1, "end", 1), 2), ((1, "end", True), 2), ((1, "end", PUT), 2),
    # deeds
    ((1, "deed", None), 2), ((1, "deed", ()), 2), ((1, "deed", ("put", 0, "k", None, None)), 2), ((1, "deed", ("take", 1, 1, None, None)), 2),
    ((1, "deed", (1, PUT)), 2), ((1, "deed", "put 0 k - 5"), 2), ((1, "deed", PUT + (1,)), 2), ((1, "deed", ("put", True, "k", None, (5,))), 2),
    # backs
    ((2, "back", None), 2), ((2, "back", PUT), 2), ((2, "back", ()), 2), ((2, "back", (1,)), 2), ((2, "back", (1, PUT, PUT)), 2),
    ((2, "back", (0, PUT)), 2), ((2, "back", (2, PUT)), 2), ((1, "back", (1, PUT)), 2), ((1, "back", (0, PUT)), 2),
    ((5, "back", (5, PUT)), 2), ((5, "back", (6, PUT)), 2), ((5, "back", (-1, PUT)), 2), ((5, "back", (True, PUT)), 2),
    ((5, "back", (None, PUT)), 2), ((5, "back", ("1", PUT)), 2), ((5, "back", (1, None)), 2), ((5, "back", (1, ("put", 0, "k", (1,), (1,)))), 2),
    ((5, "back", (PUT, 1)), 2), ((GREATEST, "back", (GREATEST, PUT)), 2), ((5, "back", "15"), 2),
    # heads
    ((7, "head", None), 2), ((7, "head", ()), 2), ((7, "head", (0,) * 31), 2), ((7, "head", (0,) * 33), 2), ((7, "head", (8,) + (0,) * 31), 2),
    ((7, "head", (0,) * 31 + (8,)), 2), ((7, "head", (-1,) + (0,) * 31), 2), ((7, "head", (0,) * 31 + (-1,)), 2),
    ((7, "head", (True,) + (0,) * 31), 2), ((7, "head", (False,) + (0,) * 31), 2), ((7, "head", (None,) + (0,) * 31), 2),
    ((7, "head", ("0",) + (0,) * 31), 2), ((0, "head", (0,) * 31 + (1,)), 2), ((0, "head", (0,) * 31), 2), ((0, "head", None), 2),
    ((GREATEST, "head", (0,) * 31 + (GREATEST + 1,)), 2), ((7, "head", "0" * 32), 2), ((7, "head", ",".join("0" * 32)), 2),
)


class Entries(unittest.TestCase):
    def test_right_entries(self):
        for entry in RIGHT_ENTRIES:
            self.assertIs(is_entry(entry), True, entry)
            self.assertEqual(made_entry(entry), entry)
        for number in (1, 2, 10, GREATEST):
            for mark, part in (("begin", None), ("end", None), ("deed", PUT), ("head", ZEROS)):
                self.assertEqual(made_entry((number, mark, part)), (number, mark, part))
        for m in range(1, 9):
            self.assertIs(is_entry((9, "back", (m, PUT))), True)

    def test_wrong_entries(self):
        for thing, what in WRONG_ENTRIES:
            self.assertEqual(refusal(made_entry, thing), ("BadEntry", what), thing)
            self.assertIs(is_entry(thing), False, thing)

    def test_the_judge_raises_nothing(self):
        right = ((1, "begin", None), (1, "deed", PUT), (2, "back", (1, PUT)), HEAD)
        for thing in THINGS:
            asked = [thing, (thing, thing, thing), (2, "back", (thing, PUT)), (2, "back", (1, thing)), (40, "head", (thing,) * 32)]
            asked += [entry[:index] + (thing,) + entry[index + 1:] for entry in right for index in range(3)]
            for each in asked:
                if is_entry(each):
                    self.assertEqual(made_entry(each), each)
                else:
                    self.assertEqual(refusal(made_entry, each)[0], "BadEntry")
        self.assertIs(is_entry((2, "back", (1, PUT))), True)


class Lines(unittest.TestCase):
    def test_examples(self):
        self.assertEqual(entry_line((1, "begin", None)), "1 begin 002726\n")
        self.assertEqual(read_line("1 begin 002726\n"), (1, "begin", None))

    def test_lines(self):
        for entry, ahead in (((12, "end", None), "12 end"), ((3, "deed", TAKE), "3 deed take 1 0 - m"),
                             ((4, "back", (3, inverse(TAKE))), "4 back 3 drop 1 0 - m"),
                             (HEAD, "7 head 7,0,5," + "0," * 28 + "6"),
                             ((5, "deed", ("carry", 3, (), (("key", (5, 7)),))), "5 deed carry 3 . key=5,7")):
            self.assertEqual(entry_line(entry), f"{ahead} {sum_of(ahead)}\n")

    def test_there_and_back(self):
        for entry in RIGHT_ENTRIES:
            line = entry_line(entry)
            self.assertEqual(line.count("\n"), 1)
            self.assertEqual(read_line(line), entry)

    def refused(self, text):
        self.assertEqual(refusal(read_line, text), ("BadText", 0), text)

    def test_lines_of_no_entry_with_a_right_sum(self):
        for ahead in ("0 begin", "0 end", "0 deed put 0 k - 5", "01 begin", "+1 begin", "-1 begin", " 1 begin", "1  begin", "1 begin ",
                      "1", "begin", "1 start", "1 begin 1", "1 begin -", "1 begin None", "1 end 1", "1 end .", "1 deed", "1 deed ", "1 deed put",
                      "1 deed put 0 k - -", "1 deed put 0 k - 05", "1 deed take 1 1 - -", "1 deed take 1 0 - - ", "1 deed  take 1 0 - -", "2 back",
                      "2 back ", "2 back 1", "2 back 1 ", "2 back 0 put 0 k - 5", "2 back 2 put 0 k - 5", "2 back 01 put 0 k - 5",
                      "2 back  1 put 0 k - 5", "2 back 1  put 0 k - 5", "2 back 1 1 put 0 k - 5", "2 back put 0 k - 5", "2 back - put 0 k - 5",
                      "2 deed 1 put 0 k - 5", f"{GREATEST + 1} begin", f"{10 ** 30} begin", "1 head", "1 head ", "1 head 0",
                      "1 head " + ",".join("0" * 31), "1 head " + ",".join("0" * 33), "1 head " + ",".join("0" * 32) + ",",
                      "1 head " + ",".join("0" * 31 + "2"), "1 head " + " ".join("0" * 32), "1 head 00," + ",".join("0" * 31),
                      "1 head -0," + ",".join("0" * 31), "1 head ," + ",".join("0" * 31), "1 Begin", "1 begin\n", "\n1 begin", "1 head -"):
            self.refused(f"{ahead} {sum_of(ahead)}\n")

    def test_a_head_with_the_number_0_has_a_line_for_itself(self):
        ahead = "0 head " + ",".join("0" * 32)
        self.assertEqual(read_line(f"{ahead} {sum_of(ahead)}\n"), (0, "head", ZEROS))

    def test_wrong_sums_and_ends(self):
        for text in ("", "\n", " ", "  \n", "1 begin\n", "1 begin 002726", "1 begin 002726\n\n", "1 begin 002726 \n", "1 begin 2726\n",
                     "1 begin 0002726\n", "1 begin 002727\n", "1 begin 000000\n", "1 begin -02726\n", "1 begin 002726\n1 begin 002726\n",
                     "1 begin  002726\n", " 002726\n", "1 002726\n", "1  002726\n", "1 begin 002726\r\n", "1 begin", "1", "1 begin x\n"):
            self.refused(text)

    def test_each_sign_changed_left_out_and_doubled(self):
        for entry in ((1, "begin", None), (10, "end", None), (12, "deed", TAKE), (13, "back", (12, inverse(TAKE))), (20, "deed", PUT), HEAD):
            line = entry_line(entry)
            texts = set()
            for place, sign in enumerate(line):
                for other in " 0\n,-+.a1\u00e9\ud800":
                    texts.add(line[:place] + other + line[place + 1:])
                    texts.add(line[:place] + other + line[place:])
                texts.add(line[:place] + line[place + 1:])
                texts.add(line[:place] + sign + line[place:])
                texts.add(line[:place])
            for other in " 0\n,a":
                texts.add(line + other)
            for text in texts - {line}:
                self.refused(text)

    def test_lines_by_chance(self):
        luck = chance(70)
        lines = [entry_line(entry) for entry in RIGHT_ENTRIES]
        for _ in range(3000):
            line = luck.choice(lines)
            place = luck.randrange(len(line))
            text = line[:place] + luck.choice("0123456789 ,-.abek\n") + line[place + luck.randint(0, 2):]
            ahead = text.rpartition(" ")[0]
            for asked in (text, f"{ahead} {sum_of(ahead)}\n"):
                try:
                    entry = read_line(asked)
                except ValueError:
                    self.refused(asked)
                    continue
                self.assertIs(is_entry(entry), True)
                self.assertEqual(entry_line(entry), asked)

    def test_what_stands_in_a_line(self):
        for deed in RIGHT:
            self.assertIn(" " + deed_text(deed) + " ", entry_line((3, "deed", deed)))


if __name__ == "__main__":
    unittest.main()
