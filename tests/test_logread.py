import unittest

from samples import GREATEST, THINGS, chance, refusal, some_deed
from wendleaf.deedrun import done
from wendleaf.deeds import inverse, page_of, reads_of
from wendleaf.logread import (
    bare_of, deeds_of, is_roll, live_of, made_roll, newest, number_at, read_tape, roll_text, version_of, works_of)
from wendleaf.logs import entry_line, is_entry

FIRST = (0, "head", (0,) * 32)
HEAD = (7, "head", (7, 0, 5) + (0,) * 28 + (6,))
PUT = ("put", 0, "k", None, (5,))
TAKE = ("take", 1, 0, None, None)
BUMP = ("bump", 1, "k", 0, 2)
WORK = (
    ("begin", None), ("deed", PUT), ("deed", TAKE), ("back", (2, inverse(TAKE))), ("deed", BUMP), ("back", (4, inverse(BUMP))),
    ("back", (1, inverse(PUT))), ("deed", PUT), ("end", None), ("begin", None), ("deed", TAKE),
)


def behind(head, parts=WORK):
    """A roll behind the head; a back's number is told from the begin of the parts."""
    start = head[0] + 1
    roll = [head]
    for offset, (mark, part) in enumerate(parts):
        if mark == "back":
            part = (start + part[0], part[1])
        roll.append((start + offset, mark, part))
    return tuple(roll)


ROLL = behind(FIRST)
LATER = behind(HEAD)
ROLLS = (ROLL, LATER, behind((1, "head", (1, 0) * 16)), (FIRST,), (HEAD,), ROLL[:2], ROLL[:10], LATER[:3], behind((GREATEST - 20, "head", (1,) * 32)))


def some_roll(luck, many=30, pages=4):
    """A roll whose deeds can be done, behind any head."""
    number = luck.choice((0, 9))
    head = (number, "head", tuple(luck.randint(0, number) for _ in range(32)))
    roll, rows, live = [head], {page: () for page in range(32)}, None
    for _ in range(many):
        number += 1
        what = luck.choice(("deed", "deed", "deed", "back", "end")) if live is not None else "begin"
        if what == "back" and not live:
            what = "deed"
        part = None
        if what in ("begin", "end"):
            live = [] if what == "begin" else None
        else:
            deed = some_deed(luck, rows.get, pages) if what == "deed" else inverse(live[-1][1])
            part = deed if what == "deed" else (live.pop()[0], deed)
            rows[page_of(deed)] = done(deed, rows[page_of(deed)], rows.get)
            if what == "deed":
                live.append((number, deed))
        roll.append((number, what, part))
    return tuple(roll)


class Rolls(unittest.TestCase):
    def test_right_rolls(self):
        for roll in ROLLS:
            self.assertIs(is_roll(roll), True)
            self.assertEqual(made_roll(roll), roll)
            for end in range(1, len(roll)):
                self.assertEqual(made_roll(roll[:end]), roll[:end])

    def test_no_tuple_an_empty_one_and_no_head_first(self):
        for thing in (None, 1, True, "", "head", (), (None,), (1,), ("head",), ROLL[1:], (ROLL[1],), (ROLL,), FIRST, ((1, "head", None),),
                      ((0, "head", (0,) * 31),), ((-1, "head", (0,) * 32),), ((1, "end", None), FIRST), ((0, "begin", None), FIRST),
                      ((0, "head", (1,) * 32),), (FIRST[:2],), (None, FIRST), ((1,), FIRST), (FIRST[:2], FIRST)):
            self.assertEqual(refusal(made_roll, thing), ("BadRoll", -1), thing)
            self.assertIs(is_roll(thing), False)

    def refused(self, roll, index):
        self.assertEqual(refusal(made_roll, roll), ("BadRoll", index))
        self.assertIs(is_roll(roll), False)

    def test_numbers(self):
        for roll in (ROLL, LATER):
            for index in range(1, len(roll)):
                number, mark, part = roll[index]
                for wrong in (number - 1, number + 1, number + 10, 1 if number > 1 else 2):
                    self.refused(roll[:index] + ((wrong, mark, part),) + roll[index + 1:], index)
                self.refused(roll[:index] + (roll[index],) + roll[index:], index + 1)
            for index in range(1, len(roll) - 1):
                self.refused(roll[:index] + roll[index + 1:], index)

    def test_the_greatest_number(self):
        roll = ((GREATEST - 1, "head", (0,) * 32), (GREATEST, "begin", None))
        self.assertEqual(made_roll(roll), roll)
        self.refused(roll + ((GREATEST + 1, "end", None),), 2)

    def test_a_second_head(self):
        for roll in (ROLL, LATER):
            for index in range(1, len(roll) + 1):
                for number in (roll[0][0] + index, roll[0][0], 0):
                    self.refused(roll[:index] + ((number, "head", (0,) * 32),) + roll[index:], index)

    def test_a_begin_in_an_open_work(self):
        for index in (2, 3, 4, 9, 11, 12):
            self.refused(ROLL[:index] + ((index, "begin", None),), index)
        self.assertIs(is_roll(ROLL[:10] + ((10, "begin", None),)), True)

    def test_deeds_backs_and_ends_without_an_open_work(self):
        for roll in ((FIRST,), (HEAD,), ROLL[:10], LATER[:10]):
            number = roll[-1][0] + 1
            for mark, part in (("deed", PUT), ("end", None), ("back", (max(number - 2, 1), inverse(PUT)))):
                self.refused(roll + ((number, mark, part),), len(roll))

    def test_backs_of_another_deed(self):
        for end, part in ((3, (1, inverse(PUT))), (4, (2, inverse(PUT))), (4, (3, inverse(PUT))), (5, (3, inverse(TAKE))), (5, (4, TAKE)),
                          (5, (4, inverse(TAKE))), (2, (1, inverse(PUT))), (8, (2, inverse(PUT))), (4, (2, inverse(TAKE))),
                          (9, (2, inverse(PUT))), (11, (8, inverse(PUT)))):
            self.refused(ROLL[:end] + ((end, "back", part),), end)
        self.assertIs(is_roll(ROLL[:4] + ((4, "back", (3, inverse(TAKE))),)), True)

    def test_backs_of_a_wrong_deed(self):
        for deed in (PUT, TAKE, ("drop", 1, 0, None, "z"), ("drop", 0, 1, None, None), inverse(PUT)):
            self.refused(ROLL[:4] + ((4, "back", (3, deed)),) + ROLL[5:], 4)

    def test_no_entries_at_all(self):
        for thing in THINGS + ((1, "start", None), (1, "begin", 0), (2, "deed", None)):
            for index in range(1, len(ROLL) + 1):
                self.refused(ROLL[:index] + (thing,) + ROLL[index + 1:], index)
            self.assertEqual(refusal(made_roll, (thing,)), ("BadRoll", -1))
            self.assertEqual(refusal(made_roll, thing), ("BadRoll", -1))
            self.assertIs(is_roll(thing), False)

    def test_the_first_bad_one(self):
        self.refused(ROLL[:3] + (None,) + ROLL[4:6] + (None,), 3)
        self.refused(ROLL[:3] + ROLL[4:6] + (None,), 3)

    def test_four_hundred_deed_entries(self):
        deeds = [(1, "begin", None)] + [(n + 2, "deed", ("bump", 0, "k", 0, 1)) for n in range(400)]
        roll = (FIRST,) + tuple(deeds)
        self.assertIs(is_roll(roll), True)
        self.assertIs(is_roll(roll + ((402, "end", None), (403, "begin", None), (404, "end", None))), True)
        self.refused(roll + ((402, "deed", ("bump", 0, "k", 0, 1)),), 402)
        self.refused(roll + ((402, "back", (401, ("bump", 0, "k", 0, -1))),), 402)
        backs = roll[:-1] + ((401, "back", (400, ("bump", 0, "k", 0, -1))),)
        self.assertIs(is_roll(backs), True)
        self.refused(backs + ((402, "back", (399, ("bump", 0, "k", 0, -1))),), 402)
        self.refused(backs + ((402, "end", None), (403, "begin", None), (404, "deed", PUT)), 404)
        undone = tuple((n + 202, "back", (201 - n, ("bump", 0, "k", 0, -1))) for n in range(200))
        self.assertIs(is_roll(roll[:202] + undone), True)
        self.assertIs(is_roll(roll[:202] + undone + ((402, "end", None),)), True)
        self.refused(roll[:202] + undone + ((402, "deed", PUT),), 402)
        self.assertEqual(refusal(read_tape, roll_text(roll) + entry_line((402, "deed", PUT))), ("BadTape", 401))

    def test_long_rolls(self):
        roll = (FIRST,) + tuple((n, "begin" if n % 2 else "end", None) for n in range(1, 4001))
        self.assertIs(is_roll(roll), True)


class Tapes(unittest.TestCase):
    def test_examples(self):
        self.assertEqual(read_tape("1 begin 002726\n2 de"), ((FIRST, (1, "begin", None)), 15))
        self.assertEqual(refusal(read_tape, "1 begin 002726\n2 de\n"), ("BadTape", 1))

    def test_no_lines(self):
        self.assertEqual(read_tape(""), ((FIRST,), 0))
        self.assertEqual(read_tape("1 begin 002726"), ((FIRST,), 0))
        self.assertEqual(read_tape("\u00e9"), ((FIRST,), 0))
        self.assertEqual(refusal(read_tape, "\n"), ("BadTape", 0))

    def test_texts(self):
        self.assertEqual(roll_text((FIRST,)), "")
        self.assertEqual(roll_text((HEAD,)), entry_line(HEAD))
        for roll in ROLLS:
            lines = [entry_line(entry) for entry in roll if entry != FIRST]
            self.assertEqual(roll_text(roll), "".join(lines))
            self.assertEqual(read_tape(roll_text(roll)), (roll, len(roll_text(roll))))

    def test_cut_at_each_sign(self):
        for roll in ROLLS:
            text = roll_text(roll)
            for end in range(len(text)):
                kept = text[:end].count("\n") + (roll[0][0] == 0)
                expected = roll[:kept] if kept > 0 else (FIRST,)
                self.assertEqual(read_tape(text[:end]), (expected, text[:end].rfind("\n") + 1))

    def test_bad_lines(self):
        lines = roll_text(ROLL).splitlines(keepends=True)
        for index in range(len(lines)):
            for bad in ("\n", "x\n", lines[index][:-2] + "\n", lines[index].replace("0", "1", 1), " " + lines[index], "1 begin 002727\n"):
                text = "".join(lines[:index]) + bad + "".join(lines[index + 1:])
                self.assertEqual(refusal(read_tape, text), ("BadTape", index), (index, bad))
                self.assertEqual(refusal(read_tape, text + "rest"), ("BadTape", index))

    def test_strange_lines(self):
        for roll in (ROLL, LATER):
            lines = [entry_line(entry) for entry in roll if entry != FIRST]
            for index in range(1, len(lines)):
                for strange in (lines[index - 1], entry_line((roll[0][0] + index, "head", (0,) * 32)), entry_line((77, "begin", None)),
                                entry_line(FIRST)):
                    text = "".join(lines[:index]) + strange + "x\n"
                    self.assertEqual(refusal(read_tape, text), ("BadTape", index))
        for first in ((2, "begin", None), (1, "end", None), (1, "deed", PUT), (2, "back", (1, PUT))):
            self.assertEqual(refusal(read_tape, entry_line(first)), ("BadTape", 0))
        self.assertEqual(refusal(read_tape, entry_line(HEAD) + entry_line((1, "begin", None))), ("BadTape", 1))
        self.assertEqual(refusal(read_tape, entry_line(HEAD) + entry_line((8, "begin", None)) + entry_line((8, "end", None))), ("BadTape", 2))

    def test_a_strange_line_ahead_of_a_bad_one(self):
        lines = roll_text(ROLL).splitlines(keepends=True)
        self.assertEqual(refusal(read_tape, lines[0] + lines[0] + "x\n"), ("BadTape", 1))
        self.assertEqual(refusal(read_tape, lines[0] + "x\n" + lines[0]), ("BadTape", 1))

    def test_a_written_head_with_the_number_0(self):
        self.assertEqual(refusal(read_tape, entry_line(FIRST)), ("BadTape", 0))
        self.assertEqual(refusal(read_tape, entry_line(FIRST) + "1 begin 002726\n"), ("BadTape", 0))
        self.assertEqual(refusal(read_tape, "1 begin 002726\n" + entry_line(FIRST)), ("BadTape", 1))

    def test_there_and_back_by_chance(self):
        luck = chance(80)
        for _ in range(60):
            roll = some_roll(luck)
            self.assertEqual(made_roll(roll), roll)
            text = roll_text(roll)
            self.assertEqual(read_tape(text), (roll, len(text)))
            self.assertEqual(read_tape(text + "1 begin"), (roll, len(text)))


class Telling(unittest.TestCase):
    def test_one_roll(self):
        expected = ((9, PUT), (10, TAKE), (11, inverse(TAKE)), (12, BUMP), (13, inverse(BUMP)), (14, inverse(PUT)), (15, PUT), (18, TAKE))
        self.assertEqual(deeds_of(LATER), expected)
        self.assertEqual(bare_of(LATER), (32, ((0, ()), (1, (0,)), (1, (0,)), (1, ()), (1, ()), (0, ()), (0, ()), (1, (0,)))))
        self.assertEqual([newest(LATER, page) for page in (0, 1, 2, 3, 31)], [15, 18, 5, 0, 6])
        self.assertEqual([number_at(LATER, 0, version) for version in range(4)], [7, 9, 14, 15])
        self.assertEqual([version_of(LATER, 0, number) for number in (7, 9, 14, 15)], [0, 1, 2, 3])
        for number in (0, 6, 8, 10, 16, 18, 99):
            self.assertIs(version_of(LATER, 0, number), None)
        self.assertEqual(version_of(LATER, 31, 6), 0)
        self.assertEqual(version_of(ROLL, 5, 0), 0)
        self.assertEqual(live_of(LATER), ((18, TAKE),))
        self.assertIs(live_of(LATER[:10]), None)
        self.assertEqual(live_of(LATER[:2]), ())
        self.assertEqual(live_of(LATER[:4]), ((9, PUT), (10, TAKE)))
        self.assertEqual(works_of(LATER), (16,))
        self.assertEqual(works_of((FIRST,)), ())
        self.assertEqual(deeds_of((FIRST,)), ())
        self.assertEqual(bare_of((FIRST,)), (32, ()))

    def test_against_a_plain_walk(self):
        luck = chance(81)
        for _ in range(60):
            roll = some_roll(luck)
            deeds = [(n, part if mark == "deed" else part[1]) for n, mark, part in roll if mark in ("deed", "back")]
            self.assertEqual(deeds_of(roll), tuple(deeds))
            self.assertEqual(bare_of(roll), (32, tuple((page_of(deed), reads_of(deed)) for _, deed in deeds)))
            self.assertEqual(works_of(roll), tuple(n for n, mark, _ in roll if mark == "end"))
            live = None
            for n, mark, part in roll:
                live = [] if mark == "begin" else None if mark == "end" else live
                if mark == "deed":
                    live.append((n, part))
                if mark == "back":
                    live.pop()
            self.assertEqual(live_of(roll), None if live is None else tuple(live))
            for page in range(5):
                numbers = [roll[0][2][page]] + [n for n, deed in deeds if page_of(deed) == page]
                self.assertEqual(newest(roll, page), numbers[-1])
                self.assertEqual([number_at(roll, page, version) for version in range(len(numbers))], numbers)
                for number in range(45):
                    self.assertEqual(version_of(roll, page, number), numbers.index(number) if number in numbers else None)
                self.assertEqual(refusal(number_at, roll, page, len(numbers)), ("BadNumber", len(numbers)))

    def test_bad_pages_and_numbers(self):
        for page in (-1, 32, True, False, None, "0", (0,)):
            self.assertEqual(refusal(newest, LATER, page), ("BadPage", page))
            self.assertEqual(refusal(version_of, LATER, page, -5), ("BadPage", page))
            self.assertEqual(refusal(number_at, LATER, page, -5), ("BadPage", page))
        for version in (-1, 4, True, False, None, "0", 10 ** 13):
            self.assertEqual(refusal(number_at, LATER, 0, version), ("BadNumber", version))
        self.assertEqual(refusal(number_at, LATER, 31, 1), ("BadNumber", 1))
        self.assertEqual(number_at(LATER, 31, 0), 6)

    def test_sample_entries_are_entries(self):
        for roll in ROLLS:
            self.assertTrue(all(is_entry(entry) for entry in roll))


if __name__ == "__main__":
    unittest.main()
