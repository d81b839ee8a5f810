"""Rolls: the entries of the log in order, and the tape that holds them."""

from wendleaf.bare import MOST_DEEDS, bare
from wendleaf.deeds import inverse, page_of
from wendleaf.errors import BadNumber, BadPage, BadRoll, BadTape, BadText
from wendleaf.logs import entry_line, is_entry, made_entry, read_line
from wendleaf.numerals import PAGES, is_page, is_within

# The head of a log of which nothing was cut off; it has no line on the tape.
FIRST_HEAD = (0, "head", (0,) * PAGES)


def is_roll(thing):
    """Whether the thing is a roll."""
    try:
        made_roll(thing)
    except BadRoll:
        return False
    return True


def made_roll(thing):
    """A roll equal to the thing."""
    if not isinstance(thing, tuple) or len(thing) == 0 or not is_entry(thing[0]) or thing[0][1] != "head":
        raise BadRoll(-1)
    roll = [made_entry(thing[0])]
    state = _state_behind_head(roll[0])
    for index in range(1, len(thing)):
        state = state_behind(state, thing[index]) if is_entry(thing[index]) else None
        if state is None:
            raise BadRoll(index)
        roll.append(made_entry(thing[index]))
    return tuple(roll)


def roll_text(roll):
    """The text of the roll, as it stands on a tape."""
    return "".join([entry_line(entry) for entry in roll if entry[0] > 0])


def read_tape(text):
    """The roll that the text holds, and the number of signs of its good part."""
    lines = text.split("\n")
    rest = lines.pop()
    roll = [FIRST_HEAD]
    state = _state_behind_head(FIRST_HEAD)
    for index, line in enumerate(lines):
        entry = _read_entry(line, index)
        if index == 0 and entry[1] == "head" and entry[0] > 0:
            roll = [entry]
            state = _state_behind_head(entry)
            continue
        state = state_behind(state, entry)
        if state is None:
            raise BadTape(index)
        roll.append(entry)
    return tuple(roll), len(text) - len(rest)


def deeds_of(roll):
    """The pairs of the number and the deed of each deed entry; a back entry has the inverse deed."""
    deeds = []
    for number, mark, part in roll:
        if mark == "deed":
            deeds.append((number, part))
        elif mark == "back":
            deeds.append((number, part[1]))
    return tuple(deeds)


def bare_of(roll):
    """The bare log of the roll."""
    return bare(tuple([deed for _, deed in deeds_of(roll)]), PAGES)


def newest(roll, page):
    """The page's newest number."""
    return _numbers_of(roll, page)[-1]


def version_of(roll, page, number):
    """The version of the page that has the number, or None."""
    numbers = _numbers_of(roll, page)
    return numbers.index(number) if number in numbers else None


def number_at(roll, page, version):
    """The number of the version of the page."""
    numbers = _numbers_of(roll, page)
    if not is_within(version, 0, len(numbers) - 1):
        raise BadNumber(version)
    return numbers[version]


def live_of(roll):
    """The pairs of the number and the deed of each live deed, or None if no work is open."""
    _, begun, live, _ = state_of(roll)
    return None if begun is None else live


def works_of(roll):
    """The numbers of the end entries."""
    return tuple([number for number, mark, _ in roll if mark == "end"])


def numbers_at(roll, last):
    """The newest number of each page up to and including the entry with the number `last`."""
    numbers = list(roll[0][2])
    for number, deed in deeds_of(roll):
        if number <= last:
            numbers[page_of(deed)] = number
    return tuple(numbers)


def image_at(roll, numbers):
    """The image in which each page has the version with its number, or None where no version has it."""
    image = [0 if number == first else None for number, first in zip(numbers, roll[0][2])]
    versions = [0] * PAGES
    for number, deed in deeds_of(roll):
        page = page_of(deed)
        versions[page] += 1
        if number == numbers[page]:
            image[page] = versions[page]
    return tuple(image)


def state_of(roll):
    """The state behind the roll.

    It has the number of the last entry, the number of the open work's begin entry or None, the pairs of the
    number and the deed of each live deed, and how many deed entries there are.
    """
    state = _state_behind_head(roll[0])
    for entry in roll[1:]:
        state = state_behind(state, entry)
    return state


def state_behind(state, entry):
    """The state behind the entry if it is the next one, or None if it cannot stand there."""
    last, begun, live, many = state
    number, mark, part = entry
    if number != last + 1 or mark == "head" or (mark == "begin") != (begun is None):
        return None
    if mark == "begin":
        return number, number, (), many
    if mark == "end":
        return number, None, (), many
    if many >= MOST_DEEDS:
        return None
    if mark == "deed":
        return number, begun, live + ((number, part),), many + 1
    if len(live) == 0 or part != (live[-1][0], inverse(live[-1][1])):
        return None
    return number, begun, live[:-1], many + 1


def _state_behind_head(head):
    return head[0], None, (), 0


def _read_entry(line, index):
    """The entry of the line with this index, which has lost its line end."""
    try:
        return read_line(line + "\n")
    except BadText:
        raise BadTape(index) from None


def _numbers_of(roll, page):
    """The numbers of the page's versions."""
    if not is_page(page):
        raise BadPage(page)
    return [roll[0][2][page]] + [number for number, deed in deeds_of(roll) if page_of(deed) == page]
