"""Numbers and their written forms, as all modules of the package use them."""

PAGES = 32
GREATEST = 10 ** 12
FIGURES = "0123456789"
# Python itself refuses to read very long numbers; none of this package comes near this length.
MOST_FIGURES = 18


def is_number(thing):
    """Whether the thing is an int; True and False are not numbers."""
    return isinstance(thing, int) and not isinstance(thing, bool)


def is_within(thing, low, high):
    """Whether the thing is a number from `low` to `high`."""
    return is_number(thing) and low <= thing <= high


def is_page(thing):
    """Whether the thing is the id of a page."""
    return is_within(thing, 0, PAGES - 1)


def read_number(text):
    """The number that is written exactly so, or None."""
    figures = text.removeprefix("-")
    if not 1 <= len(figures) <= MOST_FIGURES:
        return None
    if not all(sign in FIGURES for sign in figures):
        return None
    number = int(text)
    return number if str(number) == text else None


def numbers_text(numbers):
    """The numbers, separated by commas."""
    return ",".join([str(number) for number in numbers])


def read_numbers(text):
    """The tuple of the numbers that the text separates by commas, with None for each part that is no number."""
    return tuple([read_number(part) for part in text.split(",")])
