"""Each function, class and method of the interface is called with its arguments by name, in another order."""

import importlib
import unittest

from test_interface import FUNCTIONS, METHODS
from wendleaf.disk import Disk, disk_text
from wendleaf.errors import Refused
from wendleaf.frames import frame_text
from wendleaf.logread import roll_text
from wendleaf.opening import opened
from wendleaf.store import Store
from wendleaf.works import Work

LOG = (3, ((0, ()), (1, (0,)), (0, ()), (2, (1,))))
RING = (2, ((0, (1,)), (1, (0,))))
HEAD = (0, "head", (0,) * 32)
PUT = ("put", 0, "k", None, (5,))
TAKE = ("take", 1, 0, None, None)
ADD = ("add", 1, "k", 0, 0, "k", 0, 1)
ROLL = (HEAD, (1, "begin", None), (2, "deed", PUT), (3, "end", None))
ROWS = (("a", (1,)), ("m", (2,)), ("t", (3,)))
STANDS = ((2, (("k", (5,)),)),) + ((0, ()),) * 31
# Two leaves below a branch: the table a and its snapshot s.
BRANCH = ((".", (2, 1, 5, 0)), ("m", (3, 1, 7, 0)))
VIEW = ((("s.s", (1, 1, 1, 9)), ("t.a", (1, 1, 1, 9))), BRANCH, (("k", (5,)),), (("n", (7,)),)) + ((),) * 28


def look(page):
    return VIEW[page]


def written_disk():
    """A disk with a frame, a finished work of one deed, and signs that are not safe."""
    disk = Disk()
    disk.add_tape(roll_text(ROLL))
    disk.sync()
    disk.put_frame(0, frame_text(0, 2, (("k", (5,)),)))
    disk.add_tape("4 b")
    return disk


def wounded_disk():
    """A disk whose page 1 is lost."""
    disk = Disk()
    disk.cut_tape(roll_text(((4, "head", (0, 3) + (0,) * 30), (5, "begin", None), (6, "deed", ADD))))
    return disk


def begun_work():
    work = opened(Disk())
    work.begin()
    work.do(PUT)
    return work


# For each function its arguments by position; what is called to give an argument is called anew for each call.
CALLS = {
    "rows": {
        "is_key": ("k",), "is_value": ((1,),), "is_rows": (ROWS,), "made_rows": (ROWS,), "at": (ROWS, "m"), "between": (ROWS, "b", None),
        "with_row": (ROWS, "k", (7,))},
    "frames": {"sum_of": ("page 0 0\n",), "frame_text": (2, 17, ROWS), "read_frame": (frame_text(2, 17, ROWS),)},
    "deeds": {"is_deed": (PUT,), "made_deed": (PUT,), "page_of": (PUT,), "reads_of": (ADD,), "inverse": (PUT,)},
    "deedrun": {"done": (PUT, (), look), "back": (PUT, (("k", (5,)),), look), "fits": (PUT, (), look)},
    "deedtexts": {"deed_text": (PUT,), "read_deed": ("put 0 k - 5",)},
    "disk": {"disk_text": (written_disk,), "read_disk": ("disk 0\ntape 0 0\n\nshelf 0\n\n", 3)},
    "bare": {
        "is_log": (LOG,), "made_log": (LOG,), "is_image": (LOG, (2, 0, 0)), "made_image": (LOG, (2, 0, 0)), "last": (LOG, 0), "number_of": (LOG, 0, 2),
        "version_at": (LOG, 0, 3), "bare": ((PUT, ADD), 3)},
    "known": {"known": (LOG, (2, 0, 0)), "grown": (LOG, (2, 0, 0))},
    "worlds": {"worlds": (RING, (0, 1)), "worlds_right": (RING, (0, 1), (1, 0), 0, 1)},
    "moves": {"move": (LOG, (2, 0, 0), (3, -1))},
    "plans": {
        "slice_at": (LOG, ((0, 2), (0, 1), (0, 1)), 2), "road": (LOG, (2, 0, 0)), "plan": (LOG, (2, 0, 0)), "after": (LOG, (2, 0, 0), ((3, -1),)),
        "plan_right": (LOG, (2, 1, 1), ()), "mendable": (LOG, (2, 0, 0))},
    "rings": {"order": (LOG,), "ring": (RING,), "ring_right": (RING, ((1, 2), (0, 1))), "ring_image": (RING,)},
    "knots": {"knots": (RING,), "written": (LOG, (2, 0, 0), (1,)), "may_write": (LOG, (2, 0, 0), (1,))},
    "heads": {"struck": (LOG, 1), "moved_image": (LOG, (2, 0, 0), 1), "may_strike": (LOG, (2, 0, 0), 1), "cut": (LOG, (2, 0, 0))},
    "carried": {"carried": (RING, (2, 1))},
    "logs": {
        "is_entry": ((2, "deed", PUT),), "made_entry": ((2, "deed", PUT),), "entry_line": ((1, "begin", None),), "read_line": ("1 begin 002726\n",)},
    "logread": {
        "is_roll": (ROLL,), "made_roll": (ROLL,), "roll_text": (ROLL,), "read_tape": ("1 begin 002726\n2 de",), "deeds_of": (ROLL,), "bare_of": (ROLL,),
        "newest": (ROLL, 0), "version_of": (ROLL, 0, 2), "number_at": (ROLL, 0, 1), "live_of": (ROLL[:3],), "works_of": (ROLL,)},
    "writer": {"shelf_text": (((0, 2, ROWS),),), "read_shelf": ("",)},
    "losers": {"begin_moment": (ROLL,), "backs_of": (ROLL[:3],)},
    "mending": {
        "stands_of": (written_disk,), "image_of": (ROLL, STANDS), "wounded_by": (ROLL, STANDS), "puts": (ROLL, ((0, ()),) * 32)},
    "opening": {"opened": (written_disk, 7)},
    "past": {"past": (written_disk, 0, 1), "reach": (written_disk, 0), "past_works": (begun_work,)},
    "papers": {"wounds": (wounded_disk,), "worlds_of": (wounded_disk, 1, 0)},
    "names": {"is_name": ("a",), "is_rowname": ("a",), "is_source": ("t.a",), "is_numbers": ((1, 2), 2)},
    "leaves": {"is_leaf_rows": (ROWS, 1), "leaf_sums": (ROWS, 1)},
    "branches": {"is_branch_rows": (BRANCH,), "row_of_way": (BRANCH, "z")},
    "trees": {
        "table_row": (look, "t.a"), "way": (look, "t.a", "n"), "references": (look,), "free_pages": (look,), "get": (look, "s.s", "k"),
        "walk": (look, "t.a", "a", "z"), "own_pages": (look, "t.a"), "shared": (look, "s.s", "t.a")},
    "sums": {"count": (look, "t.a", "l", None), "total": (look, "t.a", 0, None, "z"), "nth": (look, "s.s", 1)},
    "tables": {
        "made_storedeed": (("drop", "a", "k"),), "is_storedeed": (("drop", "a", "k"),),
        "planned": (VIEW, (("put", "a", "k", (6,)),), (("take", 1, 4, None, None),), "ringless")},
    "checker": {"faults": (VIEW,), "sound": (VIEW,), "meaning": (VIEW,)},
    "storetexts": {
        "storedeed_text": (("clear", "a", None, "k5"),), "read_storedeed": ("clear a - k5",), "store_text": (VIEW,), "read_store": ("t.a 1 9\nk 5\n",)},
}
METHOD_CALLS = {
    "Disk": {
        "__init__": (3,), "frame": (0,), "frame_ids": (), "tape": (), "safe": (), "shelf": (), "writes": (), "put_frame": (1, "ab"), "add_tape": ("x",),
        "sync": (), "put_shelf": ("x",), "cut_tape": ("",), "fell": (2, 5), "spoil_frame": (0, 3, "q"), "spoil_tape": (1, "q")},
    "Work": {
        "page": (0,), "number": (0,), "roll": (), "pending": (), "kept": (), "live": (), "dirty": (), "image": (), "begin": (), "do": (TAKE,), "end": (),
        "give_up": (), "flush_log": (), "sync_log": (), "may_go": (0,), "write": (0,), "write_knot": (0,), "write_all": (), "checkpoint": (),
        "cut_head": ()},
    "Store": {"__init__": (begun_work, "short"), "do": (("make", "a", 1, 9),), "do_all": ((("make", "a", 1, 9), ("put", "a", "k", (5,))),), "view": ()},
}


def seen(thing):
    """What can be compared of a result or an object; of a disk also when it falls."""
    if isinstance(thing, Disk):
        told = [disk_text(thing), thing.writes()]
        while len(told) < 12:
            try:
                thing.sync()
                told.append("written")
            except Refused as error:
                told.append(error.what)
        return told
    if isinstance(thing, Work):
        return thing.roll(), thing.pending(), thing.dirty(), thing.image(), seen(thing._disk), thing._room
    if isinstance(thing, Store):
        return thing.view(), thing._manner
    return thing


def fresh(arguments):
    return [argument() if callable(argument) and argument is not look else argument for argument in arguments]


def parameters(signature):
    names = signature.partition("(")[2][:-1].split(", ")
    return [name.partition("=")[0] for name in names if name and name != "self"]


def holder(kind, method):
    """An object whose method can be called."""
    if kind == "Disk":
        return written_disk()
    if kind == "Store":
        return Store(opened(Disk()), "short")
    work = begun_work()
    if method == "begin":
        work.end()
    return work


class Named(unittest.TestCase):
    def check(self, names, arguments, by_position, by_name):
        self.assertEqual(len(names), len(arguments), names)
        expected = by_position(*fresh(arguments))
        pairs = list(zip(names, arguments))
        for turned in (pairs[::-1], pairs[1:] + pairs[:1], pairs):
            values = fresh([argument for _, argument in turned])
            self.assertEqual(by_name(**{name: value for (name, _), value in zip(turned, values)}), expected, names)

    def test_functions(self):
        self.assertEqual({name: {each.partition("(")[0] for each in signatures} for name, signatures in FUNCTIONS.items()},
                         {name: set(calls) for name, calls in CALLS.items()})
        for name, signatures in FUNCTIONS.items():
            module = importlib.import_module("wendleaf." + name)
            for signature in signatures:
                function = vars(module)[signature.partition("(")[0]]

                def call(*arguments, **named):
                    return seen(function(*arguments, **named))

                self.check(parameters(signature), CALLS[name][function.__name__], call, call)

    def test_classes_and_methods(self):
        for (name, kind), signatures in METHODS.items():
            made = vars(importlib.import_module("wendleaf." + name))[kind]
            self.assertEqual({each.partition("(")[0] for each in signatures}, set(METHOD_CALLS[kind]))
            for signature in signatures:
                method = signature.partition("(")[0]

                def call(*arguments, **named):
                    if method == "__init__":
                        return seen(made(*arguments, **named))
                    thing = holder(kind, method)
                    found = getattr(thing, method)(*arguments, **named)
                    return seen(found), seen(thing)

                self.check(parameters(signature), METHOD_CALLS[kind][method], call, call)

    def test_what_may_be_left_out(self):
        self.assertEqual(seen(opened(disk=written_disk())), seen(opened(written_disk(), 32)))
        self.assertEqual(seen(Disk()), seen(Disk(fuse=None)))
        self.assertEqual(seen(written_disk().fell(keep=1)), seen(written_disk().fell(1, None)))


if __name__ == "__main__":
    unittest.main()
