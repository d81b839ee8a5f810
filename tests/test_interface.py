import importlib
import inspect
import unittest

FUNCTIONS = {
    "rows": ("is_key(thing)", "is_value(thing)", "is_rows(thing)", "made_rows(thing)", "at(rows, key)",
             "between(rows, low, high)", "with_row(rows, key, value)"),
    "frames": ("sum_of(text)", "frame_text(page, number, rows)", "read_frame(text)"),
    "deeds": ("is_deed(thing)", "made_deed(thing)", "page_of(deed)", "reads_of(deed)", "inverse(deed)"),
    "deedrun": ("done(deed, rows, look)", "back(deed, rows, look)", "fits(deed, rows, look)"),
    "deedtexts": ("deed_text(deed)", "read_deed(text)"),
    "disk": ("disk_text(disk)", "read_disk(text, fuse=None)"),
    "bare": ("is_log(thing)", "made_log(thing)", "is_image(log, image)", "made_image(log, image)", "last(log, page)",
             "number_of(log, page, version)", "version_at(log, page, moment)", "bare(deeds, many)"),
    "known": ("known(log, image)", "grown(log, image)"),
    "worlds": ("worlds(log, image)", "worlds_right(log, image, paper, x, k)"),
    "moves": ("move(log, image, thing)",),
    "plans": ("slice_at(log, lots, s)", "road(log, image)", "plan(log, image)", "after(log, image, moves)",
              "plan_right(log, image, moves)", "mendable(log, image)"),
    "rings": ("order(log)", "ring(log)", "ring_right(log, thing)", "ring_image(log)"),
    "knots": ("knots(log)", "written(log, image, lot)", "may_write(log, image, lot)"),
    "heads": ("struck(log, count)", "moved_image(log, image, count)", "may_strike(log, image, count)", "cut(log, image)"),
    "carried": ("carried(log, costs)",),
    "logread": ("is_roll(thing)", "made_roll(thing)", "roll_text(roll)", "read_tape(text)", "deeds_of(roll)", "bare_of(roll)",
                "newest(roll, page)", "version_of(roll, page, number)", "number_at(roll, page, version)", "live_of(roll)",
                "works_of(roll)"),
    "writer": ("shelf_text(frames)", "read_shelf(text)"),
    "losers": ("begin_moment(roll)", "backs_of(roll)"),
    "mending": ("stands_of(disk)", "image_of(roll, stands)", "wounded_by(roll, stands)", "puts(roll, stands)"),
    "opening": ("opened(disk, room=32)",),
    "past": ("past(disk, page, moment)", "reach(disk, page)", "past_works(work)"),
    "papers": ("wounds(disk)", "worlds_of(disk, page, moment)"),
    "names": ("is_name(thing)", "is_rowname(thing)", "is_source(thing)", "is_numbers(thing, width)"),
    "leaves": ("is_leaf_rows(rows, width)", "leaf_sums(rows, width)"),
    "branches": ("is_branch_rows(rows)", "row_of_way(rows, name)"),
    "trees": ("table_row(look, source)", "way(look, source, name)", "references(look)", "free_pages(look)", "get(look, source, name)",
              "walk(look, source, low, high)", "own_pages(look, source)", "shared(look, one, two)"),
    "sums": ("count(look, source, low, high)", "total(look, source, i, low, high)", "nth(look, source, k)"),
    "tables": ("made_storedeed(thing)", "is_storedeed(thing)", "planned(view, deeds, kept, manner)"),
    "checker": ("faults(view)", "sound(view)", "meaning(view)"),
    "storetexts": ("storedeed_text(deed)", "read_storedeed(text)", "store_text(view)", "read_store(text)"),
    "logs": ("is_entry(thing)", "made_entry(thing)", "entry_line(entry)", "read_line(line)"),
}
METHODS = {
    ("disk", "Disk"): (
        "__init__(self, fuse=None)", "frame(self, page)", "frame_ids(self)", "tape(self)", "safe(self)", "shelf(self)", "writes(self)",
        "put_frame(self, page, text)", "add_tape(self, text)", "sync(self)", "put_shelf(self, text)", "cut_tape(self, text)",
        "fell(self, keep, fuse=None)", "spoil_frame(self, page, place, sign)", "spoil_tape(self, place, sign)",
    ),
    ("works", "Work"): (
        "page(self, page)", "number(self, page)", "roll(self)", "pending(self)", "kept(self)", "live(self)", "dirty(self)", "image(self)",
        "begin(self)", "do(self, deed)", "end(self)", "give_up(self)", "flush_log(self)", "sync_log(self)", "may_go(self, page)",
        "write(self, page)", "write_knot(self, page)", "write_all(self)", "checkpoint(self)", "cut_head(self)",
    ),
    ("store", "Store"): ("__init__(self, work, manner)", "do(self, deed)", "do_all(self, deeds)", "view(self)"),
}


class Interface(unittest.TestCase):
    def check(self, holder, module, signature):
        name = signature.partition("(")[0]
        function = vars(holder)[name]
        self.assertTrue(inspect.isfunction(function), signature)
        self.assertEqual(function.__module__, module, signature)
        self.assertEqual(name + str(inspect.signature(function)), signature)

    def test_functions_are_defined_where_the_interface_lists_them(self):
        for name, signatures in FUNCTIONS.items():
            module = importlib.import_module("wendleaf." + name)
            for signature in signatures:
                self.check(module, module.__name__, signature)

    def test_methods_are_defined_in_the_class_itself(self):
        for (name, kind), signatures in METHODS.items():
            module = importlib.import_module("wendleaf." + name)
            self.assertEqual(vars(module)[kind].__module__, module.__name__)
            for signature in signatures:
                self.check(vars(module)[kind], module.__name__, signature)


if __name__ == "__main__":
    unittest.main()
