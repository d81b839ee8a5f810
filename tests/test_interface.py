import importlib
import inspect
import unittest

FUNCTIONS = {
    "rows": ("is_key(thing)", "is_value(thing)", "is_rows(thing)", "made_rows(thing)", "at(rows, key)",
             "between(rows, low, high)", "with_row(rows, key, value)"),
    "frames": ("sum_of(text)", "frame_text(page, number, rows)", "read_frame(text)"),
    "deeds": ("is_deed(thing)", "made_deed(thing)", "page_of(deed)", "reads_of(deed)", "inverse(deed)"),
    "deedrun": ("done(deed, rows, look)", "back(deed, rows, look)", "fits(deed, rows, look)"),
    "deedtexts": ("deed_text(deed)", "read_deed(text)"),
    "disk": ("disk_text(disk)", "read_disk(text, fuse=None)"),
    "bare": ("is_log(thing)", "made_log(thing)", "is_image(log, image)", "made_image(log, image)", "last(log, page)",
             "number_of(log, page, version)", "version_at(log, page, moment)", "bare(deeds, many)"),
    "known": ("known(log, image)", "grown(log, image)"),
    "worlds": ("worlds(log, image)", "worlds_right(log, image, paper, x, k)"),
    "moves": ("move(log, image, thing)",),
    "plans": ("slice_at(log, lots, s)", "road(log, image)", "plan(log, image)", "after(log, image, moves)",
              "plan_right(log, image, moves)", "mendable(log, image)"),
    "rings": ("order(log)", "ring(log)", "ring_right(log, thing)", "ring_image(log)"),
    "knots": ("knots(log)", "written(log, image, lot)", "may_write(log, image, lot)"),
    "heads": ("struck(log, count)", "moved_image(log, image, count)", "may_strike(log, image, count)", "cut(log, image)"),
    "carried": ("carried(log, costs)",),
    "logs": ("is_entry(thing)", "made_entry(thing)", "entry_line(entry)", "read_line(line)"),
}
METHODS = (
    "__init__(self, fuse=None)", "frame(self, page)", "frame_ids(self)", "tape(self)", "safe(self)", "shelf(self)",
    "writes(self)", "put_frame(self, page, text)", "add_tape(self, text)", "sync(self)", "put_shelf(self, text)",
    "cut_tape(self, text)", "fell(self, keep, fuse=None)", "spoil_frame(self, page, place, sign)",
    "spoil_tape(self, place, sign)",
)


class Interface(unittest.TestCase):
    def check(self, holder, module, signature):
        name = signature.partition("(")[0]
        function = vars(holder)[name]
        self.assertTrue(inspect.isfunction(function), signature)
        self.assertEqual(function.__module__, module, signature)
        self.assertEqual(name + str(inspect.signature(function)), signature)

    def test_functions_are_defined_where_the_interface_lists_them(self):
        for name, signatures in FUNCTIONS.items():
            module = importlib.import_module("wendleaf." + name)
            for signature in signatures:
                self.check(module, module.__name__, signature)

    def test_methods_are_defined_in_the_class_itself(self):
        disk = importlib.import_module("wendleaf.disk").Disk
        self.assertEqual(disk.__module__, "wendleaf.disk")
        for signature in METHODS:
            self.check(disk, "wendleaf.disk", signature)


if __name__ == "__main__":
    unittest.main()
