"""What the document's interface lists stands in the files and in the class bodies for which it is listed."""

import inspect
import unittest

from orplaces import classes, desk, equivalence, floors, frames, kinds, knots, landings, machines, names, needs, patches
from orplaces import programs, reader, rows, runners, search, signals, stores, texts

LISTED = {
    names: {"is_name": None},
    rows: {"Rows": "__init__ of full number having never __contains__ __len__ __eq__ __repr__"},
    signals: {
        "Signals": "__init__ MOST of __getitem__ __or__ within __bool__ __len__ __eq__ __str__ __repr__",
        "merged": None, "Draft": "__init__ __getitem__ __setitem__ put __ior__ present __eq__ __repr__"},
    kinds: {
        "Kind": "__init__ mask __call__ reach __eq__ MOST_BIT", "Test": "__init__", "Window": "__init__ of",
        "AnyOf": "__init__ of", "TestWindow": "__init__", "Masks": "__init__"},
    machines: {"Machine": "shown stepped reached"},
    stores: {
        "Word": "__init__ of __getitem__ __eq__ __str__",
        "Store": "__init__ locked blank __len__ __contains__ __getitem__ words __setitem__ write erase __call__ path "
                 "differs __eq__ __or__ __ior__ twin with_locks trial",
        "in_trial": None},
    frames: {
        "Frame": "__init__ of MOST_WIDTH MOST_FIELDS MOST_KINDS size idle __getitem__ __contains__ __len__ __eq__ "
                 "landing page pages check wider with_kinds without with_rows"},
    programs: {
        "State": "__init__ of leads __eq__",
        "Program": "__init__ listed of MOST __getitem__ __contains__ __len__ names __call__ __or__ apart __eq__"},
    classes: {"Classes": "__init__ groups __len__ __contains__ number signals_of tag_of led way parting partings "
                         "is_partition"},
    equivalence: {name: None for name in ["parting", "table", "is_table", "walk", "carries", "failing"]},
    landings: {"Landings": "__init__ __len__ in_order __contains__ __getitem__ right",
               "clashes": None, "can_keep": None, "fresh_pages": None, "hidden": None},
    knots: {"Knot": "first committed waiting landing_of closed asked __bool__ cases after end_store"},
    search: {"Outcome": "starts given __bool__ __len__ lines", "Made": "result __bool__ __len__",
             "Barred": "__bool__ __len__", "grown": None, "least": None},
    floors: {"check_made": None, "check_floor": None, "check_bar": None},
    needs: {"lock_costs": None, "must_write": None},
    patches: {"changed": None, "arrivals": None, "is_alone": None},
    runners: {"Runner": "__init__ place raised steps shown step __call__ run trial tried __repr__",
              "assign_place": None, "assign_raised": None},
    texts: {name: None for name in ["row_text", "signals_text", "word_text", "frame_text", "program_text", "store_text",
                                    "floor_text"]},
    reader: {name: None for name in ["read_frame", "read_program", "read_store", "read_floor", "read_word", "read_row"]},
    desk: {"Desk": "__init__ starts say __call__ run", "listing": None},
}


class InterfaceTest(unittest.TestCase):
    def test_defined_where_it_is_listed(self):
        for module, listed in LISTED.items():
            for name, members in listed.items():
                found = vars(module)[name]
                self.assertEqual(found.__module__, module.__name__, name)
                self.assertEqual(inspect.isclass(found), members is not None)
                for member in (members or "").split():
                    self.assertIn(member, vars(found), name)
