"""The names and arguments of the interface, and the files in which they are defined."""

import importlib
import inspect
import unittest

from hymnplates.cases import Case
from hymnplates.chests import Chest, CountedChest, GuardedChest, GuardedCountedChest
from hymnplates.desk import Desk
from hymnplates.fonts import Font
from hymnplates.vestries import Vestry
from hymnplates.wants import Wants

# The methods of all that is edited.
EDITS = {"put": ["self", "kind", "count"], "take": ["self", "kind", "count"], "paint": ["self", "kind", "other", "count"],
         "apply": ["self", "edits"], "undo": ["self", "count"], "redo": ["self", "count"], "history": ["self"],
         "attempt": ["self", "action"], "explore": ["self", "action"]}

# Of each class the methods with their arguments, the class methods, the properties and the class values.
LISTED = [
    (Font, "hymnplates.fonts",
     {"__init__": ["self", "signs", "turns"], "__len__": ["self"], "__contains__": None, "__eq__": None,
      "turned": ["self", "sign"], "shown": ["self", "kind"], "kept": ["self", "kind"]},
     {"digits": [], "of": ["signs"]}, ["signs", "turns"], {"MAX_SIGNS": 10}),
    (Case, "hymnplates.cases",
     {"__init__": ["self", "font", "plates"], "__contains__": None, "__getitem__": None, "__eq__": None,
      "__or__": None, "__sub__": None, "bearing": ["self", "signs"]},
     {"read": ["text"]}, ["font", "plates", "kinds", "size", "text"], {"MAX_COUNT": 10 ** 30}),
    (Wants, "hymnplates.wants",
     {"__init__": ["self", "font", "counts"], "__getitem__": None, "__eq__": None, "__bool__": None, "__add__": None,
      "__mul__": None, "want": ["self", "signs"], "is_within": ["self", "other"]},
     {"of": ["font", "row"], "none": ["font"]}, ["font", "counts", "total"], {}),
    *[(chest, "hymnplates.chests", {"__init__": ["self", "case"] + wants, "__eq__": None, **EDITS, **more}, {},
       ["case", "depth"] + held, {}) for chest, wants, more, held in [
          (Chest, [], {}, []), (CountedChest, [], {}, ["counts"]),
          (GuardedChest, ["wants"], {"set_wants": ["self", "wants"]}, ["wants"]),
          (GuardedCountedChest, ["wants"], {"set_wants": ["self", "wants"]}, ["wants", "counts"])]],
    (Vestry, "hymnplates.vestries",
     {"__init__": ["self", "case", "hooks", "costs"], "__eq__": None, **EDITS, "show": ["self", "row", "gets"],
      "cheapest": ["self", "row"]}, {}, ["case", "hung", "row", "work", "all_plates", "depth"], {}),
    (Desk, "hymnplates.desk",
     {"__init__": ["self", "case"], "execute": ["self", "line"], "run": ["self", "lines"], "__call__": ["self", "line"]},
     {}, ["chest"], {}),
]

# Of each file the functions with their arguments; those that may be left out have their values.
FUNCTIONS = {
    "hanging": ["answer(case, wants)", "hangs(case, wants)", "is_plan(case, wants, value)",
                "is_lack(case, wants, value)", "shortage(case, wants)", "worst_sets(case, wants)",
                "lots(case, wants)", "copies(case, wants, others=None)", "ladder(case, wants, others=None)"],
    "uses": ["use_range(case, wants, kind, sign)", "plan_with(case, wants, kind, sign, number)",
             "spare(case, wants, kind)"],
    "likeness": ["exact(case)", "alike(case, other)", "exact_of(font, bearings)"],
    "rows": ["count_rows(case, length)", "row_at(case, length, index)", "row_index(case, row)"],
    "worths": ["best(case, wants, worths)", "is_best(case, wants, worths, value)"],
    "prices": ["sale(case, wants, worths)", "is_sale(case, wants, worths, value)", "purchase(case, wants, prices)",
               "is_purchase(case, wants, prices, value)"],
    "trades": ["trade(case, first, second, prices, worths=None)", "is_trade(case, first, second, prices, worths, value)"],
    "changes": ["change(case, hung, row, costs)", "is_change(case, hung, row, costs, value)"],
    "carriages": ["carriage(churches, ways)", "is_carriage(churches, ways, value)"],
    "streets": ["written(font, number)", "number_of(font, row)", "street(font, first, last)", "longest_street(case, first)",
                "count_with(font, last, signs, share)", "nth_with(font, last, signs, share, index)"],
    "books": ["worst_share(font, last, k, signs)", "is_safe(case, last, k)", "choice(case, last, k)",
              "is_choice(case, last, k, value)", "jokers(case, last, k)", "largest_book(case, k)",
              "most_numbers(case, last)"],
    "desk": ["table(case)"],
}


class InterfaceTest(unittest.TestCase):

    def test_classes_are_defined_in_their_files(self):
        for listed, module, *_ in LISTED:
            self.assertEqual(listed.__module__, module)

    def test_which_chests_are_which(self):
        chests = [Chest, GuardedChest, CountedChest, GuardedCountedChest]
        below = [[issubclass(one, other) for other in chests] for one in chests]
        self.assertEqual(below, [[True, False, False, False], [True, True, False, False], [True, False, True, False],
                                 [True] * 4])
        self.assertFalse(issubclass(Vestry, Chest) or issubclass(Desk, Chest))

    def test_methods_are_defined_in_their_classes(self):
        for listed, _, methods, *_ in LISTED:
            for name, arguments in methods.items():
                with self.subTest(listed=listed, name=name):
                    method = vars(listed)[name]
                    if arguments is not None:
                        self.assertEqual(list(inspect.signature(method).parameters), arguments)

    def test_class_methods(self):
        for listed, _, _, methods, *_ in LISTED:
            for name, arguments in methods.items():
                with self.subTest(listed=listed, name=name):
                    self.assertIsInstance(vars(listed)[name], classmethod)
                    self.assertEqual(list(inspect.signature(getattr(listed, name)).parameters), arguments)

    def test_functions_are_defined_in_their_files(self):
        for file, listed in FUNCTIONS.items():
            module = importlib.import_module(f"hymnplates.{file}")
            for line in listed:
                with self.subTest(line):
                    name = line.split("(")[0]
                    function = vars(module)[name]
                    self.assertEqual(f"{name}{inspect.signature(function)}", line)
                    self.assertEqual(function.__module__, module.__name__)

    def test_properties_and_class_values(self):
        for listed, _, _, _, properties, values in LISTED:
            for name in properties:
                self.assertIsInstance(vars(listed)[name], property)
            for name, value in values.items():
                self.assertEqual(vars(listed)[name], value)


if __name__ == "__main__":
    unittest.main()
