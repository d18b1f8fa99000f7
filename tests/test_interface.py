"""The names and arguments of the interface, and the files in which they are defined."""

import inspect
import unittest

from hymnplates.cases import Case
from hymnplates.fonts import Font

# Of each class the methods with their arguments, the class methods, the properties and the class values.
LISTED = [
    (Font, "hymnplates.fonts",
     {"__init__": ["self", "signs", "turns"], "__len__": ["self"], "__contains__": None, "__eq__": None,
      "turned": ["self", "sign"], "shown": ["self", "kind"], "kept": ["self", "kind"]},
     {"digits": [], "of": ["signs"]}, ["signs", "turns"], {"MAX_SIGNS": 10}),
    (Case, "hymnplates.cases",
     {"__init__": ["self", "font", "plates"], "__contains__": None, "__getitem__": None, "__eq__": None,
      "__or__": None, "__sub__": None, "bearing": ["self", "signs"]},
     {"read": ["text"]}, ["font", "plates", "kinds", "size", "text"], {"MAX_COUNT": 10 ** 30}),
]


class InterfaceTest(unittest.TestCase):

    def test_classes_are_defined_in_their_files(self):
        for listed, module, *_ in LISTED:
            self.assertEqual(listed.__module__, module)
            self.assertEqual(listed.__bases__, (object,))

    def test_methods_are_defined_in_their_classes(self):
        for listed, _, methods, *_ in LISTED:
            for name, arguments in methods.items():
                with self.subTest(listed=listed, name=name):
                    method = vars(listed)[name]
                    if arguments is not None:
                        self.assertEqual(list(inspect.signature(method).parameters), arguments)

    def test_class_methods(self):
        for listed, _, _, methods, *_ in LISTED:
            for name, arguments in methods.items():
                with self.subTest(listed=listed, name=name):
                    self.assertIsInstance(vars(listed)[name], classmethod)
                    self.assertEqual(list(inspect.signature(getattr(listed, name)).parameters), arguments)

    def test_properties_and_class_values(self):
        for listed, _, _, _, properties, values in LISTED:
            for name in properties:
                self.assertIsInstance(vars(listed)[name], property)
            for name, value in values.items():
                self.assertEqual(vars(listed)[name], value)


if __name__ == "__main__":
    unittest.main()
