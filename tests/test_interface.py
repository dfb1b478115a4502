"""That what DOC.md lists as the interface exists, with its arguments, in the file where it is listed."""

import importlib
import inspect
import unittest

from helpers import ERRORS

INTERFACE = {
    "errors": {**ERRORS},
    "forms": {name: ("thing",) for name in
              ("is_integer", "is_name", "is_term", "is_code", "is_guard", "is_fact", "is_world")},
    "terms": {"subterms": ("term",), "closed": ("terms",), "things": ("term",), "put_in": ("term", "names")},
    "worlds": {"worth": ("term", "world"), "alike": ("one", "other", "world"), "all_hold": ("facts", "world"),
               "thinned": ("world", "terms")},
    "shapes": {"shape": ("terms", "world"), "is_shape": ("terms", "thing"), "shapes": ("terms",),
               "finest": ("terms", "pairs"), "is_finer": ("one", "other"), "world_of": ("shape",)},
    "facts": {"can_hold": ("facts",), "world_for": ("facts",), "follows": ("facts", "fact"),
              "least_grounds": ("facts", "fact")},
    "reasons": {"reason": ("facts", "one", "other"), "is_reason": ("facts", "one", "other", "thing")},
    "codes": {"answer": ("code", "world"), "ways": ("code",), "asked": ("things",), "told_at": ("code", "shape"),
              "depth": ("code",), "trimmed": ("code",)},
    "sameness": {"do_same": ("one", "other"), "parting_world": ("one", "other"),
                 "is_parting_world": ("one", "other", "thing"), "paper": ("one", "other"),
                 "is_paper": ("one", "other", "thing"), "idle_ifs": ("code",), "lean": ("code",)},
}


class InterfaceTest(unittest.TestCase):
    def test_all_is_there_with_its_arguments(self):
        for file, names in INTERFACE.items():
            module = importlib.import_module("answerskept." + file)
            for name, arguments in names.items():
                thing = getattr(module, name)
                self.assertEqual(thing.__module__, "answerskept." + file, name)
                if arguments or inspect.isfunction(thing):
                    self.assertEqual(tuple(inspect.signature(thing).parameters), arguments, name)


if __name__ == "__main__":
    unittest.main()
