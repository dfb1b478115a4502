"""That what DOC.md lists as the interface exists, with its arguments, in the file where it is listed."""

import importlib
import inspect
import pathlib
import unittest

from helpers import ERRORS

INTERFACE = {
    "errors": {**ERRORS},
    "forms": {name: ("thing",) for name in
              ("is_integer", "is_name", "is_term", "is_code", "is_guard", "is_fact", "is_world")},
    "terms": {"subterms": ("term",), "closed": ("terms",), "things": ("term",), "put_in": ("term", "names")},
    "worlds": {"worth": ("term", "world"), "alike": ("one", "other", "world"), "all_hold": ("facts", "world"),
               "thinned": ("world", "terms")},
    "shapes": {"shape": ("terms", "world"), "is_shape": ("terms", "thing"), "shapes": ("terms",),
               "finest": ("terms", "pairs"), "is_finer": ("one", "other"), "world_of": ("shape",)},
    "facts": {"can_hold": ("facts",), "world_for": ("facts",), "follows": ("facts", "fact"),
              "least_grounds": ("facts", "fact")},
    "reasons": {"reason": ("facts", "one", "other"), "is_reason": ("facts", "one", "other", "thing")},
    "codes": {"answer": ("code", "world"), "ways": ("code",), "asked": ("things",), "told_at": ("code", "shape"),
              "depth": ("code",), "trimmed": ("code",)},
    "sameness": {"do_same": ("one", "other"), "parting_world": ("one", "other"),
                 "is_parting_world": ("one", "other", "thing"), "paper": ("one", "other"),
                 "is_paper": ("one", "other", "thing"), "idle_ifs": ("code",), "lean": ("code",)},
    "programs": {"is_long": ("thing",), "Program": ("functions",)},
    "whole": {"whole": ("program", "function"), "ran": ("program", "function", "world")},
    "places": {"places": ("program", "function"), "part_at": ("program", "function", "place"), "is_edit": ("program", "thing"),
               "edited": ("program", "edits"), "least_edits": ("program", "edits", "function")},
    "guards": {"guard_holds": ("guard", "world"), "can": ("guard",), "same_guard": ("one", "other"), "within": ("one", "other"),
               "both": ("one", "other"), "either": ("one", "other"), "opposite": ("guard",), "guard_world": ("guard",),
               "fewest_tests": ("guard",), "shallow": ("guard",)},
    "changes": {"changes_in": ("base", "after", "world"), "is_idle": ("base", "after"), "is_less": ("base", "one", "other"),
                "where": ("base", "after"), "narrowed": ("base", "after", "guard"), "common": ("base", "one", "other")},
    "keeping": {"wanted": ("base", "afters", "world"), "quarrel_world": ("base", "afters"),
                "losing_world": ("base", "afters", "code"), "is_quarrel_world": ("base", "afters", "thing"),
                "is_losing_world": ("base", "afters", "code", "thing"), "keeps": ("base", "afters", "code"), "kept": ("base", "afters")},
    "peace": {"peace": ("base", "afters"), "kept_under": ("base", "afters", "guard")},
    "many": {"quarrels": ("base", "afters"), "kept_lots": ("base", "afters"), "left_out": ("base", "afters")},
    "settling": {"settled": ("base", "afters", "order"), "shows": ("base", "afters", "order", "index"),
                 "orders_for": ("base", "afters", "wishes"), "order_lots": ("base", "afters")},
    "merging": {"made": ("program", "sheets"), "clashes": ("sheets",), "losing_lots": ("program", "sheets", "function"),
                "merged": ("program", "sheets"), "verdict": ("program", "sheets", "function"),
                "lost_world": ("program", "sheets", "function"), "is_lost_world": ("program", "sheets", "function", "thing")},
    "carrying": {"carried": ("before", "after", "base"), "over": ("base", "one", "other"), "left_world": ("before", "after", "base"),
                 "is_exact": ("before", "after", "base"), "back_again": ("before", "after", "base")},
    "versions": {"turns": ("versions", "world"), "idle_steps": ("versions",), "hangs": ("versions", "world"),
                 "without": ("versions", "lot"), "can_turn": ("versions", "step")},
    "claims": {"is_claim": ("thing",), "keeps_claim": ("code", "claim"), "is_breaking_world": ("code", "claim", "thing"),
               "stands": ("base", "claim", "guard"), "breaking_world": ("code", "claim"),
               "lost_claims": ("base", "afters", "code", "claims")},
    "pinning": {"pins": ("codes", "index", "claims"), "told_apart": ("codes", "claims")},
    "machines": {"Machine": ("inputs", "rules"), "folded": ("machine",), "say_same": ("one", "other"), "are_pairs": ("one", "other", "thing"),
                 "parting_row": ("one", "other"), "pairs": ("one", "other")},
    "keptmachines": {"wanted_at": ("base", "afters", "row"), "quarrel_row": ("base", "afters"), "losing_row": ("base", "afters", "machine"),
                     "kept_machine": ("base", "afters"), "settled_machine": ("base", "afters", "order"), "calm": ("base", "afters", "row")},
    "notation": {"show_" + name: (name,) for name in ("term", "code", "guard", "fact", "claim", "world", "edit", "program")},
    "readers": {"read_" + name: ("text",) for name in ("term", "code", "guard", "fact", "claim", "world", "edit", "program")},
    "books": {"Book": ("base",)},
    "desk": {"Desk": ("base",)},
}
METHODS = {
    ("programs", "Program"): {"functions": (), "givens": ("function",), "code": ("function",), "reaches": ("function",),
                              "with_code": ("function", "code"), "__init__": ("functions",), "__eq__": ("other",)},
    ("machines", "Machine"): {"inputs": (), "rules": (), "said": ("row",), "state_behind": ("row",),
                              "__init__": ("inputs", "rules"), "__eq__": ("other",), "__len__": ()},
    ("books", "Book"): {"do": ("deed",), "editors": (), "claims": (), "log": (), "sheet": ("editor",), "word": ("function",), "back": (), "again": (),
                        "copied": (), "trial": ("deeds",), "__init__": ("base",), "__eq__": ("other",), "__len__": ()},
    ("desk", "Desk"): {"execute": ("line",), "book": (), "__init__": ("base",)},
}
PROPERTIES = {("books", "Book"): ("base", "program")}


class InterfaceTest(unittest.TestCase):
    def test_all_is_there_with_its_arguments(self):
        for file, names in INTERFACE.items():
            module = importlib.import_module("answerskept." + file)
            for name, arguments in names.items():
                thing = getattr(module, name)
                self.assertEqual(thing.__module__, "answerskept." + file, name)
                if arguments or inspect.isfunction(thing):
                    self.assertEqual(tuple(inspect.signature(thing).parameters), arguments, name)

    def test_methods_stand_in_their_classes(self):
        for (file, name), methods in METHODS.items():
            made = getattr(importlib.import_module("answerskept." + file), name)
            for method, arguments in methods.items():
                self.assertIn(method, vars(made))
                self.assertEqual(tuple(inspect.signature(vars(made)[method]).parameters)[1:], arguments, method)

    def test_properties(self):
        for (file, name), properties in PROPERTIES.items():
            made = getattr(importlib.import_module("answerskept." + file), name)
            for each in properties:
                self.assertIsInstance(vars(made)[each], property)

    def test_errors_are_kept_in_their_file(self):
        for path in sorted(pathlib.Path(importlib.import_module("answerskept").__file__).parent.glob("*.py")):
            module = importlib.import_module("answerskept." + path.stem) if path.stem != "__init__" else None
            for thing in vars(module).values() if module else ():
                if inspect.isclass(thing) and issubclass(thing, ValueError) and thing is not ValueError:
                    self.assertEqual(thing.__module__, "answerskept.errors")


if __name__ == "__main__":
    unittest.main()
