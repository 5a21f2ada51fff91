"""The interface: each name in its module, each argument by its name, in the order told."""

import importlib
import inspect
import unittest

FUNCTIONS = {
    "programs": {"program_text": "program", "read_program": "text"},
    "plain": {
        "plain_worths": "web program rounds", "plain_heard": "web program rounds", "worths_by_pieces": "pieces program",
        "heard_by_pieces": "pieces program",
    },
    "ways": {"lets": "web way", "by_neighbours": "web", "by_tree": "web", "by_clusters": "web reach"},
    "roads": {"roads": "web way", "holds": "web way paper"},
    "times": {"ends": "web way program rounds lates rest", "latest": "web way program rounds most"},
    "worlds": {
        "hall_at": "web way program rounds world", "worlds": "web way program rounds most",
        "is_closed": "web way program rounds found",
    },
    "settings": {
        "setting_text": "web way program rounds", "read_setting": "text", "replay": "web way program rounds deeds",
    },
}
# For each class what it is made of, and its methods.
CLASSES = {
    "webs": {"Web": ("hands lines", {
        "hands": "", "lines": "", "neighbours": "hand", "groups": "", "has_hand": "hand", "has_line": "one other",
    })},
    "exprs": {
        "Expr": ("", {}), "Num": ("value", {"reckon": "worths", "told": ""}),
        "Name": ("word", {"reckon": "worths", "told": ""}), "Two": ("word one other", {"reckon": "worths", "told": ""}),
        "Mod": ("inner number", {"reckon": "worths", "told": ""}),
        "Less": ("one other third fourth", {"reckon": "worths", "told": ""}),
    },
    "programs": {"Program": ("start send when renew", {
        "first_worth": "hand lines", "word_to": "worth hand turn lines other",
        "next_worth": "worth hand turn lines heard",
    })},
    "ways": {"Way": ("parents bridges", {
        "parent_of": "hand", "all_parents": "", "all_bridges": "", "leader": "hand", "depth": "", "depth_of": "hand",
        "children": "hand", "bridges_at": "hand",
    })},
    "seats": {"Seat": ("web way program rounds hand", {
        "begin": "", "take": "letter", "ended": "", "worth": "turn", "heard": "turn",
    })},
    "halls": {"Hall": ("web way program rounds", {
        "road": "", "carry": "number", "ended": "hand", "worth": "hand turn", "heard": "hand turn", "done": "",
        "web_now": "", "way_now": "", "sent": "kind turn", "fall": "hand", "cut": "one other", "mend": "web way",
        "pieces": "",
    })},
}
REFUSALS = "NoWeb NoHand NoProgram NoText NoWay NoLetter NoRound Fallen NoLine NoWorld NoDeed".split()


class Interface(unittest.TestCase):
    def check(self, call, names):
        parameters = inspect.signature(call).parameters.values()
        self.assertEqual([each.name for each in parameters], names.split())
        for each in parameters:
            self.assertIs(each.kind, inspect.Parameter.POSITIONAL_OR_KEYWORD)
            self.assertIs(each.default, inspect.Parameter.empty)

    def test_functions(self):
        for module, functions in FUNCTIONS.items():
            for name, names in functions.items():
                function = getattr(importlib.import_module("beatless." + module), name)
                self.assertTrue(inspect.isfunction(function), name)
                self.check(function, names)

    def test_classes_and_methods(self):
        for module, classes in CLASSES.items():
            for name, (names, methods) in classes.items():
                made = getattr(importlib.import_module("beatless." + module), name)
                self.assertTrue(inspect.isclass(made), name)
                self.check(made, names)
                for method, own_names in methods.items():
                    self.check(getattr(made, method), ("self " + own_names).strip())

    def test_expressions_stand_under_expr(self):
        exprs = importlib.import_module("beatless.exprs")
        for name in ("Num", "Name", "Two", "Mod", "Less"):
            self.assertEqual(getattr(exprs, name).__bases__, (exprs.Expr,))

    def test_refusals_stand_right_under_one_base(self):
        errors = importlib.import_module("beatless.errors")
        self.assertEqual(errors.BeatlessError.__bases__, (ValueError,))
        for name in REFUSALS:
            self.assertEqual(getattr(errors, name).__bases__, (errors.BeatlessError,))


if __name__ == "__main__":
    unittest.main()
