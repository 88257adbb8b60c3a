"""The files of the package keep the rules of the language, and hold what the interface lists."""

import ast
import importlib
import unittest

from tests.language import ROOT, check_tries, check_walks, complaints, files, rings

INTERFACE = {
    "errors": ["ConceptError", "BadConcept", "BadWords", "BadWorld", "BadThing", "BadBook", "BadPrices", "NotSame",
               "NoWorld", "IsNothing", "BadText", "BadIndex", "BadNumber", "TooLarge", "NotFollows", "NotPossible",
               "NotWithin"],
    "concepts": ["is_word", "is_concept", "parts", "size", "depth", "text", "words_in"],
    "worlds": ["World", "product"],
    "taking": ["TakenIn", "Apart", "compare"],
    "leanest": ["classes", "leanest"],
    "books": ["is_rule", "is_book", "words_of", "under", "broken_rules", "closed"],
    "following": ["Follows", "Fails", "judge", "follows"],
    "toldworlds": ["terms", "told_world"],
    "kinds": ["kind", "all_kinds"],
    "standings": ["standing", "has_loss"],
    "wordrules": ["WorldRules", "rules_of", "extents"],
    "saying": ["Says", "Loses", "says"],
    "parts": ["Enough", "cheapest_part"],
    "questions": ["Exact", "Ring", "questions"],
    "cheapest": ["Cheapest", "cheapest"],
    "plain": ["tree", "Mapped", "Unmapped", "judge_plain", "plainly_within"],
    "answering": ["Answers", "Impossible", "answer", "is_possible"],
    "reduced": ["reduced", "plain_common"],
    "rising": ["steps_up", "rank", "above", "Ladder", "ladder"],
    "learning": ["learn"],
    "missing": ["Missing", "missing"],
    "exploring": ["explore"],
    "views": ["view", "step"],
    "leasts": ["Least", "Endless", "least_of", "least_in_depth"],
    "sharing": ["behind", "shared", "special", "told_data", "shared_things"],
    "weaker": ["Weaker", "weaker"],
    "defining": ["Said", "Unsaid", "judge_said", "is_said", "Between", "NoneBetween", "between"],
    "naming": ["name_order"],
    "desks": ["Desk"],
    "reading": ["read"],
    "ideas": ["Idea"],
    "examples": ["Separated", "Mixed", "separate"],
    "supposing": ["supposed", "CanBe", "CannotBe", "suppose"],
    "patterns": ["fillings", "fills"],
}
METHODS = {
    "World": ["size", "names", "edges", "things_in", "words", "__len__", "__iter__", "__contains__", "__eq__"],
    "TakenIn": ["shows", "__eq__"], "Apart": ["shows", "__eq__"], "Follows": ["shows", "__eq__"],
    "Fails": ["shows", "__eq__"], "WorldRules": ["shows", "__eq__"], "Says": ["shows", "__eq__"],
    "Loses": ["shows", "__eq__"], "Enough": ["shows", "__eq__"], "Exact": ["shows", "__eq__"], "Ring": ["shows", "__eq__"],
    "Cheapest": ["shows", "__eq__"], "Mapped": ["shows", "__eq__"], "Unmapped": ["shows", "__eq__"],
    "Answers": ["shows", "__eq__"], "Impossible": ["shows", "__eq__"], "Ladder": ["shows", "__eq__"],
    "Missing": ["shows", "__eq__"], "Least": ["shows", "__eq__"], "Endless": ["shows", "__eq__"],
    "Weaker": ["shows", "__eq__"], "Said": ["shows", "__eq__"], "Unsaid": ["shows", "__eq__"],
    "Between": ["shows", "__eq__"], "NoneBetween": ["shows", "__eq__"], "Separated": ["shows", "__eq__"],
    "Mixed": ["shows", "__eq__"], "CanBe": ["shows", "__eq__"], "CannotBe": ["shows", "__eq__"],
    "Desk": ["rules_now", "data_now", "put", "take", "add_thing", "add_name", "add_edge", "answers", "trial", "keep"],
    "Idea": ["given", "form", "__eq__", "__bool__", "__len__", "__iter__", "__str__", "weight", "inside", "covers", "also",
             "common", "some", "parsed"],
}


class Language(unittest.TestCase):
    def test_rules(self):
        self.assertEqual(complaints(), [])

    def test_what_a_loop_walks_is_not_changed_by_another_name(self):
        for told, right in [
                ("def f(xs):\n for x in xs:\n  xs.append(x)", False), ("def f(xs):\n for x in list(xs):\n  xs.append(x)", True),
                ("def f(xs):\n while xs:\n  ys = []\n  for x in xs:\n   ys.append(x)\n  xs = ys", False),
                ("def f(d, e):\n while d:\n  e = {}\n  for k, v in d.items():\n   e[k] = v\n  d = e", False),
                ("def f(s):\n for x in s.rows:\n  s.rows.pop()", False), ("def f(s, c):\n ys = s.rows if c else []\n for x in ys:\n  del s.rows[0]", False),
                ("def f(xs):\n ys = []\n for x in xs:\n  ys.append(x)\n return ys", True)]:
            self.assertIs(not list(check_walks(ast.parse(told))), right, told)

    def test_a_finally_only_assigns(self):
        start = "def f(s, w):\n x = s.a\n try:\n  return w(s)\n "
        for told, right in [("finally:\n  s.a = x", True), ("finally:\n  s.a = s.b\n  s.b = x", True), ("finally:\n  s.back()", False),
                            ("finally:\n  s.a = y", False), ("finally:\n  s.a = x + 1", False), ("finally:\n  s.a = s.b.c", False),
                            ("except ValueError:\n  s.a = x", False), ("finally:\n  return 1", False)]:
            self.assertIs(not list(check_tries(ast.parse(start + told))), right, told)

    def test_no_rings_of_imports(self):
        self.assertEqual(rings(), [])

    def test_only_files_of_the_program(self):
        names = [path.name for path in ROOT.iterdir() if path.name != "__pycache__"]
        self.assertEqual(sorted(names), sorted(path.name for path in files()))
        self.assertIn("__init__.py", names)

    def test_interface_is_defined_where_it_is_listed(self):
        for module, names in INTERFACE.items():
            tree = ast.parse((ROOT / (module + ".py")).read_text())
            defined = {node.name: node for node in tree.body if isinstance(node, (ast.FunctionDef, ast.ClassDef))}
            loaded = importlib.import_module("conceptworlds." + module)
            for name in names:
                self.assertIn(name, defined)
                self.assertTrue(hasattr(loaded, name))
                methods = [one.name for one in defined[name].body if isinstance(one, ast.FunctionDef)]
                for method in METHODS.get(name, []):
                    self.assertIn(method, methods)


if __name__ == "__main__":
    unittest.main()
