"""[c6]: the files of the package, what they import, and the size and the place of what they define."""

import ast
import pathlib
import unittest

PACKAGE = pathlib.Path(__file__).resolve().parent.parent / "latestart"

ORDER = ("errors", "tokens", "bills", "writing", "levels", "books", "balances", "needs", "latest", "papers",
         "judge", "promises", "pegging", "events", "helping", "desk", "alike", "logs")

INTERFACE = {
    "errors": ("PlanError", "BillFault", "BadBooks", "BadPlan", "NoPlan", "NoSuchItem", "NoSuchOrder",
               "InvalidBytes", "NothingToUndo", "TooMany"),
    "tokens": ("tokens",),
    "bills": ("read_bill", "item_named"),
    "writing": ("write_bill",),
    "levels": ("parents_first", "used_by", "whole_lead"),
    "books": ("check_books", "check_plan", "supplied", "ordered"),
    "balances": ("started", "balance", "last_day", "shortages", "works"),
    "needs": ("needed", "needed_by"),
    "latest": ("can_work", "latest_plan", "starts_today"),
    "papers": ("paper_of",),
    "judge": ("follows", "first_wrong", "shows_none", "judge"),
    "promises": ("with_order", "promised_day", "promise_all", "first_day_paper", "shows_first"),
    "pegging": ("sources", "takings", "pegs", "served", "rests_on"),
    "events": ("after_day", "after_event"),
    "helping": ("helped", "is_enough", "help_from_above", "least_help"),
    "desk": ("Desk",),
    "alike": ("taken_by_lot", "are_alike", "parting_books"),
    "logs": ("number_bytes", "read_number", "record_of", "read_record", "event_bytes", "start_bytes", "log_of",
             "opened"),
}


def files():
    """The names of the package's modules that are there, without __init__."""
    return sorted(path.stem for path in PACKAGE.glob("*.py") if path.stem != "__init__")


def text_of(name):
    return (PACKAGE / f"{name}.py").read_text(encoding="utf-8")


class Files(unittest.TestCase):
    def test_the_package_is_one_flat_folder_of_the_documents_files(self):
        entries = sorted(path.name for path in PACKAGE.iterdir() if path.name != "__pycache__")
        self.assertEqual(entries, sorted([f"{name}.py" for name in files()] + ["__init__.py"]))
        self.assertEqual([name for name in files() if name not in ORDER], [])

    def test_all_files_are_there(self):
        self.assertEqual(files(), sorted(ORDER))
        self.assertEqual(sorted(INTERFACE), sorted(set(ORDER)))

    def test_the_methods_of_the_interface_are_defined_in_the_class_itself(self):
        body = ast.parse(text_of("desk")).body
        desk = [node for node in body if isinstance(node, ast.ClassDef) and node.name == "Desk"][0]
        found = {node.name: [argument.arg for argument in node.args.args] for node in desk.body
                 if isinstance(node, ast.FunctionDef)}
        self.assertEqual(found, {"__init__": ["self", "bill", "books"], "take": ["self", "event"],
                                 "look": ["self", "events"],
                                 **{name: ["self"] for name in ("bill", "books", "needs", "can_work", "plan", "paper",
                                                                "undo", "work")}})

    def test_each_name_of_the_interface_is_defined_in_its_file(self):
        for name, defined in INTERFACE.items():
            with self.subTest(name=name):
                body = ast.parse(text_of(name)).body
                found = [node.name for node in body if isinstance(node, (ast.FunctionDef, ast.ClassDef))]
                self.assertEqual([word for word in defined if word not in found], [])


class Imports(unittest.TestCase):
    def test_each_module_imports_those_above_it_only(self):
        for name in files():
            for node in ast.walk(ast.parse(text_of(name))):
                self.assertNotIsInstance(node, ast.Import)
                if isinstance(node, ast.ImportFrom):
                    with self.subTest(name=name, imported=node.module):
                        self.assertEqual(node.level, 0)
                        package, _, module = node.module.partition(".")
                        self.assertEqual(package, "latestart")
                        self.assertIn(module, ORDER[:ORDER.index(name)])


class Sizes(unittest.TestCase):
    def test_lines_files_and_characters(self):
        for name in ["__init__", *files()]:
            with self.subTest(name=name):
                text = text_of(name)
                self.assertLess(len(text.split("\n")), 400)
                self.assertLessEqual(max(len(line) for line in text.split("\n")), 120)
                self.assertEqual([char for char in text if char != "\n" and not " " <= char <= "~"], [])

    def test_functions(self):
        for name in files():
            for node in ast.walk(ast.parse(text_of(name))):
                if isinstance(node, ast.FunctionDef):
                    with self.subTest(name=name, function=node.name):
                        self.assertLessEqual(node.end_lineno - node.lineno + 1, 40)


if __name__ == "__main__":
    unittest.main()
