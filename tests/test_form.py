"""The interface of what has landed, and those rules of the language that a short test can see."""

import ast
import builtins
import importlib
import inspect
import pathlib
import re
import unittest

FOLDER = pathlib.Path(__file__).resolve().parent.parent / "onehold"
FILES = sorted(FOLDER.glob("*.py"))
INTERFACE = {
    "books": ["check_book(book)", "show_book(book)", "read_book(text)", "looks_for(book)"],
    "houses": ["House(book, *, seats=1)", "GuardedHouse(book, *, seats=1)", "play(house, events)",
               "what_if(house, events)"],
    "situations": ["steps_at(book, situation, *, world='late')", "after(book, situation, step)",
                   "effect(book, situation, step)"],
    "tables": ["table(book, *, world='late')"],
    "fairness": ["is_fair_set(book, situations, *, world='late')", "fair_sets(book, *, world='late')"],
    "verdicts": ["Verdict(safe, steps=None, path=None, members=None, events=None)",
                 "verdict(book, wrong, *, world='late')", "is_run(book, wrong, path, *, world='late')",
                 "is_table(book, wrong, rows, steps, *, world='late')", "let_in(book, wrong, situations, further)"],
    "runs": ["events_of(book, path)", "course(book, events)", "to_pages(book, events)", "to_letters(book, events)",
             "to_answers(book, events)", "to_two(book, events)", "fewest_visitors(book, wrong)"],
    "pages": ["prompt_verdict(book, wrong, pages)", "fewest_pages(book, wrong)", "page_table(book, pages)",
              "is_page_table(book, wrong, pages, rows, steps)"],
    "mends": ["gentle_looks(book)", "least_looks(book, wrongs, *, most=2)", "fewest_rows(book, wrongs)",
              "needless_looks(book, wrongs)"],
    "compared": ["serial(book)", "stand_in(book, situation, step)", "difference(first, second)",
                 "never_more(first, second)", "idle_looks(book)", "buttons(book)"],
    "objects": ["Book(states, *rows)"],
}
BOOK_METHODS = ["with_look(self, name, look)", "without_look(self, name, look)", "differs(self, other)",
                "__call__(self, wrong, world='late')"]
BOOK_SIGNS = ["__len__", "__getitem__", "__contains__", "__str__", "__eq__", "__ne__", "__add__", "__sub__", "__iter__"]
METHODS = [
    "open_page(self, visitor)", "close_page(self, page)", "old_answer(self, page, *words)", "refresh(self, page)",
    "press(self, page, name, *seats)", "comes(self, letter, length=1)", "hear(self, letter)", "lose(self, letter)",
    "send(self, page, name, *seats, length=1)", "sweep(self, name, seat, length=1)", "tick(self, moments=1)",
    "record(self, seat)", "shown(self, page)", "failed(self, letter)", "wrongs(self, seat)", "story(self)",
    "situation(self, seat)", "undo(self)", "twin(self)",
]
LIBRARY = ("heapq", "math", "itertools", "collections")
BUILTINS = ("len range enumerate zip min max sum abs sorted reversed int str bool list tuple dict set isinstance ord "
            "repr any all divmod pow map iter next super property staticmethod classmethod getattr hasattr "
            "ValueError Exception TypeError KeyError NotImplemented ZeroDivisionError type").split()
BUILTIN_METHODS = ("append clear copy count endswith extend find get index insert isalnum isalpha isascii isdigit islower "
                   "isspace isupper items join keys lower lstrip partition pop remove removeprefix removesuffix replace "
                   "reverse rfind rpartition rsplit rstrip setdefault split splitlines startswith strip update upper "
                   "values zfill bit_length").split()
BARRED_WORDS = ("register", "mro", "elements", "law", "typing", "enum", "dataclass", "overload", "contextmanager",
                "eval", "exec", "globals", "locals", "vars", "compile", "input", "print", "async")


def signatures(module):
    """The functions and classes that the module itself defines, as they are called."""
    found = []
    for name, thing in vars(module).items():
        if callable(thing) and getattr(thing, "__module__", "") == module.__name__:
            found.append(name + str(inspect.signature(thing)))
    return found


def bound_names(tree):
    """All names that a file binds anywhere."""
    names = []
    for node in ast.walk(tree):
        if isinstance(node, (ast.FunctionDef, ast.ClassDef)):
            names.append(node.name)
        elif isinstance(node, ast.arg):
            names.append(node.arg)
        elif isinstance(node, ast.alias):
            names.append(node.asname or node.name)
        elif isinstance(node, ast.Name) and not isinstance(node.ctx, ast.Load):
            names.append(node.id)
    return names


class Interface(unittest.TestCase):

    def test_functions_and_classes_are_defined_in_their_files(self):
        for name, expected in INTERFACE.items():
            found = signatures(importlib.import_module("onehold." + name))
            for signature in expected:
                self.assertIn(signature, found)

    def test_methods_of_house(self):
        house = importlib.import_module("onehold.houses").House
        found = [name + str(inspect.signature(thing)) for name, thing in vars(house).items() if inspect.isfunction(thing)]
        for signature in METHODS:
            self.assertIn(signature, found)
        self.assertIsInstance(vars(house)["now"], property)

    def test_methods_of_book(self):
        book = importlib.import_module("onehold.objects").Book
        found = [name + str(inspect.signature(thing)) for name, thing in vars(book).items() if inspect.isfunction(thing)]
        for signature in BOOK_METHODS:
            self.assertIn(signature, found)
        for name in BOOK_SIGNS:
            self.assertIn(name, vars(book))
        self.assertIsInstance(vars(book)["read"], staticmethod)
        self.assertEqual(str(inspect.signature(book.read)), "(text)")

    def test_the_truth_of_a_verdict_is_its_own(self):
        self.assertIn("__bool__", vars(importlib.import_module("onehold.verdicts").Verdict))

    def test_steps_at_is_a_generator(self):
        self.assertTrue(inspect.isgeneratorfunction(importlib.import_module("onehold.situations").steps_at))


class Form(unittest.TestCase):

    def each(self):
        for path in FILES:
            text = path.read_text(encoding="ascii")
            yield path.name, text, ast.parse(text)

    def test_files(self):
        self.assertIn("__init__.py", [path.name for path in FILES])
        inside = [path for path in FOLDER.iterdir() if path.name != "__pycache__"]
        self.assertEqual(sorted(inside), FILES)
        for path in FILES:
            self.assertRegex(path.name, r"^[a-z0-9_]+\.py$")

    def test_characters_and_sizes(self):
        for name, text, tree in self.each():
            self.assertRegex(text, r"\A[ -~\n]*\Z", name)
            self.assertLessEqual(text.count("\n"), 399, name)
            self.assertLessEqual(max(map(len, text.split("\n"))), 120, name)
            for node in ast.walk(tree):
                if isinstance(node, ast.FunctionDef):
                    self.assertLessEqual(node.end_lineno - node.lineno + 1, 40, (name, node.name))

    def test_imports(self):
        for name, _, tree in self.each():
            for node in ast.walk(tree):
                self.assertNotIsInstance(node, ast.Import, name)
                if isinstance(node, ast.ImportFrom) and node.module not in LIBRARY:
                    source = (FOLDER.parent / (node.module.replace(".", "/") + ".py")).read_text()
                    defined = {thing for child in ast.parse(source).body for thing in bound_names_of(child)}
                    self.assertLessEqual({alias.name for alias in node.names}, defined, name)

    def test_every_import_is_used(self):
        for name, _, tree in self.each():
            used = {node.id for node in ast.walk(tree) if isinstance(node, ast.Name)}
            for node in ast.walk(tree):
                if isinstance(node, ast.ImportFrom):
                    self.assertLessEqual({alias.asname or alias.name for alias in node.names}, used, name)

    def test_local_names_are_no_imports_and_no_classes(self):
        for name, _, tree in self.each():
            taken = {thing.name for thing in tree.body if isinstance(thing, ast.ClassDef)}
            taken |= {alias.name for node in tree.body if isinstance(node, ast.ImportFrom) for alias in node.names}
            for node in ast.walk(tree):
                if isinstance(node, ast.FunctionDef):
                    self.assertEqual(taken & set(bound_names(node)), set(), (name, node.name))

    def test_no_file_imports_itself_through_others(self):
        imports = {"onehold." + name[:-3]: {node.module for node in tree.body if isinstance(node, ast.ImportFrom)}
                   for name, _, tree in self.each()}
        while imports:
            free = [name for name, others in imports.items() if not others & set(imports)]
            self.assertNotEqual(free, [], imports)
            imports = {name: others for name, others in imports.items() if name not in free}

    def test_names_of_methods_are_no_names_of_attributes(self):
        methods, attributes = set(), set()
        for _, _, tree in self.each():
            for node in ast.walk(tree):
                if isinstance(node, ast.ClassDef):
                    methods |= {thing.name for thing in node.body if isinstance(thing, ast.FunctionDef)}
                if isinstance(node, ast.Attribute) and isinstance(node.ctx, ast.Store):
                    attributes.add(node.attr)
        self.assertEqual(methods & attributes, set())

    def test_methods_that_are_called(self):
        """Those of the package, and of builtin values those that the language lists, without keywords."""
        own = {thing.name for _, _, tree in self.each() for node in ast.walk(tree) if isinstance(node, ast.ClassDef)
               for thing in node.body if isinstance(thing, ast.FunctionDef)}
        for name, _, tree in self.each():
            for node in ast.walk(tree):
                if isinstance(node, ast.Call) and isinstance(node.func, ast.Attribute):
                    self.assertIn(node.func.attr, [*own, *BUILTIN_METHODS], (name, node.lineno))
                    self.assertFalse(node.func.attr in BUILTIN_METHODS and node.keywords, (name, node.lineno))

    def test_attributes(self):
        """They are stored through a local name, and each one that is read is stored or is a method."""
        stored, read = set(), set()
        for name, _, tree in self.each():
            for node in ast.walk(tree):
                if isinstance(node, ast.Attribute) and isinstance(node.ctx, ast.Store):
                    stored.add(node.attr)
                    self.assertIsInstance(node.value, ast.Name, (name, node.lineno))
                elif isinstance(node, ast.Attribute):
                    read.add(node.attr)
                elif isinstance(node, ast.ClassDef):
                    stored |= {thing.name for thing in node.body if isinstance(thing, ast.FunctionDef)}
        self.assertLessEqual(read - set(BUILTIN_METHODS) - {"__init__"}, stored)

    def test_signs_and_statements(self):
        barred = (ast.Try, ast.Global, ast.Nonlocal, ast.With, ast.Match, ast.Delete, ast.Lambda, ast.GeneratorExp,
                  ast.NamedExpr, ast.AnnAssign, ast.Div, ast.Pow, ast.Mod, ast.MatMult)
        for name, _, tree in self.each():
            for node in ast.walk(tree):
                self.assertNotIsInstance(node, barred, (name, getattr(node, "lineno", 0)))
                if isinstance(node, ast.Compare):
                    for sign, side in zip(node.ops, node.comparators):
                        if isinstance(sign, (ast.Is, ast.IsNot)):
                            self.assertIsInstance(side, ast.Constant, (name, node.lineno))

    def test_sets(self):
        """A set stands in len or sorted, beside == or behind in; none is stored or gone through."""
        for name, _, tree in self.each():
            places = []
            for node in ast.walk(tree):
                if isinstance(node, ast.Call) and isinstance(node.func, ast.Name) and node.func.id in ("len", "sorted"):
                    places += node.args
                elif isinstance(node, ast.Compare):
                    places += [node.left, *node.comparators]
            for node in ast.walk(tree):
                if isinstance(node, (ast.Set, ast.SetComp)) or (
                        isinstance(node, ast.Call) and isinstance(node.func, ast.Name) and node.func.id == "set"):
                    self.assertIn(node, places, (name, node.lineno))

    def test_builtins(self):
        for name, _, tree in self.each():
            bound = bound_names(tree)
            for word in bound:
                # A doctest that ran ahead leaves a "_" among the builtins.
                self.assertFalse(word != "_" and hasattr(builtins, word) and not word.startswith("__"), (name, word))
            for node in ast.walk(tree):
                if isinstance(node, ast.Name) and node.id not in bound:
                    self.assertIn(node.id, BUILTINS, name)

    def test_words(self):
        for name, text, tree in self.each():
            for word in BARRED_WORDS:
                self.assertNotRegex(text, rf"\b{word}\b", name)
            for node in ast.walk(tree):
                if isinstance(node, ast.Constant) and isinstance(node.value, str):
                    self.assertNotIn("%", node.value, name)

    def test_module_level(self):
        for name, _, tree in self.each():
            for at, node in enumerate(tree.body):
                docstring = at == 0 and isinstance(node, ast.Expr) and isinstance(node.value, ast.Constant)
                kinds = (ast.ImportFrom, ast.FunctionDef, ast.ClassDef, ast.Assign)
                self.assertTrue(docstring or isinstance(node, kinds), (name, node.lineno))
                if isinstance(node, ast.Assign):
                    self.assertIsNotNone(re.fullmatch("[A-Z_]+", node.targets[0].id), name)
                    ast.literal_eval(node.value)

    def test_decorators_and_handlers(self):
        for name, _, tree in self.each():
            for node in ast.walk(tree):
                if isinstance(node, (ast.FunctionDef, ast.ClassDef)):
                    words = [ast.unparse(mark) for mark in node.decorator_list]
                    self.assertLessEqual(set(words), {"property", "classmethod", "staticmethod"}, name)
                if isinstance(node, ast.ExceptHandler):
                    self.assertIsNotNone(node.type, name)


def bound_names_of(node):
    """The names that one statement of a file binds for the file."""
    if isinstance(node, (ast.FunctionDef, ast.ClassDef)):
        return [node.name]
    if isinstance(node, ast.Assign):
        return [target.id for target in node.targets]
    return []


if __name__ == "__main__":
    unittest.main()
