"""The form of the package: where its interface stands, and the rules of the language that can be seen at a glance."""

import ast
import builtins
import importlib
import inspect
import os
import re
import unittest

FOLDER = os.path.join(os.path.dirname(os.path.dirname(os.path.abspath(__file__))), "branchedhall")

# What the interface lists by files, with the names of the arguments.
INTERFACE = {
    "words": {"is_word": ["thing"], "is_person": ["thing"], "is_name": ["thing"], "is_rank": ["thing"],
              "house_of": ["person"]},
    "deeds": {"look_at_deed": ["thing"], "key_of": ["deed"]},
    "texts": {"show": ["deed"], "show_all": ["deeds"], "read": ["text"], "read_all": ["text"]},
    "ranks": {"rank_in": ["hall", "state", "person"], "wanted_in": ["hall", "state", "word"],
              "seat_in": ["hall", "state", "person"], "door_in": ["hall", "state"], "ranked": ["hall", "state"]},
    "leave": {"keys_for": ["kind", "who", "about", "body"], "leave_for": ["state", "kind", "who", "about", "body"],
              "bar": ["hall", "state", "deed"]},
    "chains": {"by_leave": ["hall", "deed"], "not_given": ["hall", "deed"], "chain_of": ["hall", "names"],
               "past_of": ["hall", "names"], "depth_of": ["hall", "name"], "lets_chain": ["hall", "name", "thing"],
               "chain_paper": ["hall", "name"]},
    "orders": {"parted": ["hall", "states"], "of_rank": ["hall", "names"], "by_leaves": ["hall", "names"],
               "line_of": ["hall", "name"], "far_of": ["hall", "line", "name"], "along": ["hall", "line", "names"]},
    "made": {"made": ["hall", "states"], "lets_made": ["hall", "states", "thing"],
             "state_by": ["hall", "states", "paper"]},
    "giving": {"lets_giving": ["hall", "state", "person", "thing"], "giving_of": ["hall", "state", "person"]},
    "struck": {"struck_in": ["web"], "thinned": ["deed"], "shown": ["web", "name"], "thin_hall": ["hall", "names"]},
    "moves": {"moved": ["hall", "state", "person", "number", "rules"], "is_kept": ["hall", "state", "other", "later"]},
}

# The classes by files, with the arguments of their methods behind self.
CLASSES = {
    "webs": {"Web": {
        "__init__": "first", "put": "deed", "stand": "name", "names": "", "missing": "", "ends": "", "past": "name",
        "soft": "", "may_go": "", "deed": "name", "both": "name", "why": "name", "ahead": "name", "behind": "name",
        "now": "", "paper": "", "hall": "", "let_go": "names", "twin": "", "__len__": "", "__eq__": "other"}},
    "houses": {"House": {
        "__init__": "name", "begin": "person, *, rules=1", "told": "first", "do": "person, kind, *, about='', body",
        "hear": "deeds", "asks": "", "answers": "names", "log": "", "called": "", "web": ""}},
    "worlds": {"World": {
        "__init__": "houses, person, *, rules=1", "weave": "rows", "houses": "", "web": "house", "is_one": ""}},
    "desk": {"Desk": {"__init__": "", "say": "row", "__len__": ""}},
}

BARRED_WORDS = (
    "type typing typing_extensions enum Enum IntEnum StrEnum Flag IntFlag Generic Protocol ABC ABCMeta namedtuple "
    "NamedTuple TypedDict TYPE_CHECKING abstractmethod").split()
BARRED_ANYWHERE = ("dataclass", "overload", "contextmanager")
BUILTINS = (
    "len range enumerate zip min max sum abs sorted reversed int str bool bytes list tuple dict set frozenset isinstance "
    "ord repr any all divmod iter next super property staticmethod classmethod Exception ValueError TypeError KeyError "
    "IndexError LookupError ZeroDivisionError ArithmeticError OverflowError RuntimeError NotImplementedError "
    "AttributeError StopIteration NotImplemented").split()
METHODS = (
    "append clear copy count endswith extend find get index insert isalnum isalpha isdigit islower isspace isupper items "
    "join keys ljust lower lstrip partition pop remove replace reverse rfind rjust rpartition rsplit rstrip setdefault "
    "split splitlines startswith strip update upper values zfill bit_length isascii isprintable sort add discard __init__").split()
DOUBLE_METHODS = ("__init__", "__len__", "__eq__")
BARRED_ATTRIBUTES = (
    "items keys values pop update append clear extend insert remove reverse setdefault sort args encode decode hex "
    "fromhex format format_map mro").split()
BARRED_NODES = (ast.Global, ast.AsyncFunctionDef, ast.AsyncFor, ast.AsyncWith, ast.Await, ast.Import, ast.Div)


def sources():
    """The files of the package: a dict from their names to their texts."""
    texts = {}
    for file in sorted(os.listdir(FOLDER)):
        if file != "__pycache__":
            with open(os.path.join(FOLDER, file), encoding="utf-8", newline="") as source:
                texts[file] = source.read()
    return texts


def nodes(*kinds):
    """All nodes of these kinds in the package, with their files."""
    found = []
    for file, text in sources().items():
        found += [(file, node) for node in ast.walk(ast.parse(text)) if isinstance(node, kinds)]
    return found


class Interface(unittest.TestCase):
    def test_each_is_defined_in_its_file(self):
        for file, functions in INTERFACE.items():
            module = importlib.import_module("branchedhall." + file)
            for name, arguments in functions.items():
                function = getattr(module, name)
                self.assertEqual(function.__module__, module.__name__, name)
                self.assertEqual(list(inspect.signature(function).parameters), arguments, name)

    def test_names_alone_behind_a_star(self):
        moves = importlib.import_module("branchedhall.moves")
        self.assertEqual(str(inspect.signature(moves.moved)), "(hall, state, person, *, number=0, rules)")

    def test_each_method_is_defined_in_its_class(self):
        for file, classes in CLASSES.items():
            module = importlib.import_module("branchedhall." + file)
            for name, methods in classes.items():
                one = getattr(module, name)
                self.assertEqual(one.__module__, module.__name__, name)
                for method, arguments in methods.items():
                    self.assertIn(method, vars(one), name)
                    told = str(inspect.signature(vars(one)[method]))
                    self.assertEqual(told, "(self, " + arguments + ")" if arguments else "(self)", (name, method))


class Files(unittest.TestCase):
    def test_nothing_but_files_of_python(self):
        self.assertIn("__init__.py", sources())
        for file in sources():
            self.assertTrue(re.fullmatch(r"[a-z0-9_]+\.py", file), file)

    def test_sizes_and_signs(self):
        for file, text in sources().items():
            rows = text.split("\n")
            self.assertLess(len(rows), 400, file)
            for row in rows:
                self.assertLessEqual(len(row), 120, (file, row))
                self.assertTrue(re.fullmatch("[ -~]*", row), (file, row))

    def test_lengths_of_functions(self):
        for file, node in nodes(ast.FunctionDef):
            self.assertLessEqual(node.end_lineno - node.lineno + 1, 40, (file, node.name))

    def test_barred_words(self):
        for file, text in sources().items():
            self.assertEqual([word for word in re.findall(r"\w+", text) if word in BARRED_WORDS], [], file)
            self.assertEqual([word for word in BARRED_ANYWHERE if word in text], [], file)


class Code(unittest.TestCase):
    def test_imports(self):
        for file, node in nodes(ast.ImportFrom):
            self.assertEqual((node.level, node.module.split(".")[0]), (0, "branchedhall"), file)
            defined = ast.parse(sources()[node.module.split(".")[1] + ".py"]).body
            names = [part.name for part in defined if isinstance(part, (ast.FunctionDef, ast.ClassDef))]
            names += [part.targets[0].id for part in defined if isinstance(part, ast.Assign)]
            for alias in node.names:
                self.assertIn(alias.name, names, file)

    def test_no_round_of_imports(self):
        ahead = {file: [] for file in sources()}
        for file, node in nodes(ast.ImportFrom):
            ahead[file].append(node.module.split(".")[1] + ".py")
        while ahead:
            free = [file for file in ahead if not any(other in ahead for other in ahead[file])]
            self.assertNotEqual(free, [], ahead)
            ahead = {file: others for file, others in ahead.items() if file not in free}

    def test_imports_are_used_and_keep_their_names(self):
        for file, text in sources().items():
            tree = ast.parse(text)
            imported = [alias.name for node in ast.walk(tree) if isinstance(node, ast.ImportFrom) for alias in node.names]
            names = [node for node in ast.walk(tree) if isinstance(node, ast.Name)]
            loaded = [node.id for node in names if isinstance(node.ctx, ast.Load)]
            bound = [node.id for node in names if not isinstance(node.ctx, ast.Load)]
            bound += [node.arg for node in ast.walk(tree) if isinstance(node, ast.arg)]
            self.assertEqual([name for name in imported if name not in loaded], [], file)
            self.assertEqual([name for name in imported if name in bound], [], file)

    def test_barred_nodes(self):
        self.assertEqual([(file, node) for file, node in nodes(*BARRED_NODES)], [])

    def test_strings_and_numbers(self):
        for file, node in nodes(ast.Constant):
            self.assertNotIsInstance(node.value, (float, complex), file)
            if isinstance(node.value, str):
                self.assertNotIn("%", node.value, file)

    def test_is_of_none_and_truths_alone(self):
        for file, node in nodes(ast.Compare):
            for sign, right in zip(node.ops, node.comparators):
                if isinstance(sign, (ast.Is, ast.IsNot)):
                    self.assertIsInstance(right, ast.Constant, (file, node.lineno))

    def test_builtins(self):
        for file, node in nodes(ast.Name):
            if node.id in dir(builtins):
                self.assertIn(node.id, BUILTINS, (file, node.lineno))
                self.assertIsInstance(node.ctx, ast.Load, (file, node.lineno))
            self.assertFalse(node.id.startswith("_"), (file, node.id))

    def test_methods(self):
        own = [node.name for file, node in nodes(ast.FunctionDef)]
        for file, node in nodes(ast.Call):
            if isinstance(node.func, ast.Attribute):
                self.assertIn(node.func.attr, METHODS + own, (file, node.lineno))

    def test_methods_and_attributes(self):
        methods = [node.name for file, one in nodes(ast.ClassDef) for node in one.body
                   if isinstance(node, ast.FunctionDef)]
        assigned = [node.attr for file, node in nodes(ast.Attribute) if isinstance(node.ctx, ast.Store)]
        self.assertEqual([name for name in assigned if name in methods + BARRED_ATTRIBUTES], [])
        self.assertEqual([name for name in methods if name.startswith("_") and name not in DOUBLE_METHODS], [])
        read = [node.attr for file, node in nodes(ast.Attribute) if isinstance(node.ctx, ast.Load)]
        self.assertEqual([name for name in read if name not in assigned + methods + METHODS], [])

    def test_own_errors_are_raised_and_caught(self):
        own = [one.name for one in ast.parse(sources()["errors.py"]).body if isinstance(one, ast.ClassDef)]
        for file, node in nodes(ast.Raise):
            self.assertIsInstance(node.exc, ast.Call, (file, node.lineno))
            self.assertIn(node.exc.func.id, own, (file, node.lineno))
        for file, node in nodes(ast.ExceptHandler):
            self.assertIn(node.type.id, own, (file, node.lineno))

    def test_lists_for_any_and_all(self):
        for file, node in nodes(ast.Call):
            if isinstance(node.func, ast.Name) and node.func.id in ("any", "all", "min", "max", "sum", "sorted"):
                for argument in node.args:
                    self.assertNotIsInstance(argument, ast.GeneratorExp, (file, node.lineno))


if __name__ == "__main__":
    unittest.main()
