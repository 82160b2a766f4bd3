"""Of the package's form what can be seen by a look at its files (../shared/LANGUAGE.md), and of its interface."""

import ast
import builtins
import importlib
import inspect
import re
import unittest
from pathlib import Path

PACKAGE = Path(__file__).resolve().parent.parent / "sampleweave"

ALLOWED_BUILTINS = set(
    "len range enumerate zip min max sum abs sorted reversed int str bool bytes list tuple dict set isinstance ord repr "
    "any all divmod iter next Exception ValueError TypeError KeyError IndexError LookupError ZeroDivisionError "
    "ArithmeticError OverflowError RuntimeError NotImplementedError AttributeError StopIteration NotImplemented "
    "property staticmethod classmethod super".split())
ALLOWED_METHODS = set(
    "__init__ __eq__ __repr__ __str__ __len__ __enter__ __exit__ __call__ __iter__".split())
BARRED_WORDS = re.compile(
    r"\b(type|typing|typing_extensions|enum|Enum|IntEnum|StrEnum|Flag|IntFlag|Generic|Protocol|ABC|ABCMeta|namedtuple|"
    r"NamedTuple|TypedDict|TYPE_CHECKING|abstractmethod)\b|dataclass|overload|contextmanager")
BARRED_NODES = (ast.Global, ast.AsyncFunctionDef, ast.Await, ast.Div, ast.Import)

EACH = ["takes", "gives", "late", "begin", "__init__", "__eq__", "__repr__"]
FIRING = EACH + ["fresh", "fire", "begun"]
LATE = "*, late=0, begin=0"
NODES = {
    "Node": (["takes", "gives", "late", "begin", "fresh", "fire", "begun"], None),
    "Inlet": (EACH, ""), "Outlet": (EACH, ""), "Gain": (FIRING + ["factor", "turned"], f"by, {LATE}"),
    "Mix": (FIRING, f"many, {LATE}"), "Times": (FIRING, LATE), "Clip": (FIRING, f"low, high, {LATE}"),
    "Share": (FIRING, f"by, {LATE}"), "Choose": (FIRING, LATE),
    "Own": (FIRING, f"deed, takes=(1,), gives=1, first=0, {LATE}"),
}
KEEPERS = {
    "Taps": (FIRING, f"numbers, {LATE}"), "Latch": (FIRING, LATE),
    "Count": (FIRING, f"first=0, step=1, size=0, {LATE}"), "Tape": (FIRING, f"numbers, again=False, {LATE}"),
}
RATES = {
    "Up": (FIRING, f"many, hold=False, {LATE}"), "Down": (FIRING, f"many, {LATE}"),
    "Resample": (FIRING, f"up, down, numbers, {LATE}"),
}
WEAVES = {
    "Weave": ("names node wires inlets outlets into out_of put delayed __init__ __eq__ __len__".split(),
              "nodes, wires"),
}
ENGINES = {
    "Engine": ("hand settle take keep memory rounds left waiting weave log twin __init__".split(),
               "weave, *, lates=False"),
}
LOOMS = {"Loom": ("hand ready fire firings came waiting __init__".split(), "weave, *, lates=False")}
BLOCKS = {"Blocks": ("block blocks __init__".split(), "weave, rounds, *, lates=False")}
CONSOLES = {
    "Console": ("hand settle take left rounds log weave turn fade factor fading __init__".split(),
                "weave, *, lates=False"),
}
CLASSES = {
    "nodes": NODES, "keepers": KEEPERS, "rates": RATES, "weaves": WEAVES, "engines": ENGINES, "looms": LOOMS,
    "blocks": BLOCKS, "consoles": CONSOLES, "desk": {"Desk": ("say play log __init__".split(), "*, over=16")},
}
FUNCTIONS = {
    "ramps": {"ramp": "first, last, steps"},
    "ways": {"feeding": "weave, name", "fed_by": "weave, name", "cone": "weave, names"},
    "rounds": {"counts": "weave", "first_queues": "weave, *, lates=False"},
    "liveness": {"live": "weave, *, lates=False"},
    "stretches": {"stretch": "weave, rounds, *, lates=False", "most_rounds": "weave, *, lates=False"},
    "lateness": {"latenesses": "weave", "chain": "weave, name", "rounds_late": "weave", "made_up": "weave"},
    "polynomials": {"added": "one, other", "multiplied": "one, other"},
    "fractions": {"fraction": "weave, inlet, outlet", "response": "weave, inlet, outlet, rounds"},
    "sameness": {"same": "one, other"},
    "texts": {"weave_text": "weave", "read_weave": "text"},
}
METHOD_ARGUMENTS = {
    "takes": "self", "gives": "self", "late": "self", "begin": "self", "fresh": "self", "fire": "self, memory, rows",
    "begun": "self, more", "factor": "self, memory", "turned": "self, memory, by, steps",
    "names": "self", "node": "self, name", "wires": "self", "inlets": "self", "outlets": "self", "into": "self, name",
    "out_of": "self, name", "put": "self, name, node", "delayed": "self, delays",
    "hand": "self, name, samples", "settle": "self", "take": "self, name", "keep": "self, name, memory",
    "memory": "self, name", "rounds": "self", "left": "self, name", "waiting": "self, number", "weave": "self",
    "log": "self", "twin": "self", "ready": "self", "firings": "self, name", "came": "self, name",
    "block": "self, rows", "blocks": "self", "turn": "self, name, by, *, over=16", "fade": "self, weave, *, over=16",
    "fading": "self", "say": "self, row", "play": "self, rows",
}
# At looms nodes are fired by their names, at consoles factors are asked for by them.
OTHERWISE = {("Loom", "fire"): "self, name", ("Console", "factor"): "self, name"}


def sources():
    return [(path.name, path.read_text(encoding="utf-8")) for path in sorted(PACKAGE.glob("*.py"))]


def trees():
    return [(name, ast.parse(text)) for name, text in sources()]


def nodes_of(kind):
    return [(name, node) for name, tree in trees() for node in ast.walk(tree) if isinstance(node, kind)]


class Files(unittest.TestCase):
    def test_the_folder_holds_nothing_else(self):
        for path in PACKAGE.iterdir():
            if path.name != "__pycache__":
                self.assertRegex(path.name, r"^[a-z0-9_]+\.py$")

    def test_sizes_and_characters(self):
        for name, text in sources():
            lines = text.split("\n")
            self.assertLessEqual(len(lines) - 1, 399, name)
            self.assertLessEqual(max(len(line) for line in lines), 120, name)
            self.assertRegex(text, r"\A[ -~\n]*\Z", name)
            self.assertIsNone(BARRED_WORDS.search(text), name)

    def test_functions_are_short(self):
        for name, node in nodes_of((ast.FunctionDef, ast.Lambda)):
            self.assertLessEqual(node.end_lineno - node.lineno + 1, 40, f"{name}:{node.lineno}")


class Code(unittest.TestCase):
    def test_imports(self):
        for name, node in nodes_of(ast.ImportFrom):
            self.assertRegex(node.module, r"^(sampleweave\.[a-z_]+|__future__)$", name)
            self.assertEqual(node.level, 0, name)
        for name, tree in trees():
            kinds = [isinstance(row, ast.ImportFrom) for row in tree.body[1:]]
            self.assertEqual(kinds, sorted(kinds, reverse=True), f"{name}: imports stand at the top")

    def test_what_never_stands_there(self):
        for name, node in nodes_of(BARRED_NODES):
            self.fail(f"{name}: {type(node).__name__}")
        for name, node in nodes_of(ast.Constant):
            self.assertNotIsInstance(node.value, float, name)
            if isinstance(node.value, str):
                self.assertNotIn("%", node.value, name)

    def test_builtins(self):
        barred = set(dir(builtins)) - ALLOWED_BUILTINS - {"True", "False", "None"}
        for name, node in nodes_of(ast.Name):
            self.assertNotIn(node.id, barred, f"{name}:{node.lineno}")
            if isinstance(node.ctx, ast.Store):
                self.assertNotIn(node.id, dir(builtins), f"{name}:{node.lineno}")
        for name, node in nodes_of(ast.arg):
            self.assertNotIn(node.arg, dir(builtins), f"{name}:{node.lineno}")

    def test_names(self):
        for name, node in nodes_of((ast.FunctionDef, ast.ClassDef)):
            if node.name not in ALLOWED_METHODS:
                self.assertRegex(node.name, r"^[A-Za-z][A-Za-z0-9_]*$", name)
            self.assertEqual(node.decorator_list, [], name)
        for name, node in nodes_of(ast.Name):
            self.assertRegex(node.id, r"^[A-Za-z][A-Za-z0-9_]*$", name)

    def test_no_name_is_a_method_and_an_attribute(self):
        methods = {row.name for name, node in nodes_of(ast.ClassDef) for row in node.body
                   if isinstance(row, ast.FunctionDef)}
        attributes = {node.attr for name, node in nodes_of(ast.Attribute) if isinstance(node.ctx, ast.Store)}
        self.assertEqual(methods & attributes, set())

    def test_no_generator_expressions(self):
        # Beside a class with its own equality any, all, sum and the like are handed lists.
        self.assertEqual([name for name, node in nodes_of((ast.GeneratorExp, ast.Yield, ast.YieldFrom))], [])

    def test_no_local_name_is_that_of_an_import_or_a_class(self):
        for name, tree in trees():
            taken = {alias.asname or alias.name for row in tree.body if isinstance(row, ast.ImportFrom)
                     for alias in row.names}
            taken |= {row.name for row in tree.body if isinstance(row, ast.ClassDef)}
            stored = {node.id for node in ast.walk(tree) if isinstance(node, ast.Name)
                      and isinstance(node.ctx, ast.Store)}
            stored |= {node.arg for node in ast.walk(tree) if isinstance(node, ast.arg)}
            self.assertEqual(taken & stored, set(), name)

    def test_no_two_files_import_from_each_other(self):
        imported = {name[:-3]: {node.module.split(".")[1] for node in ast.walk(tree)
                                if isinstance(node, ast.ImportFrom)} for name, tree in trees()}
        while imported:
            free = [name for name, others in imported.items() if not others & set(imported)]
            self.assertNotEqual(free, [], f"in a ring: {sorted(imported)}")
            imported = {name: others for name, others in imported.items() if name not in free}

    def test_a_finally_holds_simple_statements_alone(self):
        for name, node in nodes_of(ast.Try):
            for row in node.finalbody:
                self.assertIsInstance(row, (ast.Assign, ast.Expr), f"{name}:{row.lineno}")
            for handler in node.handlers:
                self.assertIsNotNone(handler.type, f"{name}:{handler.lineno}")

    def test_is_only_with_none_and_truths(self):
        for name, node in nodes_of(ast.Compare):
            for sign, thing in zip(node.ops, node.comparators):
                if isinstance(sign, (ast.Is, ast.IsNot)):
                    self.assertIsInstance(thing, ast.Constant, name)


class Interface(unittest.TestCase):
    def test_methods_stand_in_the_class_itself(self):
        for module, classes in CLASSES.items():
            for name, (methods, arguments) in classes.items():
                made = getattr(importlib.import_module(f"sampleweave.{module}"), name)
                self.assertEqual(made.__module__, f"sampleweave.{module}")
                for method in methods:
                    self.assertIn(method, vars(made), name)
                    if method in METHOD_ARGUMENTS:
                        expected = OTHERWISE.get((name, method), METHOD_ARGUMENTS[method])
                        self.assertEqual(str(inspect.signature(vars(made)[method])), f"({expected})")
                if arguments is not None:
                    self.assertEqual(str(inspect.signature(made)), f"({arguments})", name)

    def test_functions(self):
        for module, functions in FUNCTIONS.items():
            for name, arguments in functions.items():
                function = getattr(importlib.import_module(f"sampleweave.{module}"), name)
                self.assertEqual(function.__module__, f"sampleweave.{module}")
                self.assertEqual(str(inspect.signature(function)), f"({arguments})", name)
