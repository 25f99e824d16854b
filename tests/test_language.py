"""The form of the package's files, by the numbers of the rules in ../shared/LANGUAGE.md.

Each rule_.. tells the places that break one rule, as pairs (file, line), as far as the text of the files shows it.

Narrower than the rule: no annotations at all (L4, L21); of the methods with two underscores __init__ alone (L28).

Looser than the rule, so to be kept by reading as well: L11 (only errors whose words are read, and sets by L24; how
deep calls go is asked in test_looking.py), L15 (a list of a file's top that changes by way of a call), L19
(comparisons, truth tests and len within a try), L22 (what stands as key= besides Python's own names), L23 (a walked
list that is changed under another name, or by a call), L25 (which sort of value a method is called on), L26 (where own
methods called items, keys or values are walked).
"""

import ast
import builtins
import io
import pathlib
import re
import tokenize
import unittest

import maybetables

FOLDER = pathlib.Path(maybetables.__file__).parent
PACKAGE = "maybetables"

CALLED = set("""len range enumerate zip min max sum abs sorted reversed int str bool list tuple dict set frozenset
    isinstance ord repr any all divmod""".split())
ERRORS = set("""Exception ValueError TypeError KeyError IndexError LookupError ZeroDivisionError ArithmeticError
    OverflowError RuntimeError NotImplementedError AttributeError StopIteration""".split())
DUNDERS = {"__init__", "__eq__", "__repr__", "__str__", "__len__", "__all__", "__version__", "__name__"}
NO_WORDS = set("""type typing typing_extensions enum Enum IntEnum StrEnum Flag IntFlag Generic Protocol ABC ABCMeta
    namedtuple NamedTuple TypedDict TYPE_CHECKING abstractmethod""".split())
NOWHERE = set("register mro elements open input version_info with_traceback add_note".split())
NO_NAMES = set("""attrgetter breakpoint builtins compile copyright credits delattr dir eval exec exit gc getattr globals
    hasattr help id importlib license locals methodcaller os quit setattr super type vars""".split())
NO_FILES = set("test tests testing site conftest sitecustomize usercustomize".split()) | NO_WORDS
METHODS = set("""append clear copy count endswith extend find get index insert isalnum isalpha isdigit islower isspace
    isupper items join keys ljust lower lstrip partition pop remove replace reverse rfind rjust rpartition rsplit rstrip
    setdefault split splitlines startswith strip update upper values zfill bit_length""".split())
CHANGING = set("append clear extend insert pop remove reverse setdefault update".split())
PYTHONS_OWN = {name for sort in (str, int, bool, float, list, tuple, dict, set, frozenset, bytes, bytearray)
               for name in dir(sort)}
FIELDS_TOO = set("count index title find get join lower upper split strip copy add".split())
STATEMENTS = (ast.Assign, ast.AugAssign, ast.If, ast.While, ast.For, ast.Return, ast.Break, ast.Continue, ast.Pass,
              ast.Raise, ast.Try, ast.Expr, ast.FunctionDef, ast.ClassDef, ast.ImportFrom, ast.Import, ast.AnnAssign)
EXPRESSIONS = (ast.Constant, ast.Name, ast.Attribute, ast.Subscript, ast.Slice, ast.Call, ast.BinOp, ast.UnaryOp,
               ast.Compare, ast.BoolOp, ast.IfExp, ast.List, ast.Tuple, ast.Dict, ast.Set, ast.ListComp, ast.JoinedStr,
               ast.FormattedValue, ast.Lambda)
DEFS = (ast.FunctionDef, ast.Lambda)
PLAIN_NAME = re.compile(r"^[A-Za-z][A-Za-z0-9_]*$")


class Source:
    """One file: its text, its tree, and for each node the one around it."""

    def __init__(self, name, text):
        self.name = name
        self.stem = name[:-len(".py")]
        self.text = text
        self.tree = ast.parse(text)
        self.around = {}
        for node in ast.walk(self.tree):
            for part in ast.iter_child_nodes(node):
                self.around[part] = node
        self.body = self.tree.body
        if self.body and is_remark(self.body[0]):
            self.body = self.body[1:]

    def nodes(self, *sorts):
        return [node for node in ast.walk(self.tree) if isinstance(node, sorts)]

    def above(self, node):
        """All nodes around a node, the nearest first."""
        told = []
        while node in self.around:
            node = self.around[node]
            told.append(node)
        return told

    def within(self, node, *sorts):
        return any(isinstance(part, sorts) for part in self.above(node))

    def top_names(self):
        """The names that are bound at the file's top, each as often as it is."""
        told = [node.name for node in self.body if isinstance(node, (ast.FunctionDef, ast.ClassDef))]
        for node in self.body:
            if isinstance(node, ast.Assign):
                told.extend(target.id for target in node.targets if isinstance(target, ast.Name))
        return told + self.imported()

    def imported(self):
        return [alias.asname or alias.name for node in self.nodes(ast.ImportFrom, ast.Import) for alias in node.names]

    def classes(self):
        return [node.name for node in self.nodes(ast.ClassDef)]

    def bound(self):
        """Every name that the file binds somewhere."""
        told = self.top_names() + [node.arg for node in self.nodes(ast.arg)]
        told += [node.id for node in self.nodes(ast.Name) if not isinstance(node.ctx, ast.Load)]
        told += [node.name for node in self.nodes(ast.FunctionDef, ast.ClassDef)]
        return told + [node.name for node in self.nodes(ast.ExceptHandler) if node.name]

    def locals(self):
        """(name, line) of each parameter and each name that is bound within a def."""
        told = [(node.arg, node.lineno) for node in self.nodes(ast.arg)]
        told += [(node.id, node.lineno) for node in self.nodes(ast.Name)
                 if not isinstance(node.ctx, ast.Load) and self.within(node, *DEFS)]
        told += [(node.name, node.lineno) for node in self.nodes(ast.ExceptHandler) if node.name]
        return told + [(node.name, node.lineno) for node in self.nodes(ast.FunctionDef)
                       if self.within(node, ast.FunctionDef)]

    def breaches(self, nodes):
        return [(self.name, node.lineno) for node in nodes]


class Sources:
    """All files of a package, and what only all of them together tell."""

    def __init__(self, texts):
        self.files = [Source(name, text) for name, text in sorted(texts.items())]
        self.by_stem = {file.stem: file for file in self.files}
        self.classes = {name for file in self.files for name in file.classes()}
        self.methods, self.fields = [], []
        for file in self.files:
            for sort in file.nodes(ast.ClassDef):
                self.methods += [(part.name, file.name, part.lineno) for part in sort.body
                                 if isinstance(part, ast.FunctionDef)]
            self.fields += [(node.attr, file.name, node.lineno) for node in file.nodes(ast.Attribute)
                            if isinstance(node.ctx, ast.Store)]
        self.method_names = {name for name, file, line in self.methods}


def is_remark(node):
    return isinstance(node, ast.Expr) and isinstance(node.value, ast.Constant) and isinstance(node.value.value, str)


def is_plain(node, functions=()):
    """Whether an expression is a plain value; perhaps with functions among the parts of a list, tuple or dict."""
    if isinstance(node, ast.UnaryOp) and isinstance(node.op, ast.USub):
        return isinstance(node.operand, ast.Constant) and isinstance(node.operand.value, int)
    if isinstance(node, (ast.List, ast.Tuple)):
        return all(is_plain(part, functions) or is_name(part, functions) for part in node.elts)
    if isinstance(node, ast.Dict):
        return all(part is not None and (is_plain(part, functions) or is_name(part, functions))
                   for part in node.keys + node.values)
    return isinstance(node, ast.Constant) and (node.value is None or isinstance(node.value, (int, str)))


def is_name(node, names):
    return isinstance(node, ast.Name) and node.id in names


def called_name(node):
    """The name that is called, if a plain name is."""
    return node.func.id if isinstance(node, ast.Call) and isinstance(node.func, ast.Name) else None


def called_method(node):
    return node.func.attr if isinstance(node, ast.Call) and isinstance(node.func, ast.Attribute) else None


def rule_2(package):
    for file in package.files:
        ahead = True
        for node in file.body:
            ahead = ahead and isinstance(node, (ast.ImportFrom, ast.Import))
            if not ahead and isinstance(node, (ast.ImportFrom, ast.Import)):
                yield file.name, node.lineno
        for node in file.nodes(ast.ImportFrom, ast.Import):
            if file.around[node] is not file.tree:
                yield file.name, node.lineno
        for node in file.nodes(ast.Import):
            if file.stem != "__main__" or [(alias.name, alias.asname) for alias in node.names] != [("sys", None)]:
                yield file.name, node.lineno
        for node in file.nodes(ast.ImportFrom):
            names = [alias.name for alias in node.names]
            if node.module == "__future__" and names == ["annotations"]:
                continue
            if node.level or not node.module.startswith(PACKAGE + ".") or "*" in names or "__main__" in node.module:
                yield file.name, node.lineno


def rule_3(package):
    for file in package.files:
        functions = []
        for node in file.body:
            if isinstance(node, ast.FunctionDef):
                functions.append(node.name)
            elif isinstance(node, ast.Assign):
                if not isinstance(node.targets[0], ast.Name) or not is_plain(node.value, functions):
                    yield file.name, node.lineno
            elif isinstance(node, ast.If) and file.stem == "__main__" and node is file.body[-1]:
                if ast.unparse(node.test) != "__name__ == '__main__'":
                    yield file.name, node.lineno
            elif not isinstance(node, (ast.ImportFrom, ast.Import, ast.ClassDef)):
                yield file.name, node.lineno


def rule_4(package):
    for file in package.files:
        for node in file.nodes(*DEFS):
            args = node.args
            if args.vararg or args.kwarg or args.kwonlyargs or args.posonlyargs:
                yield file.name, node.lineno
            if not all(is_plain(default) for default in args.defaults):
                yield file.name, node.lineno
        yield from file.breaches(node for node in file.nodes(ast.FunctionDef) if node.decorator_list)
        for node in file.nodes(ast.FunctionDef):
            outer = [part for part in file.above(node) if isinstance(part, ast.FunctionDef)]
            if outer:
                names = stored(outer[0], file) | {arg.arg for arg in outer[0].args.args}
                if names & stored(node, file):
                    yield file.name, node.lineno


def stored(function, file):
    """The names that a function binds itself, its inner functions left out."""
    return {node.id for node in ast.walk(function) if isinstance(node, ast.Name)
            and isinstance(node.ctx, ast.Store)
            and [part for part in file.above(node) if isinstance(part, DEFS)][0] is function}


def rule_5(package):
    for file in package.files:
        for node in file.nodes(ast.ClassDef):
            if len(node.bases) > 1 or node.keywords or node.decorator_list:
                yield file.name, node.lineno
            for part in node.body:
                if isinstance(part, ast.FunctionDef):
                    if part.name.startswith("__") and part.name not in DUNDERS:
                        yield file.name, part.lineno
                elif not is_remark(part) and not isinstance(part, ast.Pass):
                    yield file.name, part.lineno


def rule_6(package):
    for file in package.files:
        yield from file.breaches(node for node in file.nodes(ast.stmt) if not isinstance(node, STATEMENTS))
        yield from file.breaches(node for node in file.nodes(ast.For, ast.While) if node.orelse)
        yield from file.breaches(node for node in file.nodes(ast.Try) if node.finalbody or not node.handlers)
        yield from file.breaches(node for node in file.nodes(ast.ExceptHandler) if node.type is None)
        yield from file.breaches(node for node in file.nodes(ast.Assign) if len(node.targets) > 1)
        yield from file.breaches(node for node in file.nodes(ast.Expr)
                                 if not isinstance(node.value, ast.Call) and not is_remark(node))


def rule_7(package):
    for file in package.files:
        yield from file.breaches(node for node in file.nodes(ast.expr) if not isinstance(node, EXPRESSIONS))
        yield from file.breaches(node for node in file.nodes(ast.BinOp, ast.AugAssign)
                                 if isinstance(node.op, (ast.Div, ast.MatMult)))
        yield from file.breaches(node for node in file.nodes(ast.Constant)
                                 if node.value is not None and not isinstance(node.value, (int, str)))
        yield from file.breaches(node for node in file.nodes(ast.ListComp)
                                 if len(node.generators) > 1 or len(node.generators[0].ifs) > 1)
        yield from file.breaches(node for node in file.nodes(ast.FormattedValue)
                                 if not isinstance(node.value, ast.Name) or node.format_spec is not None
                                 or node.conversion not in (-1, ord("r")))
        yield from file.breaches(node for node in file.nodes(ast.Dict) if None in node.keys)
        yield from file.breaches(node for node in file.nodes(ast.Call)
                                 if any(word.arg is None for word in node.keywords))
        yield from file.breaches(node for node in file.nodes(ast.Set) if not file.within(node, *DEFS))


def rule_8(package):
    for file in package.files:
        allowed = CALLED | ERRORS | set(file.bound())
        if file.stem == "__main__":
            allowed = allowed | {"print", "__name__"}
        yield from file.breaches(node for node in file.nodes(ast.Name) if node.id not in allowed)
        given = file.top_names() + [name for name, line in file.locals()]
        if set(given) & (CALLED | ERRORS | {"print"}):
            yield file.name, 1
        yield from file.breaches(node for node in file.nodes(ast.Attribute)
                                 if node.attr in ("format", "format_map", "mro"))


def rule_9(package):
    for file in package.files:
        if file.stem != "__main__":
            yield from file.breaches(node for node in file.nodes(ast.Name) if node.id in ("print", "sys", "open"))


def rule_10(package):
    for file in package.files:
        lines = file.text.split("\n")
        if len(lines) > 401:
            yield file.name, 401
        for number, line in enumerate(lines, start=1):
            if len(line) > 120 or "\t" in line:
                yield file.name, number
        yield from file.breaches(node for node in file.nodes(ast.FunctionDef) if node.end_lineno - node.lineno > 39)


def rule_11(package):
    for file in package.files:
        for handler in file.nodes(ast.ExceptHandler):
            for node in ast.walk(handler):
                if isinstance(node, ast.Name) and node.id == handler.name:
                    around = file.around[node]
                    if not (isinstance(around, ast.Raise) and around.cause is node
                            or isinstance(around, ast.Attribute) and around.attr != "args"):
                        yield file.name, node.lineno


def rule_12(package):
    for file in package.files:
        named = [(node.id, node.lineno) for node in file.nodes(ast.Name)]
        named += [(node.attr, node.lineno) for node in file.nodes(ast.Attribute)]
        named += [(node.name, node.lineno) for node in file.nodes(ast.FunctionDef, ast.ClassDef)]
        named += [(word.arg, node.lineno) for node in file.nodes(ast.Call) for word in node.keywords if word.arg]
        for name, line in named + file.locals() + [(name, 1) for name in file.imported()]:
            if not PLAIN_NAME.match(name) and name not in DUNDERS:
                yield file.name, line


def rule_13(package):
    for file in package.files:
        for node in file.nodes(ast.Set):
            around = file.around[node]
            beside_in = isinstance(around, ast.Compare) and isinstance(around.ops[-1], (ast.In, ast.NotIn))
            if len([part for part in node.elts if is_plain(part)]) > 2 and not beside_in:
                yield file.name, node.lineno
        lambdas = [(node.lineno, ast.unparse(node.args)) for node in file.nodes(ast.Lambda)]
        for place in set(lambdas):
            if lambdas.count(place) > 1:
                yield file.name, place[0]


def rule_14(package):
    for file in package.files:
        if not re.match(r"^[a-z0-9_]+$", file.stem) or file.stem in NO_FILES or file.stem.startswith("test_"):
            yield file.name, 1
        if file.stem in dir(builtins) or file.stem == "property":
            yield file.name, 1
        for number, line in enumerate(file.text.split("\n"), start=1):
            if re.search(r"[^ -~]", line):
                yield file.name, number
    if "__init__" not in package.by_stem:
        yield "__init__.py", 1


def rule_15(package):
    for file in package.files:
        names = file.top_names()
        if len(set(names)) < len(names):
            yield file.name, 1
        yield from file.breaches(node for node in file.nodes(ast.ClassDef) if file.around[node] is not file.tree)
        kept = {}
        for node in file.body:
            if isinstance(node, ast.Assign) and isinstance(node.value, (ast.List, ast.Dict)):
                kept[node.targets[0].id] = node
                parts = [part for part in ast.walk(node.value) if part is not node.value]
                if any(isinstance(part, (ast.List, ast.Dict)) for part in parts):
                    yield file.name, node.lineno
        for node in file.nodes(ast.Name):
            if node.id in kept and isinstance(node.ctx, ast.Load) and not only_read(node, file):
                yield file.name, node.lineno
        taken = set(file.classes()) | set(file.imported())
        for name, line in file.locals():
            if name in taken or name in dir(builtins):
                yield file.name, line


def only_read(node, file):
    """Whether a list or dict of a file's top is only read, or copied, where its name stands."""
    around = file.around[node]
    if isinstance(around, ast.Subscript):
        return around.value is node and isinstance(around.ctx, ast.Load)
    if isinstance(around, (ast.For, ast.comprehension)):
        return around.iter is node
    if isinstance(around, ast.Call):
        return called_name(around) in CALLED
    if isinstance(around, ast.Attribute):
        return around.attr in ("get", "items", "keys", "values", "index", "count", "copy")
    return isinstance(around, ast.Compare)


def rule_16(package):
    drawn = {}
    for file in package.files:
        drawn[file.stem] = []
        for node in file.nodes(ast.ImportFrom):
            stem = (node.module or "").split(".")[-1]
            if node.module == "__future__":
                continue
            drawn[file.stem] += [stem, "__init__"]
            source = package.by_stem.get(stem)
            own = [] if source is None else [name for name in source.top_names() if name not in source.imported()]
            if any(alias.name not in own for alias in node.names):
                yield file.name, node.lineno
    while drawn:
        free = [stem for stem in drawn if not any(other in drawn for other in drawn[stem])]
        if not free:
            yield sorted(drawn)[0] + ".py", 1
            break
        drawn = {stem: drawn[stem] for stem in drawn if stem not in free}
    if set(package.by_stem["__init__"].top_names()) & set(package.by_stem):
        yield "__init__.py", 1


def rule_17(package):
    for file in package.files:
        for number, line in enumerate(file.text.split("\n"), start=1):
            if set(re.findall(r"\w+", line)) & NO_WORDS or re.search("dataclass|overload|contextmanager", line):
                yield file.name, number
        frames = r"^(f|tb|co|gi|cr|ag)_[a-z]+$"
        yield from file.breaches(node for node in file.nodes(ast.Attribute)
                                 if node.attr in NOWHERE or re.match(frames, node.attr))
        named = [(node.id, node.lineno) for node in file.nodes(ast.Name)] + file.locals()
        named += [(node.name, node.lineno) for node in file.nodes(ast.FunctionDef, ast.ClassDef)]
        for name, line in named:
            main = file.stem == "__main__"
            if name in NOWHERE | NO_NAMES or re.match(frames, name) or name in ("sys", "__name__") and not main:
                yield file.name, line


def rule_18(package):
    sorts = package.classes | ERRORS
    for file in package.files:
        for node in file.nodes(ast.Name):
            if node.id in sorts and isinstance(node.ctx, ast.Load) and not class_stands(node, file):
                yield file.name, node.lineno
        inside = {name for name, line in file.locals()}
        yield from file.breaches(node for node in file.nodes(ast.Attribute) if isinstance(node.ctx, ast.Store)
                                 and not is_name(node.value, inside))
        for node in file.nodes(ast.ClassDef):
            names = [part.name for part in node.body if isinstance(part, ast.FunctionDef)]
            if len(set(names)) < len(names):
                yield file.name, node.lineno
            for base in node.bases:
                if not is_name(base, sorts - {"StopIteration", "AttributeError"}):
                    yield file.name, node.lineno
    fields = {name for name, file, line in package.fields}
    for name, file, line in package.methods:
        if name in fields:
            yield file, line


def class_stands(node, file):
    """Whether a class stands at a place where it may."""
    around = file.around[node]
    if isinstance(around, ast.Tuple):
        node, around = around, file.around[around]
    if isinstance(around, ast.Call):
        return around.func is node or called_name(around) == "isinstance" and around.args[1] is node
    if isinstance(around, ast.Attribute):
        return around.attr == "__init__"
    return isinstance(around, (ast.ClassDef, ast.ExceptHandler, ast.Raise))


def rule_19(package):
    own = {name for name in package.classes}
    for file in package.files:
        for node in file.nodes(ast.Raise):
            if not isinstance(node.exc, ast.Call) or not is_name(node.exc.func, own | ERRORS):
                yield file.name, node.lineno
            names = [part.name for part in file.above(node) if isinstance(part, ast.ExceptHandler)]
            if node.cause is not None and not (isinstance(node.cause, ast.Constant) or is_name(node.cause, names)):
                yield file.name, node.lineno
        for node in file.nodes(ast.Try):
            for handler in node.handlers:
                names = {part.id for part in ast.walk(handler.type or handler) if isinstance(part, ast.Name)}
                if names - own - {"KeyError", "ZeroDivisionError", "StopIteration"} and not narrow(node, names):
                    yield file.name, handler.lineno


def narrow(node, names):
    """Whether a try that takes Python's ValueError, LookupError or IndexError has nothing in it that it may not."""
    if names - {"ValueError", "LookupError", "IndexError"} or len(node.body) > 1:
        return False
    parts = [part for statement in node.body for part in ast.walk(statement)]
    if any(isinstance(part, (ast.JoinedStr, ast.Slice, ast.Lambda, ast.Mult, ast.Pow, ast.Mod, ast.LShift, ast.RShift))
           for part in parts):
        return False
    calls = [called_name(part) or called_method(part) for part in parts if isinstance(part, ast.Call)]
    return set(calls) <= (set() if "IndexError" in names else {"int", "str", "index", "remove"})


def rule_20(package):
    for file in package.files:
        for node in file.nodes(ast.Compare):
            sides = [node.left] + node.comparators
            for number, sign in enumerate(node.ops):
                plain = [isinstance(side, ast.Constant) and (side.value is None or isinstance(side.value, bool))
                         for side in sides[number:number + 2]]
                if isinstance(sign, (ast.Is, ast.IsNot)) and not any(plain):
                    yield file.name, node.lineno


def rule_21(package):
    """Narrower: there are none."""
    for file in package.files:
        yield from file.breaches(file.nodes(ast.AnnAssign))
        yield from file.breaches(node for node in file.nodes(ast.arg) if node.annotation)
        yield from file.breaches(node for node in file.nodes(ast.FunctionDef) if node.returns)


def rule_22(package):
    words = {"sorted": {"key", "reverse"}, "min": {"key", "default"}, "max": {"key", "default"}, "sum": {"start"},
             "enumerate": {"start"}, "zip": {"strict"}}
    keys = set("len int str abs sum min max tuple".split())
    for file in package.files:
        for node in file.nodes(ast.Name):
            around = file.around[node]
            if node.id not in CALLED or isinstance(around, ast.Call) and around.func is node:
                continue
            of_key = isinstance(around, ast.keyword) and around.arg == "key" and node.id in keys
            of_sort = node.id in ("int", "str", "bool", "list", "tuple", "dict") and class_stands(node, file)
            if not of_key and not of_sort:
                yield file.name, node.lineno
        for node in file.nodes(ast.Call):
            given = {word.arg for word in node.keywords}
            if called_name(node) in CALLED | ERRORS and given - words.get(called_name(node), set()):
                yield file.name, node.lineno
            if called_method(node) in METHODS and given:
                yield file.name, node.lineno
            if called_name(node) == "isinstance" and not isinstance_form(node, package):
                yield file.name, node.lineno
            if any(word.arg in ("reverse", "strict") and not isinstance(word.value, ast.Constant)
                   for word in node.keywords):
                yield file.name, node.lineno


def isinstance_form(node, package):
    sorts = {"int", "str", "bool", "list", "tuple", "dict"} | ERRORS | package.classes
    if len(node.args) != 2:
        return False
    parts = node.args[1].elts if isinstance(node.args[1], ast.Tuple) else [node.args[1]]
    return all(is_name(part, sorts) for part in parts)


def is_walked_once(node):
    """Whether a call tells something that is to be walked on the spot."""
    return (called_name(node) in ("zip", "enumerate", "reversed", "range")
            or called_method(node) in ("items", "keys", "values") and not node.args)


def rule_23(package):
    first = set("list tuple dict sorted sum any all enumerate zip".split())
    for file in package.files:
        for node in file.nodes(ast.Call):
            around = file.around[node]
            if not is_walked_once(node) or isinstance(around, (ast.For, ast.comprehension)) and around.iter is node:
                continue
            if isinstance(around, ast.Call) and around.args and around.args[0] is node:
                alone = called_name(around) in ("min", "max") and len(around.args) == 1
                joined = called_method(around) == "join" and isinstance(around.func.value, ast.Constant)
                if alone or joined or called_name(around) in first:
                    continue
            yield file.name, node.lineno
        for loop in file.nodes(ast.For):
            walked = [ast.unparse(part) for part in walked_things(loop.iter)]
            for node in [part for statement in loop.body for part in ast.walk(statement)]:
                if ast.unparse(changed_thing(node)) in walked:
                    yield file.name, node.lineno


def walked_things(node):
    """What a loop over an expression walks, itself or through enumerate and its like."""
    if called_name(node) in ("enumerate", "zip", "reversed"):
        return [part for inner in node.args for part in walked_things(inner)]
    if called_method(node) in ("items", "keys", "values"):
        return [node.func.value]
    return [] if isinstance(node, (ast.Call, ast.Constant)) else [node]


def changed_thing(node):
    """The list or dict that a node changes; an empty text's tree where it changes none."""
    if called_method(node) in CHANGING:
        return node.func.value
    if isinstance(node, ast.Subscript) and not isinstance(node.ctx, ast.Load):
        return node.value
    if isinstance(node, ast.AugAssign):
        return node.target
    return ast.Module([], [])


def is_set(node):
    """Whether an expression is plainly a set."""
    if isinstance(node, ast.BinOp):
        return is_set(node.left) and is_set(node.right)
    return isinstance(node, ast.Set) or called_name(node) in ("set", "frozenset")


def rule_24(package):
    for file in package.files:
        for node in file.nodes(ast.Call, ast.Set):
            if isinstance(node, ast.Call) and called_name(node) not in ("set", "frozenset"):
                continue
            around = file.around[node]
            while isinstance(around, ast.BinOp) and isinstance(around.op, (ast.Sub, ast.BitAnd, ast.BitOr, ast.BitXor)):
                node, around = around, file.around[around]
            if isinstance(around, ast.Compare) and len(around.ops) == 1:
                sides = [around.left, around.comparators[0]]
                if isinstance(around.ops[0], (ast.In, ast.NotIn)) and sides[1] is node:
                    continue
                if isinstance(around.ops[0], (ast.Eq, ast.NotEq)) and all(is_set(side) for side in sides):
                    continue
            if called_name(around) in ("sorted", "len") and around.args == [node] and not around.keywords:
                continue
            yield file.name, node.lineno


def rule_25(package):
    fields = {name for name, file, line in package.fields}
    for file in package.files:
        for node in file.nodes(ast.Attribute):
            around = file.around[node]
            is_called = isinstance(around, ast.Call) and around.func is node
            if is_called and node.attr not in METHODS | package.method_names:
                yield file.name, node.lineno
            handed_on = not is_called and isinstance(node.ctx, ast.Load) and not isinstance(around, ast.keyword)
            if handed_on and node.attr in (package.method_names | METHODS - fields) - DUNDERS:
                yield file.name, node.lineno


def rule_26(package):
    for name, file, line in package.methods:
        if name in PYTHONS_OWN and name not in METHODS | {"add", "discard"} | DUNDERS:
            yield file, line
    for name, file, line in package.fields:
        if name in PYTHONS_OWN and name not in FIELDS_TOO or name in ("args", "sort", "format"):
            yield file, line


def rule_27(package):
    for file in package.files:
        for node in file.nodes(ast.BinOp, ast.AugAssign):
            power = node.right if isinstance(node, ast.BinOp) else node.value
            if isinstance(node.op, ast.Pow):
                if not (isinstance(power, ast.Constant) and power.value in range(65)):
                    yield file.name, node.lineno
        yield from file.breaches(node for node in file.nodes(ast.Constant)
                                 if isinstance(node.value, str) and "%" in node.value)
        yield from file.breaches(node for node in file.nodes(ast.Name) if node.id == "chr")
        for token in tokenize.generate_tokens(io.StringIO(file.text).readline):
            words = tokenize.tok_name[token.type]
            if words in ("STRING", "FSTRING_MIDDLE") and re.search(r"\\[^nt\\'\"]", token.string.replace("\\\\", "")):
                yield file.name, token.start[0]
            if words == "NUMBER" and len(token.string) > 900:
                yield file.name, token.start[0]


def rule_28(package):
    """Narrower: there is none of these methods but __init__."""
    for file in package.files:
        for node in file.nodes(ast.FunctionDef):
            if node.name in ("__eq__", "__repr__", "__str__", "__len__"):
                yield file.name, node.lineno
            if node.name == "__init__":
                yield from file.breaches(part for part in ast.walk(node)
                                         if isinstance(part, ast.Return) and part.value is not None)


RULES = {number: globals()[f"rule_{number}"] for number in range(2, 29)}


def breaches(texts):
    """(number of a rule, file, line) for each place that breaks a rule, in a package of files told by their texts."""
    package = Sources(texts)
    return [(number, file, line) for number in RULES for file, line in RULES[number](package)]


def package_texts():
    return {path.name: path.read_bytes().decode("utf-8") for path in FOLDER.glob("*.py")}


class PackageTest(unittest.TestCase):
    def test_nothing_else_lies_in_the_folder(self):
        self.assertEqual(FOLDER.name, PACKAGE)
        for path in FOLDER.iterdir():
            if path.name != "__pycache__":
                self.assertRegex(path.name, r"^[a-z0-9_]+\.py$")
                self.assertTrue(path.is_file())

    def test_each_file_that_there_is_to_be(self):
        for stem in ("__init__", "errors", "conds", "fillings", "knowing", "looking", "simple", "tables", "choosing",
                     "pairing", "sureness", "counting", "rules", "fixing", "sameness", "lists", "texts", "plains",
                     "asks", "house"):
            self.assertIn(stem + ".py", package_texts())

    def test_no_rule_is_broken(self):
        self.assertEqual(breaches(package_texts()), [])


# For each rule, files that break it; a plain text is one file m.py.
BROKEN = {
    2: ["import os\n", "import sys\n", "from .errors import NoText\n", "from os.path import join\n",
        "from maybetables.n import *\n", "def f():\n    from maybetables.n import g\n",
        "def f():\n    pass\n\n\nfrom maybetables.n import g\n"],
    3: ["f(1)\n", "X = f()\n", "X = [y for y in (1, 2)]\n", "if True:\n    X = 1\n", "X = 1 + 1\n"],
    4: ["def f(*xs):\n    pass\n", "def f(**xs):\n    pass\n", "def f(x, *, y):\n    pass\n",
        "def g(h):\n    pass\n\n\n@g\ndef f():\n    pass\n", "def f(x=len(\"a\")):\n    pass\n",
        "def f(x):\n    def g():\n        x = 1\n        return x\n    return g()\n"],
    5: ["class A:\n    x = 1\n", "class A:\n    def __hash__(self):\n        return 1\n", "class A(B, C):\n    pass\n"],
    6: ["def f(x):\n    with x:\n        pass\n", "def f(x):\n    del x\n", "def f(x):\n    assert x\n",
        "def f(x):\n    for y in x:\n        pass\n    else:\n        pass\n",
        "def f():\n    x = y = 1\n    return x + y\n",
        "def f(x):\n    yield x\n", "def f():\n    global x\n", "def f(x):\n    x + 1\n",
        "def f(x):\n    try:\n        return x[0]\n    except:\n        return 1\n",
        "def f(x):\n    try:\n        return x[0]\n    finally:\n        pass\n"],
    7: ["X = 1.5\n", "def f(x):\n    return x / 2\n", "X = b'a'\n", "def f(x):\n    return {y for y in x}\n",
        "def f(x):\n    return {y: 1 for y in x}\n", "def f(x):\n    return sum(y for y in x)\n",
        "def f(x):\n    return [*x]\n", "def f(x):\n    return [y for z in x for y in z]\n",
        "def f(x):\n    if (y := x):\n        return y\n", "def f(x):\n    return f'{x:>3}'\n",
        "def f(x):\n    return f'{x + 1}'\n", "def f(x):\n    return f(**x)\n", "def f(x):\n    return {**x}\n"],
    8: ["def f(x):\n    return hash(x)\n", "def f(x):\n    return map(f, x)\n", "def f(x):\n    return x.format(1)\n",
        "def f(len):\n    return len\n", "def f(x):\n    return unknown(x)\n"],
    9: ["def f(x):\n    print(x)\n", "def f(x):\n    return open(x)\n"],
    10: ["X = '" + "a" * 120 + "'\n", "def f(x):\n" + "    x = 1\n" * 40, "def f(x):\n\treturn x\n", "\n" * 401],
    11: ["def f(x):\n    try:\n        return x['a']\n    except KeyError as e:\n        return str(e)\n"],
    12: ["def _f():\n    pass\n", "def f(_):\n    pass\n", "def f(x):\n    return x.__class__\n",
         "def f(x):\n    for _ in x:\n        pass\n"],
    13: ["def f(x):\n    return len({1, 2, 3})\n",
         "def f(x):\n    return [sorted(x, key=lambda y: y), sorted(x, key=lambda y: -y)]\n"],
    14: ["# caf\u00e9\n", {"Upper.py": ""}, {"filter.py": ""}, {"testing.py": ""}, {"test_m.py": ""}, {"enum.py": ""}],
    15: ["X = 1\nX = 2\n", "def f():\n    class A:\n        pass\n", "X = [[1]]\n",
         "X = [1]\n\n\ndef f():\n    X.append(2)\n",
         "X = [1]\n\n\ndef f():\n    return X\n", "X = {}\n\n\ndef f():\n    X['a'] = 1\n", "def f(hash):\n    pass\n",
         "class A:\n    pass\n\n\ndef f(A):\n    pass\n", "def f(x):\n    next = x\n    return next\n",
         {"m.py": "from maybetables.n import g\n\n\ndef f(g):\n    return g\n", "n.py": "def g():\n    pass\n"}],
    16: [{"m.py": "from maybetables.n import g\n", "n.py": "from maybetables.k import g\n",
          "k.py": "def g():\n    pass\n"},
         {"m.py": "from maybetables.n import g\n\n\ndef f():\n    pass\n",
          "n.py": "from maybetables.m import f\n\n\ndef g():\n    pass\n"},
         {"__init__.py": "from maybetables.m import f\n", "n.py": "def g():\n    pass\n",
          "m.py": "from maybetables.n import g\n\n\ndef f():\n    pass\n"},
         {"__init__.py": "m = 1\n", "m.py": ""}, "from maybetables.nowhere import g\n"],
    17: ["# the type\n", "X = 'Enum'\n", "# a dataclassy thing\n", "def f(x):\n    return x.open()\n",
         "def register(x):\n    return x\n", "def f(vars):\n    return vars\n", "def f(x):\n    return x.f_back\n"],
    18: ["class A:\n    pass\n\n\ndef f():\n    return [A]\n", "class A:\n    pass\n\n\ndef f():\n    A.x = 1\n",
         "class A:\n    def f(self):\n        pass\n\n    def f(self):\n        pass\n",
         "class A:\n    def f(self):\n        pass\n\n\nclass B:\n    def __init__(self):\n        self.f = 1\n",
         "class A(StopIteration):\n    pass\n", "class A(list):\n    pass\n"],
    19: ["def f(x):\n    try:\n        return f(x)\n    except Exception:\n        return 1\n",
         "def f(x):\n    try:\n        return f(x)\n    except ValueError:\n        return 1\n",
         "def f(x):\n    try:\n        return x[1:]\n    except IndexError:\n        return 1\n",
         "def f(x):\n    raise x\n", "def f(x):\n    raise KeyError(x) from x\n", "def f(x):\n    raise\n"],
    20: ["def f(x, y):\n    return x is y\n", "def f(x):\n    return x is not 1\n"],
    21: ["def f(x: int):\n    return x\n", "def f(x) -> int:\n    return x\n", "X: int = 1\n"],
    22: ["def f(x):\n    return [len]\n", "def f(x):\n    return isinstance(x, set)\n",
         "def f(x):\n    return int(x, base=2)\n",
         "def f(x):\n    return sorted(x, key=repr)\n", "def f(x, y):\n    return sorted(x, reverse=y)\n",
         "def f(x):\n    return x.split(sep='a')\n"],
    23: ["def f(x):\n    y = zip(x, x)\n    return list(y)\n", "def f(x):\n    return x.items()\n",
         "def f(x):\n    for y in x:\n        x.append(y)\n",
         "def f(x):\n    for k, y in enumerate(x):\n        x[k] = y\n",
         "def f(x):\n    for k in x:\n        x.pop(k)\n        return x\n",
         "def f(x):\n    for k, y in x.items():\n        x[k] = y\n",
         "def f(x):\n    return max(range(x), 1)\n"],
    24: ["def f(x):\n    y = set(x)\n    return y\n", "def f(x):\n    for y in set(x):\n        pass\n",
         "def f(x, y):\n    return set(x) == y\n", "def f(x, y):\n    return set(x) in y\n",
         "def f(x):\n    return sorted(set(x), key=len)\n", "def f(x):\n    return list(set(x) - set(x))\n"],
    25: ["def f(x):\n    return [x.append]\n", "def f(x):\n    x.sort()\n",
         "def f(x):\n    return x.title()\n", "def f(x):\n    return x.union(x)\n",
         "class A:\n    def g(self):\n        pass\n\n\ndef f(x):\n    return [x.g]\n"],
    26: ["class A:\n    def title(self):\n        pass\n",
         "class A:\n    def __init__(self):\n        self.items = 1\n",
         "class A:\n    def __init__(self):\n        self.args = 1\n", "class A:\n    def sort(self):\n        pass\n"],
    27: ["def f(x):\n    return 2 ** x\n", "X = 'a % b'\n", "def f(x):\n    return chr(x)\n", "X = '\\x41'\n",
         "X = 2 ** 65\n", "X = " + "1" * 901 + "\n"],
    28: ["class A:\n    def __init__(self):\n        return None\n",
         "class A:\n    def __len__(self):\n        return 1\n"],
}

KEPT = '''"""A remark."""

from maybetables.n import Bad, g

MOST = 3
NAMES = ["a", "b"]


class A:
    """A class."""

    def __init__(self, xs):
        self.kept = tuple(xs)

    def told(self, start=None):
        return [x for x in self.kept if x != start]


class B(A):
    def __init__(self):
        A.__init__(self, [1, -2])


def f(xs, y):
    """A function."""
    found = {}
    for number, x in enumerate(xs):
        found[x] = number
        if x in NAMES and y is not None:
            raise Bad()
    for key in list(found):
        found.pop(key)
    try:
        found["a"] = g(xs)
    except Bad as e:
        raise KeyError(y) from e
    if set(xs) == set(found) or y in set(xs):
        return []
    told = sorted(set(xs)) if isinstance(y, (int, str)) else sorted(xs, key=lambda z: -z, reverse=True)
    while len(told) > MOST:
        told.pop()
    return told + [f"{y!r} {number}" for number in range(2)] + list(found.items()) + [x ** 2 for x in xs]
'''
OTHER = '''"""Another."""


class Bad(ValueError):
    pass


def g(xs):
    return sum(xs)
'''


class RulesTest(unittest.TestCase):
    """What the rules above see, and what they let stand."""

    def test_each_rule_is_asked(self):
        self.assertEqual(sorted(BROKEN), list(range(2, 29)))
        self.assertEqual(sorted(RULES), list(range(2, 29)))

    def test_what_breaks_a_rule_is_seen(self):
        for number, samples in BROKEN.items():
            for sample in samples:
                texts = {"__init__.py": ""}
                texts.update({"m.py": sample} if isinstance(sample, str) else sample)
                with self.subTest(rule=number, sample=sample):
                    self.assertIn(number, [broken for broken, file, line in breaches(texts)])

    def test_a_lacking_init_is_seen(self):
        texts = {"m.py": "X = 1\n"}
        self.assertIn(("__init__.py", 1), list(rule_14(Sources(texts))))

    def test_what_keeps_to_the_rules_is_not(self):
        self.assertEqual(breaches({"__init__.py": "", "m.py": KEPT, "n.py": OTHER}), [])


if __name__ == "__main__":
    unittest.main()
