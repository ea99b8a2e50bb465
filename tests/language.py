"""The rules L1 to L28 of LANGUAGE.md, as far as a test can see them in a file's text.

faults(sources) takes a dict {path within the package: text} and tells a list of
(rule, path, line, words). Where a rule leaves a form to taste ("best none",
"best: don't write them"), the form is told as a fault.
"""

import ast
import builtins
import re

PACKAGE = "telltight"
ERRORS = ("Exception ValueError TypeError KeyError IndexError LookupError ZeroDivisionError ArithmeticError "
          "OverflowError RuntimeError NotImplementedError AttributeError StopIteration").split()
CALLED = ("len range enumerate zip min max sum abs sorted reversed int str bool list tuple dict set frozenset "
          "isinstance ord repr any all divmod").split()
METHODS = ("append clear copy count endswith extend find get index insert isalnum isalpha isdigit islower isspace "
           "isupper items join keys ljust lower lstrip partition pop remove replace reverse rfind rjust rpartition "
           "rsplit rstrip setdefault split splitlines startswith strip update upper values zfill bit_length").split()
CHANGING = "append clear extend insert pop remove reverse setdefault update".split()
READING = "get items keys values index count copy".split()
VALUE_NAMES = "count index title find get join lower upper split strip copy add".split()
NOWHERE = ("register mro elements open input version_info with_traceback add_note f_back f_code f_globals f_locals "
           "tb_next tb_frame co_names co_code gi_frame cr_frame").split()
NOT_NAMES = ("attrgetter breakpoint builtins compile copyright credits delattr dir eval exec exit gc getattr globals "
             "hasattr help id importlib license locals methodcaller os quit setattr super type vars").split()
WORDS = ("type typing typing_extensions enum Enum IntEnum StrEnum Flag IntFlag Generic Protocol ABC ABCMeta "
         "namedtuple NamedTuple TypedDict TYPE_CHECKING abstractmethod").split()
WITHIN = ("dataclass", "overload", "contextmanager")
FILE_NAMES = ("test", "tests", "testing", "site", "conftest", "sitecustomize", "usercustomize")
OTHER_NAMES = ("__all__", "__version__", "__name__")
OWN_DUNDERS = ("__init__", "__eq__", "__repr__", "__str__", "__len__")
KEYWORDS = {"sorted": ("key", "reverse"), "min": ("key", "default"), "max": ("key", "default"),
            "sum": ("start",), "enumerate": ("start",), "zip": ("strict",)}
STATEMENTS = (ast.Assign, ast.AugAssign, ast.If, ast.While, ast.For, ast.Return, ast.Break, ast.Continue, ast.Pass,
              ast.Raise, ast.Try, ast.Expr, ast.FunctionDef, ast.ClassDef, ast.ImportFrom, ast.Import)
EXPRESSIONS = (ast.Constant, ast.List, ast.Tuple, ast.Dict, ast.Set, ast.BinOp, ast.UnaryOp, ast.Compare, ast.BoolOp,
               ast.IfExp, ast.Call, ast.Attribute, ast.Subscript, ast.Slice, ast.ListComp, ast.JoinedStr,
               ast.FormattedValue, ast.Lambda, ast.Name)
OPERATORS = (ast.Add, ast.Sub, ast.Mult, ast.FloorDiv, ast.Mod, ast.Pow, ast.BitAnd, ast.BitOr, ast.BitXor,
             ast.LShift, ast.RShift)
PYTHONS_OWN = set(dir(builtins))
PYTHONS_ATTRIBUTES = set()
for python_class in (str, int, list, dict, set, bytes, tuple):
    PYTHONS_ATTRIBUTES |= set(dir(python_class))


def faults(sources):
    files = {path: File(path, text) for path, text in sources.items()}
    found = []
    for file in files.values():
        found += file.text_faults()
        if file.tree is not None:
            found += file.tree_faults(files)
    return found + ring_faults(files) + clash_faults(files)


def module_name(path):
    name = path[:-3].replace("/", ".")
    return PACKAGE if name == "__init__" else f"{PACKAGE}.{name}"


def ring_faults(files):
    drawn = {module_name(path): file.drawn_from() for path, file in files.items()}
    found = []
    for start in drawn:
        reached, waiting = set(), list(drawn[start])
        while waiting:
            name = waiting.pop()
            if name not in reached:
                reached.add(name)
                waiting += drawn.get(name, [])
        if start in reached:
            found.append(("L16", start, 1, "draws from itself"))
    return found


def clash_faults(files):
    methods, values = {}, {}
    for path, file in files.items():
        for node in ast.walk(file.tree) if file.tree else ():
            if isinstance(node, ast.ClassDef):
                methods.update({item.name: path for item in node.body if isinstance(item, ast.FunctionDef)})
            if isinstance(node, ast.Attribute) and isinstance(node.ctx, ast.Store):
                values[node.attr] = path
    return [("L18", methods[name], 1, f"{name} is a method and a value") for name in methods if name in values]


class File:
    def __init__(self, path, text):
        self.path, self.text = path, text
        self.is_main = path == "__main__.py"
        self.found = []
        try:
            self.tree = ast.parse(text)
        except SyntaxError:
            self.tree = None
            return
        self.above = {child: node for node in ast.walk(self.tree) for child in ast.iter_child_nodes(node)}
        self.classes = [node.name for node in ast.walk(self.tree) if isinstance(node, ast.ClassDef)]
        self.imports = [alias.asname or alias.name for node in ast.walk(self.tree)
                        if isinstance(node, (ast.ImportFrom, ast.Import)) for alias in node.names]
        self.tops = self.top_names()
        self.methods = [item.name for node in ast.walk(self.tree) if isinstance(node, ast.ClassDef)
                        for item in node.body if isinstance(item, ast.FunctionDef)]

    def tell(self, rule, node, words):
        self.found.append((rule, self.path, node if isinstance(node, int) else getattr(node, "lineno", 1), words))

    def top_names(self):
        names = {}
        for node in self.tree.body:
            if isinstance(node, ast.Assign):
                names.update({target.id: node.value for target in node.targets if isinstance(target, ast.Name)})
            elif isinstance(node, (ast.FunctionDef, ast.ClassDef)):
                names[node.name] = node
        return names

    def drawn_from(self):
        if self.tree is None:
            return []
        modules = [node.module for node in ast.walk(self.tree) if isinstance(node, ast.ImportFrom)]
        modules = [name for name in modules if name and name.split(".")[0] == PACKAGE]
        return modules + ([PACKAGE] if modules else [])

    def text_faults(self):
        self.found = []
        lines = self.text.split("\n")
        for number, line in enumerate(lines, 1):
            if len(line) > 120 or "\t" in line:
                self.tell("L10", number, "long line or tab")
            if re.search(r"[^ -~]", line):
                self.tell("L14", number, "sign")
            for word in re.findall(r"\w+", line):
                if word in WORDS or any(part in word for part in WITHIN):
                    self.tell("L17", number, word)
            if re.search(r"\\[^nt'\"\\]|\\$", line.replace("\\\\", "")):
                self.tell("L27", number, "escape")
        if len(lines) - 1 > 400:
            self.tell("L10", 1, "long file")
        stem = self.path.split("/")[-1][:-3]
        if not re.fullmatch(r"[a-z][a-z0-9_]*|__init__|__main__", stem) or not self.path.endswith(".py"):
            self.tell("L1", 1, "file name")
        if stem in FILE_NAMES or stem.startswith("test_") or stem in WORDS or stem in PYTHONS_OWN:
            self.tell("L14", 1, "file name")
        if self.tree is None:
            self.tell("L6", 1, "no Python")
        return self.found

    def tree_faults(self, files):
        self.found = []
        self.check_top()
        self.check_imports(files)
        self.check_bindings()
        for node in ast.walk(self.tree):
            for check in (self.check_statement, self.check_expression, self.check_names, self.check_function,
                          self.check_class, self.check_class_use, self.check_errors, self.check_calls,
                          self.check_walks, self.check_sets, self.check_attributes, self.check_texts,
                          self.check_top_lists):
                check(node)
        self.check_lambdas()
        return self.found

    # L3, L15
    def check_top(self):
        bound = []
        for place, node in enumerate(self.tree.body):
            if isinstance(node, ast.Assign):
                if not isinstance(node.targets[0], ast.Name) or not self.is_plain(node.value, node.lineno):
                    self.tell("L3", node, "not a plain value")
                bound += [target.id for target in node.targets if isinstance(target, ast.Name)]
            elif isinstance(node, (ast.FunctionDef, ast.ClassDef)):
                bound.append(node.name)
            elif isinstance(node, (ast.ImportFrom, ast.Import)):
                bound += [alias.asname or alias.name for alias in node.names]
            elif isinstance(node, ast.Expr) and place == 0 and self.is_text(node.value):
                continue
            elif not (self.is_main and isinstance(node, ast.If) and node is self.tree.body[-1]):
                self.tell("L3", node, "stands at the top")
        for name in bound:
            if bound.count(name) > 1:
                self.tell("L15", 1, f"{name} is bound twice")

    def is_text(self, node):
        return isinstance(node, ast.Constant) and isinstance(node.value, str)

    def is_plain(self, node, line):
        if isinstance(node, ast.Constant):
            return node.value is None or isinstance(node.value, (int, str))
        if isinstance(node, ast.UnaryOp):
            return isinstance(node.op, ast.USub) and self.is_plain(node.operand, line)
        if isinstance(node, ast.Name):
            kept = self.tops.get(node.id)
            return isinstance(kept, ast.FunctionDef) and kept.lineno < line
        if isinstance(node, (ast.List, ast.Tuple)):
            return all(self.is_plain(item, line) for item in node.elts)
        if isinstance(node, ast.Dict):
            return all(self.is_plain(item, line) for item in node.keys + node.values)
        return False

    # L2, L16
    def check_imports(self, files):
        for node in ast.walk(self.tree):
            if isinstance(node, ast.Import):
                if not (self.is_main and [alias.name for alias in node.names] == ["sys"]):
                    self.tell("L2", node, "import")
            if not isinstance(node, ast.ImportFrom):
                continue
            if node not in self.tree.body:
                self.tell("L2", node, "import not at the top")
            names = [alias.name for alias in node.names]
            if (node.module, names) == ("__future__", ["annotations"]):
                continue
            if node.level or (node.module or "").split(".")[0] != PACKAGE or "*" in names:
                self.tell("L2", node, "import from outside")
                continue
            source = [file for path, file in files.items() if module_name(path) == node.module]
            if not source or node.module.endswith("__main__"):
                self.tell("L2", node, "no such file")
            elif any(name not in source[0].tops for name in names):
                self.tell("L16", node, "not from the file that defines it")

    # L8, L15
    def check_bindings(self):
        bound = set(self.tops) | set(self.imports)
        for node in ast.walk(self.tree):
            name = None
            if isinstance(node, ast.Name) and isinstance(node.ctx, ast.Store):
                name = node.id
            elif isinstance(node, ast.arg):
                name = node.arg
            elif isinstance(node, ast.ExceptHandler):
                name = node.name
            elif isinstance(node, ast.FunctionDef):
                name = None if node.name in self.methods else node.name
            if name is None:
                continue
            bound.add(name)
            at_top = self.above.get(self.above.get(node)) is self.tree or self.above.get(node) is self.tree
            if name in PYTHONS_OWN and name not in OTHER_NAMES:
                self.tell("L15", node, f"{name} is Python's own")
            if not at_top and name in self.classes + self.imports:
                self.tell("L15", node, f"{name} is a class or an import")
        for node in ast.walk(self.tree):
            if isinstance(node, ast.Name) and isinstance(node.ctx, ast.Load) and node.id not in bound:
                if node.id not in CALLED + ERRORS and not (self.is_main and node.id in ("print", "sys", "__name__")):
                    self.tell("L27" if node.id == "chr" else "L8", node, f"the name {node.id}")

    # L6
    def check_statement(self, node):
        if not isinstance(node, ast.stmt):
            return
        if not isinstance(node, STATEMENTS):
            self.tell("L6", node, type(node).__name__)
        if isinstance(node, (ast.For, ast.While)) and node.orelse:
            self.tell("L6", node, "else behind a loop")
        if isinstance(node, ast.Assign) and len(node.targets) != 1:
            self.tell("L6", node, "several targets")
        if isinstance(node, ast.Try) and node.finalbody:
            self.tell("L6", node, "finally")
        if isinstance(node, ast.Expr) and not isinstance(node.value, ast.Call):
            if node is not self.tree.body[0]:
                self.tell("L6", node, "a value by itself")

    # L7, L13, L20, L27
    def check_expression(self, node):
        if isinstance(node, ast.expr) and not isinstance(node, EXPRESSIONS):
            self.tell("L7", node, type(node).__name__)
        if isinstance(node, ast.Constant) and not (node.value is None or isinstance(node.value, (int, str))):
            self.tell("L7", node, "constant")
        if isinstance(node, (ast.BinOp, ast.AugAssign)):
            if not isinstance(node.op, OPERATORS):
                self.tell("L7", node, "operator")
            right = node.right if isinstance(node, ast.BinOp) else node.value
            if isinstance(node.op, ast.Pow):
                if not (isinstance(right, ast.Constant) and 0 <= right.value <= 64):
                    self.tell("L27", node, "exponent")
        if isinstance(node, ast.ListComp):
            if len(node.generators) != 1 or len(node.generators[0].ifs) > 1:
                self.tell("L7", node, "comprehension")
        if isinstance(node, ast.FormattedValue):
            if not isinstance(node.value, ast.Name) or node.conversion not in (-1, ord("r")) or node.format_spec:
                self.tell("L7", node, "f-string")
        if isinstance(node, ast.Dict) and None in node.keys:
            self.tell("L7", node, "star")
        if isinstance(node, ast.Set) and len(node.elts) > 2 and not self.is_asked_with_in(node):
            self.tell("L13", node, "set written out")
        if isinstance(node, ast.Compare):
            sides = [node.left] + node.comparators
            for place, sign in enumerate(node.ops):
                beside = [side.value for side in sides[place:place + 2] if isinstance(side, ast.Constant)]
                if isinstance(sign, (ast.Is, ast.IsNot)) and not any(v is None or v is True or v is False
                                                                      for v in beside):
                    self.tell("L20", node, "is")

    def is_asked_with_in(self, node):
        above = self.above[node]
        return isinstance(above, ast.Compare) and node in above.comparators and any(
            isinstance(sign, (ast.In, ast.NotIn)) for sign in above.ops)

    def check_lambdas(self):
        seen = set()
        for node in ast.walk(self.tree):
            if isinstance(node, ast.Lambda):
                key = (node.lineno, ast.dump(node.args))
                if key in seen:
                    self.tell("L13", node, "two lambdas on a line")
                seen.add(key)

    # L8, L12, L17
    def check_names(self, node):
        names = []
        for field in ("id", "arg", "attr", "name", "asname"):
            name = getattr(node, field, None)
            if isinstance(name, str) and not isinstance(node, ast.alias):
                names.append((field, name))
        for field, name in names:
            known = name in OTHER_NAMES or name in OWN_DUNDERS
            if not known and not re.fullmatch(r"[A-Za-z][A-Za-z0-9_]*", name):
                self.tell("L12", node, name)
            if name in NOWHERE:
                self.tell("L17", node, name)
            if field != "attr" and name in NOT_NAMES:
                self.tell("L17", node, name)
            if field == "attr" and name in ("format", "format_map", "mro"):
                self.tell("L8", node, name)
            if name == "__name__" and not self.is_main:
                self.tell("L17", node, name)

    # L4, L10, L21, L28
    def check_function(self, node):
        if not isinstance(node, (ast.FunctionDef, ast.Lambda)):
            return
        found = node.args
        if found.vararg or found.kwarg or found.kwonlyargs or found.posonlyargs:
            self.tell("L4", node, "parameters")
        if not all(self.is_plain(given, 0) for given in found.defaults):
            self.tell("L4", node, "default")
        if isinstance(node, ast.Lambda):
            return
        if node.decorator_list:
            self.tell("L4", node, "decorator")
        if node.end_lineno - node.lineno + 1 > 40:
            self.tell("L10", node, "long function")
        if node.returns or any(argument.annotation for argument in found.args):
            self.tell("L21", node, "annotation")
        if node.name in OWN_DUNDERS and node.name != "__init__":
            self.tell("L28", node, node.name)
        if node.name == "__init__" and any(isinstance(item, ast.Return) and item.value for item in ast.walk(node)):
            self.tell("L28", node, "__init__ gives something back")

    # L5, L15, L18
    def check_class(self, node):
        if not isinstance(node, ast.ClassDef):
            return
        if node not in self.tree.body:
            self.tell("L15", node, "class not at the top")
        if node.decorator_list or node.keywords or len(node.bases) > 1:
            self.tell("L5", node, "class head")
        for base in node.bases:
            if not isinstance(base, ast.Name) or base.id not in ERRORS + self.classes + self.imports:
                self.tell("L5", node, "base")
            elif base.id in ("StopIteration", "AttributeError"):
                self.tell("L18", node, "base")
        names = [item.name for item in node.body if isinstance(item, ast.FunctionDef)]
        for item in node.body:
            if not isinstance(item, (ast.FunctionDef, ast.Pass)):
                self.tell("L5", item, "value in the class body")
        for name in names:
            if names.count(name) > 1:
                self.tell("L18", node, f"{name} stands twice")
            if name not in OWN_DUNDERS and name in PYTHONS_ATTRIBUTES and name not in METHODS + ["add", "discard"]:
                self.tell("L26", node, name)

    # L18
    def check_class_use(self, node):
        classes = self.classes + ERRORS + [name for name in self.imports if name[:1].isupper() and not name.isupper()]
        if isinstance(node, ast.Name) and isinstance(node.ctx, ast.Load) and node.id in classes:
            above = self.above[node]
            if isinstance(above, ast.Tuple):
                above = self.above[above]
            fine = isinstance(above, (ast.ClassDef, ast.ExceptHandler, ast.Raise))
            fine = fine or isinstance(above, ast.Attribute) and above.attr == "__init__"
            if isinstance(above, ast.Call):
                fine = above.func is node or getattr(above.func, "id", None) == "isinstance"
            if not fine:
                self.tell("L18", node, f"the class {node.id} is handed on")
        if isinstance(node, ast.Attribute) and isinstance(node.ctx, ast.Store):
            if not isinstance(node.value, ast.Name) or node.value.id in list(self.tops) + self.imports:
                self.tell("L18", node, "a value is given to another than a local name")

    # L19
    def check_errors(self, node):
        if isinstance(node, ast.Raise):
            if not isinstance(node.exc, ast.Call):
                self.tell("L19", node, "raise")
        if not isinstance(node, ast.Try):
            return
        for handler in node.handlers:
            if handler.type is None:
                self.tell("L6", handler, "bare except")
                continue
            parts = handler.type.elts if isinstance(handler.type, ast.Tuple) else [handler.type]
            names = [getattr(part, "id", None) for part in parts]
            if "Exception" in names or "TypeError" in names:
                self.tell("L19", handler, "taken")
            if {"ValueError", "LookupError", "IndexError"} & set(names) and not self.is_small_try(node, names):
                self.tell("L19", handler, "taken round too much")

    def is_small_try(self, node, names):
        calls = () if "IndexError" in names else ("int", "str", "index", "remove")
        for item in [part for statement in node.body for part in ast.walk(statement)]:
            if isinstance(item, ast.Call):
                if getattr(item.func, "id", getattr(item.func, "attr", None)) not in calls:
                    return False
            if isinstance(item, (ast.JoinedStr, ast.Slice, ast.Lambda)):
                return False
            if isinstance(item, (ast.Mult, ast.Pow, ast.Mod, ast.LShift, ast.RShift)):
                return False
        return True

    # L22
    def check_calls(self, node):
        if isinstance(node, ast.Name) and isinstance(node.ctx, ast.Load) and node.id in CALLED:
            above = self.above[node]
            called = isinstance(above, ast.Call) and above.func is node
            as_key = isinstance(above, ast.keyword) and above.arg == "key"
            as_key = as_key and node.id in ("len", "int", "str", "abs", "sum", "min", "max", "tuple")
            if isinstance(above, ast.Tuple):
                above = self.above[above]
            asked = isinstance(above, ast.Call) and getattr(above.func, "id", None) == "isinstance"
            asked = asked and node.id in ("int", "str", "bool", "list", "tuple", "dict")
            if not (called or as_key or asked):
                self.tell("L22", node, f"{node.id} is kept")
        if isinstance(node, ast.Call) and node.keywords:
            name = getattr(node.func, "id", getattr(node.func, "attr", None))
            pythons_own = isinstance(node.func, ast.Name) and name in CALLED + ERRORS
            if pythons_own or isinstance(node.func, ast.Attribute) and name in METHODS:
                if any(keyword.arg not in KEYWORDS.get(name, ()) for keyword in node.keywords):
                    self.tell("L22", node, "keyword")

    # L23
    def check_walks(self, node):
        if isinstance(node, ast.Call) and self.is_walker(node) and not self.is_walked(node):
            self.tell("L23", node, "not walked on the spot")
        if isinstance(node, ast.For):
            walked = node.iter
            bases = [walked]
            if isinstance(walked, ast.Call):
                bases = walked.args + ([walked.func.value] if isinstance(walked.func, ast.Attribute) else [])
            named = [self.shown(base) for base in bases if isinstance(base, (ast.Name, ast.Attribute))]
            for item in [part for statement in node.body for part in ast.walk(statement)]:
                changed = None
                if isinstance(item, ast.Subscript) and isinstance(item.ctx, ast.Store):
                    changed = item.value
                if isinstance(item, ast.Call) and isinstance(item.func, ast.Attribute) and item.func.attr in CHANGING:
                    changed = item.func.value
                if changed is not None and self.shown(changed) in named:
                    self.tell("L23", item, "what is walked is changed")

    def shown(self, node):
        return ast.unparse(node)

    def is_walker(self, node):
        if isinstance(node.func, ast.Name):
            return node.func.id in ("zip", "enumerate", "reversed", "range")
        return isinstance(node.func, ast.Attribute) and node.func.attr in ("items", "keys", "values")

    def is_walked(self, node):
        above = self.above[node]
        if isinstance(above, (ast.For, ast.comprehension)):
            return above.iter is node
        if not isinstance(above, ast.Call) or not above.args or above.args[0] is not node:
            return False
        if isinstance(above.func, ast.Attribute):
            return above.func.attr == "join" and isinstance(above.func.value, ast.Constant)
        name = getattr(above.func, "id", None)
        if name in ("min", "max"):
            return len(above.args) == 1
        return name in ("list", "tuple", "dict", "sorted", "sum", "any", "all", "enumerate", "zip")

    # L24
    def check_sets(self, node):
        is_set = isinstance(node, ast.Set)
        if isinstance(node, ast.Call) and isinstance(node.func, ast.Name):
            is_set = node.func.id in ("set", "frozenset")
        if not is_set:
            return
        above = self.above[node]
        while isinstance(above, ast.BinOp):
            above = self.above[above]
        fine = isinstance(above, ast.Compare)
        if isinstance(above, ast.Call) and isinstance(above.func, ast.Name):
            fine = above.func.id in ("sorted", "len") and not above.keywords
        if not fine:
            self.tell("L24", node, "a set is kept or walked")

    # L25, L26
    def check_attributes(self, node):
        if not isinstance(node, ast.Attribute) or node.attr == "__init__":
            return
        if isinstance(node.ctx, ast.Store):
            if node.attr in PYTHONS_ATTRIBUTES and node.attr not in VALUE_NAMES or node.attr in ("args", "format"):
                self.tell("L26", node, node.attr)
            return
        above = self.above[node]
        called = isinstance(above, ast.Call) and above.func is node
        if called and node.attr in PYTHONS_ATTRIBUTES and node.attr not in METHODS + self.methods:
            self.tell("L25", node, node.attr)
        if not called and node.attr in METHODS and node.attr not in VALUE_NAMES:
            if not (isinstance(above, ast.keyword) and above.arg == "key"):
                self.tell("L25", node, f"{node.attr} is handed on")

    # L27
    def check_texts(self, node):
        if self.is_text(node) and "%" in node.value:
            self.tell("L27", node, "sign within a text")
        if isinstance(node, ast.Constant) and type(node.value) is int and abs(node.value) >= 10 ** 900:
            self.tell("L27", node, "long number")

    # L15
    def check_top_lists(self, node):
        if isinstance(node, ast.Assign) and node in self.tree.body and isinstance(node.value, (ast.List, ast.Dict)):
            inner = [item for item in ast.walk(node.value) if isinstance(item, (ast.List, ast.Dict))]
            if len(inner) > 1:
                self.tell("L15", node, "a list within a list at the top")
        if not (isinstance(node, ast.Name) and isinstance(self.tops.get(node.id), (ast.List, ast.Dict))):
            return
        above = self.above[node]
        if isinstance(node.ctx, ast.Store):
            return
        fine = isinstance(above, (ast.Compare, ast.For, ast.comprehension))
        if isinstance(above, ast.Subscript):
            fine = above.value is node and isinstance(above.ctx, ast.Load)
        if isinstance(above, ast.Call):
            fine = above.func is not node and getattr(above.func, "id", None) in CALLED
        if isinstance(above, ast.Attribute):
            fine = above.attr in READING
        if not fine:
            self.tell("L15", node, f"{node.id} is changed or handed on")
