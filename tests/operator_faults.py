"""Rule L5 Operators of LANGUAGE.md, with L18 and L28: what operators and properties run changes and calls nothing.

The calls are followed by bare names: a call `x.told(..)` may be one of every method with that name.
"""

import ast

OPERATORS = """lt le gt ge ne add sub mul floordiv mod pow and or xor lshift rshift radd rsub rmul rfloordiv rmod rand ror rxor
rlshift rrshift neg pos invert abs bool contains getitem eq len str repr""".split()
BUILTINS = """len range enumerate zip min max sum abs sorted reversed int str bool bytes list tuple dict set frozenset
isinstance ord repr any all divmod""".split()
CHANGING = "append clear extend insert pop remove reverse setdefault update sort add discard".split()
HARMLESS = """copy count endswith find get index isalnum isalpha isdigit islower isspace isupper items join keys ljust lower
lstrip partition replace rfind rjust rpartition rsplit rstrip split splitlines startswith strip upper values zfill
bit_length""".split()


class Package:
    """What the files of a package define."""

    def __init__(self, sources):
        self.functions = {}
        self.methods = {}
        self.makers = {}
        self.held = set()
        self.library = set()
        self.roots = []
        self.bases = {}
        for name, text in sources.items():
            self.read(name, ast.parse(text))

    def read(self, name, tree):
        for node in tree.body:
            if isinstance(node, ast.FunctionDef):
                self.functions.setdefault(node.name, []).append((name, node))
            elif isinstance(node, ast.ClassDef):
                self.read_class(name, node)
            elif isinstance(node, ast.ImportFrom) and node.module in ("heapq", "math", "itertools"):
                self.library.update(alias.name for alias in node.names)
        self.held.update(node.attr for node in ast.walk(tree)
                         if isinstance(node, ast.Attribute) and isinstance(node.ctx, ast.Store))

    def read_class(self, name, node):
        self.bases[node.name] = [base.id for base in node.bases]
        for part in node.body:
            if isinstance(part, ast.Assign):
                self.held.update(target.id for target in part.targets)
            if isinstance(part, ast.FunctionDef):
                self.read_method(name, node.name, part)

    def read_method(self, name, owner, node):
        if any(isinstance(decorator, ast.Name) and decorator.id == "property" for decorator in node.decorator_list):
            self.held.add(node.name)
            self.roots.append((name, node))
        elif node.name == "__init__":
            self.makers[owner] = (name, node)
        elif node.name.startswith("__"):
            if node.name.strip("_") in OPERATORS:
                self.roots.append((name, node))
        else:
            self.methods.setdefault(node.name, []).append((name, node))

    def maker(self, owner):
        """The `__init__` of a class, as a list."""
        if owner in self.makers:
            return [self.makers[owner]]
        return [made for base in self.bases.get(owner, []) for made in self.maker(base)]


class Look:
    """A look at one function: what it calls, and what is wrong with it."""

    def __init__(self, package, node):
        self.package = package
        self.node = node
        self.called = []
        self.wrong = []
        self.assigned = {}
        for part in ast.walk(node):
            if isinstance(part, ast.Assign):
                for target in part.targets:
                    if isinstance(target, ast.Name):
                        self.assigned.setdefault(target.id, []).append(part.value)
                    elif isinstance(target, ast.Tuple):
                        for name in ast.walk(target):
                            if isinstance(name, ast.Name) and isinstance(name.ctx, ast.Store):
                                self.assigned.setdefault(name.id, []).append(None)
        for part in ast.walk(node):
            self.look(part)

    def look(self, part):
        if isinstance(part, ast.Call):
            self.look_at_call(part)
        elif isinstance(part, (ast.Attribute, ast.Subscript)) and not isinstance(part.ctx, ast.Load):
            self.look_at_change(part)
        elif isinstance(part, ast.AugAssign):
            self.look_at_sum(part)
        elif isinstance(part, (ast.Yield, ast.YieldFrom)):
            self.wrong.append((part.lineno, "yield"))

    def look_at_call(self, call):
        if isinstance(call.func, ast.Name):
            self.look_at_name(call, call.func.id)
        elif isinstance(call.func, ast.Attribute):
            self.look_at_method(call, call.func.attr)
        else:
            self.wrong.append((call.lineno, "calls what it holds"))

    def look_at_name(self, call, name):
        if name in self.package.functions:
            self.called.extend(self.package.functions[name])
        elif name in self.package.bases:
            self.called.extend(self.package.maker(name))
        elif name not in BUILTINS and name not in self.package.library:
            self.wrong.append((call.lineno, f"calls {name}"))

    def look_at_method(self, call, name):
        if name in self.package.held:
            self.wrong.append((call.lineno, f"calls .{name}, which is held"))
        elif name in self.package.methods:
            self.called.extend(self.package.methods[name])
        elif name in CHANGING:
            if name in ("sort", "add", "discard") or not self.is_own(call.func.value):
                self.wrong.append((call.lineno, f"changes by .{name}"))
        elif name not in HARMLESS:
            self.wrong.append((call.lineno, f"calls .{name}"))

    def look_at_change(self, part):
        if isinstance(part, ast.Attribute):
            of_self = isinstance(part.value, ast.Name) and part.value.id == "self"
            if not of_self or self.node.name != "__init__":
                self.wrong.append((part.lineno, f"assigns .{part.attr}"))
        elif not self.is_own(part.value):
            self.wrong.append((part.lineno, "assigns an item"))

    def look_at_sum(self, part):
        if not isinstance(part.target, ast.Name):
            return
        number = isinstance(part.value, ast.Constant) and isinstance(part.value.value, int)
        values = self.assigned.get(part.target.id, [None])
        plain = all(isinstance(value, ast.Constant) or is_made(value, (ast.List,), ("list",)) for value in values)
        if not number and not (plain and isinstance(part.op, ast.Add)):
            self.wrong.append((part.lineno, "adds to what may be held"))

    def is_own(self, node):
        """Whether this is a list or dict that the function itself creates."""
        values = self.assigned.get(node.id, [None]) if isinstance(node, ast.Name) else [None]
        made = (ast.List, ast.Dict, ast.ListComp)
        return all(is_made(value, made, ("list", "dict", "sorted")) for value in values)


def is_made(value, kinds, makers):
    """Whether the value is such a literal or comprehension, or a call of such a builtin."""
    if isinstance(value, kinds):
        return True
    return isinstance(value, ast.Call) and isinstance(value.func, ast.Name) and value.func.id in makers


def operator_faults(sources):
    """(file, row, what is wrong) for all that operators and properties of the package run; sources are texts by names."""
    package = Package(sources)
    faults = set()
    left = list(package.roots)
    seen = []
    while left:
        name, node = left.pop()
        if node in seen:
            continue
        seen.append(node)
        look = Look(package, node)
        faults.update((name, row, wrong) for row, wrong in look.wrong)
        left.extend(look.called)
    return sorted(faults)
