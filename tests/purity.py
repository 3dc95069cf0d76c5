"""Finds what an operator, a property, `==`, `str`, `repr` or `len` runs and must not run (rules L5 and L28).

What they run is followed through all functions, classes and methods of the package that may be meant by a call."""

import ast

# The methods that change their object for their caller or that are no operators.
NO_OPERATORS = {"__init__", "__call__", "__iter__", "__enter__", "__exit__", "__setitem__"}
IN_PLACE = {"__iadd__", "__isub__", "__imul__", "__ifloordiv__", "__imod__", "__iand__", "__ior__", "__ixor__"}
CHANGING = {
    "append", "clear", "extend", "insert", "pop", "remove", "reverse", "setdefault", "update", "add", "discard", "sort"}
HEAPS = {"heappush", "heappop", "heapify", "heapreplace", "heappushpop"}
FRESH_CALLS = {"list", "dict", "sorted"}
BUILTINS = set(
    "len range enumerate zip min max sum abs sorted reversed int str bool list tuple dict set isinstance ord repr any all "
    "divmod gcd lcm isqrt comb perm factorial super ValueError TypeError KeyError IndexError LookupError".split())
BUILTIN_METHODS = set(
    "copy count endswith find get index isalnum isalpha isdigit islower isspace isupper items join keys ljust lower lstrip "
    "partition replace rfind rjust rpartition rsplit rstrip split splitlines startswith strip upper values zfill "
    "bit_length removeprefix removesuffix".split())


class Sources:
    """The files of a package, parsed: `texts` is a dict from the names of the files to their texts."""

    def __init__(self, texts):
        self.functions = {}
        self.classes = {}
        self.imports = {}
        self.methods = {}
        for module, text in texts.items():
            self.imports[module] = {}
            for part in ast.parse(text).body:
                self.take(module, part)

    def take(self, module, part):
        if isinstance(part, ast.ImportFrom):
            for alias in part.names:
                self.imports[module][alias.name] = part.module.rpartition(".")[2]
        elif isinstance(part, ast.FunctionDef):
            self.functions[(module, part.name)] = part
        elif isinstance(part, ast.ClassDef):
            self.classes[(module, part.name)] = part
            for method in part.body:
                if isinstance(method, ast.FunctionDef):
                    self.methods.setdefault(method.name, []).append((module, method))

    def named(self, module, name):
        """The function or class that a name means in a file: its file and its node, or None."""
        place = (self.imports[module].get(name, module), name)
        for known in (self.functions, self.classes):
            if place in known:
                return place[0], known[place]
        return None

    def made_by(self, module, node):
        """The `__init__` that a call of a class runs, or None."""
        for part in node.body:
            if isinstance(part, ast.FunctionDef) and part.name == "__init__":
                return module, part
        for base in node.bases:
            found = self.named(module, base.id) if isinstance(base, ast.Name) else None
            if found is not None:
                return self.made_by(*found)
        return None

    def roots(self):
        """What runs when an operator is used or a property is read."""
        for module, part in [(module, part) for (module, _), part in self.classes.items()]:
            for method in part.body:
                if isinstance(method, ast.FunctionDef):
                    marks = [ast.unparse(mark) for mark in method.decorator_list]
                    special = method.name.startswith("__") and method.name not in NO_OPERATORS | IN_PLACE
                    if special or "property" in marks:
                        yield module, method


def impure_rows(texts):
    """For each bad row that an operator or a property runs `(operator, file, line, why)`."""
    sources = Sources(texts)
    found = []
    for module, root in sources.roots():
        seen = set()
        waiting = [(module, root)]
        while waiting:
            place, node = waiting.pop()
            if (place, node.lineno) not in seen:
                seen.add((place, node.lineno))
                reader = Reader(sources, place, node)
                reader.read()
                found += [(root.name, place, line, why) for line, why in reader.bad]
                waiting += reader.calls
    return found


class Reader:
    """Reads one function: what it does that must not be done, and which functions of the package it calls."""

    def __init__(self, sources, module, node):
        self.sources = sources
        self.module = module
        self.node = node
        self.bad = []
        self.calls = []
        self.values = {}
        for part in ast.walk(node):
            if isinstance(part, ast.Assign):
                for target in part.targets:
                    if isinstance(target, ast.Name):
                        self.values.setdefault(target.id, []).append(part.value)
        self.bound = {part.arg for part in ast.walk(node) if isinstance(part, ast.arg)}
        self.bound |= {
            part.id for part in ast.walk(node) if isinstance(part, ast.Name) and not isinstance(part.ctx, ast.Load)}

    def refuse(self, node, why):
        self.bad.append((node.lineno, why))

    def is_fresh(self, node):
        """Whether it is a local variable that is assigned nothing but lists and dicts that are made there."""
        if not isinstance(node, ast.Name) or node.id not in self.values:
            return False
        return all(
            isinstance(value, (ast.List, ast.Dict, ast.ListComp))
            or isinstance(value, ast.Call) and isinstance(value.func, ast.Name) and value.func.id in FRESH_CALLS
            for value in self.values[node.id])

    def read(self):
        for part in ast.walk(self.node):
            if isinstance(part, (ast.Yield, ast.YieldFrom)):
                self.refuse(self.node, "a generator runs")
            elif isinstance(part, (ast.Assign, ast.AnnAssign, ast.Delete, ast.For)):
                targets = part.targets if isinstance(part, (ast.Assign, ast.Delete)) else [part.target]
                for target in targets:
                    self.read_target(target)
            elif isinstance(part, ast.AugAssign):
                self.read_change(part)
            elif isinstance(part, (ast.Nonlocal, ast.GeneratorExp, ast.Await)):
                self.refuse(part, "a statement or expression that is not allowed here")
            elif isinstance(part, ast.Call):
                self.read_call(part)

    def read_target(self, target):
        if isinstance(target, (ast.Tuple, ast.List)):
            for part in target.elts:
                self.read_target(part)
        elif isinstance(target, ast.Attribute):
            new = self.node.name == "__init__" and isinstance(target.value, ast.Name) and target.value.id == "self"
            if not new:
                self.refuse(target, "an attribute changes")
        elif isinstance(target, ast.Subscript) and not self.is_fresh(target.value):
            self.refuse(target, "an item changes")

    def read_change(self, part):
        """Judges `+=` and the like."""
        if not isinstance(part.target, ast.Name):
            self.read_target(part.target)
        elif isinstance(part.op, (ast.Sub, ast.FloorDiv, ast.Mod)) or isinstance(part.value, ast.Constant):
            return
        elif not isinstance(part.op, ast.Add) or not all(
                isinstance(value, ast.Constant) or self.is_fresh(part.target) for value in
                self.values.get(part.target.id, [part.value])):
            self.refuse(part, "what the name stands for may change")

    def read_call(self, part):
        if isinstance(part.func, ast.Name):
            self.read_named_call(part, part.func.id)
        elif isinstance(part.func, ast.Attribute):
            self.read_method_call(part, part.func.attr)
        else:
            self.refuse(part, "what is called has no name")

    def read_named_call(self, part, name):
        found = self.sources.named(self.module, name)
        if name in HEAPS:
            if not self.is_fresh(part.args[0]):
                self.refuse(part, "a list changes")
        elif name in self.bound:
            self.refuse(part, "what was passed is called")
        elif found is not None and isinstance(found[1], ast.ClassDef):
            made = self.sources.made_by(*found)
            self.calls += [] if made is None else [made]
        elif found is not None:
            self.calls.append(found)
        elif name not in BUILTINS and name != "iter":
            self.refuse(part, f"{name} is called")

    def read_method_call(self, part, name):
        if name in CHANGING:
            if name == "sort" or not self.is_fresh(part.func.value):
                self.refuse(part, f"{name} changes something")
        elif isinstance(part.func.value, ast.Call) and ast.unparse(part.func.value) == "super()":
            return
        elif name in self.sources.methods:
            self.calls += self.sources.methods[name]
        elif name not in BUILTIN_METHODS:
            self.refuse(part, f"what is held is called by {name}")
