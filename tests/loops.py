"""Finds loops and comprehensions that change what they walk (rules L5 Iteration and L23).

What a loop walks is followed back to what it was made from, through local variables, items, attributes, choices and calls,
unless a statement of its own made a new list. What is changed in a loop is followed through all functions, classes and
methods of the package that may be meant by a call."""

import ast

from tests.purity import CHANGING, HEAPS, Sources

COMPREHENSIONS = (ast.ListComp, ast.SetComp, ast.DictComp, ast.GeneratorExp)
PLAIN = (ast.Constant, ast.JoinedStr, ast.Compare, ast.Lambda)
NEW = (*PLAIN, ast.List, ast.Dict, ast.Set, ast.ListComp, ast.SetComp, ast.DictComp)
# What gives a number or a string, and what gives a new list of the same items.
PLAIN_CALLS = {"len", "int", "str", "repr", "ord", "abs", "any", "all", "isinstance", "bool", "range"}
COPIES = {"list", "sorted", "dict", "tuple", "set"}
VIEWS = {"zip", "enumerate", "reversed"}


def changed_walks(texts):
    """For each row that changes what a loop around it walks `(file, line, what)`."""
    package = Package(Sources(texts))
    return sorted({row for body in package.bodies for row in body.bad_rows()})


def names_of(target):
    """The names that a target assigns, each with whether it gets the whole value."""
    if isinstance(target, ast.Name):
        return [(target.id, True)]
    if isinstance(target, ast.Starred):
        return [(name, False) for name, _ in names_of(target.value)]
    if isinstance(target, (ast.Tuple, ast.List)):
        return [(name, False) for part in target.elts for name, _ in names_of(part)]
    return []


def called_name(node):
    return node.func.id if isinstance(node, ast.Call) and isinstance(node.func, ast.Name) else None


def roots(node):
    """The names of what an expression may stand for, or hold as items."""
    if isinstance(node, PLAIN) or called_name(node) in PLAIN_CALLS:
        return set()
    if isinstance(node, ast.Name):
        return {node.id}
    if isinstance(node, (ast.Attribute, ast.Subscript, ast.Starred)):
        return roots(node.value)
    if isinstance(node, ast.Call) and isinstance(node.func, ast.Attribute) and node.func.attr in ("get", "setdefault", "pop"):
        # A key is only looked up.
        parts = [node.func.value, *node.args[1:]]
    elif isinstance(node, ast.Call):
        parts = [*([] if called_name(node) else [node.func]), *node.args, *[part.value for part in node.keywords]]
    elif isinstance(node, ast.IfExp):
        parts = [node.body, node.orelse]
    elif isinstance(node, ast.DictComp):
        parts = [node.key, node.value]
    elif isinstance(node, COMPREHENSIONS):
        parts = [node.elt]
    else:
        parts = ast.iter_child_nodes(node)
    return set().union(*[roots(part) for part in parts])


def attributes_in(node):
    return {part.attr for part in ast.walk(node) if isinstance(part, ast.Attribute)}


def yields(node):
    return any(isinstance(part, (ast.Yield, ast.YieldFrom)) for part in ast.walk(node))


def passed(node, first, call):
    """A dict from the names of parameters to the expressions that a call passes for them."""
    names = [part.arg for part in [*node.args.posonlyargs, *node.args.args]]
    values = dict(zip(names, [*first, *call.args]))
    values.update({part.arg: part.value for part in call.keywords if part.arg is not None})
    return {name: value for name, value in values.items() if value is not None}


class Package:
    """For each function of a package what it changes, and the attributes that it reads, also by what it calls."""

    def __init__(self, sources):
        self.sources = sources
        self.changes = {}
        self.reads = {}
        functions = [(module, node) for (module, _), node in sources.functions.items()]
        functions += [place for places in sources.methods.values() for place in places]
        self.bodies = [Body(self, module, node) for module, node in functions]
        while any([body.learn() for body in self.bodies]):
            pass
        # The attributes that are walked when objects are.
        iterations = [self.reads[(module, node.lineno)] for module, node in sources.methods.get("__iter__", [])]
        self.walked = set().union(*iterations)

    def called(self, module, call, bound):
        """The functions that a call may mean: the place and the node of each, and what is passed for its parameters."""
        found = []
        if called_name(call) is not None and call.func.id not in bound:
            meant, first = self.sources.named(module, call.func.id), []
            if meant is not None and isinstance(meant[1], ast.ClassDef):
                meant, first = self.sources.made_by(*meant), [None]
            found = [(meant, first)]
        elif isinstance(call.func, ast.Attribute) and call.func.attr != "__init__":
            found = [(place, [call.func.value]) for place in self.sources.methods.get(call.func.attr, [])]
        return [((place[0], place[1].lineno), place[1], passed(place[1], first, call)) for place, first in found if place]


class Body:
    """The rows of one function."""

    def __init__(self, package, module, node):
        self.package = package
        self.module = module
        self.node = node
        self.values = {}
        for part in ast.walk(node):
            if isinstance(part, ast.Assign):
                for target in part.targets:
                    self.bind(target, part.value, True)
            elif isinstance(part, (ast.AugAssign, ast.AnnAssign, ast.NamedExpr)) and part.value is not None:
                self.bind(part.target, part.value, True)
            elif isinstance(part, (ast.For, ast.comprehension)):
                self.bind(part.target, part.iter, False)
        self.parameters = {part.arg for part in ast.walk(node.args) if isinstance(part, ast.arg)}
        self.bound = {part.arg for part in ast.walk(node) if isinstance(part, ast.arg)} | set(self.values)

    def bind(self, target, value, whole):
        for name, all_of_it in names_of(target):
            self.values.setdefault(name, []).append((value, whole and all_of_it))

    def calls_in(self, node):
        calls = [part for part in ast.walk(node) if isinstance(part, ast.Call)]
        return [found for call in calls for found in self.package.called(self.module, call, self.bound)]

    def learn(self):
        """Notes what is known by now of what the function changes and reads; whether that is more than before."""
        place = (self.module, self.node.lineno)
        known = (self.package.changes.get(place), self.package.reads.get(place))
        found = (self.all_changes(), self.all_reads(self.node))
        self.package.changes[place], self.package.reads[place] = found
        return known != found

    def all_reads(self, node):
        """The attributes that an expression or a function reads, also by what it calls and by properties."""
        found = attributes_in(node)
        for place, _, _ in self.calls_in(node):
            found |= self.package.reads.get(place, set())
        for name in list(found):
            for module, part in self.package.sources.methods.get(name, []):
                if part.decorator_list:
                    found |= self.package.reads.get((module, part.lineno), set())
        return found

    def all_changes(self):
        """The parameters that the function changes, and the attributes of any objects but the one that is being made."""
        parameters, attributes = set(), set()
        for row in self.node.body:
            for _, names, found, holder in self.changes_in(row):
                parameters |= self.origins([(name, False) for name in names]) & self.parameters
                if self.node.name != "__init__" or holder != "self":
                    attributes |= found
        return parameters, attributes

    def is_new(self, value):
        """Whether an expression makes a new list, or another value that cannot be changed."""
        if isinstance(value, ast.BinOp):
            return self.is_new(value.left) or self.is_new(value.right)
        if isinstance(value, ast.IfExp):
            return self.is_new(value.body) and self.is_new(value.orelse)
        return isinstance(value, NEW) or called_name(value) in COPIES | PLAIN_CALLS

    def origins(self, waiting):
        """All local variables and parameters that something was made from: pairs of a name and whether it is or may be
        only an item of what stands there, so that a new list that holds it does not part it from its origin."""
        found = set()
        waiting = list(waiting)
        while waiting:
            name, inside = waiting.pop()
            if (name, inside) not in found:
                found.add((name, inside))
                for value, whole in self.values.get(name, []):
                    if inside or not whole or not self.is_new(value):
                        # Only a name or a choice of names surely stands for the whole.
                        deeper = inside or not whole or not isinstance(value, (ast.Name, ast.IfExp, ast.BoolOp))
                        waiting += [(root, deeper) for root in roots(value)]
        return {name for name, _ in found}

    def walked(self, node):
        """The names and the attributes that the expression behind the `in` of a loop walks."""
        if called_name(node) in VIEWS:
            parts = [self.walked(part) for part in node.args]
            return set().union(*[part[0] for part in parts]), set().union(*[part[1] for part in parts])
        if self.is_new(node) and not any(yields(function) for _, function, _ in self.calls_in(node)):
            return set(), set()
        names = self.origins([(root, not isinstance(node, ast.Name)) for root in roots(node)])
        # Another object that is walked may be any; what this one walks is known.
        attributes = self.all_reads(node) | (self.package.walked if "self" in names else set())
        for value in [value for name in names for value, _ in self.values.get(name, [])]:
            attributes |= self.all_reads(value)
        return names, attributes

    def bad_rows(self):
        for part in ast.walk(self.node):
            if isinstance(part, (ast.For, *COMPREHENSIONS)):
                heads = [part.iter] if isinstance(part, ast.For) else [inner.iter for inner in part.generators]
                for head in heads:
                    names, attributes = self.walked(head)
                    for line, changed, found, _ in self.changes_within(part):
                        others, held = self.other_names(changed)
                        for what in sorted((others & names) | ((found | held) & attributes)):
                            yield (self.module, line, what)

    def other_names(self, names):
        """The names with the names and the attributes that may stand for the same list or dict."""
        found, attributes = set(), set()
        waiting = [ast.Name(name) for name in names]
        while waiting:
            node = waiting.pop()
            if isinstance(node, (ast.IfExp, ast.BoolOp)):
                waiting += node.values if isinstance(node, ast.BoolOp) else [node.body, node.orelse]
            elif isinstance(node, ast.Attribute):
                attributes.add(node.attr)
            elif isinstance(node, ast.Name) and node.id not in found:
                found.add(node.id)
                waiting += [value for value, whole in self.values.get(node.id, []) if whole]
        return found, attributes

    def changes_within(self, loop):
        if isinstance(loop, ast.For):
            return [change for row in loop.body for change in self.changes_in(row)]
        rows = [loop.key, loop.value] if isinstance(loop, ast.DictComp) else [loop.elt]
        rows += [test for inner in loop.generators for test in inner.ifs] + [inner.iter for inner in loop.generators[1:]]
        return [change for row in rows for change in self.changes_in(row)]

    def changes_in(self, row):
        """For each change in a row its line, the names of what it changes, the attributes, and the name before these."""
        for part in ast.walk(row):
            if isinstance(part, (ast.Assign, ast.Delete, ast.AnnAssign, ast.AugAssign)):
                for target in part.targets if isinstance(part, (ast.Assign, ast.Delete)) else [part.target]:
                    yield from self.changes_by(target)
                if isinstance(part, ast.AugAssign) and isinstance(part.target, ast.Name) and not isinstance(part.value, PLAIN):
                    yield part.lineno, {part.target.id}, set(), None
            elif isinstance(part, ast.Call):
                yield from self.changes_by_call(part)

    def changes_by(self, target):
        if isinstance(target, (ast.Tuple, ast.List)):
            for part in target.elts:
                yield from self.changes_by(part)
        elif isinstance(target, (ast.Attribute, ast.Subscript)):
            yield self.change_of(target)

    def change_of(self, node):
        """The change of an attribute or an item, or of the list or dict that an expression stands for."""
        line = node.lineno
        while isinstance(node, (ast.Subscript, ast.Starred)):
            node = node.value
        if isinstance(node, ast.Attribute):
            # What an attribute holds is changed, not what its object may stand for.
            return line, set(), {node.attr}, node.value.id if isinstance(node.value, ast.Name) else None
        return line, set() if self.is_new(node) else roots(node), set(), None

    def changes_by_call(self, call):
        if called_name(call) in HEAPS:
            yield self.change_of(call.args[0])
        if isinstance(call.func, ast.Attribute) and call.func.attr in CHANGING:
            yield self.change_of(call.func.value)
        for place, _, values in self.package.called(self.module, call, self.bound):
            parameters, attributes = self.package.changes.get(place, (set(), set()))
            for name in parameters & set(values):
                yield self.change_of(values[name])
            if attributes and isinstance(call.func, ast.Attribute):
                holder = call.func.value.id if isinstance(call.func.value, ast.Name) else None
                yield call.lineno, set(), attributes, holder
            elif attributes and called_name(call) is not None and call.func.id[0].islower():
                yield call.lineno, set(), attributes, None
