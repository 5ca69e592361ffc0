"""Reads the files of a package for what its operators run: they change nothing but what they created themselves.

What an operator runs is followed through the calls. A call of a bare name is followed to the function or class that
the name stands for; a call x.name(..) counts as one of every method called so, in all classes.
"""

import ast
import builtins

# Calls of these names are read as changes of a list, a dict or a set.
CHANGING = {
    "add", "append", "appendleft", "clear", "discard", "extend", "extendleft", "insert", "pop", "popleft", "remove",
    "reverse", "rotate", "setdefault", "sort", "update",
}

# These double-underscore methods are no operators: they make an object or may change what they like.
NO_OPERATORS = {"__init__", "__call__", "__enter__", "__exit__", "__iter__"}

CREATED = (ast.List, ast.Dict, ast.Set, ast.ListComp, ast.DictComp, ast.SetComp)
CREATING_CALLS = {"list", "dict", "set", "sorted"}


class Package:
    """The functions, classes and imports of the files of a package: a dict from the names of modules to their texts."""

    def __init__(self, sources):
        self.trees = {module: ast.parse(text) for module, text in sources.items()}
        self.functions = {}
        self.classes = {}
        self.methods = {}
        self.imports = {}
        for module, tree in self.trees.items():
            for node in tree.body:
                self.take(module, node)

    def take(self, module, node):
        if isinstance(node, ast.FunctionDef):
            self.functions[module, node.name] = node
        elif isinstance(node, ast.ClassDef):
            methods = {part.name: part for part in node.body if isinstance(part, ast.FunctionDef)}
            self.classes[module, node.name] = methods
            for name, method in methods.items():
                self.methods.setdefault(name, []).append((module, node.name, method))
        elif isinstance(node, ast.ImportFrom):
            for alias in node.names:
                self.imports[module, alias.name] = (node.module.removeprefix("fieldmaps."), alias.name)

    def operators(self):
        """Each operator (and each other double-underscore method like one), as module, class and method."""
        return [
            (module, owner, method)
            for name, found in self.methods.items()
            for module, owner, method in found
            if name.startswith("__") and name not in NO_OPERATORS
        ]


def faults(sources):
    """What the operators of the package do that no operator may do, as texts; the list is empty if there is nothing."""
    package = Package(sources)
    found = []
    seen = []
    waiting = package.operators()
    while waiting:
        place = waiting.pop()
        if place not in seen:
            seen.append(place)
            reader = Reader(package, *place)
            found.extend(reader.faults)
            waiting.extend(reader.called)
    return sorted(set(found))


class Reader:
    """What one function or method that an operator runs does: its faults, and the places that it calls."""

    def __init__(self, package, module, owner, function):
        self.package = package
        self.module = module
        self.owner = owner
        self.function = function
        self.faults = []
        self.called = []
        self.own = self.created()
        for node in ast.walk(function):
            self.read(node)

    def fault(self, node, text):
        self.faults.append(f"{self.module}.py {node.lineno}: {self.function.name}: {text}")

    def created(self):
        """The local names that are assigned nothing but what the function creates."""
        parameters = {argument.arg for argument in ast.walk(self.function.args) if isinstance(argument, ast.arg)}
        good, bad = set(), set(parameters)
        plain = []
        for node in ast.walk(self.function):
            if isinstance(node, ast.Assign) and len(node.targets) == 1 and isinstance(node.targets[0], ast.Name):
                plain.append(node.targets[0])
                (good if creates(node.value) else bad).add(node.targets[0].id)
        for node in ast.walk(self.function):
            if isinstance(node, ast.Name) and isinstance(node.ctx, ast.Store) and node not in plain:
                bad.add(node.id)
        return good - bad

    def read(self, node):
        if isinstance(node, (ast.Yield, ast.YieldFrom)):
            self.fault(node, "yields")
        elif isinstance(node, (ast.Global, ast.Nonlocal)):
            self.fault(node, "assigns to a name from around it")
        elif isinstance(node, ast.Call):
            self.read_call(node)
        elif isinstance(node, (ast.Attribute, ast.Subscript)) and not isinstance(node.ctx, ast.Load):
            self.read_target(node)

    def read_target(self, node):
        if not isinstance(node.value, ast.Name):
            self.fault(node, "changes what it did not create")
        elif isinstance(node, ast.Attribute):
            first = self.function.args.args[0].arg if self.function.args.args else None
            if self.function.name != "__init__" or node.value.id != first:
                self.fault(node, "assigns an attribute")
        elif node.value.id not in self.own:
            self.fault(node, "changes an item of what it did not create")

    def read_call(self, node):
        if isinstance(node.func, ast.Name):
            self.read_bare_call(node)
        elif isinstance(node.func, ast.Attribute):
            self.read_method_call(node)
        else:
            self.fault(node, "calls what it is passed or holds")

    def read_bare_call(self, node):
        name = node.func.id
        module, name = self.package.imports.get((self.module, name), (self.module, name))
        if (module, name) in self.package.functions:
            self.called.append((module, None, self.package.functions[module, name]))
        elif (module, name) in self.package.classes:
            methods = self.package.classes[module, name]
            if "__init__" in methods:
                self.called.append((module, name, methods["__init__"]))
        elif not hasattr(builtins, name) or name in ("map", "iter", "next", "setattr"):
            self.fault(node, f"calls {name}")

    def read_method_call(self, node):
        name, holder = node.func.attr, node.func.value
        if name in CHANGING and not (isinstance(holder, ast.Name) and holder.id in self.own):
            self.fault(node, f"calls {name} of what it did not create")
        if name in self.package.methods:
            self.called.extend(self.package.methods[name])
        elif not any(hasattr(kind, name) for kind in (str, list, dict, tuple, set, int, bytes)):
            self.fault(node, f"calls {name}, which is no method")


def creates(value):
    """Whether an expression gives a new list, dict or set."""
    if isinstance(value, CREATED):
        return True
    if isinstance(value, ast.Call) and isinstance(value.func, ast.Name):
        return value.func.id in CREATING_CALLS
    if isinstance(value, ast.Call) and isinstance(value.func, ast.Attribute):
        return value.func.attr == "copy"
    if isinstance(value, ast.Subscript):
        return isinstance(value.slice, ast.Slice)
    return isinstance(value, ast.BinOp) and (creates(value.left) or creates(value.right))
