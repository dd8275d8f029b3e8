"""Rules of ../shared/LANGUAGE.md that ask how names are used: each check tells the faults of one file.

Where a rule lets a form be that the program has no need of, the check may be narrower than the rule.
"""

import ast
import builtins

ERRORS = {name for name in dir(builtins) if isinstance(getattr(builtins, name), type)
          and issubclass(getattr(builtins, name), BaseException)}
KINDS_ASKED = {"int", "str", "bool", "list", "tuple", "dict"}
KEYS = {"len", "int", "str", "abs", "sum", "min", "max", "tuple"}
KEYWORDS = {"sorted": {"key", "reverse"}, "min": {"key", "default"}, "max": {"key", "default"}, "sum": {"start"},
            "enumerate": {"start"}, "zip": {"strict"}}
WALKED = {"zip", "enumerate", "reversed", "range"}
WALKED_METHODS = {"items", "keys", "values"}
WALKERS = {"list", "tuple", "dict", "sorted", "sum", "any", "all", "enumerate", "zip"}
CHANGES = {"append", "clear", "extend", "insert", "pop", "remove", "reverse", "setdefault", "update"}
READERS = {"len", "list", "dict", "tuple", "sorted", "min", "max", "sum", "any", "all", "enumerate", "zip", "reversed"}
READ_METHODS = {"get", "items", "keys", "values", "index", "count"}
METHODS = CHANGES | READ_METHODS | set(
    "copy endswith find isalnum isalpha isdigit islower isspace isupper join ljust lower lstrip partition replace"
    " rfind rjust rpartition rsplit rstrip split splitlines startswith strip upper zfill bit_length".split()
)


class Look:
    """One file: its tree, what stands above each node, and the names of its top."""

    def __init__(self, name, text, tree=None):
        self.name = name
        self.text = text
        self.tree = ast.parse(text) if tree is None else tree
        self.up = {child: node for node in ast.walk(self.tree) for child in ast.iter_child_nodes(node)}
        self.imports = [alias.asname or alias.name for node in self.all(ast.ImportFrom) for alias in node.names]
        self.classes = [node.name for node in self.all(ast.ClassDef)]
        self.bound = list(self.imports)
        self.given = {}
        for node in self.tree.body:
            if isinstance(node, (ast.FunctionDef, ast.ClassDef)):
                self.bound.append(node.name)
            if isinstance(node, ast.Assign):
                self.bound.append(ast.unparse(node.targets[0]))
                self.given[self.bound[-1]] = node.value

    def all(self, *kinds):
        return [node for node in ast.walk(self.tree) if isinstance(node, kinds)]

    def is_called(self, node):
        above = self.up[node]
        return isinstance(above, ast.Call) and above.func is node

    def called_by(self, node):
        """The name of Python's own or of the program's that the node is the first thing handed to, or None."""
        above = self.up[node]
        if isinstance(above, ast.Call) and above.args and above.args[0] is node and isinstance(above.func, ast.Name):
            return above.func.id
        return None

    def is_walked(self, node):
        above = self.up[node]
        return isinstance(above, (ast.For, ast.comprehension)) and above.iter is node


def plain(node, functions):
    if isinstance(node, (ast.List, ast.Tuple)):
        return all(plain(part, functions) for part in node.elts)
    if isinstance(node, ast.Dict):
        return all(plain(part, functions) for part in node.keys + node.values)
    if isinstance(node, ast.UnaryOp):
        return isinstance(node.op, ast.USub) and plain(node.operand, functions)
    return isinstance(node, ast.Constant) or isinstance(node, ast.Name) and node.id in functions


def tops(look):
    """L2, L3, L15: imports first, plain values, each name bound once, no list or dict within a list or dict."""
    functions = []
    others = False
    for node in look.tree.body:
        if isinstance(node, ast.ImportFrom) and others:
            yield node, "L2 an import below other things"
        others = others or isinstance(node, (ast.FunctionDef, ast.ClassDef, ast.Assign))
        if isinstance(node, ast.FunctionDef):
            functions.append(node.name)
        if isinstance(node, ast.Assign) and not plain(node.value, functions):
            yield node, "L3 not a plain value"
    for node in look.all(ast.ImportFrom, ast.Import, ast.ClassDef):
        if look.up[node] is not look.tree:
            yield node, "L2, L15 not at the top"
    for name in set(look.bound):
        if look.bound.count(name) > 1:
            yield look.tree.body[0], f"L15 {name} bound twice"
    for value in look.given.values():
        within = [part for part in ast.walk(value) if isinstance(part, (ast.List, ast.Dict)) and part is not value]
        if within and isinstance(value, (ast.List, ast.Dict, ast.Tuple)):
            yield value, "L15 a list within"


def kept_at_the_top(look):
    """L15: lists and dicts of a file's top are only read."""
    kept = [name for name, value in look.given.items() if isinstance(value, (ast.List, ast.Dict))]
    for node in look.all(ast.Name):
        if node.id not in kept or look.up[node] in look.tree.body:
            continue
        above = look.up[node]
        read = isinstance(above, ast.Subscript) and isinstance(above.ctx, ast.Load) or isinstance(above, ast.Compare)
        asked = isinstance(above, ast.Attribute) and above.attr in READ_METHODS
        if not (read or asked or look.is_walked(node) or look.called_by(node) in READERS):
            yield node, "L15 a list or dict of the top is handed on or changed"


def locals_of(look):
    """L15: no parameter and no local is called like a class or an import of its file, or like a name of Python's."""
    taken = set(look.imports) | set(look.classes) | set(dir(builtins))
    for node in look.all(ast.arg, ast.Name, ast.ExceptHandler, ast.FunctionDef):
        name = {ast.arg: "arg", ast.Name: "id"}.get(node.__class__, "name")
        stored = not isinstance(node, ast.Name) or isinstance(node.ctx, ast.Store)
        method = isinstance(node, ast.FunctionDef) and not isinstance(look.up[node], ast.FunctionDef)
        if stored and not method and getattr(node, name) in taken:
            yield node, f"L15 {getattr(node, name)} is taken"


def written_sets(look):
    """L13, L24: a set stands beside in, beside == of another, or straight within sorted or len."""
    made = [node for node in look.all(ast.Call) if isinstance(node.func, ast.Name) and node.func.id in ("set", "frozenset")]
    for node in made + look.all(ast.Set):
        while isinstance(look.up[node], ast.BinOp):
            node = look.up[node]
        above = look.up[node]
        beside = isinstance(above, ast.Compare) and (
            isinstance(above.ops[0], (ast.Eq, ast.NotEq))
            or isinstance(above.ops[0], (ast.In, ast.NotIn)) and above.comparators[0] is node
        )
        within = look.called_by(node) in ("sorted", "len") and not above.keywords
        if not beside and not within:
            yield node, "L24 a set is kept or walked"
        if isinstance(node, ast.Set) and len(node.elts) > 2 and not isinstance(getattr(above, "ops", [0])[0], ast.In):
            yield node, "L13 a set written out"
    lines = [(node.lineno, ast.unparse(node.args)) for node in look.all(ast.Lambda)]
    for node in look.all(ast.Lambda):
        if lines.count((node.lineno, ast.unparse(node.args))) > 1:
            yield node, "L13 two lambdas alike on one line"


def classes_used(look):
    """L5, L18: a class is called, is a base, or stands by isinstance, except or raise; values come by local names."""
    taken = {name for name in look.imports + look.classes if name[0].isupper() and not name.isupper()} | ERRORS
    for node in look.all(ast.Name):
        if node.id not in taken:
            continue
        above = look.up[node]
        if isinstance(above, ast.Tuple):
            above = look.up[above]
        base = isinstance(above, ast.ClassDef) and node in above.bases
        asked = isinstance(above, ast.Call) and ast.unparse(above.func) == "isinstance"
        begun = isinstance(above, ast.Attribute) and above.attr == "__init__" and look.is_called(above)
        if not (base or asked or begun or look.is_called(node) or isinstance(above, ast.ExceptHandler)):
            yield node, "L18 a class is handed on"
    for node in look.all(ast.ClassDef):
        for base in node.bases:
            if ast.unparse(base) in ("StopIteration", "AttributeError"):
                yield node, "L18 a base that is not to be"
    for node in look.all(ast.Attribute):
        of_top = isinstance(node.value, ast.Name) and node.value.id in look.bound
        if isinstance(node.ctx, ast.Store) and (of_top or not isinstance(node.value, ast.Name)):
            yield node, "L18 a value given to what is no local name"


def errors_used(look):
    """L19: errors are taken by name, and made on the spot where they are raised; Python's own are not taken."""
    for node in look.all(ast.ExceptHandler):
        parts = node.type.elts if isinstance(node.type, ast.Tuple) else [node.type]
        for part in parts:
            name = ast.unparse(part) if part is not None else "all"
            if name == "all" or name in ERRORS - {"KeyError", "ZeroDivisionError", "StopIteration"}:
                yield node, f"L19 {name} is taken"
    for node in look.all(ast.Raise):
        above = look.up[node]
        while above in look.up and not isinstance(above, (ast.ExceptHandler, ast.FunctionDef)):
            above = look.up[above]
        own = isinstance(above, ast.ExceptHandler) and above.name
        if not isinstance(node.exc, ast.Call) or not isinstance(node.exc.func, ast.Name):
            yield node, "L19 an error that is not made on the spot"
        if node.cause is not None and ast.unparse(node.cause) not in ("None", own):
            yield node, "L19 raised from another than the handler's own"


def annotations(look):
    """L4, L21: none, and plain defaults."""
    for node in look.all(ast.FunctionDef, ast.Lambda):
        for part in node.args.args:
            if part.annotation is not None:
                yield part, "L21 an annotation"
        for part in node.args.defaults:
            if not plain(part, ()) or isinstance(part, (ast.List, ast.Dict)):
                yield part, "L4 a default that is not plain"
        if isinstance(node, ast.FunctionDef) and node.returns is not None:
            yield node, "L21 an annotation"
    for node in look.all(ast.AnnAssign):
        yield node, "L21 an annotation"


def pythons_own(look):
    """L22: names of Python's own are called, with their own keywords; isinstance with kinds that may be asked."""
    for node in look.all(ast.Name):
        if not hasattr(builtins, node.id) or node.id in ERRORS or look.is_called(node):
            continue
        above = look.up[node]
        kind = look.up[above] if isinstance(above, ast.Tuple) else above
        asked = isinstance(kind, ast.Call) and ast.unparse(kind.func) == "isinstance" and node.id in KINDS_ASKED
        key = isinstance(above, ast.keyword) and above.arg == "key" and node.id in KEYS
        if not asked and not key:
            yield node, f"L22 {node.id} is kept as a value"
    for node in look.all(ast.Call):
        name = node.func.id if isinstance(node.func, ast.Name) else getattr(node.func, "attr", "")
        own = isinstance(node.func, ast.Name) and (hasattr(builtins, name) or name in ERRORS)
        for part in node.keywords:
            if own and part.arg not in KEYWORDS.get(name, ()) or not own and name in METHODS:
                yield node, f"L22 {name} with {part.arg}"
            if part.arg in ("reverse", "strict") and not isinstance(part.value, ast.Constant):
                yield node, f"L22 {part.arg} is not written out"


def walked_at_once(look):
    """L23: what is walked is walked on the spot."""
    for node in look.all(ast.Call):
        name = node.func.id if isinstance(node.func, ast.Name) else None
        method = node.func.attr if isinstance(node.func, ast.Attribute) else None
        if name not in WALKED and method not in WALKED_METHODS or look.is_walked(node):
            continue
        above = look.up[node]
        alone = look.called_by(node) in ("min", "max") and len(above.args) == 1
        joined = isinstance(above, ast.Call) and isinstance(above.func, ast.Attribute) and above.func.attr == "join"
        joined = joined and isinstance(above.func.value, ast.Constant)
        if look.called_by(node) not in WALKERS and not alone and not joined:
            yield node, f"L23 {name or method} is kept"


def walked_names(node):
    """What a loop walks, itself or through enumerate, zip, reversed, items."""
    if isinstance(node, ast.Call):
        if isinstance(node.func, ast.Name) and node.func.id in WALKED - {"range"}:
            return [name for part in node.args for name in walked_names(part)]
        if isinstance(node.func, ast.Attribute) and node.func.attr in WALKED_METHODS:
            return [ast.unparse(node.func.value)]
        return []
    return [ast.unparse(node)] if isinstance(node, (ast.Name, ast.Attribute, ast.Subscript)) else []


def changed_while_walked(look):
    """L23: what a loop walks is not changed in it."""
    for loop in look.all(ast.For):
        names = walked_names(loop.iter)
        for node in [part for line in loop.body for part in ast.walk(line)]:
            changed = None
            if isinstance(node, ast.Call) and isinstance(node.func, ast.Attribute) and node.func.attr in CHANGES:
                changed = node.func.value
            if isinstance(node, ast.Subscript) and isinstance(node.ctx, ast.Store):
                changed = node.value
            if isinstance(node, ast.AugAssign):
                changed = node.target
            if changed is not None and ast.unparse(changed) in names:
                yield node, "L23 changed while it is walked"


def methods_called(look):
    """L25: a method is called where it stands."""
    own = [part.name for node in look.all(ast.ClassDef) for part in node.body if isinstance(part, ast.FunctionDef)]
    for node in look.all(ast.Attribute):
        above = look.up[node]
        key = isinstance(above, ast.keyword) and above.arg == "key"
        if (node.attr in own or node.attr in METHODS) and not look.is_called(node) and not key:
            yield node, f"L25 {node.attr} is handed on"


def texts(look):
    """L7, L27: plain names in f-strings, and no escape but few."""
    for node in look.all(ast.FormattedValue):
        if not isinstance(node.value, ast.Name) or node.format_spec is not None or node.conversion not in (-1, 114):
            yield node, "L7 more than a name within an f-string"
    spots = [spot for spot, sign in enumerate(look.text) if sign == "\\"]
    for spot in spots:
        if look.text[spot + 1] not in "nt\\'\"" and look.text[spot - 1] != "\\":
            yield look.tree.body[0], "L27 another escape"


def underscores(look):
    """L5, L28: __init__ gives back nothing; the others are not written at all."""
    for node in look.all(ast.FunctionDef):
        if node.name.startswith("_") and node.name != "__init__":
            yield node, "L28 a method with two underscores"
        if node.name == "__init__" and any(isinstance(part, ast.Return) for part in ast.walk(node)):
            yield node, "L28 __init__ gives back something"


def targets(look):
    """L6: one target in an assignment."""
    for node in look.all(ast.Assign):
        if len(node.targets) != 1 or not isinstance(node.targets[0], (ast.Name, ast.Attribute, ast.Subscript)):
            yield node, "L6 more targets than one"


CHECKS = [
    tops, kept_at_the_top, locals_of, written_sets, classes_used, errors_used, annotations, pythons_own,
    walked_at_once, changed_while_walked, methods_called, texts, underscores, targets,
]


def faults_of(name, text):
    """All faults of one file, as texts."""
    look = Look(name, text)
    return [f"{name}:{getattr(node, 'lineno', 0)} {words}" for check in CHECKS for node, words in check(look)]


def drawing_faults(files):
    """L16: names are drawn from the file that defines them, and no two files draw from one another."""
    looks = {name: Look(name, text) for name, text in files.items()}
    draws = {name: [] for name in files}
    told = []
    for name, look in looks.items():
        for node in look.all(ast.ImportFrom):
            source = node.module.rpartition(".")[2] + ".py"
            draws[name].append(source)
            for alias in node.names:
                own = set(looks[source].bound) - set(looks[source].imports) if source in looks else ()
                if alias.name not in own or alias.asname:
                    told.append(f"{name}: L16 {alias.name} is not drawn from where it is defined")
    for name in files:
        reached = set()
        coming = list(draws[name])
        while coming:
            source = coming.pop()
            if source not in reached:
                reached.add(source)
                coming += draws.get(source, [])
        if name in reached:
            told.append(f"{name}: L16 it draws from itself")
    return told
