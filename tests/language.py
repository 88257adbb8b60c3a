"""A reader of the package's files that finds what breaks the rules of the language, as far as it can see them."""

import ast
import builtins
import re
from pathlib import Path

ROOT = Path(__file__).resolve().parent.parent / "conceptworlds"

BUILTINS = set("""len range enumerate zip min max sum abs sorted reversed int str bool bytes list tuple dict set
frozenset isinstance ord repr any all divmod pow getattr hasattr setattr iter next type map super property
staticmethod classmethod Exception ValueError TypeError KeyError IndexError LookupError ZeroDivisionError
ArithmeticError OverflowError RuntimeError NotImplementedError AttributeError StopIteration NotImplemented""".split())
METHODS = set("""append clear copy count endswith extend find get index insert isalnum isalpha isdigit islower
isspace isupper items join keys ljust lower lstrip partition pop remove replace reverse rfind rjust rpartition
rsplit rstrip setdefault split splitlines startswith strip update upper values zfill bit_length add discard""".split())
DUNDERS = set("__init__ __eq__ __repr__ __str__ __len__ __iter__ __contains__ __bool__".split())
STATEMENTS = (ast.Assign, ast.AugAssign, ast.If, ast.While, ast.For, ast.Return, ast.Break, ast.Continue, ast.Pass,
              ast.Raise, ast.Delete, ast.Expr, ast.FunctionDef, ast.ClassDef, ast.ImportFrom, ast.Try)
UNUSED = set("register mro elements open input law version_info with_traceback add_note".split())
NOT_NAMES = set("""attrgetter breakpoint builtins compile copyright credits delattr dir eval exec exit gc getattr
globals hasattr help id importlib license locals methodcaller os quit setattr super type vars sys""".split())
WORDS = set("""type typing typing_extensions enum Enum IntEnum StrEnum Flag IntFlag Generic Protocol ABC ABCMeta
namedtuple NamedTuple TypedDict TYPE_CHECKING abstractmethod""".split())
TAKEN_ATTRIBUTES = set("""items keys values pop update append clear extend insert remove reverse setdefault sort args
encode decode hex fromhex format format_map mro""".split())
FORBIDDEN = (ast.AsyncFunctionDef, ast.Global, ast.GeneratorExp, ast.Div, ast.Await, ast.Yield, ast.YieldFrom,
             ast.With, ast.AnnAssign, ast.Import, ast.NamedExpr, ast.Match, ast.Lambda)


def files():
    return sorted(ROOT.glob("**/*.py"))


def code_without_docstrings(tree):
    """The strings of a file that are no docstrings."""
    docs = set()
    for node in ast.walk(tree):
        if isinstance(node, (ast.Module, ast.ClassDef, ast.FunctionDef)):
            first = node.body[0] if node.body else None
            if isinstance(first, ast.Expr) and isinstance(first.value, ast.Constant):
                docs.add(id(first.value))
    return [node.value for node in ast.walk(tree)
            if isinstance(node, ast.Constant) and isinstance(node.value, str) and id(node) not in docs]


def assigned(node):
    """The names that a function assigns, its parameters among them."""
    found = [arg.arg for arg in [*node.args.args, *node.args.kwonlyargs]]
    for extra in (node.args.vararg, node.args.kwarg):
        found.extend([extra.arg] if extra else [])
    found.extend(one.id for one in ast.walk(node) if isinstance(one, ast.Name) and isinstance(one.ctx, ast.Store))
    return found


def own_names():
    """The methods and attributes of the package's classes, and the imports of each file."""
    methods, attributes, properties = set(), set(), set()
    for path in files():
        for node in ast.walk(ast.parse(path.read_text())):
            if isinstance(node, ast.ClassDef):
                for one in node.body:
                    if isinstance(one, ast.FunctionDef):
                        (properties if one.decorator_list else methods).add(one.name)
            if isinstance(node, ast.Attribute) and isinstance(node.ctx, ast.Store):
                attributes.add(node.attr)
    return methods, attributes, properties


def check_text(path, text):
    """L10, L14: lines and characters."""
    lines = text.split("\n")
    if len(lines) - 1 > 399:
        yield "L10 file too long"
    for at, line in enumerate(lines, 1):
        if len(line) > 120:
            yield f"L10 line {at}"
        if any(not " " <= sign <= "~" for sign in line):
            yield f"L14 character in line {at}"
    if re.search(r"_wall|_WallAttr", text) or not re.fullmatch(r"[a-z0-9_]+\.py", path.name):
        yield "L12 or L1 name"


def check_module(path, tree):
    """L2, L3, L15, L16: what stands at module level."""
    bound = []
    for at, node in enumerate(tree.body):
        if isinstance(node, ast.ImportFrom):
            bound.extend(alias.name for alias in node.names)
            if any(alias.asname or alias.name == "*" for alias in node.names) or node.level:
                yield f"L2 import in line {node.lineno}"
            if node.module == "heapq":
                continue
            source = ROOT / (node.module.removeprefix("conceptworlds.") + ".py")
            if not node.module.startswith("conceptworlds.") or not source.exists():
                yield f"L2 import in line {node.lineno}"
                continue
            defined = [one.name for one in ast.parse(source.read_text()).body if hasattr(one, "name")]
            defined += [one.targets[0].id for one in ast.parse(source.read_text()).body if isinstance(one, ast.Assign)]
            if any(alias.name not in defined for alias in node.names):
                yield f"L16 import in line {node.lineno}"
        elif isinstance(node, (ast.FunctionDef, ast.ClassDef)):
            bound.append(node.name)
        elif isinstance(node, ast.Assign):
            bound.append(node.targets[0].id)
        elif at or not isinstance(node, ast.Expr):
            yield f"L3 line {node.lineno}"
    if len(set(bound)) != len(bound):
        yield "L15 a name is bound twice"
    used = {node.id for node in ast.walk(tree) if isinstance(node, ast.Name)}
    for node in tree.body:
        if isinstance(node, ast.ImportFrom):
            for alias in node.names:
                if alias.name not in used:
                    yield f"{alias.name} is imported in vain"


def check_functions(tree):
    """L4, L10, L15, L17: functions, their sizes and their names."""
    barred = {alias.name for node in tree.body if isinstance(node, ast.ImportFrom) for alias in node.names}
    barred |= {node.name for node in tree.body if isinstance(node, ast.ClassDef)}
    for node in ast.walk(tree):
        if isinstance(node, ast.ClassDef):
            if not node.name[0].isalpha() or node.decorator_list:
                yield f"L12 class {node.name}"
            names = [one.name for one in node.body if isinstance(one, ast.FunctionDef)]
            if len(set(names)) != len(names) or not all(
                    isinstance(one, ast.FunctionDef) or isinstance(one, ast.Expr) for one in node.body):
                yield f"L5 class {node.name}"
        if not isinstance(node, ast.FunctionDef):
            continue
        if node.end_lineno - node.lineno + 1 > 40:
            yield f"L10 function {node.name}"
        if node.name.startswith("__") and node.name not in DUNDERS:
            yield f"L5 {node.name}"
        if any(not isinstance(one, ast.Name) or one.id not in ("property", "classmethod") for one in node.decorator_list):
            yield f"L4 decorator over {node.name}"
        names = assigned(node)
        for name in [*names, node.name]:
            builtin = hasattr(builtins, name) and name not in DUNDERS and name != "_"
            if name in UNUSED or name in NOT_NAMES or builtin:
                yield f"L15 or L17 {name} in {node.name}"
        for name in names:
            if name in barred:
                yield f"L15 {name} in {node.name}"
            if name.startswith("__"):
                yield f"L8 {name} in {node.name}"
        if any(isinstance(one, ast.Name) and one.id == "_" and isinstance(one.ctx, ast.Load)
               for one in ast.walk(node)):
            yield f"L12 _ is read in {node.name}"


COMPREHENSIONS = (ast.ListComp, ast.SetComp, ast.DictComp)


def variables(comprehension):
    """The variables of a comprehension."""
    return {one.id for part in comprehension.generators for one in ast.walk(part.target) if isinstance(one, ast.Name)}


def stored_outside(node):
    """The names that a part of a function assigns, outside of comprehensions and nested functions."""
    found = {node.id} if isinstance(node, ast.Name) and isinstance(node.ctx, ast.Store) else set()
    for child in ast.iter_child_nodes(node):
        if not isinstance(child, (*COMPREHENSIONS, ast.FunctionDef, ast.Lambda)):
            found |= stored_outside(child)
    return found


def check_comprehensions(node, around=frozenset(), inside=False):
    """L7: the variables of a comprehension in another one, or in a nested function, are not names further out."""
    for child in ast.iter_child_nodes(node):
        if isinstance(child, ast.FunctionDef):
            own = {arg.arg for arg in [*child.args.args, *child.args.kwonlyargs]} | stored_outside(child)
            yield from check_comprehensions(child, around | own, bool(around))
        elif isinstance(child, COMPREHENSIONS):
            if inside and (variables(child) - {"_"}) & around:
                yield f"L7 {sorted(variables(child) & around)} in line {child.lineno}"
            yield from check_comprehensions(child, around | variables(child), True)
        else:
            yield from check_comprehensions(child, around, inside)


def is_plain_value(node):
    """Whether a value is a name, an attribute off a name, a literal, or a list or tuple of these."""
    if isinstance(node, (ast.List, ast.Tuple)):
        return all(is_plain_value(one) for one in node.elts)
    return isinstance(node, (ast.Name, ast.Constant)) or isinstance(node, ast.Attribute) and isinstance(node.value, ast.Name)


def starred_wrongly(call):
    """What stands behind a star, or behind what has one, in a call, and may not."""
    starred = [at for at, one in enumerate(call.args) if isinstance(one, ast.Starred)]
    for at, one in enumerate(call.args):
        if starred and at >= starred[0] and not is_plain_value(one.value if isinstance(one, ast.Starred) else one):
            yield "a star"


def check_nodes(tree, methods, attributes, properties):
    """L6 to L8, L20 to L27: statements, values, calls."""
    inside = {id(one) for node in ast.walk(tree) if isinstance(node, ast.Call) for one in node.args}
    for node in ast.walk(tree):
        where = f"line {getattr(node, 'lineno', '?')}"
        if isinstance(node, FORBIDDEN) and not (isinstance(node, ast.Lambda)):
            yield f"L6 or L7 {where}"
        if isinstance(node, ast.stmt) and not isinstance(node, STATEMENTS):
            yield f"L6 {where}"
        if isinstance(node, ast.Starred) and isinstance(node.value, ast.Call) and isinstance(node.value.func, ast.Name):
            if node.value.func.id in ("reversed", "zip", "enumerate", "range"):
                yield f"L23 {where}"
        if isinstance(node, ast.Constant) and isinstance(node.value, (float, complex)):
            yield f"L7 {where}"
        if isinstance(node, ast.Compare) and any(isinstance(op, (ast.Is, ast.IsNot)) for op in node.ops):
            last = node.comparators[-1]
            if not isinstance(last, ast.Constant) or last.value not in (None, True, False):
                yield f"L20 {where}"
        if isinstance(node, (ast.Set, ast.SetComp)) and id(node) not in inside:
            yield f"L24 {where}"
        if isinstance(node, ast.Name) and hasattr(builtins, node.id) and node.id not in BUILTINS | {"_"}:
            yield f"L8 {node.id} {where}"
        if isinstance(node, ast.Attribute):
            if node.attr in UNUSED or node.attr == "sort":
                yield f"L17 or L25 {node.attr} {where}"
            if node.attr.startswith("__") and node.attr not in DUNDERS:
                yield f"L8 {node.attr} {where}"
            if isinstance(node.ctx, ast.Store) and node.attr in TAKEN_ATTRIBUTES:
                yield f"L26 {node.attr} {where}"
            if isinstance(node.ctx, ast.Load) and node.attr not in METHODS | DUNDERS | methods | attributes | properties:
                yield f"L25 {node.attr} {where}"
        if isinstance(node, ast.Call) and isinstance(node.func, ast.Name):
            for told in starred_wrongly(node):
                yield f"L7 {told} {where}"
            for keyword in node.keywords:
                if (node.func.id, keyword.arg) not in (("sorted", "key"), ("sorted", "reverse")):
                    yield f"L22 {where}"
            if node.func.id == "set" and id(node) not in inside:
                yield f"L24 {where}"


def is_simple(node):
    """Whether a value is a name, an attribute of a name, or a literal without a sign."""
    return is_plain_value(node) and not isinstance(node, (ast.List, ast.Tuple))


def check_tries(tree):
    """L6 Finally and L19: a try has no handlers, but a finally that only assigns; what it reads is assigned before."""
    for function in [node for node in ast.walk(tree) if isinstance(node, ast.FunctionDef)]:
        for node in [one for one in ast.walk(function) if isinstance(one, ast.Try)]:
            if node.handlers or not node.finalbody:
                yield f"L19 line {node.lineno}"
            before = {arg.arg for arg in function.args.args}
            before |= {one.id for one in ast.walk(function) if isinstance(one, ast.Name)
                       and isinstance(one.ctx, ast.Store) and one.lineno < node.lineno}
            for row in node.finalbody:
                if not isinstance(row, ast.Assign) or len(row.targets) > 1 or not is_simple(row.targets[0]) or not is_simple(row.value):
                    yield f"L6 finally in line {row.lineno}"
                if any(isinstance(one, ast.Name) and one.id not in before for one in ast.walk(row)):
                    yield f"L6 finally in line {row.lineno}"


CHANGES = set("append extend insert pop remove clear update setdefault reverse sort add discard".split())


def lists_of(value):
    """What a value may be, as the texts of names, attributes and items: also of each side of a choice."""
    if isinstance(value, ast.IfExp):
        return lists_of(value.body) | lists_of(value.orelse)
    if isinstance(value, ast.BoolOp):
        return set().union(*[lists_of(one) for one in value.values])
    return {ast.unparse(value)} if isinstance(value, (ast.Name, ast.Attribute, ast.Subscript)) else set()


def walked_by(value):
    """What a loop over a value goes over, also through items, enumerate and the like."""
    if isinstance(value, ast.Call) and isinstance(value.func, ast.Attribute):
        return walked_by(value.func.value) if value.func.attr in ("items", "keys", "values") else set()
    if isinstance(value, ast.Call):
        through = isinstance(value.func, ast.Name) and value.func.id in ("enumerate", "zip", "reversed")
        return set().union(*[walked_by(one) for one in value.args]) if through else set()
    return lists_of(value)


def changed_by(node):
    """What a part of a function changes: the list of a method that modifies, of an item that is assigned."""
    if isinstance(node, ast.Call) and isinstance(node.func, ast.Attribute) and node.func.attr in CHANGES:
        return lists_of(node.func.value)
    if isinstance(node, ast.Call) and isinstance(node.func, ast.Name) and node.func.id.startswith("heap"):
        return lists_of(node.args[0])
    if isinstance(node, ast.Subscript) and isinstance(node.ctx, (ast.Store, ast.Del)):
        return lists_of(node.value)
    return set()


def assignments(target, value):
    """The pairs of a target and a value of an assignment, also of one to several names at once."""
    if isinstance(target, ast.Tuple) and isinstance(value, ast.Tuple) and len(target.elts) == len(value.elts):
        for one, other in zip(target.elts, value.elts):
            yield from assignments(one, other)
    else:
        yield target, value


def same_lists(function):
    """A function from the text of a name to one that stands for all names which a function may give the same list."""
    before = {}

    def first(told):
        while told in before:
            told = before[told]
        return told

    for node in ast.walk(function):
        for target in node.targets if isinstance(node, ast.Assign) else []:
            for one, value in assignments(target, node.value):
                for told in lists_of(value):
                    if first(ast.unparse(one)) != first(told):
                        before[first(ast.unparse(one))] = first(told)
    return first


def check_walks(tree):
    """L23: what a loop walks is not changed in it, by none of the names that it may have in the function."""
    for function in [node for node in ast.walk(tree) if isinstance(node, ast.FunctionDef)]:
        first = same_lists(function)
        for loop in [node for node in ast.walk(function) if isinstance(node, ast.For)]:
            walked = {first(told) for told in walked_by(loop.iter)}
            for node in [one for row in loop.body for one in ast.walk(row)]:
                if {first(told) for told in changed_by(node)} & walked:
                    yield f"L23 {ast.unparse(loop.iter)} is changed in line {node.lineno}"


def check_strings(tree):
    """L17 and L27: strings."""
    for told in code_without_docstrings(tree):
        if "%" in told or any(re.search(rf"\b{word}\b", told) for word in WORDS):
            yield f"L17 or L27 {told!r}"


def imports():
    """A dict from each file's module to the modules of the package that it imports from."""
    found = {}
    for path in files():
        found[path.stem] = [node.module.split(".")[-1] for node in ast.parse(path.read_text()).body
                            if isinstance(node, ast.ImportFrom) and node.module.startswith("conceptworlds.")]
    return found


def rings():
    """The modules that import from themselves through others."""
    links, found = imports(), []
    for start in links:
        waiting, seen = list(links[start]), set()
        while waiting:
            module = waiting.pop()
            if module not in seen:
                seen.add(module)
                waiting.extend(links[module])
        found.extend([start] if start in seen else [])
    return found


def complaints():
    """All that is found in all files."""
    methods, attributes, properties = own_names()
    found = [f"L18 {name} is a method and an attribute" for name in (methods | properties) & attributes]
    found += [f"L5 {name} is a method and a property" for name in methods & properties]
    for path in files():
        text = path.read_text()
        tree = ast.parse(text)
        for told in [*check_text(path, text), *check_module(path, tree), *check_functions(tree),
                     *check_nodes(tree, methods, attributes, properties), *check_strings(tree),
                     *check_comprehensions(tree), *check_walks(tree), *check_tries(tree)]:
            found.append(f"{path.name}: {told}")
    return found
