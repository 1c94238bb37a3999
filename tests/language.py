"""Tells where the package leaves the part of Python that it keeps to.

Not every rule can be seen from the text; those that are cheap to see are looked for here.
"""

import ast
import builtins
import re

PACKAGE = "hingedraw"

STATEMENTS = (
    ast.Module, ast.FunctionDef, ast.ClassDef, ast.ImportFrom, ast.Assign, ast.AugAssign, ast.If, ast.While, ast.For,
    ast.Return, ast.Break, ast.Continue, ast.Pass, ast.Raise, ast.Try, ast.ExceptHandler, ast.Expr,
)
EXPRESSIONS = (
    ast.Constant, ast.List, ast.Tuple, ast.Dict, ast.Set, ast.BinOp, ast.UnaryOp, ast.BoolOp, ast.Compare, ast.IfExp,
    ast.Call, ast.keyword, ast.Attribute, ast.Subscript, ast.Slice, ast.ListComp, ast.comprehension, ast.JoinedStr,
    ast.FormattedValue, ast.Lambda, ast.Name, ast.arguments, ast.arg, ast.alias, ast.expr_context, ast.operator,
    ast.unaryop, ast.boolop, ast.cmpop,
)
OWN_NAMES = """len range enumerate zip min max sum abs sorted reversed int str bool list tuple dict set frozenset
isinstance ord repr any all divmod Exception ValueError TypeError KeyError IndexError LookupError ZeroDivisionError
ArithmeticError OverflowError RuntimeError NotImplementedError AttributeError StopIteration""".split()
METHODS = "__init__ __eq__ __repr__ __str__ __len__".split()
BANNED = """type typing typing_extensions enum Enum IntEnum StrEnum Flag IntFlag Generic Protocol ABC ABCMeta namedtuple
NamedTuple TypedDict TYPE_CHECKING abstractmethod""".split()
BANNED_WITHIN = "dataclass overload contextmanager".split()
CALLED = """append clear copy count endswith extend find get index insert isalnum isalpha isdigit islower isspace isupper items
join keys ljust lower lstrip partition pop remove replace reverse rfind rjust rpartition rsplit rstrip setdefault split
splitlines startswith strip update upper values zfill bit_length __init__""".split()
NOT_USED = """register mro elements open input version_info with_traceback add_note format format_map attrgetter
breakpoint builtins compile copyright credits delattr dir eval exec exit gc getattr globals hasattr help id importlib
license locals methodcaller os quit setattr super vars sys""".split()


def text_faults(text):
    for at, line in enumerate(text.split("\n"), start=1):
        if len(line) > 120:
            yield at, "L10 a long line"
        if any(not " " <= sign <= "~" for sign in line):
            yield at, "L14 a sign that is not from the blank to ~"
        for word in re.findall(r"\w+", line):
            if word in BANNED or any(part in word for part in BANNED_WITHIN):
                yield at, f"L17 the word {word}"
    if text.count("\n") > 400:
        yield 400, "L10 a long file"


def docstring_of(tree):
    first = tree.body[0] if tree.body else None
    return first if isinstance(first, ast.Expr) and isinstance(first.value, ast.Constant) else None


def top_faults(tree):
    seen = []
    for node in tree.body:
        if isinstance(node, (ast.FunctionDef, ast.ClassDef)):
            seen.append((node.name, node.lineno))
        elif isinstance(node, ast.Assign):
            seen.extend((target.id, node.lineno) for target in node.targets if isinstance(target, ast.Name))
        elif not isinstance(node, ast.ImportFrom) and node is not docstring_of(tree):
            yield node.lineno, "L3 this does not stand at a file's top"
    names = [name for name, line in seen]
    for name, line in seen:
        if names.count(name) > 1:
            yield line, f"L15 {name} is bound twice"


def is_plain_value(node):
    if isinstance(node, (ast.List, ast.Tuple)):
        return all(is_plain_value(part) for part in node.elts)
    if isinstance(node, ast.Dict):
        return all(is_plain_value(part) for part in node.keys + node.values)
    if isinstance(node, ast.UnaryOp):
        return isinstance(node.op, ast.USub) and is_plain_value(node.operand)
    return isinstance(node, ast.Constant)


def value_faults(tree):
    for node in tree.body:
        if isinstance(node, ast.Assign) and not is_plain_value(node.value):
            yield node.lineno, "L3 no plain value"
        if isinstance(node, ast.Assign) and isinstance(node.value, (ast.List, ast.Dict)):
            if any(isinstance(part, (ast.List, ast.Dict)) for part in ast.walk(node.value) if part is not node.value):
                yield node.lineno, "L15 a list or dict within another one"


def method_faults(tree):
    own = [node.name for node in ast.walk(tree) if isinstance(node, ast.FunctionDef)]
    for node in ast.walk(tree):
        if isinstance(node, ast.Call) and isinstance(node.func, ast.Attribute):
            if node.func.attr not in CALLED and node.func.attr not in own:
                yield node.lineno, f"L25 the method {node.func.attr}"


def statement_faults(node, docstring):
    if isinstance(node, ast.Expr) and node is not docstring and not isinstance(node.value, ast.Call):
        yield "L6 no call, yet by itself"
    if isinstance(node, ast.Assign) and (len(node.targets) > 1 or isinstance(node.targets[0], (ast.Tuple, ast.List))):
        yield "L6 more than one target"
    if isinstance(node, (ast.For, ast.While)) and node.orelse:
        yield "L6 an else behind a loop"
    if isinstance(node, ast.Try) and node.finalbody:
        yield "L6 finally"
    if isinstance(node, ast.ExceptHandler):
        named = node.type.elts if isinstance(node.type, ast.Tuple) else [node.type]
        if any(not isinstance(name, ast.Name) or name.id in ("Exception", "TypeError") for name in named):
            yield "L19 what is taken here"
    if isinstance(node, ast.ImportFrom) and node.module != "__future__":
        if node.level or not node.module.startswith(PACKAGE + ".") or any(name.name == "*" for name in node.names):
            yield "L2 what is imported"


def definition_faults(node):
    if isinstance(node, ast.FunctionDef):
        if node.decorator_list or node.args.vararg or node.args.kwarg or node.args.kwonlyargs or node.args.posonlyargs:
            yield "L4 decorators or parameters"
        if node.end_lineno - node.lineno + 1 > 40:
            yield "L10 a long function"
    if isinstance(node, ast.ClassDef):
        if node.decorator_list or node.keywords or len(node.bases) > 1:
            yield "L5 decorators or bases"
        if any(not isinstance(part, (ast.FunctionDef, ast.Pass)) for part in node.body):
            yield "L5 what stands in a class"


def expression_faults(node):
    if isinstance(node, ast.Constant) and not (node.value is None or isinstance(node.value, (bool, int, str))):
        yield "L7 a value of this kind"
    if isinstance(node, ast.Constant) and isinstance(node.value, str) and "%" in node.value:
        yield "L27 the sign for the rest in a text"
    if isinstance(node, (ast.Div, ast.MatMult)):
        yield "L7 an operator"
    if isinstance(node, ast.BinOp) and isinstance(node.op, ast.Pow):
        if not isinstance(node.right, ast.Constant) or not 0 <= node.right.value <= 64:
            yield "L27 a power"
    if isinstance(node, ast.ListComp) and (len(node.generators) > 1 or len(node.generators[0].ifs) > 1):
        yield "L7 a comprehension"
    if isinstance(node, ast.FormattedValue) and (not isinstance(node.value, ast.Name) or node.format_spec):
        yield "L7 an f-string"
    if isinstance(node, ast.Compare) and any(isinstance(op, (ast.Is, ast.IsNot)) for op in node.ops):
        if not any(isinstance(side, ast.Constant) and not isinstance(side.value, (int, str)) or
                   isinstance(side, ast.Constant) and isinstance(side.value, bool) for side in node.comparators):
            yield "L20 is"


def bound_names(node):
    if isinstance(node, ast.Name) and isinstance(node.ctx, ast.Store):
        return [node.id]
    if isinstance(node, ast.arg):
        return [node.arg]
    if isinstance(node, (ast.FunctionDef, ast.ClassDef)):
        return [node.name]
    return []


def name_faults(node):
    for name in bound_names(node):
        if name not in METHODS and not re.fullmatch(r"[A-Za-z][A-Za-z0-9_]*", name):
            yield f"L12 the name {name}"
        if name in dir(builtins):
            yield f"L15 {name} is a name of Python's own"
    if isinstance(node, ast.Name):
        if node.id in NOT_USED or node.id in dir(builtins) and node.id not in OWN_NAMES:
            yield f"L8 or L17 the name {node.id}"
    if isinstance(node, ast.Attribute):
        if node.attr in NOT_USED or node.attr.startswith("_") and node.attr not in METHODS:
            yield f"L8 or L17 the name {node.attr}"


def shadow_faults(tree):
    taken = [part.name for part in tree.body if isinstance(part, ast.ClassDef)]
    for part in tree.body:
        if isinstance(part, ast.ImportFrom):
            taken.extend(name.asname or name.name for name in part.names)
    for outer in ast.walk(tree):
        if isinstance(outer, (ast.FunctionDef, ast.Lambda)):
            for node in ast.walk(outer):
                for name in bound_names(node):
                    if name in taken:
                        yield node.lineno, f"L15 {name} is a class or an import of the file"


def faults(text):
    """A list of (line, words), one for each place that is outside the rules."""
    found = list(text_faults(text))
    tree = ast.parse(text)
    found.extend(top_faults(tree))
    found.extend(shadow_faults(tree))
    found.extend(value_faults(tree))
    found.extend(method_faults(tree))
    for node in ast.walk(tree):
        line = getattr(node, "lineno", 0)
        if not isinstance(node, STATEMENTS + EXPRESSIONS):
            found.append((line, f"L6 or L7 {node.__class__.__name__}"))
        for told in (statement_faults(node, docstring_of(tree)), definition_faults(node), expression_faults(node),
                     name_faults(node)):
            found.extend((line, words) for words in told)
    return sorted(set(found))
