"""A check of those rules of the language subset that a plain look can decide.

It is narrower than the rules: what the package does not need is not let in.
"""

import ast
import builtins
import re

NODES = """Module Expr ImportFrom alias ClassDef FunctionDef arguments arg Return Assign AugAssign
For While If Raise Continue Break Pass Yield ListComp DictComp comprehension Call keyword Attribute
Name Load Store Constant Subscript Slice BinOp BoolOp UnaryOp Compare IfExp List Tuple Dict Starred
YieldFrom Try ExceptHandler JoinedStr FormattedValue Add Sub Mult Mod Pow FloorDiv LShift RShift BitAnd BitOr BitXor And Or Not USub
Eq NotEq Lt LtE Gt GtE In NotIn Is IsNot""".split()

BUILTINS = """len range enumerate zip min max sum abs sorted int str bool list tuple dict set isinstance
repr any all divmod ord super property classmethod staticmethod ValueError NotImplemented iter""".split()

SPECIAL = """init eq repr str len call iter lt le gt ge ne add sub mul floordiv mod pow and or xor lshift
rshift radd rsub rmul neg pos invert abs bool contains getitem setitem""".split()

METHODS = """append clear copy count endswith extend find get index insert isalnum isalpha isdigit islower
items join keys ljust lower lstrip partition pop remove replace reverse rjust rstrip setdefault
split startswith strip update upper values zfill bit_length""".split()

BARRED = """register mro elements open input law version_info with_traceback add_note attrgetter
breakpoint compile copyright credits delattr dir eval exec exit gc getattr globals hasattr help id
importlib license locals methodcaller os quit setattr type vars sys""".split()

NOT_ATTRIBUTES = """items keys values pop update append clear extend insert remove reverse setdefault sort
args encode decode hex fromhex format""".split()

ODD_NAME = re.compile(r"_wall.*|_(pe|dcw|enum|cm|twin_re|lay|law|stub|sre)_.*|_(cold|tuplegetter|outside|record|"
                      r"written_out|member_names)[0-9_]*|(?!_[A-Za-z]|_$|__[a-z]+__$)_.*")


def text_faults(text):
    faults = []
    lines = text.split("\n")
    if len(lines) > 400:
        faults.append("L10: a file is too long")
    if any(len(line) > 120 for line in lines):
        faults.append("L10: a line is too long")
    if re.search(r"[^ -~\n]", text):
        faults.append("L14: a character is not plain")
    return faults


def node_faults(tree):
    faults = []
    for node in ast.walk(tree):
        name = type(node).__name__
        if name not in NODES:
            faults.append(f"{name} is not used here")
        if isinstance(node, ast.Constant):
            if isinstance(node.value, (float, complex, bytes)):
                faults.append("L7: a number or bytes")
            if isinstance(node.value, str) and ("%" in node.value or "__" in node.value):
                faults.append("L27: a string")
        if isinstance(node, ast.BinOp) and isinstance(node.op, ast.Pow):
            if not (isinstance(node.right, ast.Constant) and 0 <= node.right.value <= 64):
                faults.append("L27: an exponent")
        if isinstance(node, ast.Compare) and any(isinstance(op, (ast.Is, ast.IsNot)) for op in node.ops):
            if not all(isinstance(side, ast.Constant) for side in node.comparators):
                faults.append("L20: is")
        if isinstance(node, ast.ExceptHandler):
            if not isinstance(node.type, ast.Name) or hasattr(builtins, node.type.id):
                faults.append("L19: a foreign error is caught")
        if isinstance(node, ast.FunctionDef) and node.end_lineno - node.lineno + 1 > 40:
            faults.append(f"L10: {node.name} is too long")
    return faults


def names_bound(tree):
    """All names of parameters and local variables."""
    names = [node.arg for node in ast.walk(tree) if isinstance(node, ast.arg)]
    return names + [node.id for node in ast.walk(tree)
                    if isinstance(node, ast.Name) and isinstance(node.ctx, ast.Store)]


def name_faults(tree):
    faults = []
    imports = [alias.name for node in tree.body if isinstance(node, ast.ImportFrom) for alias in node.names]
    classes = [node.name for node in tree.body if isinstance(node, ast.ClassDef)]
    functions = [node.name for node in ast.walk(tree) if isinstance(node, ast.FunctionDef)]
    attributes = [node.attr for node in ast.walk(tree)
                  if isinstance(node, ast.Attribute) and isinstance(node.ctx, ast.Store)]
    for name in names_bound(tree):
        if name in imports + classes:
            faults.append(f"L15: {name} has the name of a class or an import")
    for name in names_bound(tree) + functions + classes:
        if (hasattr(builtins, name) and not name.startswith("__")) or name in BARRED:
            faults.append(f"L8, L17: {name}")
    for name in names_bound(tree) + functions + classes + attributes:
        if ODD_NAME.fullmatch(name):
            faults.append(f"L12: {name}")
    for name in attributes:
        if name in NOT_ATTRIBUTES or name in BARRED[:9]:
            faults.append(f"L26: {name}")
    for name in functions:
        if name.startswith("__") and name[2:-2] not in SPECIAL:
            faults.append(f"L5: {name}")
        if name in METHODS + NOT_ATTRIBUTES:
            faults.append(f"L26: {name}")
    for name in imports:
        if not any(isinstance(node, ast.Name) and node.id == name for node in ast.walk(tree)):
            faults.append(f"{name} is imported and not used")
    return faults


def call_faults(tree, own_methods):
    faults = []
    for node in ast.walk(tree):
        if isinstance(node, ast.Name) and hasattr(builtins, node.id) and node.id not in BUILTINS:
            faults.append(f"L8: {node.id}")
        if not isinstance(node, ast.Call):
            continue
        if isinstance(node.func, ast.Attribute) and node.func.attr not in METHODS + own_methods + ["__init__"]:
            faults.append(f"L25: {node.func.attr}")
        if isinstance(node.func, ast.Name) and node.func.id in ("zip", "enumerate", "range", "sorted", "sum"):
            allowed = {"enumerate": ["start"], "sorted": ["key", "reverse"], "sum": ["start"]}
            if any(word.arg not in allowed.get(node.func.id, []) for word in node.keywords):
                faults.append(f"L22: {node.func.id}")
    return faults


def module_faults(tree):
    faults = []
    seen_other = False
    for node in tree.body:
        plain = (isinstance(node, ast.Assign) and len(node.targets) == 1
                 and isinstance(node.targets[0], ast.Name))
        text = isinstance(node, ast.Expr) and isinstance(node.value, ast.Constant)
        if not (plain or text or isinstance(node, (ast.ImportFrom, ast.ClassDef, ast.FunctionDef))):
            faults.append("L3: a statement at module level")
        if isinstance(node, ast.ImportFrom):
            names = [alias.name for alias in node.names]
            own = node.level == 0 and (node.module or "").startswith("nightsoff.")
            library = node.module == "math" and all(name in ("gcd", "lcm") for name in names)
            if seen_other or not (own or library) or "*" in names or any(alias.asname for alias in node.names):
                faults.append(f"L2: an import from {node.module}")
        elif not text:
            seen_other = True
    return faults


def file_faults(text, own_methods):
    """List what is wrong with the text of one file."""
    tree = ast.parse(text)
    return (text_faults(text) + node_faults(tree) + name_faults(tree)
            + call_faults(tree, own_methods) + module_faults(tree))


def methods_in(text):
    return [node.name for one in ast.parse(text).body if isinstance(one, ast.ClassDef)
            for node in one.body if isinstance(node, ast.FunctionDef)]


def imports_in(text):
    """List the module and the name of each import from the package."""
    return [(node.module, alias.name) for node in ast.parse(text).body
            if isinstance(node, ast.ImportFrom) and node.module != "math" for alias in node.names]


def defined_in(text):
    """List the names that a file itself defines."""
    names = []
    for node in ast.parse(text).body:
        if isinstance(node, (ast.ClassDef, ast.FunctionDef)):
            names.append(node.name)
        elif isinstance(node, ast.Assign):
            names.append(node.targets[0].id)
    return names
