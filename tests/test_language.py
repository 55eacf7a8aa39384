"""A check of the package's files for the rules of the language that are easiest to forget."""

import ast
import builtins
import os
import re
import unittest
import warnings

FOLDER = os.path.join(os.path.dirname(os.path.dirname(os.path.abspath(__file__))), "waitless")
INTERFACE = [
    ("errors", ""),
    ("rows", "is_row hands_of value_of part parts is_part"),
    ("tasks", "Task greatest may_answer"),
    ("making", "agreement few near on_web"),
    ("changing", "restricted both renamed renaming_to trimmed"),
    ("blocks", "blocks_of is_blocks blocks_many sights blocks_from"),
    ("views", "are_together is_view seen view_then"),
    ("courses", "is_course end course_of heard across is_fading fading_end led_on"),
    ("pictures", "corners facets is_face many_with faces_many way_between line_place"),
    ("cells", "Cells"),
    ("weavings", "course_of_run weaving_of when"),
    ("futures", "leading blocks_to_come bar is_bar"),
    ("looks", "looks_of is_whole"),
    ("turned", "looks_in weaving_for turned"),
    ("orders", "course_for hold is_hold by_looks"),
    ("tables", "corners_of choices is_table answered longer"),
    ("refuting", "table tables_many refutation is_refutation shown_wrong"),
    ("chaining", "chained chained_table"),
    ("easing", "easing is_easing eased led_back needed"),
    ("running", "Runner"),
    ("pairs", "spots walk far"),
    ("choosing", "is_choice choice least far_paper is_far_paper"),
    ("lines", "positions course_at Line"),
    ("counting", "walks_many lines_many"),
    ("odd", "is_odd_paper odd_paper"),
    ("signs", "sign turn_of inner_turns rim_turns"),
    ("walks", "room_walk partner"),
    ("falls", "is_fall walk_to_fall"),
    ("weights", "lone_choices is_choice_paper"),
    ("papers", "choice_paper all_rounds is_all_rounds from_odd"),
    ("sinking", "sink filling"),
    ("families", "Family within least_sets closed is_closed stops either meets dual meeting"),
    ("powers", "chain is_picks is_lead power picks lead"),
    ("rules", "Acting is_known knew weaving_to"),
    ("waits", "home waiting carried"),
    ("guests", "Hosts holding"),
    ("plains", "Plain plain_of in_rounds"),
    ("surfaces", "Surface turning kind doubled"),
    ("drawing", "pushed led"),
    ("polygons", "cutting is_cutting rim word rest"),
    ("undrawing", "drawn undrawn is_undrawn"),
    ("points", "loop_task Points"),
    ("nearness", "near_rounds near_answer short_way is_short_way near_fall"),
    ("fewness", "few_rounds few_paper"),
    ("webs", "web_rounds web_answer web_paper is_web_paper"),
    ("webfalls", "web_fall"),
    ("texts", "row_text course_text weaving_text task_text read_row read_course read_weaving read_task"),
    ("desk", "Desk desk_from"),
]
METHODS = {"Task": "inputs answers table", "Cells": "step run view ended steps level found weaving twin",
           "Runner": "step answers taking_part", "Line": "answer answers table", "Family": "holds",
           "Acting": "step led known answers", "Hosts": "step answers laid held run", "Plain": "table may task",
           "Points": "answers answer", "Desk": "say twin"}
# The parameters of functions, classes and methods, as the document calls them.
PARAMETERS = """
powers: chain(family choice) is_picks(family number thing) is_lead(family number thing) power(family) picks(family) lead(family)
rules: Acting(values rule) Acting.step(hand) Acting.led(weaving) Acting.known(hand) Acting.answers() is_known(many hand thing)
    knew(many hand known other number) weaving_to(many hand known)
waits: home(family) waiting(family) carried(family rule)
guests: Hosts(values many rule) Hosts.step(host) Hosts.answers() Hosts.laid() Hosts.held() Hosts.run() holding(many guests)
plains: Plain(table) Plain.table() Plain.may(bag thing) Plain.task(count) plain_of(task) in_rounds(many rounds answer)
surfaces: Surface(triangles) turning(surface) kind(surface) doubled(surface)
drawing: pushed(surface way push) led(surface way pushes)
polygons: cutting(surface) is_cutting(surface thing) rim(surface cutting) word(surface cutting way) rest(surface cutting way)
undrawing: drawn(surface loop) undrawn(surface loop) is_undrawn(surface loop thing)
points: loop_task(surface loop marks) Points(surface loop marks) Points.answers(row course) Points.answer(point)
nearness: near_rounds(many top) near_answer(many rounds corner) short_way(many top rounds) is_short_way(many top rounds thing)
    near_fall(many top rounds answer)
fewness: few_rounds(many values most) few_paper(many values most)
webs: web_rounds(many places ties) web_answer(many places ties rounds corner) web_paper(many places ties)
    is_web_paper(many places ties thing)
webfalls: web_fall(many places ties rounds answer)
texts: row_text(row) course_text(hands course) weaving_text(weaving) task_text(task) read_row(text) read_course(hands text)
    read_weaving(text) read_task(text)
desk: Desk(task rounds row) Desk.say(line) Desk.twin() desk_from(task rounds row weaving)
"""
# What the interface calls an attribute of one class and a method of another one.
BOTH = {"task"}
LET_BUILTINS = set("""len range enumerate zip min max sum abs sorted reversed int str bool bytes list tuple dict set
    isinstance ord repr any all divmod ValueError""".split())
LET_METHODS = set("""append clear copy count endswith extend find get index insert items join keys partition pop remove
    reverse setdefault split startswith update values""".split())
BARRED_NAMES = set("""register mro elements open input law version_info with_traceback add_note attrgetter breakpoint
    builtins compile copyright delattr dir eval exec exit gc getattr globals hasattr help id importlib license locals
    methodcaller os quit setattr super type vars sys""".split())
BARRED_WORDS = re.compile(r"\b(type|typing|enum|Enum|Generic|Protocol|ABC|namedtuple|NamedTuple|TypedDict)\b")
BARRED_ATTRIBUTES = set("""items keys values pop update append clear extend insert remove reverse setdefault sort args
    encode decode hex fromhex format format_map mro as_integer_ratio bit_count conjugate""".split())
LET_LIBRARY = {"math": {"gcd"}}
LET_STATEMENTS = (ast.Assign, ast.AugAssign, ast.If, ast.While, ast.For, ast.Return, ast.Break, ast.Continue, ast.Pass,
                  ast.Raise, ast.Expr, ast.FunctionDef, ast.ClassDef, ast.ImportFrom, ast.Delete, ast.Assert)
LET_PLAIN = (ast.Constant, ast.Tuple, ast.List, ast.Dict, ast.UnaryOp, ast.USub, ast.Load)
PASSED_ON = ("range", "zip", "enumerate", "reversed")
ITERATED_BY = ("list", "tuple", "dict", "sorted", "sum", "any", "all", "enumerate", "zip", "min", "max", "len", "set")
KEPT_SETS = ("sorted", "len")


def files():
    return sorted(os.listdir(FOLDER))


def source(name):
    with open(os.path.join(FOLDER, name), "rb") as held:
        return held.read().decode("ascii")


def tree_of(name):
    with warnings.catch_warnings():
        warnings.simplefilter("error")
        return ast.parse(source(name))


def parents_of(tree):
    return {child: node for node in ast.walk(tree) for child in ast.iter_child_nodes(node)}


def own_methods():
    return {node.name for name in files() for top in tree_of(name).body if isinstance(top, ast.ClassDef)
            for node in top.body if isinstance(node, ast.FunctionDef)}


def assigned_names(tree):
    """All names that are given a meaning anywhere in tree, with the line."""
    for node in ast.walk(tree):
        if isinstance(node, ast.Name) and isinstance(node.ctx, (ast.Store, ast.Del)):
            yield node.id, node.lineno
        elif isinstance(node, ast.arg):
            yield node.arg, node.lineno
        elif isinstance(node, (ast.FunctionDef, ast.ClassDef)):
            yield node.name, node.lineno


def called(node):
    """The bare name that node calls, if it does."""
    return node.func.id if isinstance(node, ast.Call) and isinstance(node.func, ast.Name) else None


class Files(unittest.TestCase):
    def setUp(self):
        self.wrong = []

    def tearDown(self):
        self.assertEqual(self.wrong, [])

    def each(self):
        for name in files():
            yield name, tree_of(name)

    def bad(self, name, node, why):
        self.wrong.append((name, getattr(node, "lineno", node), why))

    def test_files_and_sizes(self):
        for name in files():
            if name == "__pycache__":
                continue
            self.assertRegex(name, r"^[a-z_][a-z0-9_]*\.py$")
            text = source(name)
            lines = text.split("\n")
            self.assertTrue(text.endswith("\n"), name)
            self.assertLess(len(lines) - 1, 400, name)
            for at, line in enumerate(lines, 1):
                if len(line) > 120 or line != line.rstrip():
                    self.bad(name, at, "length or blanks")
                if not all(" " <= sign <= "~" for sign in line):
                    self.bad(name, at, "characters")

    def test_functions_are_short(self):
        for name, tree in self.each():
            for node in ast.walk(tree):
                if isinstance(node, ast.FunctionDef) and node.end_lineno - node.lineno + 1 > 40:
                    self.bad(name, node, "longer than 40 lines")

    def test_module_level(self):
        for name, tree in self.each():
            bound = []
            for at, node in enumerate(tree.body):
                if isinstance(node, ast.Expr):
                    if at > 0 or not isinstance(node.value, ast.Constant) or not isinstance(node.value.value, str):
                        self.bad(name, node, "module level")
                elif isinstance(node, ast.ImportFrom):
                    bound += [one.name for one in node.names]
                elif isinstance(node, (ast.FunctionDef, ast.ClassDef)):
                    bound.append(node.name)
                elif isinstance(node, ast.Assign) and len(node.targets) == 1:
                    bound.append(node.targets[0].id)
                    if not all(isinstance(part, LET_PLAIN) for part in ast.walk(node.value)):
                        self.bad(name, node, "no plain value")
                else:
                    self.bad(name, node, "module level")
            self.assertEqual(len(bound), len(set(bound)), name)
        self.assertEqual([type(node) for node in tree_of("__init__.py").body], [ast.Expr])

    def test_imports(self):
        known = {}
        for name, tree in self.each():
            known[name] = {node.name if not isinstance(node, ast.Assign) else node.targets[0].id
                           for node in tree.body if isinstance(node, (ast.FunctionDef, ast.ClassDef, ast.Assign))}
        for name, tree in self.each():
            for node in ast.walk(tree):
                if isinstance(node, ast.Import):
                    self.bad(name, node, "import")
                if isinstance(node, ast.ImportFrom):
                    head, _, module = (node.module or "").partition(".")
                    if head in LET_LIBRARY:
                        if node not in tree.body or not all(one.name in LET_LIBRARY[head] and one.asname is None
                                                            for one in node.names):
                            self.bad(name, node, "library")
                        continue
                    if node not in tree.body or node.level or head != "waitless" or module + ".py" not in known:
                        self.bad(name, node, "import from elsewhere")
                    elif not all(one.name in known[module + ".py"] and one.asname is None for one in node.names):
                        self.bad(name, node, "not defined there")

    def test_modules_import_from_those_ahead(self):
        sequence = [name for name, _ in INTERFACE]
        # How many of the sequence each of the package's own modules may import from.
        free = {"judging": 0, "asking": 0, "matching": 1, "solving": 0, "lattices": 0, "__init__": 0,
                "folding": sequence.index("polygons"), "between": sequence.index("sinking")}
        for name, tree in self.each():
            own = name[:-3]
            for node in tree.body:
                if isinstance(node, ast.ImportFrom) and node.module not in LET_LIBRARY:
                    other = node.module.split(".")[1]
                    if own in sequence and other in sequence:
                        self.assertLess(sequence.index(other), sequence.index(own), name)
                    elif own not in sequence:
                        self.assertIn(own, free, name)
                        self.assertTrue(other in free or sequence.index(other) <= free[own], name)

    def test_interface_is_defined_where_it_is_listed(self):
        for module, names in INTERFACE:
            defined = {node.name: node for node in tree_of(module + ".py").body
                       if isinstance(node, (ast.FunctionDef, ast.ClassDef))}
            for name in names.split():
                self.assertIn(name, defined)
                for method in METHODS.get(name, "").split():
                    self.assertIn(method, [node.name for node in defined[name].body if isinstance(node, ast.FunctionDef)])

    def test_parameters_are_called_as_told(self):
        module, count = None, 0
        for word in re.findall(r"\w+:|[\w.]+\([^)]*\)", PARAMETERS):
            if word.endswith(":"):
                module = tree_of(word[:-1] + ".py")
                continue
            name, _, told = word[:-1].partition("(")
            owner, _, method = name.partition(".")
            node = [node for node in module.body if getattr(node, "name", None) == owner][0]
            if isinstance(node, ast.ClassDef):
                method = method or "__init__"
                node = [part for part in node.body if getattr(part, "name", None) == method][0]
                told = "self " + told
            self.assertEqual([one.arg for one in node.args.args], told.split(), word)
            self.assertEqual((node.args.defaults, node.args.kwonlyargs, node.args.posonlyargs), ([], [], []))
            count += 1
        self.assertEqual(count, 72)

    def test_no_unused_imports(self):
        for name, tree in self.each():
            used = {node.id for node in ast.walk(tree) if isinstance(node, ast.Name)}
            for node in tree.body:
                if isinstance(node, ast.ImportFrom):
                    for one in node.names:
                        if one.name not in used:
                            self.bad(name, node, one.name)

    def test_statements_and_expressions(self):
        barred = (ast.GeneratorExp, ast.SetComp, ast.Yield, ast.YieldFrom, ast.Await, ast.Global, ast.Nonlocal,
                  ast.Try, ast.With, ast.Match, ast.Import, ast.AsyncFunctionDef, ast.NamedExpr, ast.Starred,
                  ast.AnnAssign, ast.Div, ast.MatMult, ast.Pow, ast.Set)
        for name, tree in self.each():
            for node in ast.walk(tree):
                if isinstance(node, barred):
                    self.bad(name, node, type(node).__name__)
                if isinstance(node, ast.stmt) and not isinstance(node, LET_STATEMENTS):
                    self.bad(name, node, type(node).__name__)
                if isinstance(node, ast.Expr) and not isinstance(node.value, (ast.Call, ast.Constant)):
                    self.bad(name, node, "statement")
                if isinstance(node, (ast.FunctionDef, ast.ClassDef)) and node.decorator_list:
                    self.bad(name, node, "decorator")
                if isinstance(node, ast.FunctionDef) and (node.returns or node.args.vararg or node.args.kwarg):
                    self.bad(name, node, "parameters")
                if isinstance(node, ast.Constant) and isinstance(node.value, (float, complex)):
                    self.bad(name, node, "number")
                if isinstance(node, ast.Compare) and any(isinstance(op, (ast.Is, ast.IsNot)) for op in node.ops):
                    last = node.comparators[-1]
                    if not isinstance(last, ast.Constant) or last.value not in (None, True, False):
                        self.bad(name, node, "is")

    def test_names(self):
        for name, tree in self.each():
            imports = {one.name for node in tree.body if isinstance(node, ast.ImportFrom) for one in node.names}
            classes = {node.name for node in tree.body if isinstance(node, ast.ClassDef)}
            for node in ast.walk(tree):
                for bound, line in assigned_names(node) if isinstance(node, ast.FunctionDef) else []:
                    if bound in imports or bound in classes:
                        self.bad(name, line, "name of an import or a class: " + bound)
            for bound, line in assigned_names(tree):
                if hasattr(builtins, bound) and not bound.startswith("__") or bound in BARRED_NAMES:
                    self.bad(name, line, bound)
                if not re.match(r"^(_?[A-Za-z][A-Za-z0-9_]*|_|__(init|eq)__)$", bound):
                    self.bad(name, line, bound)
            for node in ast.walk(tree):
                if isinstance(node, ast.Name) and node.id == "_" and isinstance(node.ctx, ast.Load):
                    self.bad(name, node, "_ is read")

    def test_words(self):
        for name in files():
            if not name.endswith(".py"):
                continue
            text = source(name)
            tree = tree_of(name)
            docs = {node.body[0].value for node in ast.walk(tree)
                    if isinstance(node, (ast.Module, ast.FunctionDef, ast.ClassDef)) and node.body
                    and isinstance(node.body[0], ast.Expr)}
            for node in ast.walk(tree):
                if isinstance(node, ast.Constant) and isinstance(node.value, str) and node not in docs:
                    if BARRED_WORDS.search(node.value) or "%" in node.value or "\\" in node.value:
                        self.bad(name, node, "string")
            for word in ("dataclass", "overload", "contextmanager", "_wall", "\t"):
                self.assertNotIn(word, text, name)
            for node in ast.walk(tree):
                if isinstance(node, (ast.Name, ast.Attribute)):
                    word = node.id if isinstance(node, ast.Name) else node.attr
                    if BARRED_WORDS.fullmatch(word):
                        self.bad(name, node, word)

    def test_builtins_and_methods(self):
        methods = own_methods() | LET_METHODS
        for name, tree in self.each():
            bound = {one for one, _ in assigned_names(tree)}
            bound |= {one.name for node in tree.body if isinstance(node, ast.ImportFrom) for one in node.names}
            for node in ast.walk(tree):
                if isinstance(node, ast.Name) and node.id not in bound and node.id not in LET_BUILTINS:
                    self.bad(name, node, node.id)
                if isinstance(node, ast.Call) and isinstance(node.func, ast.Attribute):
                    if node.func.attr not in methods and node.func.attr != "__init__":
                        self.bad(name, node, node.func.attr)
                    if node.keywords:
                        self.bad(name, node, "keywords of a method")
                if called(node) in LET_BUILTINS:
                    for keyword in node.keywords:
                        if (node.func.id, keyword.arg) not in (("sorted", "key"), ("max", "key"), ("min", "key")):
                            self.bad(name, node, keyword.arg)

    def test_attributes(self):
        assigned = {}
        for name, tree in self.each():
            for node in tree.body:
                if isinstance(node, ast.ClassDef):
                    given = {part.attr for part in ast.walk(node)
                             if isinstance(part, ast.Attribute) and isinstance(part.ctx, ast.Store)}
                    own = [part.name for part in node.body if isinstance(part, ast.FunctionDef)]
                    self.assertEqual(len(own), len(set(own)), node.name)
                    assigned[node.name] = (given, set(own))
        every = {attr for given, _ in assigned.values() for attr in given}
        methods = {attr for _, own in assigned.values() for attr in own}
        self.assertEqual(every & methods, BOTH)
        self.assertEqual(every & BARRED_ATTRIBUTES, set())
        for name, tree in self.each():
            for node in ast.walk(tree):
                if isinstance(node, ast.Attribute) and node.attr not in every | methods | LET_METHODS | {"__init__"}:
                    self.bad(name, node, node.attr)

    def test_ranges_and_sets_are_used_on_the_spot(self):
        for name, tree in self.each():
            parents = parents_of(tree)
            for node in ast.walk(tree):
                over = parents.get(node)
                word = called(node)
                if isinstance(node, ast.Call) and isinstance(node.func, ast.Attribute):
                    word = node.func.attr if node.func.attr in ("items", "keys", "values") else None
                iterated = isinstance(over, (ast.For, ast.comprehension)) and over.iter is node
                if word in PASSED_ON + ("items", "keys", "values"):
                    tested = isinstance(over, ast.Compare) and word == "range"
                    if not iterated and not tested and not (called(over) in ITERATED_BY and over.args[0] is node):
                        if not (called(over) == "zip"):
                            self.bad(name, node, word)
                if word in ("set", "frozenset") and called(over) not in KEPT_SETS:
                    self.bad(name, node, word)

    def test_loops_do_not_change_what_they_go_over(self):
        changing = ("append", "extend", "insert", "pop", "remove", "reverse", "setdefault", "update", "clear")
        for name, tree in self.each():
            for loop in ast.walk(tree):
                if not isinstance(loop, ast.For):
                    continue
                over = loop.iter
                if isinstance(over, ast.Call) and called(over) in ("list", "sorted", "tuple"):
                    continue
                held = {ast.unparse(node) for node in ast.walk(over)
                        if isinstance(node, (ast.Name, ast.Attribute)) and isinstance(node.ctx, ast.Load)}
                for node in (part for row in loop.body for part in ast.walk(row)):
                    target = None
                    if isinstance(node, ast.Call) and isinstance(node.func, ast.Attribute):
                        if node.func.attr in changing:
                            target = node.func.value
                    if isinstance(node, ast.Subscript) and not isinstance(node.ctx, ast.Load):
                        target = node.value
                    if target is not None and ast.unparse(target) in held:
                        self.bad(name, node, "changes what the loop goes over")


if __name__ == "__main__":
    unittest.main()
