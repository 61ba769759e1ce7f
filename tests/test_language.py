"""Whether the package keeps those rules of its subset of Python that can be seen from its code."""
import ast
import builtins
import io
import pathlib
import re
import tokenize
import unittest

PACKAGE = pathlib.Path(__file__).resolve().parent.parent / 'contraryrolls'

BUILTINS = set((
    'len range enumerate zip min max sum abs sorted reversed int str bool list tuple dict set isinstance ord repr '
    'any all divmod pow map iter next type getattr hasattr setattr Exception ValueError TypeError KeyError IndexError '
    'LookupError ZeroDivisionError ArithmeticError OverflowError RuntimeError NotImplementedError AttributeError '
    'NotImplemented super property staticmethod classmethod').split())
METHODS = set((
    'append clear copy count endswith extend find get index insert isalnum isalpha isdigit islower isspace isupper '
    'items join keys ljust lower lstrip partition pop remove replace reverse rfind rjust rpartition rsplit rstrip '
    'setdefault split splitlines startswith strip update upper values zfill bit_length sort add discard '
    'title capitalize swapcase casefold center expandtabs removeprefix removesuffix rindex isascii isdecimal '
    'isnumeric istitle isidentifier isprintable format').split())
SPECIAL = set((
    '__init__ __eq__ __repr__ __str__ __len__ __enter__ __exit__ __call__ __iter__ __contains__ __lt__ __le__ __gt__ '
    '__ge__ __ne__').split())
LIBRARY = {
    'heapq': {'heappush', 'heappop', 'heapify', 'heapreplace', 'heappushpop'},
    'math': {'gcd', 'lcm', 'isqrt', 'comb', 'perm', 'factorial'},
    'itertools': {'product', 'combinations', 'permutations', 'chain', 'accumulate', 'pairwise', 'islice',
                  'zip_longest'},
    'collections': {'defaultdict', 'deque'},
}
BARRED = set((
    'register mro elements open input law version_info with_traceback add_note typing enum Enum namedtuple Generic '
    'Protocol ABC dataclass contextmanager eval exec globals locals vars dir id help compile chr frozenset bytes '
    'print').split())
# Words that stand nowhere in a file but in comments and docstrings, and those that are no part of a longer one either.
NO_WORDS = set((
    'type typing typing_extensions enum Enum IntEnum StrEnum Flag IntFlag Generic Protocol ABC ABCMeta namedtuple '
    'NamedTuple TypedDict TYPE_CHECKING abstractmethod').split())
NO_PARTS = ('dataclass', 'overload', 'contextmanager')
NO_ATTRIBUTES = set((
    'items keys values pop update append clear extend insert remove reverse setdefault sort args encode decode hex '
    'fromhex format is_integer to_bytes from_bytes bit_count as_integer_ratio conjugate').split())
NODES = (
    ast.AsyncFunctionDef, ast.AsyncFor, ast.AsyncWith, ast.Await, ast.Global, ast.Div, ast.MatMult, ast.Import)
CAUGHT = {'KeyError', 'ZeroDivisionError', 'StopIteration', 'IndexError', 'ValueError', 'LookupError'}


def modules():
    """(path, source, tree) of each file of the package."""
    for path in sorted(PACKAGE.glob('*.py')):
        source = path.read_text(encoding='utf-8')
        yield path, source, ast.parse(source)


def bound_names(tree):
    """The names of parameters, variables, functions, classes and imports, with their nodes."""
    for node in ast.walk(tree):
        if isinstance(node, ast.arg):
            yield node.arg, node
        elif isinstance(node, ast.Name) and not isinstance(node.ctx, ast.Load):
            yield node.id, node
        elif isinstance(node, (ast.FunctionDef, ast.ClassDef)):
            yield node.name, node
        elif isinstance(node, ast.ExceptHandler) and node.name:
            yield node.name, node


def told_tokens(source):
    """The tokens of a file, without comments and docstrings."""
    docstrings = set()
    for node in ast.walk(ast.parse(source)):
        if isinstance(node, (ast.Module, ast.ClassDef, ast.FunctionDef)) and ast.get_docstring(node, clean=False):
            docstrings.add((node.body[0].lineno, node.body[0].col_offset))
    for token in tokenize.generate_tokens(io.StringIO(source).readline):
        if token.type != tokenize.COMMENT and not (token.type == tokenize.STRING and token.start in docstrings):
            yield token


def barred_words(source):
    """(line, word) for each word of a file that may stand in comments and docstrings alone."""
    told = []
    for token in told_tokens(source):
        for word in re.findall('[A-Za-z_0-9]+', token.string):
            # In a string `type` may stand.
            barred = word in NO_WORDS and (word != 'type' or token.type == tokenize.NAME)
            if barred or [part for part in NO_PARTS if part in word]:
                told.append((token.start[0], word))
    return told


class Language(unittest.TestCase):
    def test_files(self):
        for path in PACKAGE.rglob('*'):
            if '__pycache__' in path.parts:
                continue
            self.assertEqual((path.parent, path.suffix), (PACKAGE, '.py'))
            self.assertRegex(path.name, r'^[a-z_0-9]+\.py$')
            self.assertNotIn(path.stem, dir(builtins))
        self.assertLessEqual(len(list(modules())), 100)

    def test_sizes_and_signs(self):
        for _, source, tree in modules():
            lines = source.split('\n')
            self.assertLessEqual(len(lines) - 1, 399)
            self.assertLessEqual(max(len(line) for line in lines), 120)
            self.assertIsNone(re.search('[^ -~\n]', source))
            self.assertNotRegex(source, r'_wall|_WallAttr')
            for node in ast.walk(tree):
                if isinstance(node, ast.FunctionDef):
                    self.assertLessEqual(node.end_lineno - node.lineno + 1, 40, node.name)

    def test_words_that_stand_nowhere(self):
        for path, source, _ in modules():
            self.assertEqual(barred_words(source), [], path.name)

    def test_words_that_stand_nowhere_are_seen(self):
        for word in sorted(NO_WORDS | set(NO_PARTS)):
            self.assertEqual(barred_words(f'{word} = 1'), [(1, word)])
            self.assertEqual(barred_words(f'"""{word}"""\n\n\ndef f():\n    """{word}"""  # {word}\n'), [])
            for text in (f'"{word}"', f"'a {word}(b'", f'f"a {{b}}{word}"', f'{{"{word}": 2}}', f'"""a\n{word}"""'):
                self.assertEqual(barred_words(f'a = {text}'), [] if word == 'type' else [(1, word)], text)
        self.assertEqual(barred_words('a = "ABBC ABCs my_enum types"'), [])
        self.assertEqual(barred_words('a = "an_overload"\ndataclasses = 1'), [(1, 'an_overload'), (2, 'dataclasses')])

    def test_imports(self):
        leads = {}
        for path, _, tree in modules():
            leads[path.stem] = []
            for node in ast.walk(tree):
                if isinstance(node, ast.ImportFrom):
                    self.assertIn(node, tree.body)
                    self.assertEqual(node.level, 0)
                    self.assertEqual([name.asname for name in node.names], [None] * len(node.names))
                    if node.module in LIBRARY:
                        self.assertLessEqual({name.name for name in node.names}, LIBRARY[node.module])
                        continue
                    package, stem = node.module.split('.')
                    self.assertEqual(package, 'contraryrolls')
                    leads[path.stem].append(stem)
                    there = ast.parse((PACKAGE / f'{stem}.py').read_text())
                    defined = {part.name for part in there.body if isinstance(part, (ast.FunctionDef, ast.ClassDef))}
                    defined |= {part.targets[0].id for part in there.body if isinstance(part, ast.Assign)}
                    self.assertLessEqual({name.name for name in node.names}, defined)
                    used = {part.id for part in ast.walk(tree) if isinstance(part, ast.Name)}
                    self.assertLessEqual({name.name for name in node.names}, used)
        while leads:
            free = [stem for stem in leads if not [to for to in leads[stem] if to in leads]]
            self.assertTrue(free, f'files import from each other: {sorted(leads)}')
            leads = {stem: leads[stem] for stem in leads if stem not in free}

    def test_module_level(self):
        for _, _, tree in modules():
            for at, node in enumerate(tree.body):
                if isinstance(node, ast.Expr):
                    self.assertEqual(at, 0)
                    self.assertIsInstance(node.value.value, str)
                elif isinstance(node, ast.Assign):
                    self.assertEqual([part.__class__ for part in node.targets], [ast.Name])
                    inner = [part for part in ast.walk(node.value) if isinstance(part, (ast.Call, ast.Set))]
                    self.assertEqual(inner, [])
                else:
                    self.assertIsInstance(node, (ast.ImportFrom, ast.FunctionDef, ast.ClassDef))
            names = [name for node in tree.body for name in (
                [node.name] if isinstance(node, (ast.FunctionDef, ast.ClassDef)) else
                [part.asname or part.name for part in node.names] if isinstance(node, ast.ImportFrom) else
                [node.targets[0].id] if isinstance(node, ast.Assign) else [])]
            self.assertEqual(len(names), len(set(names)))

    def test_nodes(self):
        for path, _, tree in modules():
            for node in ast.walk(tree):
                place = f'{path.name}:{getattr(node, "lineno", 0)}'
                self.assertNotIsInstance(node, NODES, place)
                if isinstance(node, ast.Constant):
                    self.assertNotIsInstance(node.value, (float, complex, bytes), place)
                    if isinstance(node.value, str):
                        self.assertNotIn('%', node.value, place)
                if isinstance(node, ast.Compare) and isinstance(node.ops[0], (ast.Is, ast.IsNot)):
                    self.assertIn(getattr(node.comparators[0], 'value', 0), (None, True, False), place)
                if isinstance(node, ast.ExceptHandler):
                    self.assertIsNotNone(node.type, place)
                    kinds = node.type.elts if isinstance(node.type, ast.Tuple) else [node.type]
                    for kind in kinds:
                        self.assertTrue(kind.id in CAUGHT or kind.id not in dir(builtins), place)
                if isinstance(node, (ast.FunctionDef, ast.ClassDef)):
                    marks = [getattr(part, 'id', getattr(part, 'attr', '')) for part in node.decorator_list]
                    self.assertLessEqual(set(marks), {'property', 'setter', 'staticmethod', 'classmethod'}, place)
                if isinstance(node, ast.ClassDef):
                    self.assertIn(node, tree.body, place)
                    self.assertEqual(node.keywords, [], place)

    def test_names(self):
        for path, _, tree in modules():
            local = {name for name, _ in bound_names(tree)}
            taken = {part.name for node in tree.body if isinstance(node, ast.ImportFrom) for part in node.names}
            for name, node in bound_names(tree):
                place = f'{path.name}:{node.lineno}: {name}'
                self.assertRegex(name, r'^_?$|^_?[A-Za-z][A-Za-z0-9_]*$|^__[a-z]+__$', place)
                if name.startswith('__'):
                    self.assertIn(name, SPECIAL, place)
                # Doctests make `_` a builtin.
                self.assertTrue(name == '_' or name not in dir(builtins), place)
                self.assertNotIn(name, BARRED, place)
                self.assertNotIn(name, taken, place)
            for node in ast.walk(tree):
                if isinstance(node, ast.Name) and isinstance(node.ctx, ast.Load):
                    place = f'{path.name}:{node.lineno}: {node.id}'
                    self.assertNotEqual(node.id, '_', place)
                    if node.id in dir(builtins) and node.id not in local:
                        self.assertIn(node.id, BUILTINS, place)

    def test_attributes(self):
        own = set()
        for _, _, tree in modules():
            for node in ast.walk(tree):
                if isinstance(node, ast.ClassDef):
                    own |= {part.name for part in node.body if isinstance(part, ast.FunctionDef)}
                if isinstance(node, ast.Attribute) and isinstance(node.ctx, ast.Store):
                    self.assertNotIn(node.attr, NO_ATTRIBUTES)
                    own.add(node.attr)
        for path, _, tree in modules():
            for node in ast.walk(tree):
                if isinstance(node, ast.Attribute):
                    place = f'{path.name}:{node.lineno}: {node.attr}'
                    self.assertTrue(node.attr in METHODS or node.attr in own, place)
                    self.assertNotIn(node.attr, BARRED, place)

    def test_no_name_is_a_method_and_an_attribute(self):
        methods, attributes = set(), set()
        for _, _, tree in modules():
            for node in ast.walk(tree):
                if isinstance(node, ast.ClassDef):
                    methods |= {part.name for part in node.body if isinstance(part, ast.FunctionDef)}
                if isinstance(node, ast.Attribute) and isinstance(node.ctx, ast.Store):
                    attributes.add(node.attr)
        self.assertEqual(methods & attributes, set())

    def test_kept_sequences_and_sets(self):
        """A set that is made stands where it may; a zip and its kind is not returned or stored in a value."""
        for path, _, tree in modules():
            above = {part: node for node in ast.walk(tree) for part in ast.iter_child_nodes(node)}
            for node in ast.walk(tree):
                name = getattr(getattr(node, 'func', None), 'id', '')
                place = f'{path.name}:{getattr(node, "lineno", 0)}'
                if isinstance(node, (ast.SetComp, ast.Set)) or name == 'set':
                    over = above[node]
                    if isinstance(over, ast.Call):
                        self.assertIn(over.func.id, ('sorted', 'len'), place)
                    else:
                        self.assertIsInstance(over, (ast.Compare, ast.BinOp, ast.Assign), place)
                if isinstance(node, ast.GeneratorExp):
                    # Not in any, all, min, max, sum and sorted: classes of the package have an __eq__.
                    call = getattr(above[node], 'func', None)
                    self.assertIn(getattr(call, 'id', getattr(call, 'attr', '')), ('list', 'tuple', 'dict', 'join'), place)
                if name in ('zip', 'enumerate', 'reversed', 'range', 'map'):
                    self.assertNotIsInstance(above[node], (ast.Return, ast.List, ast.Tuple, ast.Dict), place)

    def test_stars_in_calls(self):
        """Behind a star in a call stands a name, or an attribute of one."""
        for path, _, tree in modules():
            for node in ast.walk(tree):
                for part in node.args if isinstance(node, ast.Call) else []:
                    if isinstance(part, ast.Starred):
                        self.assertIsInstance(part.value, (ast.Name, ast.Attribute), f'{path.name}:{node.lineno}')

    def test_no_escapes_but_the_plain_ones(self):
        for path, source, _ in modules():
            for token in tokenize.generate_tokens(io.StringIO(source).readline):
                if token.type == tokenize.STRING:
                    for escape in re.findall(r'\\(.)', token.string):
                        self.assertIn(escape, 'nt\\\'"', f'{path.name}:{token.start[0]}')


if __name__ == '__main__':
    unittest.main()
