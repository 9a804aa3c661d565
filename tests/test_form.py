"""The form of the package's files, as far as it can be read off them."""

import ast
import builtins
import importlib
import inspect
import pathlib
import unittest

BUILTINS = [
    'ValueError', 'all', 'bool', 'enumerate', 'int', 'isinstance', 'len', 'list', 'max', 'min', 'range',
    'reversed', 'sorted', 'str', 'sum', 'tuple', 'zip',
]
PACKAGE = pathlib.Path(__file__).resolve().parent.parent / 'hardwraps'

# The functions of the interface and their parameters.
INTERFACE = {
    'wrapping': {
        'is_widths': ['value'],
        'column': ['widths', 'position'],
        'columns': ['widths', 'length'],
        'is_break': ['widths', 'position'],
        'last_break': ['widths', 'position'],
        'effective': ['widths'],
    },
    'counting': {
        'piece_sizes': ['widths', 'length'],
        'count_pieces': ['widths', 'length'],
        'nth_break': ['widths', 'index'],
        'piece_lengths': ['widths'],
        'count_of_length': ['widths', 'length', 'size'],
    },
    'periods': {
        'overlap': ['widths', 'shift'],
        'least_period': ['widths'],
        'has_period': ['widths', 'length', 'period'],
        'least_period_to': ['widths', 'length'],
    },
    'forms': {
        'normal_form': ['widths'],
        'are_equal': ['widths', 'other'],
        'first_difference': ['widths', 'other'],
        'descent': ['widths', 'length'],
        'are_equal_to': ['widths', 'other', 'length'],
    },
    'changes': {
        'redundant': ['widths'],
        'can_exchange': ['widths', 'index'],
        'harmless_widths': ['widths', 'index', 'limit'],
        'commute': ['first', 'second'],
    },
    'reading': {
        'first_obstacle': ['pieces'],
        'shortest_widths': ['pieces'],
        'count_lists': ['pieces'],
        'nth_list': ['pieces', 'index'],
        'list_index': ['pieces', 'widths'],
        'shortest_for_lines': ['lines'],
    },
    'texts': {
        'wrap_text': ['widths', 'text'],
        'widths_between': ['before', 'after'],
    },
    'notation': {
        'format_widths': ['widths'],
        'format_pieces': ['pieces'],
        'parse_widths': ['text'],
        'parse_pieces': ['text'],
    },
}

# The classes of the interface, beside the errors, and the parameters of their methods.
CLASSES = {
    'documents': {
        'Document': {
            '__init__': ['self', 'widths'],
            'add_line': ['self', 'index', 'length'],
            'set_length': ['self', 'index', 'length'],
            'remove_line': ['self', 'index'],
            'add_width': ['self', 'index', 'width'],
            'remove_width': ['self', 'index'],
            'undo': ['self'],
            'current_widths': ['self'],
            'line_lengths': ['self'],
            'rows': ['self'],
            'locate': ['self', 'row'],
            'row_of': ['self', 'line', 'position'],
            'log': ['self'],
            'clone': ['self'],
            '__len__': ['self'],
            '__eq__': ['self', 'other'],
        },
    },
    'console': {
        'Console': {
            '__init__': ['self'],
            'execute': ['self', 'command'],
        },
    },
}


def trees():
    return {path: ast.parse(path.read_text()) for path in sorted(PACKAGE.rglob('*.py'))}


class FormTest(unittest.TestCase):

    def test_the_folder_contains_only_python_files(self):
        for path in PACKAGE.iterdir():
            if path.name != '__pycache__':
                self.assertRegex(path.name, r'\A[a-z_]+\.py\Z')

    def test_sizes_and_characters(self):
        for path in PACKAGE.rglob('*.py'):
            lines = path.read_text(encoding='utf-8').split('\n')
            self.assertLessEqual(len(lines), 399, path)
            for line in lines:
                self.assertLessEqual(len(line), 120, path)
                self.assertRegex(line, r'\A[ -~]*\Z', path)

    def test_functions_are_short(self):
        for path, tree in trees().items():
            for node in ast.walk(tree):
                if isinstance(node, ast.FunctionDef):
                    self.assertLessEqual(node.end_lineno - node.lineno + 1, 40, (path, node.name))

    def test_imports_name_the_file_that_defines_the_name(self):
        for path, tree in trees().items():
            for node in ast.walk(tree):
                self.assertNotIsInstance(node, ast.Import, path)
                if isinstance(node, ast.ImportFrom):
                    self.assertRegex(node.module, r'\Ahardwraps\.[a-z_]+\Z', path)
                    source = trees()[PACKAGE / (node.module.split('.')[1] + '.py')]
                    defined = {item.name for item in source.body if hasattr(item, 'name')}
                    for item in source.body:
                        if isinstance(item, ast.Assign):
                            defined.add(item.targets[0].id)
                    for alias in node.names:
                        self.assertIn(alias.name, defined, path)

    def test_no_two_files_import_from_each_other(self):
        sources = {}
        for path, tree in trees().items():
            imports = [node for node in ast.walk(tree) if isinstance(node, ast.ImportFrom)]
            sources[path.stem] = {node.module.split('.')[1] for node in imports}
        while sources:
            free = [name for name in sources if not sources[name] & set(sources)]
            self.assertTrue(free, sources)
            for name in free:
                del sources[name]

    def test_no_name_has_two_meanings_in_a_file(self):
        for path, tree in trees().items():
            top = [node for node in tree.body if hasattr(node, 'name')]
            taken = {alias.name for node in tree.body if isinstance(node, ast.ImportFrom) for alias in node.names}
            taken |= {node.name for node in top} | set(dir(builtins))
            for node in ast.walk(tree):
                if isinstance(node, ast.arg):
                    self.assertNotIn(node.arg, taken, path)
                elif isinstance(node, ast.Name) and isinstance(node.ctx, ast.Store):
                    self.assertNotIn(node.id, taken, path)

    def test_only_these_builtins_are_used(self):
        for path, tree in trees().items():
            for node in ast.walk(tree):
                if isinstance(node, ast.Name) and node.id in dir(builtins):
                    self.assertIn(node.id, BUILTINS, path)

    def test_interface(self):
        for name, functions in INTERFACE.items():
            module = importlib.import_module('hardwraps.' + name)
            for function, parameters in functions.items():
                found = getattr(module, function)
                self.assertEqual(found.__module__, module.__name__)
                self.assertEqual(list(inspect.signature(found).parameters), parameters)

    def test_classes_define_their_methods_themselves(self):
        for name, classes in CLASSES.items():
            module = importlib.import_module('hardwraps.' + name)
            for class_name, methods in classes.items():
                found = getattr(module, class_name)
                self.assertEqual(found.__module__, module.__name__)
                for method, parameters in methods.items():
                    self.assertIn(method, vars(found))
                    self.assertEqual(list(inspect.signature(vars(found)[method]).parameters), parameters)

    def test_the_widths_of_a_document_have_a_default(self):
        documents = importlib.import_module('hardwraps.documents')
        self.assertEqual(inspect.signature(documents.Document).parameters['widths'].default, ())
