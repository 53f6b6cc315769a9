"""The interface: the package, and the file of each name."""

import inspect
import pathlib
import subprocess
import sys
import unittest

import foldchains
from foldchains import chains, texts

FOLDER = pathlib.Path(foldchains.__file__).parent


class PackageTest(unittest.TestCase):
    def test_init_defines_no_names(self):
        names = {"__name__": "foldchains"}
        exec((FOLDER / "__init__.py").read_text(encoding="utf-8"), names)
        self.assertEqual(set(names) - {"__name__", "__builtins__", "__doc__"}, set())

    def test_importing_the_package_alone_brings_no_names(self):
        code = "import foldchains; print([n for n in vars(foldchains) if n[:2] != '__'])"
        done = subprocess.run([sys.executable, "-c", code], cwd=FOLDER.parent,
                              capture_output=True, text=True, check=True)
        self.assertEqual(done.stdout.strip(), "[]")

    def test_each_name_is_defined_in_its_file(self):
        for module, name, parameter in (
            (chains, "is_chain", "value"),
            (texts, "format_chain", "chain"),
            (texts, "parse_chain", "text"),
        ):
            with self.subTest(name):
                function = getattr(module, name)
                self.assertTrue(inspect.isfunction(function))
                self.assertEqual(function.__module__, module.__name__)
                self.assertEqual(list(inspect.signature(function).parameters), [parameter])

    def test_no_tests_inside_the_package(self):
        self.assertEqual(list(FOLDER.rglob("test*")), [])


if __name__ == "__main__":
    unittest.main()
