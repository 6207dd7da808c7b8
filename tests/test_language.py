"""The package keeps the rules of its language, as far as they can be seen in its files."""

import unittest

from tests import language


class LanguageTest(unittest.TestCase):
    def test_no_file_breaks_a_rule(self):
        for path in language.files():
            with self.subTest(path=path.name):
                self.assertEqual(path.suffix, ".py")
                self.assertEqual(language.Checker(path).check(), [])

    def test_no_two_files_import_from_each_other(self):
        imports = language.imports_of()
        while imports:
            free = [name for name in imports if not imports[name] & set(imports)]
            self.assertTrue(free, imports)
            for name in free:
                del imports[name]

    def test_no_name_is_imported_that_is_not_used(self):
        for path in language.files():
            checker = language.Checker(path)
            checker.check()
            for name in checker.imported:
                with self.subTest(path=path.name, name=name):
                    self.assertGreater(checker.text.count(name), 1)


if __name__ == "__main__":
    unittest.main()
