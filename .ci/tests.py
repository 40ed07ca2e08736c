"""Runs the tests of a folder and tells how many passed and how many failed."""

import os
import sys
import unittest


def main(folder):
    sys.path.insert(0, os.getcwd())
    suite = unittest.TestLoader().discover(folder, pattern='test_*.py', top_level_dir=folder)
    result = unittest.TextTestRunner(stream=sys.stdout, verbosity=1).run(suite)
    failed = len(result.failures) + len(result.errors) + len(result.unexpectedSuccesses)
    passed = max(0, result.testsRun - failed - len(result.skipped))
    print(f'{passed} passed, {failed} failed, {len(result.skipped)} skipped')
    return 0 if result.wasSuccessful() and result.testsRun else 1


if __name__ == '__main__':
    sys.exit(main(sys.argv[1]))
