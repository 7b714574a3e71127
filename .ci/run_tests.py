"""Runs the tests of a folder, whose names begin at a second one; fails if one fails or if there is none."""

import sys
import unittest


def main(folder, top):
    suite = unittest.TestLoader().discover(folder, pattern="test_*.py", top_level_dir=top)
    result = unittest.TextTestRunner(stream=sys.stdout).run(suite)
    wrong = len(result.failures) + len(result.errors) + len(result.unexpectedSuccesses)
    passed = result.testsRun - wrong - len(result.skipped)
    print(f"{max(0, passed)} passed, {wrong} failed, {len(result.skipped)} skipped")
    if result.testsRun == 0:
        print(f"no test in {folder}")
    return 0 if result.wasSuccessful() and result.testsRun else 1


if __name__ == "__main__":
    sys.exit(main(sys.argv[1], sys.argv[2]))
