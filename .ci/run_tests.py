"""Runs the tests beside the package, and those of ../shared/tests; fails if one fails or if there is none."""

import glob
import os
import sys
import unittest

ROOT = os.path.dirname(os.path.dirname(os.path.abspath(__file__)))
SHARED = os.path.join(os.path.dirname(ROOT), "shared", "tests")


def main():
    sys.path.insert(0, ROOT)
    rows = [unittest.TestLoader().discover(os.path.join(ROOT, "tests"), top_level_dir=ROOT)]
    if glob.glob(os.path.join(SHARED, "test_*.py")):
        rows.append(unittest.TestLoader().discover(SHARED, top_level_dir=SHARED))
    passed, failed = 0, 0
    for suite in rows:
        result = unittest.TextTestRunner(verbosity=1).run(suite)
        bad = len(result.failures) + len(result.errors) + len(result.unexpectedSuccesses)
        passed += result.testsRun - bad
        failed += bad
    print(f"{passed} passed, {failed} failed")
    return 0 if failed == 0 and passed > 0 else 1


if __name__ == "__main__":
    sys.exit(main())
