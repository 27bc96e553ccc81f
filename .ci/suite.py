"""Run the tests of one folder: suite.py FOLDER TOP. It fails if a test fails, and if there is none."""

import sys
import unittest
from pathlib import Path


def names_of(folder, top):
    """The module names of the folder's test files, below the folder that is put on the path."""
    files = sorted(Path(folder).glob("test_*.py"))
    return [".".join(path.relative_to(top).with_suffix("").parts) for path in files]


def main(folder, top):
    """Run the tests and tell how many passed and failed."""
    sys.path.insert(0, top)
    suite = unittest.TestLoader().loadTestsFromNames(names_of(folder, top))
    result = unittest.TextTestRunner(verbosity=1).run(suite)
    failed = len(result.failures) + len(result.errors) + len(result.unexpectedSuccesses)
    # One test may fail several times, in its parts or while it is cleared away.
    failed = max(failed, 0 if result.wasSuccessful() else 1)
    print(f"{max(result.testsRun - failed, 0)} passed, {failed} failed", flush=True)
    if result.testsRun == 0:
        print(f"no test ran in {folder}", flush=True)
        return 1
    return 0 if failed == 0 else 1


if __name__ == "__main__":
    sys.exit(main(sys.argv[1], sys.argv[2]))
