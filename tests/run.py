"""Runs all tests of one folder: python3 tests/run.py tests"""

import sys
import unittest
from pathlib import Path


def main():
    """0 if all tests hold, else 1."""
    # In the place of this file's folder, whose tests may be called as those of another one.
    sys.path[0] = str(Path(__file__).resolve().parent.parent)
    folder = sys.argv[1]
    suite = unittest.TestLoader().discover(folder, pattern="test_*.py", top_level_dir=folder)
    result = unittest.TextTestRunner(verbosity=1).run(suite)
    failed = len(result.failures) + len(result.errors) + len(result.unexpectedSuccesses)
    skipped = len(result.skipped)
    sys.stderr.flush()
    print(f"{result.testsRun - failed - skipped} passed, {failed} failed, {skipped} skipped", flush=True)
    return int(failed > 0)


if __name__ == "__main__":
    sys.exit(main())
