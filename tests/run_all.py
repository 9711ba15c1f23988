"""Runs all tests of this folder, and the test files that are told; the last line counts them.

python3 tests/run_all.py [FILE ..]
"""
import os
import pathlib
import subprocess
import sys
import unittest

HERE = pathlib.Path(__file__).resolve().parent


def own_result():
    suite = unittest.defaultTestLoader.discover(str(HERE), pattern="test_*.py", top_level_dir=str(HERE.parent))
    return unittest.TextTestRunner(stream=sys.stdout).run(suite)


def file_passes(path):
    """Runs one test file by `python3 -m unittest`, in its own folder."""
    path = pathlib.Path(path).resolve()
    around = dict(os.environ, PYTHONPATH=str(HERE.parent))
    print(f"-- {path}", flush=True)
    done = subprocess.run([sys.executable, "-m", "unittest", path.stem], cwd=path.parent, env=around)
    return done.returncode == 0


def main():
    sys.path.insert(0, str(HERE.parent))
    result = own_result()
    failed = len(result.failures) + len(result.errors) + len(result.unexpectedSuccesses)
    passed = result.testsRun - failed - len(result.skipped)
    for path in sys.argv[1:]:
        if file_passes(path):
            passed += 1
        else:
            failed += 1
    print(f"{passed} passed, {failed} failed", flush=True)
    return 1 if failed or not passed else 0


if __name__ == "__main__":
    sys.exit(main())
