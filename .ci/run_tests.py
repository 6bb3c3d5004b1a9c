"""Runs each test file in a process of its own, and sums up how many tests passed and failed.

A process for each file, because files of the project and of ../shared/tests may have one name.
"""

import importlib.util
import os
import subprocess
import sys
import unittest

TOP = os.path.dirname(os.path.dirname(os.path.abspath(__file__)))
FOLDERS = [os.path.join(TOP, "tests"), os.path.join(os.path.dirname(TOP), "shared", "tests")]
SECONDS = 1200


def test_files(folder):
    """The paths of all test files in a folder and in its folders; none if it does not exist."""
    found = []
    for path, _, names in os.walk(folder):
        found += [os.path.join(path, name) for name in names if name.startswith("test_") and name.endswith(".py")]
    return sorted(found)


def run_here(path):
    """Runs the tests of a file; the last line that it prints are the numbers of passed, failed and skipped ones."""
    sys.path[:0] = [os.path.dirname(path), TOP]
    name = os.path.splitext(os.path.basename(path))[0]
    spec = importlib.util.spec_from_file_location(name, path)
    module = importlib.util.module_from_spec(spec)
    sys.modules[name] = module
    spec.loader.exec_module(module)
    suite = unittest.TestLoader().loadTestsFromModule(module)
    result = unittest.TextTestRunner(stream=sys.stderr).run(suite)
    wrong = [test for test, _ in result.failures + result.errors] + result.unexpectedSuccesses
    # A test with several failing subtests is one failed test.
    failed = len({getattr(test, "test_case", test).id() for test in wrong})
    skipped = len(result.skipped)
    print(f"\n{max(0, result.testsRun - failed - skipped)} {failed} {skipped}")


def run_apart(path):
    """The numbers of passed, failed and skipped tests of a file; a file that can't be run is a failed test."""
    print(f"{os.path.relpath(path, TOP)}", flush=True)
    command = [sys.executable, os.path.abspath(__file__), path]
    try:
        done = subprocess.run(command, cwd=TOP, stdout=subprocess.PIPE, text=True, timeout=SECONDS, check=True)
        numbers = [int(word) for word in done.stdout.splitlines()[-1].split()]
    except (subprocess.SubprocessError, ValueError, IndexError) as error:
        print(f"could not be run: {error}", flush=True)
        return [0, 1, 0]
    return numbers if len(numbers) == 3 else [0, 1, 0]


def run_all():
    """Runs all test files; True if each test passed."""
    sums = [0, 0, 0]
    for folder in FOLDERS:
        for path in test_files(folder):
            sums = [one + other for one, other in zip(sums, run_apart(path))]
    passed, failed, skipped = sums
    print(f"{sum(sums)} tests ran" if not skipped else f"{sum(sums)} tests, {skipped} of them skipped")
    print(f"{passed} passed, {failed} failed" + (f", {skipped} skipped" if skipped else ""))
    return passed > 0 and failed == 0


if __name__ == "__main__":
    if len(sys.argv) > 1:
        run_here(sys.argv[1])
    else:
        sys.exit(0 if run_all() else 1)
