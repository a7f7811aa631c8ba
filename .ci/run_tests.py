"""Runs every file test_*.py at and below the given folders and counts the tests.

Each file has a process of its own, so that two files of one name do not meet.
The first folder has to hold a test; the others may be empty or missing.
"""

import os
import subprocess
import sys
import unittest

COUNT = "tests counted:"


def files_of(top):
    """The test files at and below a folder, in order."""
    found = []
    for folder, _, names in os.walk(top):
        found += [os.path.join(folder, name) for name in names if name.startswith("test_") and name.endswith(".py")]
    return sorted(found)


def run_here(path):
    """Run one file in this process; the last line printed has the counts."""
    folder, name = os.path.split(os.path.abspath(path))
    sys.path.insert(0, folder)
    suite = unittest.defaultTestLoader.loadTestsFromName(name[:-3])
    result = unittest.TextTestRunner(stream=sys.stdout).run(suite)
    failed = len(result.failures) + len(result.errors) + len(result.unexpectedSuccesses)
    passed = max(0, result.testsRun - len(result.skipped) - failed)
    print(COUNT, passed, failed, flush=True)


def run_apart(path):
    """Run one file in a new process, and return how many tests passed and failed."""
    print(path, flush=True)
    done = subprocess.run([sys.executable, __file__, "--here", path], stdout=subprocess.PIPE, text=True)
    print(done.stdout, flush=True)
    lines = done.stdout.splitlines()
    if done.returncode != 0 or not lines or not lines[-1].startswith(COUNT):
        return 0, 1
    passed, failed = lines[-1][len(COUNT):].split()
    return int(passed), int(failed)


def main(folders):
    """Run all files, print the counts, and return 0 if all tests passed."""
    if not files_of(folders[0]):
        print("no test in", folders[0])
        return 1
    counts = [run_apart(path) for folder in folders for path in files_of(folder)]
    passed = sum(count[0] for count in counts)
    failed = sum(count[1] for count in counts)
    print(f"{passed} passed, {failed} failed", flush=True)
    return 1 if failed or not passed else 0


if __name__ == "__main__":
    if sys.argv[1] == "--here":
        run_here(sys.argv[2])
    else:
        sys.exit(main(sys.argv[1:]))
