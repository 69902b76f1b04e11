"""Runs every file test_*.py below the folders that are named, each in a process of its own.

Files of two folders may have one name, so that they can't share a process. The last line says how
many tests passed and failed; the exit code is 0 where none failed and at least one passed.
"""

import json
import os
import subprocess
import sys
import tempfile
import unittest

ONE = "--one"


def run_one(path, told):
    """Runs one file and writes [passed, failed] into the file told."""
    folder, name = os.path.split(os.path.abspath(path))
    sys.path.insert(0, folder)
    suite = unittest.defaultTestLoader.loadTestsFromName(name[:-len(".py")])
    result = unittest.TextTestRunner(verbosity=1).run(suite)
    failed = len(result.failures) + len(result.errors) + len(result.unexpectedSuccesses)
    passed = max(0, result.testsRun - len(result.skipped) - failed)
    if failed == 0 and not result.wasSuccessful():
        failed = 1
    with open(told, "w") as file:
        json.dump([passed, failed], file)


def counts_of(path):
    """[passed, failed] of one file; a process that tells nothing is one that failed."""
    handle, told = tempfile.mkstemp()
    os.close(handle)
    try:
        subprocess.run([sys.executable, os.path.abspath(__file__), ONE, path, told], check=False)
        with open(told) as file:
            text = file.read()
    finally:
        os.remove(told)
    return json.loads(text) if text else [0, 1]


def test_files(folder):
    found = []
    for place, folders, names in os.walk(folder):
        folders.sort()
        found += [os.path.join(place, name) for name in sorted(names)
                  if name.startswith("test_") and name.endswith(".py")]
    return found


def main(folders):
    passed = failed = 0
    for folder in folders:
        for path in test_files(folder):
            print(path, flush=True)
            good, bad = counts_of(path)
            passed += good
            failed += bad
    print(f"{passed} passed, {failed} failed", flush=True)
    return 0 if failed == 0 and passed > 0 else 1


if __name__ == "__main__":
    if sys.argv[1:2] == [ONE]:
        run_one(sys.argv[2], sys.argv[3])
    else:
        sys.exit(main(sys.argv[1:]))
