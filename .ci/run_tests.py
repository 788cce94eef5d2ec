"""Runs each file test_*.py of the given folders and counts the tests.

Each file runs in a process of its own, from its own folder, so that files of
the same name in two folders do not meet.
"""

import re
import subprocess
import sys
from pathlib import Path


def run_file(path):
    """Runs one file; returns the numbers of tests that passed and failed."""
    command = [sys.executable, "-m", "unittest", path.stem]
    done = subprocess.run(command, cwd=path.parent, capture_output=True, text=True)
    ran = re.search(r"^Ran (\d+) tests?", done.stderr, re.MULTILINE)
    count = int(ran.group(1)) if ran else 0
    print(f"{path}: {count} tests", flush=True)
    # An empty file of tests is no failure; newer versions of Python exit with 5.
    if done.returncode == 0 or (done.returncode == 5 and count == 0):
        return count, 0
    print(done.stdout + done.stderr, flush=True)
    told = re.findall(r"(?:failures|errors|unexpected successes)=(\d+)", done.stderr)
    failed = max(1, sum(int(number) for number in told))
    return max(0, count - failed), failed


def main(folders):
    passed = 0
    failed = 0
    for folder in folders:
        for path in sorted(Path(folder).resolve().rglob("test_*.py")):
            good, bad = run_file(path)
            passed += good
            failed += bad
    print(f"{passed} passed, {failed} failed")
    return 0 if passed > 0 and failed == 0 else 1


if __name__ == "__main__":
    sys.exit(main(sys.argv[1:]))
