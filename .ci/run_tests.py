"""Runs all tests and tells how many ran. Ends with 1 if one fails, or if the project has none."""

import os
import re
import subprocess
import sys


def folders_with_tests(top):
    """The folders under one that hold a test, as the paths that they have."""
    found = []
    for folder, _, files in os.walk(top):
        if any(re.fullmatch(r"test_.*\.py", name) for name in files):
            found.append(folder)
    return sorted(found)


def ran_in(start, top):
    """How many tests ran in a folder, or None if one failed."""
    command = [sys.executable, "-m", "unittest", "discover", "-s", start, "-t", top, "-p", "test_*.py"]
    done = subprocess.run(command, stderr=subprocess.PIPE, text=True)
    print(f"== {start}")
    print(done.stderr, flush=True)
    told = re.findall(r"^Ran (\d+) tests? in ", done.stderr, re.MULTILINE)
    if done.returncode != 0 or not told or int(told[-1]) == 0:
        return None
    return int(told[-1])


def main():
    counts = {"tests": ran_in("tests", ".")}
    for folder in folders_with_tests(os.path.join("..", "shared", "tests")):
        counts[folder] = ran_in(folder, folder)
    for folder, count in counts.items():
        print(f"{folder}: " + ("FAILED" if count is None else f"{count} tests ran"))
    failed = any(count is None for count in counts.values())
    print(f"{sum(count or 0 for count in counts.values())} tests ran, " + ("FAILED" if failed else "all passed"))
    return 1 if failed else 0


if __name__ == "__main__":
    sys.exit(main())
