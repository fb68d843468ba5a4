"""Runs each file test_*.py of the project and of ../shared/tests by itself, and counts what passed and failed."""

import os
import re
import subprocess
import sys
from concurrent.futures import ThreadPoolExecutor

ROOT = os.path.dirname(os.path.dirname(os.path.abspath(__file__)))
SHARED = os.path.join(os.path.dirname(ROOT), "shared", "tests")


def test_files(folder):
    """The paths of all files test_*.py below a folder."""
    found = []
    for place, folders, names in os.walk(folder):
        folders.sort()
        found.extend(os.path.join(place, name) for name in sorted(names) if re.fullmatch(r"test_.*\.py", name))
    return found


def run_file(place):
    """Run one file of tests below a folder; the triple of how many tests passed, how many failed, and what to tell."""
    path, top = place
    folder, name = os.path.split(path)
    command = [sys.executable, "-m", "unittest", "discover", "-s", folder, "-t", top or folder, "-p", name]
    done = subprocess.run(command, cwd=ROOT, stdout=subprocess.PIPE, stderr=subprocess.STDOUT, text=True, check=False)
    ran = re.findall(r"^Ran (\d+) tests? in", done.stdout, re.MULTILINE)
    many = int(ran[-1]) if ran else 0
    told = f"{os.path.relpath(path, ROOT)}: {many} tests, exit {done.returncode}"
    # A file without a test is no failure; Python 3.12 and later end with 5 there.
    if done.returncode == 0 or (done.returncode == 5 and many == 0):
        return many, 0, told
    wrong = sum(int(one) for one in re.findall(r"(?:failures|errors|unexpected successes)=(\d+)", done.stdout))
    wrong = max(wrong, 1)
    return max(many - wrong, 0), wrong, f"{told}\n{done.stdout}"


def main():
    passed = failed = 0
    own = test_files(os.path.join(ROOT, "tests"))
    if not own:
        print("the project has no tests")
        failed += 1
    places = [(path, ROOT) for path in own] + [(path, None) for path in test_files(SHARED)]
    with ThreadPoolExecutor(max_workers=max(1, min(8, os.cpu_count() or 1))) as pool:
        for good, bad, told in pool.map(run_file, places):
            print(told, flush=True)
            passed, failed = passed + good, failed + bad
    print(f"{passed} passed, {failed} failed")
    return 1 if failed or not passed else 0


if __name__ == "__main__":
    sys.exit(main())
