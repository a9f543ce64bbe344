"""Runs the tests of the project and those under ../shared/tests, and counts them."""

import os
import re
import subprocess
import sys
from pathlib import Path

ROOT = Path(__file__).resolve().parent.parent
SHARED = ROOT.parent / "shared" / "tests"


def folders(start):
    """Return the folders at or below a folder in which a test file stands, ascending."""
    return sorted({path.parent for path in start.rglob("test_*.py")})


def run(folder, top):
    """Run the tests of a folder; return the numbers of those that passed and that failed."""
    command = [sys.executable, "-m", "unittest", "discover", "-s", str(folder), "-t", str(top)]
    path = os.pathsep.join(part for part in (str(ROOT), os.environ.get("PYTHONPATH")) if part)
    done = subprocess.run(command, cwd=ROOT, env={**os.environ, "PYTHONPATH": path}, stdin=subprocess.DEVNULL,
                          stdout=subprocess.PIPE, stderr=subprocess.STDOUT, text=True)
    print(f"== {folder}", done.stdout, sep="\n", flush=True)
    ran = re.search(r"^Ran (\d+) test", done.stdout, re.MULTILINE)
    counts = [int(number) for number in re.findall(r"(?:failures|errors|unexpected successes)=(\d+)", done.stdout)]
    many = int(ran.group(1)) if ran else 0
    failed = sum(counts)
    # A run that ends badly without a count, or that finds no test, counts as a failed one.
    if not many or done.returncode and not failed:
        failed += 1
    return max(0, many - failed), failed


def main():
    results = [run(ROOT / "tests", ROOT)]
    if SHARED.is_dir():
        results += [run(folder, folder) for folder in folders(SHARED)]
    passed = sum(good for good, _ in results)
    failed = sum(bad for _, bad in results)
    print(f"{passed} passed, {failed} failed")
    return 1 if failed or not passed else 0


if __name__ == "__main__":
    sys.exit(main())
