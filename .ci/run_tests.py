"""Run every test of the project and every test under ../shared/tests; fail if one fails."""

import os
import re
import subprocess
import sys
from pathlib import Path

ROOT = Path(__file__).resolve().parent.parent
OWN = ROOT / "tests"
SHARED = ROOT.parent / "shared" / "tests"
# The code with which newer Pythons' unittest ends where a file holds no test.
NO_TESTS = 5


def run_file(path):
    """Run a test file in a Python of its own; return how many tests ran and how many failed."""
    # A process each: files of one name in the two folders must not be taken for each other.
    places = os.pathsep.join([str(ROOT), str(path.parent)])
    environment = dict(os.environ, PYTHONPATH=places, PYTHONDONTWRITEBYTECODE="1")
    done = subprocess.run([sys.executable, "-m", "unittest", path.stem], cwd=ROOT, env=environment,
                          stdin=subprocess.DEVNULL, stdout=subprocess.PIPE, stderr=subprocess.STDOUT,
                          encoding="utf-8", errors="replace")
    print(f"== {path}\n{done.stdout}", flush=True)
    ran = re.findall(r"^Ran (\d+) tests? in", done.stdout, re.MULTILINE)
    many = int(ran[-1]) if ran else 0
    if done.returncode == 0 or (done.returncode == NO_TESTS and ran and many == 0):
        return many, 0
    bad = re.findall(r"^(?:FAIL|ERROR|UNEXPECTED SUCCESS): ", done.stdout, re.MULTILINE)
    return many, max(1, len(bad))


def main():
    own = sorted(OWN.rglob("test_*.py"))
    shared = sorted(SHARED.rglob("test_*.py"))
    counts = [run_file(path) for path in own + shared]
    ran = sum(many for many, _ in counts)
    failed = sum(bad for _, bad in counts)
    if sum(many for many, _ in counts[:len(own)]) == 0:
        print("the project's own tests are missing")
        failed = max(1, failed)
    print(f"Python {sys.version.split()[0]}: {len(counts)} files, {ran} tests ran")
    print(f"tests: {max(0, ran - failed)} passed, {failed} failed")
    return 1 if failed else 0


if __name__ == "__main__":
    sys.exit(main())
