"""Run every file test_*.py below the folders that are named, and tell how many tests passed and failed.

Each file runs in a process of its own, in its own folder: two folders may have files of one name.
"""

import os
import re
import subprocess
import sys


def test_files(folder):
    found = []
    for path, folders, names in os.walk(folder):
        folders.sort()
        for name in sorted(names):
            if name.startswith("test_") and name.endswith(".py"):
                found.append(os.path.join(path, name))
    return found


def run_file(path):
    """How many tests of the file ran, and how many of them failed."""
    folder, name = os.path.split(path)
    environment = dict(os.environ, PYTHONPATH=os.getcwd())
    done = subprocess.run([sys.executable, "-m", "unittest", name[:-3]], cwd=folder, env=environment,
                          stdin=subprocess.DEVNULL, stderr=subprocess.PIPE, text=True)
    counted = re.search(r"^Ran (\d+) tests? in", done.stderr, re.MULTILINE)
    ran = int(counted.group(1)) if counted else 0
    failed = sum(int(count) for count in re.findall(r"(?:failures|errors|unexpected successes)=(\d+)", done.stderr))
    # A file that broke off, or that holds no test, has failed too, whatever it counted.
    if failed == 0 and (done.returncode != 0 or ran == 0):
        failed = 1
    print(f"{path}: {ran} ran, {failed} failed", flush=True)
    if failed:
        print(done.stderr, flush=True)
    return max(ran, failed), failed


def main(folders):
    ran = 0
    failed = 0
    for folder in folders:
        if not os.path.isdir(folder):
            print(f"{folder}: there is no such folder")
            failed += 1
            ran += 1
        for path in test_files(folder):
            counts = run_file(path)
            ran += counts[0]
            failed += counts[1]
    print(f"{ran - failed} passed, {failed} failed")
    return 1 if failed or ran == 0 else 0


if __name__ == "__main__":
    sys.exit(main(sys.argv[1:]))
