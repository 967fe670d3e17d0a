"""Runs the test files of some folders, each in a process of its own, and tells how many tests passed."""

import os
import re
import subprocess
import sys
from concurrent.futures import ThreadPoolExecutor

ROOT = os.path.dirname(os.path.dirname(os.path.abspath(__file__)))


def test_files(folder):
    """All files test_*.py in a folder and below it; none where there is no such folder."""
    found = []
    for place, _, names in os.walk(folder):
        found += [(place, name) for name in names if name.startswith("test_") and name.endswith(".py")]
    return sorted(found)


def run(told):
    """Run one test file; return (what it printed, tests, tests that did not pass, whether it went well)."""
    place, name = told
    paths = [ROOT] + [path for path in [os.environ.get("PYTHONPATH")] if path]
    done = subprocess.run(
        [sys.executable, "-m", "unittest", "discover", "-s", place, "-t", place, "-p", name],
        cwd=ROOT, env=dict(os.environ, PYTHONPATH=os.pathsep.join(paths)),
        stdout=subprocess.PIPE, stderr=subprocess.STDOUT, text=True, check=False,
    )
    ran = re.search(r"^Ran (\d+) tests? in ", done.stdout, re.MULTILINE)
    many = int(ran.group(1)) if ran else 0
    # Newer Pythons end with 5 where a file holds no test at all; that is no failure.
    well = done.returncode == 0 or (done.returncode == 5 and ran is not None and many == 0)
    closing = re.search(r"^FAILED \((.*)\)$", done.stdout, re.MULTILINE)
    counts = re.findall(r"(failures|errors|unexpected successes)=(\d+)", closing.group(1)) if closing else []
    bad = sum(int(count) for _, count in counts)
    return (done.stdout, many, 0 if well else max(bad, 1), well)


def main(folders):
    files = [told for folder in folders for told in test_files(os.path.join(ROOT, folder))]
    with ThreadPoolExecutor(max_workers=os.cpu_count() or 1) as pool:
        results = list(pool.map(run, files))
    for (place, name), (printed, many, _, well) in zip(files, results):
        print(f"{os.path.join(os.path.relpath(place, ROOT), name)}: {many} tests, {'well' if well else 'NOT WELL'}")
        if not well:
            print(printed)
    total = sum(many for _, many, _, _ in results)
    bad = sum(wrong for _, _, wrong, _ in results)
    print(f"{max(total - bad, 0)} passed, {bad} failed")
    return 0 if total > 0 and all(well for _, _, _, well in results) else 1


if __name__ == "__main__":
    sys.exit(main(sys.argv[1:]))
