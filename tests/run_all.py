"""Runs every test_*.py under the folders that are named, and tells how many tests ran.

    python3 tests/run_all.py FOLDER [FOLDER ...]

Files of one name in two folders are two modules here. It fails where a test
fails, a file can't be loaded, a folder is not there, or no test ran at all.
"""

import importlib.util
import sys
import unittest
from pathlib import Path

TOP = Path(__file__).resolve().parent.parent


def test_files(folders):
    paths = []
    for folder in folders:
        if not Path(folder).is_dir():
            sys.exit(f"no folder {folder}")
        paths += sorted(Path(folder).resolve().rglob("test_*.py"))
    return paths


def load_file(path, number):
    name = f"{path.stem}_{number}"
    spec = importlib.util.spec_from_file_location(name, path)
    module = importlib.util.module_from_spec(spec)
    sys.modules[name] = module
    spec.loader.exec_module(module)
    return unittest.defaultTestLoader.loadTestsFromModule(module)


def run_file(path, number):
    print(f"== {path}", flush=True)
    sys.path.insert(0, str(path.parent))
    try:
        return unittest.TextTestRunner(stream=sys.stdout).run(load_file(path, number))
    finally:
        sys.path.remove(str(path.parent))


def names_of(outcomes):
    # Several subtests of one test may fail; it is still one test.
    return {getattr(test, "test_case", test).id() for test, _ in outcomes}


def main(folders):
    sys.path.insert(0, str(TOP))
    ran = passed = skipped = 0
    failed = []
    for number, path in enumerate(test_files(folders)):
        result = run_file(path, number)
        wrong = names_of(result.failures + result.errors)
        wrong |= {test.id() for test in result.unexpectedSuccesses}
        left_out = names_of(result.skipped) - wrong
        ran += result.testsRun
        skipped += len(left_out)
        passed += max(0, result.testsRun - len(wrong) - len(left_out))
        failed += sorted(wrong)
    for name in failed:
        print(f"failed: {name}")
    print(f"{ran} tests ran")
    print(f"{passed} passed, {len(failed)} failed, {skipped} skipped")
    return 0 if ran and not failed else 1


if __name__ == "__main__":
    sys.exit(main(sys.argv[1:]))
