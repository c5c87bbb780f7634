"""python3 -m rulecheck FOLDER: tells the breaches of a package, and fails if there are any."""

import sys

from rulecheck.check import breaches_of_folder


def main(folder):
    """Tells what is wrong; the number to exit with."""
    breaches = breaches_of_folder(folder)
    for name, line, rule, why in breaches:
        print(f"{folder}/{name}:{line}: {rule}: {why}")
    print(f"{folder}: {len(breaches)} breaches of the rules")
    return 1 if breaches else 0


if __name__ == "__main__":
    sys.exit(main(sys.argv[1]))
