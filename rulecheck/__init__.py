"""Holds the files of the package against those rules of LANGUAGE.md that Python's ast can see.

Where a rule allows more than the package needs, this check is the narrower one.
"""
