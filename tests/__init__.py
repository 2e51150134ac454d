"""The tests of the project; `python3 -m unittest` finds them from the top of the repository."""
