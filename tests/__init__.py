"""The tests of figuretexts: run them all by `python3 -m unittest` in the folder above."""
