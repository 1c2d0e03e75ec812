"""The tests of pupilpairs."""
