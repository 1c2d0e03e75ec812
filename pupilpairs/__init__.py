"""Pupilpairs: lines of pupils, moved by calls."""
