"""Cutlands: lines and planes that cut, and the lands between."""
