"""The tests of allcoursesfit."""
