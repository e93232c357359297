"""Allcoursesfit: all courses that late, cut and wrong readings leave."""
