"""Kinrows: a yard of program files whose rows were copied, and whose copy is whose."""
