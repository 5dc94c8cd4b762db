"""Greatestback: tables of yes and no, put one behind another."""
