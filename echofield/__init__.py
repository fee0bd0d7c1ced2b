"""Echofield: a sound sent among walls, and what is heard when."""
