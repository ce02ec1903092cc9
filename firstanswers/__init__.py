"""Firstanswers: learning machines with weights from their first answers."""
