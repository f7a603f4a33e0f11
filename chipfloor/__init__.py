"""Chipfloor: floors, channels and wires of chips, exactly."""
