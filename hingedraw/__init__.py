"""Hingedraw: rods with hinges, and the curves that they draw, exactly."""
