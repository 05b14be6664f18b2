"""Claimworlds: a first-order prover by superposition."""
