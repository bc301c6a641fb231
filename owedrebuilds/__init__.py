"""Owedrebuilds: which change owes which document a rebuild."""
