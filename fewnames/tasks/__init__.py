"""Tasks for programs: choices and wishes."""
