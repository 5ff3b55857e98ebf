"""The tests of withinbooks; `bash .ci/run` runs them all."""
