package path

// flaw: the place in a segment with which it can't be one; false: it can.
func flaw(segment string) (int, bool) {
	if segment == "" || segment == "." || segment == ".." || len(segment) > MaxSegment {
		return 0, true
	}
	for i := range len(segment) {
		if !stands(segment[i]) {
			return i, true
		}
	}
	return 0, false
}

// stands: can a byte stand in a segment?
func stands(sign byte) bool {
	switch {
	case sign >= 'a' && sign <= 'z':
		fallthrough
	case sign >= '0' && sign <= '9':
		fallthrough
	case sign == '_' || sign == '-' || sign == '.':
		return true
	}
	return false
}
