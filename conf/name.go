package conf

// isName: is a text a name?
func isName(s string) bool {
	if s == "" || len(s) > MaxName {
		return false
	}
	for _, r := range s {
		if !inName(r) {
			return false
		}
	}
	return true
}

// inName: can a letter stand in a name?
func inName(r rune) bool {
	return r >= 'a' && r <= 'z' || r >= 'A' && r <= 'Z' || r >= '0' && r <= '9'
}
