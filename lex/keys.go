package lex

func isKeyName(s string) bool {
	switch s {
	case "active", "assert", "atomic", "bit", "bool", "break", "byte", "chan",
		"d_step", "do", "else", "empty", "eval", "false", "fi", "full",
		"goto", "if", "init", "inline", "int", "len", "ltl", "mtype",
		"nempty", "never", "nfull", "np_", "od", "of", "pid", "printf",
		"proctype", "run", "short", "skip", "timeout", "true", "typedef", "unless",
		"_", "_pid", "_nr_pr":
		return true
	}
	return false
}

func isPair(s string) bool {
	switch s {
	case "::", "!!", "??", "==", "!=", "<=", ">=", "<<", ">>", "&&", "||", "++", "--", "->":
		return true
	}
	return false
}

func isSign(s string) bool {
	switch s {
	case "{", "}", "(", ")", "[", "]", ";", ",", ":", ".", "!", "?", "=", "<", ">",
		"+", "-", "*", "/", "%", "&", "|", "^", "~", "@":
		return true
	}
	return false
}
