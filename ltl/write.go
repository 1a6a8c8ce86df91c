package ltl

import "sextant/api"

// writer takes a formula's text; what is too long for one is refused as soon as it is, for a formula may have more parts than could ever be written.
type writer struct{ text []byte }

// write is the text of a formula that may be.
func write(t *api.Ltl) (string, api.Errno) {
	var w writer
	if wrong := attempt(func() { w.formula(t) }); wrong.Code != api.OK {
		return "", wrong.Code
	}
	return string(w.text), api.OK
}

func (w *writer) put(s string) {
	if len(w.text)+len(s) > api.MaxFormula {
		panic(refusal{Code: api.ErrLong})
	}
	w.text = append(w.text, s...)
}

func (w *writer) formula(t *api.Ltl) {
	s := shapes[t.Kind]
	switch s.kids {
	case 0:
		w.put(s.text + t.Name)
	case 1:
		w.put(s.text)
		w.kid(&t.Kids[0], s.right)
	case 2:
		w.kid(&t.Kids[0], s.left)
		w.put(s.text)
		w.kid(&t.Kids[1], s.right)
	}
}

// kid puts one in parentheses, if its level is below.
func (w *writer) kid(t *api.Ltl, level int) {
	if shapes[t.Kind].level >= level {
		w.formula(t)
		return
	}
	w.put("(")
	w.formula(t)
	w.put(")")
}
