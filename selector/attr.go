package selector

import (
	"fleuron/api"
)

// attribute reads what is in its block.
func attribute(l []api.Node) (Simple, bool) {
	w := walk{nodes: l}
	w.white()
	name, ok := w.lower()
	if !ok {
		return Simple{}, false
	}
	s := Simple{Kind: Attr, Name: name}
	w.white()
	if w.ended() {
		return s, true
	}
	s.Op, ok = w.op()
	if !ok {
		return Simple{}, false
	}
	w.white()
	if w.kind(0) != api.Ident && w.kind(0) != api.String {
		return Simple{}, false
	}
	s.Value = w.take().Token.Text
	w.white()
	if w.ended() {
		return s, true
	}
	word, _ := w.lower()
	s.Fold = true
	return s, word == "i" && w.ended()
}

// op takes what is asked of the value, if that is at the place.
func (w *walk) op() (string, bool) {
	sign := w.delim(0)
	switch sign {
	case "=":
		w.place++
		return sign, true
	case "~", "|", "^", "$", "*":
		if w.delim(1) == "=" {
			w.place += 2
			return sign + "=", true
		}
	}
	return "", false
}
