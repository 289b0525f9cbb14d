package text_test

import "strings"

// span is the bytes that may stand at one place of a rune.
type span struct{ low, high byte }

// forms are the rows of bytes that are one rune, as RFC 3629 lists them in its section 4.
var forms = [][]span{
	{{0x00, 0x7f}},
	{{0xc2, 0xdf}, {0x80, 0xbf}},
	{{0xe0, 0xe0}, {0xa0, 0xbf}, {0x80, 0xbf}},
	{{0xe1, 0xec}, {0x80, 0xbf}, {0x80, 0xbf}},
	{{0xed, 0xed}, {0x80, 0x9f}, {0x80, 0xbf}},
	{{0xee, 0xef}, {0x80, 0xbf}, {0x80, 0xbf}},
	{{0xf0, 0xf0}, {0x90, 0xbf}, {0x80, 0xbf}, {0x80, 0xbf}},
	{{0xf1, 0xf3}, {0x80, 0xbf}, {0x80, 0xbf}, {0x80, 0xbf}},
	{{0xf4, 0xf4}, {0x80, 0x8f}, {0x80, 0xbf}, {0x80, 0xbf}},
}

// isForm says whether a text begins with a rune of that form.
func isForm(s string, form []span) bool {
	if len(s) < len(form) {
		return false
	}
	for i, b := range form {
		if s[i] < b.low || s[i] > b.high {
			return false
		}
	}
	return true
}

// width is how many bytes the rune has with which a text begins; 0: it begins with none.
func width(s string) int {
	for _, form := range forms {
		if isForm(s, form) {
			return len(form)
		}
	}
	return 0
}

// model is what the chapter says of one text, worked out byte by byte.
type model struct {
	runes            int
	valid            bool
	name, pass, note bool
	escaped          string
}

func modelOf(s string) model {
	m := model{valid: true, pass: len(s) >= 1 && len(s) <= 60, note: len(s) <= 200, name: isName(s)}
	var page strings.Builder
	for at := 0; at < len(s); {
		wide := width(s[at:])
		if wide == 0 {
			m.valid = false
			page.WriteByte('?')
			at++
			continue
		}
		m.runes++
		m.pass = m.pass && s[at] >= 0x20 && s[at] != 0x7f
		m.note = m.note && (s[at] >= 0x20 || s[at] == 0x0a) && s[at] != 0x7f
		page.WriteString(inPage(s[at : at+wide]))
		at += wide
	}
	m.escaped = page.String()
	if !m.valid {
		m.runes, m.pass, m.note = 0, false, false
	}
	return m
}

func isName(s string) bool {
	const letters = "abcdefghijklmnopqrstuvwxyz"
	if len(s) < 1 || len(s) > 20 || strings.IndexByte(letters, s[0]) < 0 {
		return false
	}
	return strings.Trim(s, letters+"0123456789_") == ""
}

func inPage(sign string) string {
	for _, p := range pageSigns() {
		if p.sign == sign {
			return p.want
		}
	}
	return sign
}

type pageSign struct{ sign, want string }

func pageSigns() []pageSign {
	return []pageSign{{"&", "&amp;"}, {"<", "&lt;"}, {">", "&gt;"}, {"\"", "&#34;"}, {"'", "&#39;"}}
}
