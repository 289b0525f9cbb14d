package text_test

import (
	"html"
	"math/rand"
	"strings"
	"testing"
	"unicode/utf8"

	"wicketman/text"
)

func TestEscape(t *testing.T) {
	for _, c := range []struct{ s, want string }{
		{"a", "a"},
		{"hello, world", "hello, world"},
		{"&", "&amp;"},
		{"<", "&lt;"},
		{">", "&gt;"},
		{`"`, "&#34;"},
		{"'", "&#39;"},
		{`&<>"'`, "&amp;&lt;&gt;&#34;&#39;"},
		{"<<>>", "&lt;&lt;&gt;&gt;"},
		{`<a href="x">it's</a> & so`, "&lt;a href=&#34;x&#34;&gt;it&#39;s&lt;/a&gt; &amp; so"},
		{"<script>alert('1')</script>", "&lt;script&gt;alert(&#39;1&#39;)&lt;/script&gt;"},
		{"\u00e9<\u20ac>\U0001f600&", "\u00e9&lt;\u20ac&gt;\U0001f600&amp;"},
		{"a\nb\tc\x00d\x7f", "a\nb\tc\x00d\x7f"},
		{"`=/;#?%{}", "`=/;#?%{}"},
		{"\u2039\u203a\uff1c\uff1e\uff06\u201c\u2019", "\u2039\u203a\uff1c\uff1e\uff06\u201c\u2019"},
	} {
		askEscape(t, c.s, c.want)
	}
}

// What is escaped already is escaped once more: it is a text like others.
func TestEscapeOfWhatIsEscaped(t *testing.T) {
	for _, c := range []struct{ s, want string }{
		{"&amp;", "&amp;amp;"},
		{"&lt;", "&amp;lt;"},
		{"&gt;", "&amp;gt;"},
		{"&#34;", "&amp;#34;"},
		{"&#39;", "&amp;#39;"},
		{"&amp;lt;", "&amp;amp;lt;"},
		{"&quot;&nbsp;&#x3c;", "&amp;quot;&amp;nbsp;&amp;#x3c;"},
		{"a&lt;b<c", "a&amp;lt;b&lt;c"},
	} {
		askEscape(t, c.s, c.want)
	}
	for _, p := range pageSigns() {
		once := text.Escape(p.sign)
		askEscape(t, once, "&amp;"+once[1:])
	}
}

func TestEscapeOfBrokenBytes(t *testing.T) {
	for _, c := range []struct{ s, want string }{
		{"\xff", "?"},
		{"\xff\xff\xff", "???"},
		{"a\xffb", "a?b"},
		{"<\xff>", "&lt;?&gt;"},
		{"?\xff?", "???"},
		{"\xe2\x82", "??"},
		{"\xe2\x82<", "??&lt;"},
		{"\xe2<\x82", "?&lt;?"},
		{"\xf0\x9f\x98", "???"},
		{"\xf0\x9f\x98\u00e9", "???\u00e9"},
		{"\xc3\u00e9", "?\u00e9"},
		{"\u00e9\xa9", "\u00e9?"},
		{"\xc0\xbc", "??"},
		{"\xe0\x80\xbc", "???"},
		{"\xf0\x80\x80\xbc", "????"},
		{"\xed\xa0\x80", "???"},
		{"\xed\xa0\xbd\xed\xb8\x80", "??????"},
		{"\xf4\x90\x80\x80", "????"},
		{"\xf8\x80\x80\x80\xbc", "?????"},
	} {
		askEscape(t, c.s, c.want)
	}
	askEscape(t, strings.Repeat("\xff", 1<<16), strings.Repeat("?", 1<<16))
}

// Each of the five signs anywhere, with each other sign on either side.
func TestEachSignOfAPage(t *testing.T) {
	around := append([]string{"", "\xff", "\ufffd", "\n", "&", "<", ">", "'", "\""}, sizes()...)
	for _, p := range pageSigns() {
		for _, ahead := range around {
			for _, behind := range around {
				askEscape(t, ahead+p.sign+behind, modelOf(ahead).escaped+p.want+modelOf(behind).escaped)
			}
		}
		for _, n := range []int{2, 3, 1000} {
			askEscape(t, strings.Repeat(p.sign, n), strings.Repeat(p.want, n))
		}
	}
}

// What is escaped has no sign of a page's, and is UTF-8, whatever bytes it is made of; a page shows it as the text that it was.
func TestWhatIsEscapedHasNoSignOfAPage(t *testing.T) {
	pieces := append(append(append(sizes(), whole()...), broken()...), "<", ">", "&", "'", "\"", "&lt;", "&amp;", "&#39;", "lt;", "#34;")
	draw := rand.New(rand.NewSource(17))
	for range 30000 {
		var s strings.Builder
		for range draw.Intn(20) {
			s.WriteString(pieces[draw.Intn(len(pieces))])
		}
		page := text.Escape(s.String())
		if strings.ContainsAny(page, `<>"'`) || loose(page) {
			t.Fatalf("Escape of %q has a sign of a page's: %q", s.String(), page)
		}
		if _, ok := text.Runes(page); !ok || !utf8.ValidString(page) {
			t.Fatalf("Escape of %q is no UTF-8: %q", s.String(), page)
		}
		if utf8.ValidString(s.String()) && (page != html.EscapeString(s.String()) || html.UnescapeString(page) != s.String()) {
			t.Fatalf("Escape of %q: %q: another library tells otherwise", s.String(), page)
		}
	}
}

// loose says whether a text has an & that begins none of the five.
func loose(page string) bool {
	for _, p := range pageSigns() {
		page = strings.ReplaceAll(page, p.want, "")
	}
	return strings.Contains(page, "&")
}
