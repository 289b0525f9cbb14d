package fill_test

import (
	"math/rand"
	"net/url"
	"slices"
	"strconv"
	"strings"
	"testing"

	"wicketman/api"
	"wicketman/fill"
)

// some is a form of n pairs, and these.
func some(n int) (string, []api.Pair) {
	var pieces []string
	var l []api.Pair
	for i := range n {
		name, value := "n"+strconv.Itoa(i), strconv.Itoa(i*i)
		pieces = append(pieces, name+"="+value)
		l = append(l, api.Pair{Name: name, Value: value})
	}
	return strings.Join(pieces, "&"), l
}

func TestParse(t *testing.T) {
	for _, c := range []struct {
		s    string
		want []api.Pair
	}{
		{"a=1", pairs("a", "1")},
		{"user=anna&pass=Secret+9", pairs("user", "anna", "pass", "Secret 9")},
		{"b=1&a=2&c=3", pairs("b", "1", "a", "2", "c", "3")},
		{"a=1&a=2&a=1", pairs("a", "1", "a", "2", "a", "1")}, // Get tells of two, Parse not
		{"a", pairs("a", "")},
		{"a=", pairs("a", "")},
		{"a&b", pairs("a", "", "b", "")},
		{"a&b=", pairs("a", "", "b", "")},
		{"a==", pairs("a", "=")},
		{"a=b=c", pairs("a", "b=c")},
		{"a==b", pairs("a", "=b")},
		{"a=b=", pairs("a", "b=")},
		{"a=1=2&b=3==4", pairs("a", "1=2", "b", "3==4")},
		{"a%3Db=c", pairs("a=b", "c")}, // cut as it is written, and Unescaped behind that
		{"a%3D", pairs("a=", "")},
		{"%3D=%3D", pairs("=", "=")},
		{"a=1%26b=2", pairs("a", "1&b=2")},
		{"a%26b=2", pairs("a&b", "2")},
		{"+=+", pairs(" ", " ")},
		{"+", pairs(" ", "")},
		{"a+b=c+d", pairs("a b", "c d")},
		{" a = b ", pairs(" a ", " b ")},
		{"%00=%00", pairs("\x00", "\x00")},
		{"%2B=%2b", pairs("+", "+")},
		{"%25=%2541", pairs("%", "%41")},
		{"\xff=\xfe", pairs("\xff", "\xfe")},
		{"\u00e9=%C3%A9", pairs("\u00e9", "\u00e9")},
		{"a=1;b=2", pairs("a", "1;b=2")},
		{"a=1\r\n", pairs("a", "1\r\n")},
		{"A=1&a=2", pairs("A", "1", "a", "2")},
	} {
		askParse(t, c.s, c.want)
	}
}

func TestParseOfNoBytes(t *testing.T) {
	for _, b := range [][]byte{nil, {}, []byte("a=1")[:0]} {
		if l, e := fill.Parse(b); len(l) != 0 || e != api.OK {
			t.Errorf("Parse of no bytes: %q, %v", l, e)
		}
	}
}

func TestParseOfWhatMayNotBe(t *testing.T) {
	for _, s := range []string{
		"=", "==", "=1", "=a=b", "=%41", "&", "&&", "&a=1", "a=1&", "a=1&&b=2", "a&&b", "a&", "&a", "a=1&&",
		"=&a=1", "a=1&=", "a=1&=2", "a=1&=2&b=3",
		"%", "%=1", "%4=1", "%zz=1", "a%=1", "a%4=1", "%=", "a=%", "a=%4", "a=%zz", "a=1%", "a=%4z", "a=1%2", "a=%%",
		"%=%", "a%4%41=1", "%3=D", "a=%4&1=2", "a=%&41=2", "a%&41",
		"a=1&b=%", "a=1&b%=2", "a=%&b=2", "a%=1&b=2", "a=1&%&b=2", "a=1&b=%4&c=3", "a=1&b=2&c=%2",
	} {
		refuses(t, s, api.ErrForm)
	}
}

func TestNumbersOfPieces(t *testing.T) {
	for n := 1; n <= 70; n++ {
		s, want := some(n)
		if n > mostPairs {
			refuses(t, s, api.ErrLong)
			continue
		}
		askParse(t, s, want)
	}
	names := strings.Repeat("a&", mostPairs-1) + "a"
	if l, e := fill.Parse([]byte(names)); len(l) != mostPairs || e != api.OK {
		t.Errorf("Parse of 30 names: %d pairs, %v", len(l), e)
	}
	refuses(t, names+"&a", api.ErrLong)
	refuses(t, strings.Repeat("a&", 100000)+"a", api.ErrLong)
	// What only tells a '&' cuts nothing.
	askParse(t, "a="+strings.Repeat("%26", 100), pairs("a", strings.Repeat("&", 100)))
	askParse(t, "a="+strings.Repeat("=", 100), pairs("a", strings.Repeat("=", 100)))
}

// Empty pieces are pieces: they are counted ahead of being looked at, and so are those that may not be.
func TestWhichErrorComesFirst(t *testing.T) {
	refuses(t, strings.Repeat("&", mostPairs-1), api.ErrForm)
	refuses(t, strings.Repeat("&", mostPairs), api.ErrLong)
	for _, bad := range []string{"", "=", "=1", "%", "a=%", "%zz=1", "a=%4"} {
		for at := range mostPairs + 1 {
			form, _ := some(mostPairs)
			pieces := strings.Split(form, "&")
			long := strings.Join(slices.Insert(slices.Clone(pieces), at, bad), "&")
			refuses(t, long, api.ErrLong)
			if at < mostPairs {
				pieces[at] = bad
				refuses(t, strings.Join(pieces, "&"), api.ErrForm)
			}
		}
	}
	for at := range mostPairs {
		form, _ := some(mostPairs - 1)
		refuses(t, strings.Join(slices.Insert(strings.Split(form, "&"), at, ""), "&"), api.ErrForm)
	}
}

func TestPrint(t *testing.T) {
	for _, c := range []struct {
		l    []api.Pair
		want string
	}{
		{nil, ""},
		{[]api.Pair{}, ""},
		{pairs("a", "1"), "a=1"},
		{pairs("a", ""), "a="},
		{pairs("", ""), "="},
		{pairs("", "1"), "=1"},
		{pairs("", "", "", ""), "=&="},
		{pairs("", "", "a", "1"), "=&a=1"},
		{pairs("a", "1", "b", "2"), "a=1&b=2"},
		{pairs("b", "2", "a", "1", "b", "2"), "b=2&a=1&b=2"},
		{pairs("a b", "c d"), "a+b=c+d"},
		{pairs("a&b", "c=d"), "a%26b=c%3Dd"},
		{pairs("=", "&", "%", "+"), "%3D=%26&%25=%2B"},
		{pairs("-._~", "-._~"), "-._~=-._~"},
		{pairs("\u00e9", "\xff\x00"), "%C3%A9=%FF%00"},
	} {
		askPrint(t, c.l, c.want)
	}
	form, l := some(100)
	askPrint(t, l, form)
}

func TestGet(t *testing.T) {
	l := pairs("a", "1", "b", "2", "c", "", "b", "3", "A", "4", "", "5", "d", "6", "d", "6", "a b", "7")
	for _, c := range []struct {
		name, want string
		ok         bool
	}{
		{"a", "1", true},
		{"b", "", false}, // twice
		{"c", "", true},  // with no value
		{"A", "4", true},
		{"", "5", true},
		{"d", "", false}, // twice the same
		{"a b", "7", true},
		{"a+b", "", false},
		{"e", "", false},
		{"B", "", false},
		{"1", "", false},
		{"a ", "", false},
	} {
		askGet(t, l, c.name, c.want, c.ok)
	}
	askGet(t, nil, "a", "", false)
	askGet(t, nil, "", "", false)
	askGet(t, []api.Pair{}, "a", "", false)
	askGet(t, pairs("", "", "", ""), "", "", false)
	askGet(t, pairs("a", "1", "a", "2", "a", "3"), "a", "", false)
	askGet(t, pairs("a", "1", "a", "2", "a", "3", "b", "4"), "b", "4", true)
	askGet(t, pairs("b", "4", "a", "1", "a", "2"), "b", "4", true)
	_, many := some(mostPairs)
	for _, p := range many {
		askGet(t, many, p.Name, p.Value, true)
		askGet(t, append(slices.Clone(many), p), p.Name, "", false)
		askGet(t, append([]api.Pair{p}, many...), p.Name, "", false)
	}
}

// Pairs whose names have bytes are there again behind Print and Parse.
func TestThereAndBackOfPairs(t *testing.T) {
	askParse(t, string(fill.Print(nil)), nil)
	draw := rand.New(rand.NewSource(77))
	word := func(least int) string {
		b := make([]byte, least+draw.Intn(20))
		draw.Read(b)
		return string(b)
	}
	for range 3000 {
		var l []api.Pair
		for range 1 + draw.Intn(mostPairs) {
			l = append(l, api.Pair{Name: word(1), Value: word(0)})
		}
		askParse(t, string(fill.Print(l)), l)
	}
	for _, l := range [][]api.Pair{
		pairs(string(every()), string(every())),
		pairs("a", ""),
		pairs("&", "&", "=", "=", "%", "%", "+", "+", " ", " "),
		pairs("%41", "%41"),
	} {
		askParse(t, string(fill.Print(l)), l)
	}
	refuses(t, string(fill.Print(pairs("", "1"))), api.ErrForm)
	_, many := some(mostPairs + 1)
	refuses(t, string(fill.Print(many)), api.ErrLong)
}

// model is what Parse has to say, by other means.
func model(s string) ([]api.Pair, api.Errno) {
	if s == "" {
		return nil, api.OK
	}
	pieces := strings.Split(s, "&")
	if len(pieces) > mostPairs {
		return nil, api.ErrLong
	}
	var l []api.Pair
	for _, piece := range pieces {
		halves := append(strings.SplitN(piece, "=", 2), "")
		name, nameErr := url.QueryUnescape(halves[0])
		value, valueErr := url.QueryUnescape(halves[1])
		if nameErr != nil || valueErr != nil || name == "" {
			return nil, api.ErrForm
		}
		l = append(l, api.Pair{Name: name, Value: value})
	}
	return l, api.OK
}

// Forms of words that come in any order are pairs, or the one error; and pairs that were told are the same behind Print.
func TestParseAsTheModel(t *testing.T) {
	words := strings.Split("a b 9 a a = = = & & & & + %26 %3D %41 %fF %2b \x00 \xff \u00e9", " ")
	rare := []string{"%", "%4", "%zz", "&&", "&=", strings.Repeat("a&", 29), strings.Repeat("a&", 30), strings.Repeat("&", 30)}
	draw := rand.New(rand.NewSource(207))
	had := map[api.Errno]int{}
	for range 60000 {
		var b strings.Builder
		for range draw.Intn(14) {
			if draw.Intn(40) == 0 {
				b.WriteString(rare[draw.Intn(len(rare))])
				continue
			}
			b.WriteString(words[draw.Intn(len(words))])
		}
		s := b.String()
		want, wantE := model(s)
		got, e := fill.Parse([]byte(s))
		if !slices.Equal(got, want) || e != wantE {
			t.Fatalf("Parse of %q: %q, %v, want %q, %v", s, got, e, want, wantE)
		}
		if back, e := fill.Parse(fill.Print(got)); !slices.Equal(back, got) || e != api.OK {
			t.Fatalf("Print of %q: Parse tells %q, %v", got, back, e)
		}
		had[e]++
	}
	for _, e := range []api.Errno{api.OK, api.ErrForm, api.ErrLong} {
		if had[e] < 500 {
			t.Errorf("%d of the forms are %v: these forms test nothing", had[e], e)
		}
	}
}
