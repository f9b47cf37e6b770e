package quote

import (
	"bytes"
	"fmt"
	"math/rand"
	"strings"
	"testing"
	"unicode/utf8"

	"brushwood/api"
)

// span is the bytes from one to another.
type span struct{ from, to byte }

func (s span) has(b byte) bool { return s.from <= b && b <= s.to }

var more = span{0x80, 0xbf}

// encodings are the chapter's kinds, a row each, a span for each byte.
var encodings = [][]span{
	{{0x00, 0x7f}},
	{{0xc2, 0xdf}, more},
	{{0xe0, 0xe0}, {0xa0, 0xbf}, more},
	{{0xe1, 0xec}, more, more},
	{{0xee, 0xef}, more, more},
	{{0xed, 0xed}, {0x80, 0x9f}, more},
	{{0xf0, 0xf0}, {0x90, 0xbf}, more, more},
	{{0xf1, 0xf3}, more, more, more},
	{{0xf4, 0xf4}, {0x80, 0x8f}, more, more},
}

// fits tells whether b begins with an encoding of that kind.
func fits(b []byte, kind []span) bool {
	if len(b) < len(kind) {
		return false
	}
	for i, s := range kind {
		if !s.has(b[i]) {
			return false
		}
	}
	return true
}

// runeSize is how many bytes the rune has that b begins with; 0: the first byte is stray.
func runeSize(b []byte) int {
	for _, kind := range encodings {
		if fits(b, kind) {
			return len(kind)
		}
	}
	return 0
}

// escapedNumber is the number of a rune that is spelt by its number; false: it isn't spelt so.
func escapedNumber(b []byte) (int, bool) {
	switch {
	case len(b) == 1 && (b[0] < 0x20 || b[0] == 0x7f):
		return int(b[0]), true
	case len(b) == 2 && b[0] == 0xc2 && b[1] < 0xa0:
		return int(b[1]), true
	}
	return 0, false
}

// asSaid is the quoted text, and the two counts, laid by the chapter's own table of encodings.
func asSaid(b []byte) (text string, runes, strays int) {
	var l strings.Builder
	l.WriteByte('"')
	for len(b) > 0 {
		size := runeSize(b)
		if size == 0 {
			fmt.Fprintf(&l, `\x%02x`, b[0])
			b = b[1:]
			strays++
			continue
		}
		if n, ok := escapedNumber(b[:size]); ok {
			fmt.Fprintf(&l, `\u%04x`, n)
		} else {
			if b[0] == '"' || b[0] == '\\' {
				l.WriteByte('\\')
			}
			l.Write(b[:size])
		}
		b = b[size:]
		runes++
	}
	l.WriteByte('"')
	return l.String(), runes, strays
}

// readable tells whether a text is of runes alone, none of those that P2.3 rules out.
func readable(s string) bool {
	for _, r := range s {
		if r < 0x20 || 0x7f <= r && r <= 0x9f {
			return false
		}
	}
	return utf8.ValidString(s)
}

// checkBytes holds all that is promised of b against the answers.
func checkBytes(t *testing.T, b []byte) {
	t.Helper()
	want, runes, strays := asSaid(b)
	got := Print(b)
	if got != want {
		t.Fatalf("Print(% x): %q, not %q", b, got, want)
	}
	if !readable(got) {
		t.Fatalf("Print(% x): %q can't be read", b, got)
	}
	if back, e := Parse(got); e != api.OK || !bytes.Equal(back, b) {
		t.Fatalf("Parse(%q): % x, %v, not % x", got, back, e, b)
	}
	if n, k := Count(b); n != runes || k != strays {
		t.Fatalf("Count(% x): %d, %d, not %d, %d", b, n, k, runes, strays)
	}
}

// checkText asks that s is either refused, with nothing beside, or just the text of what it is parsed to.
func checkText(t *testing.T, s string) {
	t.Helper()
	b, e := Parse(s)
	switch e {
	case api.OK:
		if text, _, _ := asSaid(b); text != s {
			t.Fatalf("Parse(%q): % x, whose text is %q", s, b, text)
		}
	case api.ErrForm:
		if len(b) != 0 {
			t.Fatalf("Parse(%q): ErrForm, and % x beside it", s, b)
		}
	default:
		t.Fatalf("Parse(%q): error %v", s, e)
	}
}

// eachOf calls do with every list of just size of the pieces, joined.
func eachOf(pieces []string, size int, do func(string)) {
	var lay func(ahead string, left int)
	lay = func(ahead string, left int) {
		if left == 0 {
			do(ahead)
			return
		}
		for _, p := range pieces {
			lay(ahead+p, left-1)
		}
	}
	lay("", size)
}

// edgeBytes has the bounds of every span of the chapter, and the bytes beside them.
func edgeBytes() []string {
	var l []string
	for _, c := range []byte{0x00, 0x1f, 0x20, '"', '0', '\\', 'u', 'x', 0x7e, 0x7f, 0x80, 0x8f, 0x90, 0x9f, 0xa0, 0xbf, 0xc0, 0xc1, 0xc2, 0xdf, 0xe0, 0xe1, 0xec, 0xed, 0xee, 0xef, 0xf0, 0xf1, 0xf3, 0xf4, 0xf5, 0xff} {
		l = append(l, string([]byte{c}))
	}
	return l
}

// P2.1: the chapter's example, and texts written out by hand.
func TestPrintTable(t *testing.T) {
	for _, c := range []struct{ b, want string }{
		{"\x61\x22\xff\x0a", `"a\"\xff\u000a"`},
		{"", `""`},
		{"a", `"a"`},
		{"plain text, 'so'", `"plain text, 'so'"`},
		{"\"", `"\""`},
		{"\\", `"\\"`},
		{"\\\"", `"\\\""`},
		{"\\u0041\\xff\\n", `"\\u0041\\xff\\n"`},
		{"\x00\x01\x1f\x20\x7e\x7f", `"\u0000\u0001\u001f ~\u007f"`},
		{"\t\n\r", `"\u0009\u000a\u000d"`},
		{"\xc2\x80\xc2\x85\xc2\x9f\xc2\xa0\xc2\xa9", "\"\\u0080\\u0085\\u009f\u00a0\u00a9\""},
		{"\xc2\xad\xe2\x80\xa8\xef\xbb\xbf", "\"\u00ad\u2028\ufeff\""},
		{"\u07ff\u0800\ud7ff\ue000\uffff\U00010000\U0010ffff", "\"\u07ff\u0800\ud7ff\ue000\uffff\U00010000\U0010ffff\""},
		{"\ufffd", "\"\ufffd\""},
		{"\xef\xbf\xbd\xef\xbf", "\"\ufffd\\xef\\xbf\""},
		{"\x80", `"\x80"`},
		{"\xff\xfe", `"\xff\xfe"`},
		{"\xc0\x80", `"\xc0\x80"`},
		{"\xc1\xbf", `"\xc1\xbf"`},
		{"\xe0\x9f\xbf", `"\xe0\x9f\xbf"`},
		{"\xed\xa0\x80", `"\xed\xa0\x80"`},
		{"\xed\xbf\xbf", `"\xed\xbf\xbf"`},
		{"\xf0\x8f\xbf\xbf", `"\xf0\x8f\xbf\xbf"`},
		{"\xf4\x90\x80\x80", `"\xf4\x90\x80\x80"`},
		{"\xf5\x80\x80\x80", `"\xf5\x80\x80\x80"`},
		{"\xe2\x82", `"\xe2\x82"`},
		{"\xe2\x82a", `"\xe2\x82a"`},
		{"\xe2\xe2\x82\xac", "\"\\xe2\u20ac\""},
		{"\xc3\"", `"\xc3\""`},
		{"\xc3\n", `"\xc3\u000a"`},
	} {
		b := []byte(c.b)
		if got := Print(b); got != c.want {
			t.Errorf("Print(% x): %q, not %q", b, got, c.want)
		}
		checkBytes(t, b)
	}
}

// P2.1
func TestCountTable(t *testing.T) {
	for _, c := range []struct {
		b             string
		runes, strays int
	}{
		{"", 0, 0},
		{"abc", 3, 0},
		{"\"\\\n\x7f", 4, 0},
		{"a\xff\u00e9\xe2\x82", 2, 3},
		{"\ufffd", 1, 0},
		{"\ufffd\xef\xbf\ufffd", 2, 2},
		{"\xc0\x80\xed\xa0\x80", 0, 5},
		{"\U0010ffff\xf4\x90\x80\x80", 1, 4},
		{"\xf0\x90\x80", 0, 3},
	} {
		if n, k := Count([]byte(c.b)); n != c.runes || k != c.strays {
			t.Errorf("Count(%q): %d, %d, not %d, %d", c.b, n, k, c.runes, c.strays)
		}
	}
}

// P2.1
func TestParseRefusesWrongTexts(t *testing.T) {
	for name, l := range map[string][]string{
		"no signs":                             {"", "a", `"`, `"a`, `a"`, `'a'`, ` "a"`, `"a" `, `"a"b`, `\"a\"`, "\"a\"\n"},
		"a sign within":                        {`"""`, `"a"b"`, `""""`, `"\\""`},
		"an escape without an end":             {`"\"`, `"\\\"`, `"\x"`, `"\xf"`, `"\u"`, `"\u0"`, `"\u00"`, `"\u000"`, `"\xff\"`},
		"an unknown escape":                    {`"\q"`, `"\n"`, `"\t"`, `"\a"`, `"\0"`, `"\377"`, `"\'"`, `"\/"`, `"\ "`, `"\X80"`, `"\U0000000a"`, "\"\\\u00e9\"", "\"\\\n\""},
		"no digits":                            {`"\xfg"`, `"\xg0"`, `"\x 8"`, `"\x+8"`, `"\x-1"`, `"\x0x"`, `"\u00_1"`, `"\u00g0"`, `"\u+00a"`, "\"\\u00\u00e90\"", "\"\\x\u00e9\"", "\"\\x\xff\xff\"", "\"\\u000\ufffd\"", "\"\\u\ufffd0\"", `"\u{a}"`},
		"digits in the other case":             {`"\xFF"`, `"\xfF"`, `"\xFf"`, `"\u000A"`, `"\u001F"`, `"\u007F"`, `"\u009F"`},
		"an escape for what stands for itself": {`"\u0020"`, `"\u0041"`, `"\u007e"`, `"\u0022"`, `"\u005c"`, `"\u00a0"`, `"\u00e9"`, `"\u0100"`, `"\ufffd"`, `"\uffff"`},
		"an escape for no rune":                {`"\ud800"`, `"\udbff"`, `"\udc00"`, `"\udfff"`, `"\ud83d\ude00"`},
		"a rune as a stray byte":               {`"\x00"`, `"\x0a"`, `"\x41"`, `"\x22"`, `"\x5c"`, `"\x7f"`},
		"stray bytes that make a rune":         {`"\xc3\xa9"`, `"\xc2\x80"`, `"\xe2\x82\xac"`, `"\xef\xbf\xbd"`, `"\xf0\x9f\x98\x80"`, `"\xff\xc3\xa9\xff"`},
		"a rune that is escaped, as itself":    {"\"\x00\"", "\"\n\"", "\"\x1f\"", "\"\x7f\"", "\"\u0080\"", "\"\u0085\"", "\"\u009f\""},
		"a stray byte as itself":               {"\"\xff\"", "\"\x80\"", "\"\xc3\"", "\"\xed\xa0\x80\"", "\"\xc3\\xa9\"", "\"\\xc3\xa9\"", "\"a\xe2\x82\""},
	} {
		for _, s := range l {
			if b, e := Parse(s); e != api.ErrForm || len(b) != 0 {
				t.Errorf("%s: Parse(%q): % x, %v", name, s, b, e)
			}
		}
	}
}

// P2.1, P2.2: what is like a wrong text, but is none.
func TestParseTakesTextsThatLookWrong(t *testing.T) {
	for s, want := range map[string]string{
		`""`:                    "",
		`"\""`:                  "\"",
		`"\\"`:                  "\\",
		`"\\x41"`:               "\\x41",
		`"\\\\u0041"`:           "\\\\u0041",
		`"\xc3\xc3"`:            "\xc3\xc3",
		`"\xa9\xc3"`:            "\xa9\xc3",
		`"\xc3a\xa9"`:           "\xc3a\xa9",
		`"\xc3\u0080"`:          "\xc3\xc2\x80",
		`"\xffff"`:              "\xffff",
		`"\u000aa"`:             "\na",
		"\"\\xe2\\x82\u20ac\"":  "\xe2\x82\xe2\x82\xac",
		"\"\\xed\\xa0\\x80\"":   "\xed\xa0\x80",
		"\"\ufffd\\xef\\xbf\"":  "\ufffd\xef\xbf",
		"\"\u00a0\U0010ffff~\"": "\u00a0\U0010ffff~",
	} {
		if b, e := Parse(s); e != api.OK || string(b) != want {
			t.Errorf("Parse(%q): %q, %v, not %q", s, b, e, want)
		}
	}
}

// P2.1, P2.2, P2.3: each rune alone, and each between strays that would take a byte more.
func TestEveryRune(t *testing.T) {
	for r := rune(0); r <= utf8.MaxRune; r++ {
		if !utf8.ValidRune(r) {
			continue
		}
		checkBytes(t, []byte(string(r)))
		if r < 0x3000 || r >= 0xff00 && r < 0x10100 {
			checkBytes(t, []byte("\xe2\x82"+string(r)+"\xf0\x9f\x98"))
		}
	}
}

// P2.1, P2.2, P2.3
func TestAllShortBytes(t *testing.T) {
	checkBytes(t, nil)
	checkBytes(t, []byte{})
	for i := range 256 {
		checkBytes(t, []byte{byte(i)})
		for j := range 256 {
			checkBytes(t, []byte{byte(i), byte(j)})
		}
	}
}

// P2.1, P2.2, P2.3: every three and four of the bytes at the edges of the encodings.
func TestEdgesOfEncodings(t *testing.T) {
	for _, size := range []int{3, 4} {
		eachOf(edgeBytes(), size, func(s string) { checkBytes(t, []byte(s)) })
	}
}

// P2.1, P2.2, P2.3
func TestLongerBytes(t *testing.T) {
	r := rand.New(rand.NewSource(2))
	edges := edgeBytes()
	for range 3000 {
		var b []byte
		for range r.Intn(60) {
			switch r.Intn(3) {
			case 0:
				b = append(b, byte(r.Intn(256)))
			case 1:
				b = append(b, edges[r.Intn(len(edges))]...)
			default:
				b = utf8.AppendRune(b, rune(r.Intn(utf8.MaxRune+1)))
			}
		}
		checkBytes(t, b)
	}
	checkBytes(t, bytes.Repeat([]byte("a\xff\n\u00e9"), api.MaxValue/5))
}

// P2.2: no other text is parsed to the same bytes.
func TestNoTwoTexts(t *testing.T) {
	pieces := []string{`"`, `\`, "x", "u", "0", "8", "a", "A", "c", "\n", "\xc3", "\xa9", "\u00e9"}
	for size := range 5 {
		eachOf(pieces, size, func(s string) {
			checkText(t, s)
			checkText(t, `"`+s+`"`)
		})
	}
	escapes := []string{`\x41`, `\xc3`, `\xa9`, `\xe2`, `\x82`, `\xac`, `\u000a`, `\u0041`, `\u00e9`, `\ud800`, `\"`, `\\`, `\`, `"`, "a", "\u20ac"}
	for size := range 5 {
		eachOf(escapes, size, func(s string) { checkText(t, `"`+s+`"`) })
	}
}

// P2.2: each escape of a byte and of four digits, in both cases.
func TestEveryEscape(t *testing.T) {
	for n := range 1 << 16 {
		checkText(t, fmt.Sprintf(`"\u%04x"`, n))
		checkText(t, fmt.Sprintf(`"\u%04X"`, n))
	}
	for n := range 256 {
		checkText(t, fmt.Sprintf(`"\x%02x"`, n))
		checkText(t, fmt.Sprintf(`"\x%02X"`, n))
	}
}

// P2.2: a quoted text with one byte more, less, or turned.
func TestChangedTexts(t *testing.T) {
	text := Print([]byte("a\"\\\xff\n\u0085\u00e9\u20ac\xe2\x82\U0001f600\xf0"))
	for i := range len(text) {
		checkText(t, text[:i])
		checkText(t, text[i:])
		checkText(t, text[:i]+text[i+1:])
		for c := range 256 {
			checkText(t, text[:i]+string([]byte{byte(c)})+text[i:])
			checkText(t, text[:i]+string([]byte{byte(c)})+text[i+1:])
		}
	}
}

// Rule 2 of the document: no argument is written into, and answers are new memory.
func TestMemoryIsNotShared(t *testing.T) {
	room := []byte("a\"\xff\nxyz")
	before := bytes.Clone(room)
	text := Print(room[:4])
	Count(room[:4])
	if !bytes.Equal(room, before) {
		t.Error("an argument was written into")
	}
	if text != `"a\"\xff\u000a"` {
		t.Errorf("bytes behind the length are read: %q", text)
	}
	room[0] = 'b'
	if text != `"a\"\xff\u000a"` {
		t.Error("a text hangs on bytes that were handed in")
	}
	first, _ := Parse(text)
	second, _ := Parse(text)
	first[0] = 'c'
	if second[0] != 'a' {
		t.Error("two answers of Parse share memory")
	}
}
