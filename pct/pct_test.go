package pct

import (
	"strings"
	"testing"
)

const (
	plainBytes = "abcdefghijklmnopqrstuvwxyz" + "ABCDEFGHIJKLMNOPQRSTUVWXYZ" + "0123456789" + "-._~"
	upperHex   = "0123456789ABCDEF"
	anyHex     = "0123456789ABCDEFabcdef"
)

func isPlain(c byte) bool { return strings.IndexByte(plainBytes, c) >= 0 }

// codeOf writes c as a code, whether it is plain or not.
func codeOf(c byte) string {
	return "%" + upperHex[c/16:c/16+1] + upperHex[c%16:c%16+1]
}

// codeInText is how c stands in what Encode answers.
func codeInText(c byte) string {
	if isPlain(c) {
		return string([]byte{c})
	}
	return codeOf(c)
}

// valueOf counts by the place in a list, other than the program does.
func valueOf(digit byte) int {
	return strings.IndexByte(upperHex, strings.ToUpper(string([]byte{digit}))[0])
}

func allBytes() string {
	all := make([]byte, 256)
	for i := range all {
		all[i] = byte(i)
	}
	return string(all)
}

// texts holds ordinary ones and edges: none, those that look like codes, those
// of letters that are several bytes, and those that are no UTF-8.
func texts() []string {
	return []string{
		"", "a", "plain-text_1.0~", plainBytes, " ", "a b/", "a/b", "a?b=c&d#e", "+", "a+b",
		"%", "%%", "%41", "%2F", "%2f", "%25", "%2541", "%4", "%zz", "%u0041", "100%",
		"\x00", "\x00\x00", "\x7f", "\x80", "\xff", "\xc3\x28", "\xed\xa0\x80", "\xf4\x90\x80\x80",
		"é", "ß", "日本語", "😀", "\u212a", "\ufeff", "\uff21", "\uff05\uff14\uff11",
		"line\nline\r\n\ttab", "\"quoted\" \\", allBytes(), strings.Repeat("% ", 5000),
	}
}

func wantDecoded(t *testing.T, code, text string) {
	t.Helper()
	if got, ok := Decode(code); got != text || !ok {
		t.Errorf("Decode(%q): %q, %v, want %q, true", code, got, ok, text)
	}
}

// wantRefused asks for the empty text beside false, too.
func wantRefused(t *testing.T, code string) {
	t.Helper()
	if got, ok := Decode(code); got != "" || ok {
		t.Errorf("Decode(%q): %q, %v, want %q, false", code, got, ok, "")
	}
}

// P3.1: Plain of each of the 256 bytes.
func TestPlainOfEachByte(t *testing.T) {
	count := 0
	for i := range 256 {
		c := byte(i)
		if got := Plain(c); got != isPlain(c) {
			t.Errorf("Plain(%q): %v", c, got)
		}
		if Plain(c) {
			count++
		}
	}
	if count != 26+26+10+4 {
		t.Errorf("%d plain bytes", count)
	}
}

// P3.1: the bytes just ahead of and just behind each run of plain ones.
func TestPlainAtTheEdges(t *testing.T) {
	for _, c := range []byte("azAZ09-._~") {
		if !Plain(c) {
			t.Errorf("Plain(%q): false", c)
		}
	}
	for _, c := range []byte("`{@[/:,^}\x7f %+!*'()\x00\x80\xe1\xff") {
		if Plain(c) {
			t.Errorf("Plain(%q): true", c)
		}
	}
}

// P3.1: each byte by itself, at the beginning, in the midst and at the end of
// a text, and twice.
func TestEncodeEachByte(t *testing.T) {
	for i := range 256 {
		one := string([]byte{byte(i)})
		code := codeInText(byte(i))
		for text, want := range map[string]string{
			one:                     code,
			one + "b":               code + "b",
			"a" + one + "b":         "a" + code + "b",
			"a" + one:               "a" + code,
			one + one:               code + code,
			"/" + one + "%":         "%2F" + code + "%25",
			"\xc3" + one + "\xa9":   "%C3" + code + "%A9",
			"0" + one + "41" + "\n": "0" + code + "41%0A",
		} {
			if got := Encode(text); got != want {
				t.Errorf("Encode(%q): %q, want %q", text, got, want)
			}
		}
	}
}

// P3.1: whole texts.
func TestEncodeTexts(t *testing.T) {
	for _, q := range []struct{ text, want string }{
		{"", ""},
		{plainBytes, plainBytes},
		{"%41", "%2541"},
		{"%", "%25"},
		{"é", "%C3%A9"},
		{"日", "%E6%97%A5"},
		{"\xff\xfe", "%FF%FE"},
		{"\x00\x0f\xf0", "%00%0F%F0"},
		{"a+b c", "a%2Bb%20c"},
		{"?k=v&x#y", "%3Fk%3Dv%26x%23y"},
		{"\xab\xcd\xef", "%AB%CD%EF"},
	} {
		if got := Encode(q.text); got != q.want {
			t.Errorf("Encode(%q): %q, want %q", q.text, got, q.want)
		}
	}
}

// P3.1: a code is the codes of its bytes, one behind the other, and holds
// nothing but plain bytes and codes with large letters.
func TestEncodeGoesByteByByte(t *testing.T) {
	for _, text := range texts() {
		want := ""
		for i := range len(text) {
			want += codeInText(text[i])
		}
		if got := Encode(text); got != want {
			t.Errorf("Encode(%q): %q, want %q", text, got, want)
		}
	}
}

// P3.2: a byte by itself, and in a text, is itself if it is plain, and refused
// if it isn't.
func TestDecodeEachByte(t *testing.T) {
	for i := range 256 {
		one := string([]byte{byte(i)})
		for _, text := range []string{one, "a" + one, one + "-", "a" + one + "-", one + one, "a" + one + one} {
			if isPlain(byte(i)) {
				wantDecoded(t, text, text)
			} else {
				wantRefused(t, text)
			}
		}
		// behind and ahead of a code, too
		if isPlain(byte(i)) {
			wantDecoded(t, "%00"+one+"%fF", "\x00"+one+"\xff")
		} else {
			wantRefused(t, "%00"+one+"%fFa")
		}
	}
}

// P3.2: every two hex digits, of both cases and of mixed case; plain bytes may
// be coded, too.
func TestDecodeEachCode(t *testing.T) {
	for _, high := range []byte(anyHex) {
		for _, low := range []byte(anyHex) {
			code := string([]byte{'%', high, low})
			text := string([]byte{byte(valueOf(high)*16 + valueOf(low))})
			wantDecoded(t, code, text)
			wantDecoded(t, code+code, text+text)
			wantDecoded(t, "a"+code, "a"+text)
			wantDecoded(t, code+"0", text+"0")
			wantDecoded(t, "a"+code+"f", "a"+text+"f")
		}
	}
}

// P3.2: behind a % each of the 65536 pairs of bytes is asked; those alone that
// are two hex digits are taken.
func TestDecodeEachPairBehindPercent(t *testing.T) {
	taken := 0
	for i := range 256 * 256 {
		high, low := byte(i/256), byte(i%256)
		code := string([]byte{'%', high, low})
		hex := strings.IndexByte(anyHex, high) >= 0 && strings.IndexByte(anyHex, low) >= 0
		if !hex {
			wantRefused(t, code)
			continue
		}
		taken++
		wantDecoded(t, code, string([]byte{byte(valueOf(high)*16 + valueOf(low))}))
	}
	if taken != 22*22 {
		t.Errorf("%d pairs are taken", taken)
	}
}

// P3.2: a % at the end, with one digit behind it, with something that is no
// hex digit, and one behind another.
func TestDecodeRefusesBrokenCodes(t *testing.T) {
	for _, broken := range []string{
		"%", "%4", "%f", "%F", "%%", "%%%", "%%41", "%4%", "%4%41", "%%4141", "%%25",
		"%g4", "%4g", "%G4", "%4G", "%gg", "%-1", "%+1", "% 1", "%1 ", "%0x", "%x0", "%u0041",
		"%/0", "%0/", "%:0", "%0:", "%@0", "%0@", "%`0", "%0`", "%4\x00", "%\x004", "%\xff\xff", "%1\xb2",
		"%_1", "%1_", "%4.", "%~~",
		"%\u0664\u0661", "%\uff14\uff11", "\uff0541",
	} {
		wantRefused(t, broken)
		wantRefused(t, "ab"+broken)
		wantRefused(t, "%41"+broken)
		wantRefused(t, strings.Repeat("a%20", 1000)+broken)
		if len(broken) >= 3 {
			wantRefused(t, broken+"41")
		}
	}
}

// P3.2: what isn't plain is refused wherever it stands.
func TestDecodeRefusesWhatIsNotPlain(t *testing.T) {
	for _, wrong := range []string{
		"a b", "a+b", "a/b", "/", "a?b", "a=b", "a&b", "a#b", "a:b", "a@b", "a!", "(a)", "a*",
		"\x00", "a\x00", "\x7f", "\x80", "\xc3", "é", "aé", "日本語", "\xff", "a\n", "\ta", "\u212a",
		"%41 ", " %41", "%41/%42",
	} {
		wantRefused(t, wrong)
	}
}

// P3.2: whole texts; the empty one is the code of the empty one.
func TestDecodeTexts(t *testing.T) {
	for _, q := range []struct{ code, want string }{
		{"", ""},
		{"a", "a"},
		{plainBytes, plainBytes},
		{"%25", "%"},
		{"%2541", "%41"},
		{"%252541", "%2541"},
		{"%25%34%31", "%41"},
		{"%41%42C", "ABC"},
		{"41%41", "41A"},
		{"a%00b", "a\x00b"},
		{"%c3%A9", "é"},
		{"%aB%Ab%ab%AB", "\xab\xab\xab\xab"},
		{"%ff%00%80", "\xff\x00\x80"},
		{"%7E%2d%5F%2e", "~-_."},
		{"%20%2B%2f", " +/"},
	} {
		wantDecoded(t, q.code, q.want)
	}
}

// P3.3: what is encoded is decoded; once more for each time.
func TestDecodeUndoesEncode(t *testing.T) {
	for _, text := range texts() {
		once := Encode(text)
		wantDecoded(t, once, text)
		wantDecoded(t, Encode(once), once)
		wantDecoded(t, strings.ReplaceAll(once, "%", "%25"), once)
	}
}

// P3.3: every text of two bytes comes back, and no two have one code.
func TestTextsOfTwoBytes(t *testing.T) {
	from := map[string]string{}
	for i := range 256 * 256 {
		text := string([]byte{byte(i / 256), byte(i % 256)})
		code := Encode(text)
		if other, found := from[code]; found {
			t.Errorf("%q and %q have one code, %q", other, text, code)
		}
		from[code] = text
		wantDecoded(t, code, text)
	}
}

// normal writes the hex digits of a code large, and coded plain bytes as they
// are: what two codes of one text may differ by.
func normal(code string) string {
	out := ""
	for at := 0; at < len(code); at++ {
		if code[at] != '%' {
			out += code[at : at+1]
			continue
		}
		out += codeInText(byte(valueOf(code[at+1])*16 + valueOf(code[at+2])))
		at += 2
	}
	return out
}

// codesUpTo calls visit with every text of at most size bytes out of letters.
func codesUpTo(size int, letters, start string, visit func(string)) {
	visit(start)
	if size == 0 {
		return
	}
	for i := range len(letters) {
		codesUpTo(size-1, letters, start+letters[i:i+1], visit)
	}
}

// P3.3: of all short texts that Decode takes, those that are one text differ by
// the hex digits' case, and by plain bytes that are coded, alone.
func TestOneCodeAText(t *testing.T) {
	taken, refused := 0, 0
	codesUpTo(6, "%2fFa4/", "", func(code string) {
		text, ok := Decode(code)
		if !ok {
			refused++
			return
		}
		taken++
		if want := normal(code); Encode(text) != want {
			t.Errorf("%q is decoded to %q, whose code is %q, want %q", code, text, Encode(text), want)
		}
	})
	if taken == 0 || refused == 0 {
		t.Errorf("%d are taken, %d refused", taken, refused)
	}
}

// P3.3: each text has the codes that differ by these two things, and they are
// all decoded to it.
func TestTheOtherCodesOfAText(t *testing.T) {
	for _, text := range texts() {
		all := ""
		for i := range len(text) {
			all += codeOf(text[i])
		}
		mixed := ""
		for i := range len(text) {
			code := codeOf(text[i])
			if i%2 == 0 {
				code = code[:2] + strings.ToLower(code[2:])
			} else {
				code = "%" + strings.ToLower(code[1:2]) + code[2:]
			}
			mixed += code
		}
		wantDecoded(t, all, text)
		wantDecoded(t, strings.ToLower(all), text)
		wantDecoded(t, mixed, text)
	}
}

// The chapter's section 'Runs'.
func TestRuns(t *testing.T) {
	if got := Encode("a b/"); got != "a%20b%2F" {
		t.Errorf("%q", got)
	}
	wantDecoded(t, "%2f", "/")
	wantRefused(t, "%4")
	wantRefused(t, "a b")
	wantDecoded(t, "%41", "A")
}

// T5's ground: a / in a segment is told from one between two.
func TestSlashIsCoded(t *testing.T) {
	if got := Encode("a/b"); got != "a%2Fb" {
		t.Errorf("%q", got)
	}
	wantDecoded(t, "a%2Fb", "a/b")
	wantRefused(t, "a/b")
}

// R1: any bytes at all are answered for.
func FuzzAnyBytes(f *testing.F) {
	for _, text := range texts() {
		f.Add(text)
		f.Add(Encode(text))
	}
	f.Fuzz(func(t *testing.T, s string) {
		if back, ok := Decode(Encode(s)); back != s || !ok {
			t.Errorf("%q comes back as %q, %v", s, back, ok)
		}
		if text, ok := Decode(s); ok && Encode(text) != normal(s) || !ok && text != "" {
			t.Errorf("Decode(%q): %q, %v", s, text, ok)
		}
	})
}
