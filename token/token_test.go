package token_test

import (
	"slices"
	"strings"
	"testing"

	"lockorder/api"
	"lockorder/token"
)

var words = []string{"var", "mutex", "rmutex", "func", "lock", "unlock", "go", "if", "else", "while", "return"}

var signs = []string{"(", ")", "{", "}", "[", "]", ",", ";", "=", "+", "-", "*", "/", "%", "<", ">", "!", "<=", ">=", "==", "!=", "&&", "||"}

// mustLex returns the tokens of a text that has no error, without the end, after a test of the end.
func mustLex(t *testing.T, src string) []api.Token {
	t.Helper()
	l, n, e := token.Lex([]byte(src))
	if e != api.OK || n != len(src) || len(l) == 0 {
		t.Fatalf("Lex(%.40q) = %d tokens, %d, %d; want OK and %d", src, len(l), n, e, len(src))
	}
	end := len(l) - 1
	if l[end] != (api.Token{Kind: api.TokenEnd, Pos: len(src)}) {
		t.Errorf("Lex(%.40q) ends with %v", src, l[end])
	}
	return l[:end]
}

// expectTexts tests that src has tokens with these Texts, whose Pos are where the Texts are.
func expectTexts(t *testing.T, src string, want ...string) {
	t.Helper()
	var got []string
	for _, x := range mustLex(t, src) {
		got = append(got, x.Text)
		if x.Pos < 0 || x.Pos > len(src) || !strings.HasPrefix(src[x.Pos:], x.Text) {
			t.Errorf("Lex(%.40q): %v is not at its Pos", src, x)
		}
	}
	if !slices.Equal(got, want) {
		t.Errorf("Lex(%.40q) has the Texts %q; want %q", src, got, want)
	}
}

// expectError tests that src has this error at this offset, and no tokens.
func expectError(t *testing.T, src string, offset int, errno api.Errno) {
	t.Helper()
	l, n, e := token.Lex([]byte(src))
	if len(l) != 0 || n != offset || e != errno {
		t.Errorf("Lex(%.40q) = %d tokens, %d, %d; want none, %d, %d", src, len(l), n, e, offset, errno)
	}
}

func TestSeparators(t *testing.T) { // P1.1
	expectTexts(t, "")
	expectTexts(t, " \t\r\n")
	for _, s := range []string{" ", "\t", "\r", "\n", "\r\n", "  \t ", "//\n", "// c\n", "//b//c\r\n", "//b\n//c\n", " // \x00\xff$&\n\t"} {
		expectTexts(t, "a"+s+"b", "a", "b")
		expectTexts(t, "1"+s+"2", "1", "2")
		expectTexts(t, "<"+s+"=", "<", "=")
		expectTexts(t, s+"a"+s, "a")
	}
}

func TestComments(t *testing.T) { // P1.1
	expectTexts(t, "//")
	expectTexts(t, "// to the end")
	expectTexts(t, "a//b", "a")
	expectTexts(t, "a//b\rc\td", "a")
	expectTexts(t, "///\nb", "b")
	expectTexts(t, "a///b\nc", "a", "c")
	expectTexts(t, "//*\nb", "b")
	expectTexts(t, "a/ /b", "a", "/", "/", "b")
	expectTexts(t, "a/\n/b", "a", "/", "/", "b")
	expectTexts(t, "a/b//c", "a", "/", "b")
	expectTexts(t, "/*a*/", "/", "*", "a", "*", "/")
	expectTexts(t, "/", "/")
}

func TestNames(t *testing.T) { // P1.1
	for _, s := range []string{"a", "z", "A", "Z", "_", "__", "a9", "_0", "aZ_09", "if_", "_if", "iff", "i", "If", "LOCK", "main"} {
		expectTexts(t, s, s)
		if l := mustLex(t, s); l[0] != (api.Token{Kind: api.TokenName, Text: s}) {
			t.Errorf("Lex(%q) = %v", s, l)
		}
	}
	expectTexts(t, "12ab", "12", "ab")
	expectTexts(t, "a1+b2", "a1", "+", "b2")
	expectTexts(t, "a[1]", "a", "[", "1", "]")
}

func TestWords(t *testing.T) { // P1.1
	for _, s := range words {
		if !token.Reserved(s) {
			t.Errorf("Reserved(%q) is false", s)
		}
		if l := mustLex(t, " "+s+";"); len(l) != 2 || l[0] != (api.Token{Kind: api.TokenWord, Text: s, Pos: 1}) {
			t.Errorf("Lex of the word %q = %v", s, l)
		}
		for _, other := range []string{s + " ", " " + s, s + "s", s[:len(s)-1], strings.ToUpper(s), s + "\x00"} {
			if token.Reserved(other) {
				t.Errorf("Reserved(%q) is true", other)
			}
		}
	}
	for _, s := range []string{"", "main", "for", "1", "(", "\xff", strings.Repeat("if", 1000)} {
		if token.Reserved(s) {
			t.Errorf("Reserved(%.40q) is true", s)
		}
	}
}

func TestNumbers(t *testing.T) { // P1.1, P1.2
	for s, num := range map[string]int{
		"0": 0, "7": 7, "000": 0, "007": 7, "9876543210": 9876543210,
		"9223372036854775800":                             9223372036854775800,
		"9223372036854775807":                             1<<63 - 1,
		strings.Repeat("0", 5000) + "9223372036854775807": 1<<63 - 1,
	} {
		if l := mustLex(t, "-"+s); len(l) != 2 || l[1] != (api.Token{Kind: api.TokenNumber, Text: s, Num: num, Pos: 1}) {
			t.Errorf("Lex of the number %.40q = %.80v", s, l)
		}
	}
	expectTexts(t, "1_5", "1", "_5")
	expectTexts(t, "0x1F", "0", "x1F")
}

func TestSigns(t *testing.T) { // P1.1
	for _, s := range signs {
		if l := mustLex(t, "a"+s+"b"); len(l) != 3 || l[1] != (api.Token{Kind: api.TokenSign, Text: s, Pos: 1}) {
			t.Errorf("Lex of the sign %q = %v", s, l)
		}
		expectTexts(t, s, s)
	}
	expectTexts(t, "<==", "<=", "=")
	expectTexts(t, "===", "==", "=")
	expectTexts(t, "!==", "!=", "=")
	expectTexts(t, "!!=", "!", "!=")
	expectTexts(t, "=<=>", "=", "<=", ">")
	expectTexts(t, ">>==", ">", ">=", "=")
	expectTexts(t, "&&&&||||", "&&", "&&", "||", "||")
	expectTexts(t, "((--", "(", "(", "-", "-")
}

func TestLexExample(t *testing.T) { // P1.2
	want := []api.Token{
		{Kind: api.TokenWord, Text: "lock"},
		{Kind: api.TokenName, Text: "a", Pos: 5},
		{Kind: api.TokenSign, Text: "[", Pos: 6},
		{Kind: api.TokenNumber, Text: "1", Num: 1, Pos: 7},
		{Kind: api.TokenSign, Text: "]", Pos: 8},
		{Kind: api.TokenSign, Text: ";", Pos: 9},
	}
	if l := mustLex(t, "lock a[1];"); !slices.Equal(l, want) {
		t.Errorf("Lex = %v", l)
	}
	if l := mustLex(t, "// c\nlock a[1]; "); len(l) != 6 || l[0].Pos != 5 || l[5].Pos != 14 {
		t.Errorf("Lex = %v", l)
	}
	l, n, e := token.Lex(nil)
	if len(l) != 1 || l[0] != (api.Token{Kind: api.TokenEnd}) || n != 0 || e != api.OK {
		t.Errorf("Lex(nil) = %v, %d, %d", l, n, e)
	}
}

func TestEveryByte(t *testing.T) { // P1.1, P1.2: which bytes separate, begin a token, or neither
	for c := range 256 {
		s := string([]byte{byte(c)})
		switch {
		case strings.ContainsAny(s, " \t\r\n"):
			expectTexts(t, s)
		case c >= 128 || strings.Contains("&|", s) || c != '_' && !slices.Contains(signs, s) && !isAlphanumeric(byte(c)):
			expectError(t, s, 0, api.ErrChar)
			expectError(t, "a "+s+" b", 2, api.ErrChar)
			expectError(t, "a"+s+"b", 1, api.ErrChar)
		default:
			expectTexts(t, s, s)
		}
	}
}

func isAlphanumeric(c byte) bool {
	return strings.IndexByte("abcdefghijklmnopqrstuvwxyzABCDEFGHIJKLMNOPQRSTUVWXYZ0123456789", c) >= 0
}

func TestErrChar(t *testing.T) { // P1.2
	expectError(t, "a & b", 2, api.ErrChar)
	expectError(t, "&", 0, api.ErrChar)
	expectError(t, "a|", 1, api.ErrChar)
	expectError(t, "&&&", 2, api.ErrChar)
	expectError(t, "|&", 0, api.ErrChar)
	expectError(t, "& &", 0, api.ErrChar)
	expectError(t, "&=", 0, api.ErrChar)
	expectError(t, "a\xc3\xa9", 1, api.ErrChar)
	expectError(t, "a\xc2\xa0b", 1, api.ErrChar)
	expectError(t, "\xef\xbb\xbfa", 0, api.ErrChar)
	expectError(t, "//$\n$", 4, api.ErrChar)
}

func TestErrName(t *testing.T) { // P1.2
	long := "_9" + strings.Repeat("x", api.MaxName-2)
	expectTexts(t, long, long)
	expectTexts(t, long+" y", long, "y")
	expectError(t, long+"y", 0, api.ErrLimit)
	expectError(t, long+"1", 0, api.ErrLimit)
	expectError(t, "a; "+long+"_", 3, api.ErrLimit)
	expectError(t, "func"+long, 0, api.ErrLimit)
	expectError(t, strings.Repeat("x", api.MaxBytes), 0, api.ErrLimit)
}

func TestErrNumber(t *testing.T) { // P1.2
	expectError(t, "9223372036854775808", 0, api.ErrNumber)
	expectError(t, "9223372036854775810", 0, api.ErrNumber)
	expectError(t, "a = 10000000000000000000;", 4, api.ErrNumber)
	expectError(t, "18446744073709551616", 0, api.ErrNumber)
	expectError(t, "18446744073709551617", 0, api.ErrNumber)
	expectError(t, "1 00009223372036854775808", 2, api.ErrNumber)
	expectError(t, strings.Repeat("9", api.MaxBytes), 0, api.ErrNumber)
}

func TestFirstError(t *testing.T) { // P1.2: the first one from the left
	long := strings.Repeat("x", api.MaxName+1)
	great := "9223372036854775808"
	errors := map[string]api.Errno{"$": api.ErrChar, long: api.ErrLimit, great: api.ErrNumber}
	for first, e := range errors {
		for second := range errors {
			expectError(t, "a "+first+" "+second, 2, e)
		}
	}
	expectError(t, "x$"+long, 1, api.ErrChar)
	expectError(t, great+"$", 0, api.ErrNumber)
}

func TestMaxTokens(t *testing.T) { // P1.2
	full := strings.Repeat("a;", api.MaxTokens/2)
	if l := mustLex(t, full+" // c"); len(l) != api.MaxTokens {
		t.Errorf("Lex of MaxTokens tokens returns %d", len(l))
	}
	expectError(t, full+"b", len(full), api.ErrLimit)
	expectError(t, full+" //\n 1 $", len(full)+5, api.ErrLimit)
	expectError(t, full+";"+full, len(full), api.ErrLimit)
	// At the offset of the token that is too many, the errors of that token come first.
	expectError(t, full+"$", len(full), api.ErrChar)
	expectError(t, full+" |", len(full)+1, api.ErrChar)
	expectError(t, full+"9223372036854775808", len(full), api.ErrNumber)
	expectError(t, full+strings.Repeat("x", api.MaxName+1), len(full), api.ErrLimit)
	expectError(t, "$"+full+"b", 0, api.ErrChar)
}

func TestMaxBytes(t *testing.T) { // P1.2
	expectTexts(t, strings.Repeat(" ", api.MaxBytes-1)+"a", "a")
	expectTexts(t, "a//"+strings.Repeat("$", api.MaxBytes-3), "a")
	for _, s := range []string{" ", "$", "9223372036854775808 ", "xxxxxxxxxxxxxxxxxxxxxxxx ", "// ", "a"} {
		expectError(t, s+strings.Repeat(" ", api.MaxBytes+1-len(s)), api.MaxBytes, api.ErrLimit)
	}
	expectError(t, strings.Repeat(" ", api.MaxBytes)+"$", api.MaxBytes, api.ErrLimit)
	expectError(t, strings.Repeat("a ", api.MaxBytes), api.MaxBytes, api.ErrLimit)
}

func TestText(t *testing.T) { // P1.3
	for _, x := range []struct {
		l    []api.Token
		want string
	}{
		{nil, ""},
		{[]api.Token{{Kind: api.TokenEnd, Pos: 3}}, ""},
		{[]api.Token{{Kind: api.TokenEnd, Text: "a"}}, ""},
		{[]api.Token{{Kind: api.TokenName, Text: "a"}}, "a"},
		{[]api.Token{{Kind: api.TokenName, Text: "a"}, {Kind: api.TokenSign, Text: ";", Pos: 90}, {Kind: api.TokenEnd}}, "a ;"},
		{[]api.Token{{Kind: api.TokenEnd}, {Kind: api.TokenWord, Text: "if"}, {Kind: api.TokenEnd, Text: "z"}, {Kind: api.TokenNumber, Text: "007", Num: 5}}, "if 007"},
		{[]api.Token{{Text: "a"}, {Kind: -1, Text: " "}, {Kind: 6, Text: "\xff"}}, "a   \xff"},
		{[]api.Token{{}, {Kind: api.TokenName}, {Kind: api.TokenName, Text: "b"}, {}}, "  b "},
	} {
		if s := token.Text(x.l); s != x.want {
			t.Errorf("Text(%v) = %q; want %q", x.l, s, x.want)
		}
	}
	if s := token.Text(mustLexAll(t, "a//b\n c[ 01]\t<=d")); s != "a c [ 01 ] <= d" {
		t.Errorf("Text = %q", s)
	}
}

// mustLexAll returns the tokens of src with their end.
func mustLexAll(t *testing.T, src string) []api.Token {
	t.Helper()
	l := mustLex(t, src)
	return append(l, api.Token{Kind: api.TokenEnd, Pos: len(src)})
}

// sameTokens compares Kinds, Texts and Nums.
func sameTokens(a, b []api.Token) bool {
	return slices.EqualFunc(a, b, func(x, y api.Token) bool {
		x.Pos, y.Pos = 0, 0
		return x == y
	})
}

func TestTextLeadsBack(t *testing.T) { // P1.4
	for _, src := range []string{
		"", "//", "lock a[1];", "a//b\nc", "a/ /b", "< = > = = = ! =", "<=>====!=", "1 2 a 3b", "12ab", "0009", "- -1", "&&||&&",
		"mutex a; rmutex b; mutex c[4];\nfunc main() { lock a; if x<=1&&!y { unlock a; } else { go f(mutex c[1], 2); } return; }",
		strings.Repeat("x;", api.MaxTokens/2),
	} {
		l := mustLexAll(t, src)
		if back := mustLexAll(t, token.Text(l)); !sameTokens(l, back) {
			t.Errorf("Lex(Text) of %.40q = %.80v", src, back)
		}
	}
}

func TestTextTooLong(t *testing.T) { // P1.4: its exception
	l := mustLexAll(t, strings.Repeat("0", api.MaxBytes-1)+";")
	if s := token.Text(l); len(s) != api.MaxBytes+1 {
		t.Errorf("Text has %d bytes", len(s))
	} else {
		expectError(t, s, api.MaxBytes, api.ErrLimit)
	}
}

func TestSeparatorsDoNotMatter(t *testing.T) { // P1.4
	texts := append(append([]string{"a", "x_1", "0", "017", "main"}, words...), signs...)
	want := mustLexAll(t, strings.Join(texts, " "))
	// No separator begins with two slashes: after the sign / they would make it part of the comment.
	for _, s := range []string{"  ", "\t", "\n", "\r\n", " //\n", " // $ c\n ", "\n\n//\xff\n\t//\n"} {
		got := mustLexAll(t, s+strings.Join(texts, s)+s+"// end")
		if !sameTokens(got, want) {
			t.Errorf("separated by %q: %v", s, got)
		}
	}
}

func TestArgumentsStayAndAreNotKept(t *testing.T) { // R2, R3
	const text = "lock a[12]; // c"
	src := []byte(text)
	l, _, _ := token.Lex(src)
	again, _, _ := token.Lex(src)
	if string(src) != text || !slices.Equal(l, again) {
		t.Fatal("Lex changes its argument or is not deterministic")
	}
	for i := range src {
		src[i] = '$'
	}
	l[0].Text = "b"
	if l[1].Text != "a" || l[3].Text != "12" || again[0].Text != "lock" {
		t.Error("Lex shares memory:", l, again)
	}
	if token.Text(again) != "lock a [ 12 ] ;" || again[6].Kind != api.TokenEnd {
		t.Error("Text changes its argument:", again)
	}
}
