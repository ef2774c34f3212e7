package token_test

import (
	"math/big"
	"regexp"
	"slices"
	"testing"

	"lockorder/api"
	"lockorder/token"
)

var (
	separatorPattern = regexp.MustCompile(`^(?:[ \t\r\n]|//[^\n]*)+`)
	namePattern      = regexp.MustCompile(`^[A-Za-z_][A-Za-z_0-9]*`)
	numberPattern    = regexp.MustCompile(`^[0-9]+`)
	signPattern      = regexp.MustCompile(`^(?:<=|>=|==|!=|&&|\|\||[(){}\[\],;=+\-*/%<>!])`)
)

// oracle is P1.1 and P1.2 written with patterns, for texts of at most MaxBytes bytes.
func oracle(src []byte) ([]api.Token, int, api.Errno) {
	var l []api.Token
	at := 0
	for {
		at += len(separatorPattern.Find(src[at:]))
		if at == len(src) {
			return append(l, api.Token{Kind: api.TokenEnd, Pos: at}), at, api.OK
		}
		x, e := oracleToken(src[at:])
		if e == api.OK && len(l) >= api.MaxTokens {
			e = api.ErrLimit
		}
		if e != api.OK {
			return nil, at, e
		}
		x.Pos = at
		l = append(l, x)
		at += len(x.Text)
	}
}

func oracleToken(rest []byte) (api.Token, api.Errno) {
	if s := namePattern.Find(rest); s != nil {
		x := api.Token{Kind: api.TokenName, Text: string(s)}
		if slices.Contains(words, x.Text) {
			x.Kind = api.TokenWord
		}
		if len(s) > api.MaxName {
			return api.Token{}, api.ErrLimit
		}
		return x, api.OK
	}
	if s := numberPattern.Find(rest); s != nil {
		n, _ := new(big.Int).SetString(string(s), 10)
		if !n.IsInt64() {
			return api.Token{}, api.ErrNumber
		}
		return api.Token{Kind: api.TokenNumber, Text: string(s), Num: int(n.Int64())}, api.OK
	}
	if s := signPattern.Find(rest); s != nil {
		return api.Token{Kind: api.TokenSign, Text: string(s)}, api.OK
	}
	return api.Token{}, api.ErrChar
}

// compare tests Lex against the oracle, and P1.4 where there is no error.
func compare(t *testing.T, src []byte) {
	t.Helper()
	l, n, e := token.Lex(src)
	wantL, wantN, wantE := oracle(src)
	if !slices.Equal(l, wantL) || n != wantN || e != wantE {
		t.Fatalf("Lex(%q) = %v, %d, %d; want %v, %d, %d", src, l, n, e, wantL, wantN, wantE)
	}
	if e != api.OK {
		return
	}
	back, _, e := token.Lex([]byte(token.Text(l)))
	if e != api.OK || !sameTokens(l, back) {
		t.Fatalf("Lex(Text(Lex(%q))) = %v, %d", src, back, e)
	}
}

// every calls f with all sequences of at most most of the pieces.
func every(pieces []string, most int, f func([]byte)) {
	var grow func(prefix []byte, left int)
	grow = func(prefix []byte, left int) {
		f(prefix)
		if left == 0 {
			return
		}
		for _, p := range pieces {
			grow(append(slices.Clip(prefix), p...), left-1)
		}
	}
	grow(nil, most)
}

func TestAllShortTexts(t *testing.T) { // P1.1, P1.2, P1.4
	bytes := []string{"a", "0", " ", "\n", "/", "<", "=", "!", "&", "|", "(", "$"}
	every(bytes, 4, func(src []byte) { compare(t, src) })
}

func TestAllShortSequences(t *testing.T) { // P1.1, P1.2, P1.4
	pieces := []string{"if", "_", "ABCDEFGH", "9", "9223372036854775807", "00", " ", "//", "\n", "\r", "==", ">", "*", "\xff"}
	every(pieces, 4, func(src []byte) { compare(t, src) })
}

func FuzzLex(f *testing.F) { // P1.1, P1.2, P1.4
	f.Add([]byte("lock a[1]; // c\n"))
	f.Add([]byte("x<=9223372036854775808&&y|z"))
	f.Fuzz(func(t *testing.T, src []byte) {
		if len(src) <= api.MaxBytes {
			compare(t, src)
		}
	})
}
