// Package token divides the text of a program into tokens. See doc/01-token.md.
package token

import (
	"strings"

	"lockorder/api"
)

// Lex returns the tokens of src, the last one of the kind TokenEnd, and the length of src. With an error, it returns the offset at which the error was found.
func Lex(src []byte) ([]api.Token, int, api.Errno) {
	if len(src) > api.MaxBytes {
		return nil, api.MaxBytes, api.ErrLimit
	}
	var tokens []api.Token
	at := skip(src, 0)
	for at < len(src) {
		t, errno := scan(src, at)
		// At one offset, the errors of the token itself precede that of the number of tokens.
		if errno == api.OK && len(tokens) == api.MaxTokens {
			errno = api.ErrLimit
		}
		if errno != api.OK {
			return nil, at, errno
		}
		tokens = append(tokens, t)
		at = skip(src, at+len(t.Text))
	}
	tokens = append(tokens, api.Token{Kind: api.TokenEnd, Pos: len(src)})
	return tokens, len(src), api.OK
}

// Reserved reports whether s is a reserved word.
func Reserved(s string) bool {
	switch s {
	case "var", "mutex", "rmutex", "func", "lock", "unlock", "go", "if", "else", "while", "return":
		return true
	}
	return false
}

// Text returns the Texts of all tokens but those of the kind TokenEnd, separated by single blanks.
func Text(l []api.Token) string {
	var texts []string
	for _, t := range l {
		if t.Kind != api.TokenEnd {
			texts = append(texts, t.Text)
		}
	}
	return strings.Join(texts, " ")
}
