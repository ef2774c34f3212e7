package token

import (
	"math"

	"lockorder/api"
)

// skip returns the offset of the first byte from at on that does not separate tokens, or the length of src.
func skip(src []byte, at int) int {
separators:
	for at < len(src) {
		switch src[at] {
		case ' ', '\t', '\r', '\n':
			at++
		case '/':
			if at+1 == len(src) || src[at+1] != '/' {
				break separators
			}
			at = lineEnd(src, at)
		default:
			break separators
		}
	}
	return at
}

// lineEnd returns the offset of the first line feed from at on, or the length of src.
func lineEnd(src []byte, at int) int {
	for at < len(src) && src[at] != '\n' {
		at++
	}
	return at
}

// scan returns the token that begins at the offset at.
func scan(src []byte, at int) (api.Token, api.Errno) {
	switch {
	case isLetter(src[at]):
		return scanName(src, at)
	case isDigit(src[at]):
		return scanNumber(src, at)
	}
	return scanSign(src, at)
}

func scanName(src []byte, at int) (api.Token, api.Errno) {
	end := at
	for end < len(src) && (isLetter(src[end]) || isDigit(src[end])) {
		end++
	}
	if end-at > api.MaxName {
		return api.Token{}, api.ErrLimit
	}
	text := string(src[at:end])
	kind := api.TokenName
	if Reserved(text) {
		kind = api.TokenWord
	}
	return api.Token{Kind: kind, Text: text, Pos: at}, api.OK
}

func scanNumber(src []byte, at int) (api.Token, api.Errno) {
	end, num := at, 0
	for end < len(src) && isDigit(src[end]) {
		digit := int(src[end] - '0')
		// Tested before the multiplication, which would wrap around.
		if num > (math.MaxInt64-digit)/10 {
			return api.Token{}, api.ErrNumber
		}
		num = 10*num + digit
		end++
	}
	return api.Token{Kind: api.TokenNumber, Text: string(src[at:end]), Num: num, Pos: at}, api.OK
}

func scanSign(src []byte, at int) (api.Token, api.Errno) {
	// The longer sign first: it is preferred.
	for size := 2; size > 0; size-- {
		if at+size > len(src) {
			continue
		}
		if text := string(src[at : at+size]); isSign(text) {
			return api.Token{Kind: api.TokenSign, Text: text, Pos: at}, api.OK
		}
	}
	return api.Token{}, api.ErrChar
}

func isSign(s string) bool {
	switch s {
	case "<=", ">=", "==", "!=", "&&", "||":
		return true
	case "(", ")", "{", "}", "[", "]", ",", ";", "=", "+", "-", "*", "/", "%", "<", ">", "!":
		return true
	}
	return false
}

func isLetter(c byte) bool {
	return 'a' <= c && c <= 'z' || 'A' <= c && c <= 'Z' || c == '_'
}

func isDigit(c byte) bool { return '0' <= c && c <= '9' }
