package parse

import (
	"lockorder/api"
	"lockorder/expr"
	"lockorder/token"
)

// parser reads tokens, the last of which has the kind TokenEnd. This one is never passed, so at remains the index of a token. After an error it sees no token any more and stays where it is, so that only its loops have to ask for errors; what it reads then is of no use.
type parser struct {
	tokens []api.Token
	at     int
	open   int // blocks that are not completed yet
	errno  api.Errno
}

// fail sets the error, which occurs at the current token. The first one is kept.
func (p *parser) fail(errno api.Errno) {
	if p.errno == api.OK {
		p.errno = errno
	}
}

// limit allows no more than most of what is counted.
func (p *parser) limit(count, most int) {
	if count >= most {
		p.fail(api.ErrLimit)
	}
}

// seesKind reports whether the current token is of this kind.
func (p *parser) seesKind(kind int) bool {
	return p.errno == api.OK && p.tokens[p.at].Kind == kind
}

// sees reports whether the current token is this word or sign.
func (p *parser) sees(text string) bool {
	kind := api.TokenSign
	if token.Reserved(text) {
		kind = api.TokenWord
	}
	return p.seesKind(kind) && p.tokens[p.at].Text == text
}

// accept passes this word or sign, if it is the current token, and reports whether it is.
func (p *parser) accept(text string) bool {
	if !p.sees(text) {
		return false
	}
	p.at++
	return true
}

// expect passes this word or sign; no other token fits.
func (p *parser) expect(text string) {
	if !p.accept(text) {
		p.fail(api.ErrSyntax)
	}
}

// take passes a token of this kind; no other token fits.
func (p *parser) take(kind int) api.Token {
	if !p.seesKind(kind) {
		p.fail(api.ErrSyntax)
		return api.Token{}
	}
	t := p.tokens[p.at]
	p.at++
	return t
}

func (p *parser) name() string { return p.take(api.TokenName).Text }

func (p *parser) number() int { return p.take(api.TokenNumber).Num }

func (p *parser) expression() api.Expr {
	if p.errno != api.OK {
		return api.Expr{}
	}
	e, at, errno := expr.Parse(p.tokens, p.at)
	p.at, p.errno = at, errno
	return e
}

// list reads items in parentheses, separated by commas. The function item reads the one with this index.
func list[T any](p *parser, item func(index int) T) []T {
	var l []T
	p.expect("(")
	if p.accept(")") {
		return nil
	}
	l = append(l, item(0))
	for p.accept(",") {
		l = append(l, item(len(l)))
	}
	p.expect(")")
	return l
}
