package expr

import "lockorder/api"

// parser reads tokens, the last of which has the kind TokenEnd. This one is never passed, so at remains the index of a token.
type parser struct {
	tokens []api.Token
	at     int
	open   int // parentheses and unary operators that are not completed yet
}

// sign returns the sign at the current token, or the empty string if the token is none.
func (p *parser) sign() string {
	if t := p.tokens[p.at]; t.Kind == api.TokenSign {
		return t.Text
	}
	return ""
}

// expression reads the longest expression whose binary operators outside of parentheses have at least the strength least.
func (p *parser) expression(least int) (api.Expr, api.Errno) {
	left, errno := p.operand()
	for errno == api.OK {
		op := binaryOp(p.sign())
		if strength(op) < least {
			return left, api.OK
		}
		p.at++
		var right api.Expr
		// An operator of the same strength ends the right side: operators associate to the left.
		right, errno = p.expression(strength(op) + 1)
		left = api.Expr{Op: op, Args: []api.Expr{left, right}}
	}
	return api.Expr{}, errno
}

// operand reads a number, a name, an expression in parentheses, or a unary operator with its operand.
func (p *parser) operand() (api.Expr, api.Errno) {
	switch t := p.tokens[p.at]; t.Kind {
	case api.TokenNumber:
		p.at++
		return api.Expr{Op: api.OpNumber, Num: t.Num}, api.OK
	case api.TokenName:
		p.at++
		return api.Expr{Op: api.OpName, Name: t.Text}, api.OK
	}
	op := unaryOp(p.sign())
	if op == 0 && p.sign() != "(" {
		return api.Expr{}, api.ErrSyntax
	}
	if p.open == api.MaxNesting {
		return api.Expr{}, api.ErrLimit
	}
	p.open++
	p.at++
	var e api.Expr
	var errno api.Errno
	if op == 0 {
		e, errno = p.afterParenthesis()
	} else {
		e, errno = p.afterUnary(op)
	}
	p.open--
	return e, errno
}

// afterParenthesis reads an expression and the closing parenthesis.
func (p *parser) afterParenthesis() (api.Expr, api.Errno) {
	e, errno := p.expression(weakest)
	if errno != api.OK {
		return api.Expr{}, errno
	}
	if p.sign() != ")" {
		return api.Expr{}, api.ErrSyntax
	}
	p.at++
	return e, api.OK
}

// afterUnary reads the operand of the unary operator op.
func (p *parser) afterUnary(op int) (api.Expr, api.Errno) {
	arg, errno := p.operand()
	if errno != api.OK {
		return api.Expr{}, errno
	}
	return api.Expr{Op: op, Args: []api.Expr{arg}}, api.OK
}
