package graphs

import "strings"

// tokenKind is what a token is to the reader.
type tokenKind uint8

const (
	stray tokenKind = iota // a byte that can stand nowhere
	nameWord
	eventWord
	byWord
	outWord
	dueWord
	doneWord
	comma
	semicolon
	ruleSign
	textEnd // stands behind the last token, so that an early end has a place
)

// token is a piece of a graph's text; rule is of meaning in a ruleSign alone.
type token struct {
	kind tokenKind
	rule RuleKind
	at   int
	text string
}

// scan finds the first token at the place from or behind it.
func scan(text string, from int) token {
	at := from
	for at < len(text) && isBlank(text[at]) {
		at++
	}
	if at == len(text) {
		return token{kind: textEnd, at: at}
	}
	if isLetter(text[at]) {
		return scanWord(text, at)
	}
	return scanSign(text, at)
}

func scanWord(text string, at int) token {
	end := at
	for end < len(text) && (isLetter(text[end]) || isDigit(text[end])) {
		end++
	}
	word := text[at:end]
	return token{kind: wordKind(word), at: at, text: word}
}

func wordKind(word string) tokenKind {
	switch word {
	case "event":
		return eventWord
	case "by":
		return byWord
	case "out":
		return outWord
	case "due":
		return dueWord
	case "done":
		return doneWord
	}
	return nameWord
}

// scanSign need not look for the longest sign: none begins another.
func scanSign(text string, at int) token {
	for rule, sign := range signs {
		if strings.HasPrefix(text[at:], sign) {
			return token{kind: ruleSign, rule: RuleKind(rule), at: at, text: sign}
		}
	}
	one := token{kind: stray, at: at, text: text[at : at+1]}
	switch one.text {
	case ",":
		one.kind = comma
	case ";":
		one.kind = semicolon
	}
	return one
}

func isBlank(b byte) bool { return b == ' ' || b == '\t' || b == '\n' }

func isLetter(b byte) bool { return 'a' <= b && b <= 'z' }

func isDigit(b byte) bool { return '0' <= b && b <= '9' }
