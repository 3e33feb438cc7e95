// Package text is layer 1 (keys, texts and numbers).
package text

import (
	"strconv"
	"strings"
	"unicode/utf8"

	"flagstone/api"
)

var reservedWords = []string{
	"and", "arms", "attribute", "bool", "claims", "contains", "cool", "cooling", "default", "draft",
	"ends", "exclude", "exists", "experiment", "false", "flag", "holdout", "in", "include", "is",
	"layer", "list", "member", "needs", "not", "number", "off", "on", "or", "rule",
	"running", "salt", "segment", "serve", "settings", "split", "starts", "stopped", "target", "text",
	"to", "true", "until", "variations", "version", "when",
}

// Key reports whether s is a key: a name of at most api.MaxKey bytes that is not a reserved word.
func Key(s string) bool {
	if len(s) < 1 || len(s) > api.MaxKey {
		return false
	}
	for i, r := range s {
		if !isLetter(r) && (i == 0 || !isDigit(r) && r != '-' && r != '_') {
			return false
		}
	}
	return !isReserved(s)
}

func isLetter(r rune) bool { return 'a' <= r && r <= 'z' }

func isDigit(r rune) bool { return '0' <= r && r <= '9' }

func isReserved(s string) bool {
	for _, word := range reservedWords {
		if s == word {
			return true
		}
	}
	return false
}

// Reserved returns the reserved words in ascending order.
func Reserved() []string {
	return append([]string(nil), reservedWords...)
}

// Valid reports whether s is a text: UTF-8 of at most api.MaxText bytes without control characters of ASCII.
func Valid(s string) bool {
	if len(s) > api.MaxText || !utf8.ValidString(s) {
		return false
	}
	for _, r := range s {
		if r < 32 || r == 127 {
			return false
		}
	}
	return true
}

// Quote returns the text s in quotation marks, with escapes. Error: ErrText.
func Quote(s string) (string, api.Errno) {
	if !Valid(s) {
		return "", api.ErrText
	}
	var quoted strings.Builder
	quoted.WriteByte('"')
	for _, r := range s {
		if isEscaped(r) {
			quoted.WriteByte('\\')
		}
		quoted.WriteRune(r)
	}
	quoted.WriteByte('"')
	return quoted.String(), api.OK
}

func isEscaped(r rune) bool { return r == '"' || r == '\\' }

// Unquote returns the text for which Quote returns s. Errors: ErrSyntax, ErrText.
func Unquote(s string) (string, api.Errno) {
	if len(s) < 2 || s[0] != '"' || s[len(s)-1] != '"' {
		return "", api.ErrSyntax
	}
	plain, ok := unescape(s[1 : len(s)-1])
	if !ok {
		return "", api.ErrSyntax
	}
	if !Valid(plain) {
		return "", api.ErrText
	}
	return plain, api.OK
}

// unescape copies slices of s instead of runes, because s may be invalid UTF-8, which the caller reports only if all escapes are right.
func unescape(s string) (string, bool) {
	var plain strings.Builder
	from, open, fits := 0, false, true
scan:
	for i, r := range s {
		switch {
		case open && isEscaped(r):
			open = false
		case open, r == '"':
			fits = false
			break scan
		case r == '\\':
			plain.WriteString(s[from:i])
			from, open = i+1, true
		}
	}
	if open || !fits {
		return "", false
	}
	plain.WriteString(s[from:])
	return plain.String(), true
}

// Number returns n in decimal.
func Number(n int) string { return strconv.Itoa(n) }

// ParseNumber returns the number for which Number returns s. Errors: ErrSyntax, ErrRange.
func ParseNumber(s string) (int, api.Errno) {
	digits, negative := strings.CutPrefix(s, "-")
	if digits == "" || digits[0] == '0' && s != "0" {
		return 0, api.ErrSyntax
	}
	n := 0
	for _, r := range digits {
		if !isDigit(r) {
			return 0, api.ErrSyntax
		}
		// The minimum keeps a number that is too large from wrapping around, while the digits after it are still checked.
		n = min(10*n+int(r-'0'), api.MaxNumber+1)
	}
	if n > api.MaxNumber {
		return 0, api.ErrRange
	}
	if negative {
		n = -n
	}
	return n, api.OK
}
