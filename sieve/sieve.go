// Package sieve: messages for those whose selectors they meet: see DOC.md.
package sieve

import (
	"strings"

	"sieve/api"
	"sieve/core"
	"sieve/events"
	"sieve/program"
	"sieve/selector"
)

// Eval tells what a selector is of an event (P3, P4).
func Eval(text string, event []api.Property) (api.Value, api.Errno, int) {
	root, errno, place := selector.Read(text)
	if errno != api.OK {
		return api.Value{}, errno, place
	}
	if !events.Valid(event) {
		return api.Value{}, api.ErrEvent, 0
	}
	answer := root.Of(event)
	answer.Str = strings.Clone(answer.Str) // it may be the event's own memory
	return answer, api.OK, 0
}

// Canon tells a selector's canonical text (P5).
func Canon(text string) (string, api.Errno, int) {
	root, errno, place := selector.Read(text)
	if errno != api.OK {
		return "", errno, place
	}
	return core.Of(root).Text, api.OK, 0
}

// Compile makes one program of selectors (P6).
func Compile(texts []string) ([]byte, api.Errno, int) {
	if len(texts) > api.MaxSubs {
		return nil, api.ErrFull, 0
	}
	maker := program.NewMaker()
	for number, text := range texts {
		root, errno, _ := selector.Read(text)
		if errno != api.OK {
			return nil, errno, number
		}
		maker.Add(core.Of(root))
		if maker.Terms() > api.MaxNodes {
			return nil, api.ErrFull, number
		}
	}
	return maker.Bytes(), api.OK, 0
}

// Run tells which of a program's selectors an event meets (P7).
func Run(code []byte, event []api.Property) ([]int, api.Errno) {
	if !events.Valid(event) {
		return nil, api.ErrEvent
	}
	p, ok := program.Read(code)
	if !ok {
		return nil, api.ErrCode
	}
	return p.Run(event), api.OK
}
