package keymap

import (
	"stylus/keys"
	"stylus/motion"
)

// Mods are the sum of these.
const (
	shift = 1 << iota
	alt
	control
)

// table returns the keys that a map has at first. It is made anew for each map,
// which changes it.
func table() []binding {
	return []binding{
		char('a', control, Move+motion.LineStart),
		char('e', control, Move+motion.LineEnd),
		char('b', control, Move+motion.Left),
		char('f', control, Move+motion.Right),
		char('b', alt, Move+motion.WordLeft),
		char('f', alt, Move+motion.WordRight),
		named(keys.Left, 0, Move+motion.Left),
		named(keys.Right, 0, Move+motion.Right),
		named(keys.Up, 0, Move+motion.Up),
		named(keys.Down, 0, Move+motion.Down),
		named(keys.Home, 0, Move+motion.LineStart),
		named(keys.End, 0, Move+motion.LineEnd),
		named(keys.Left, control, Move+motion.WordLeft),
		named(keys.Right, control, Move+motion.WordRight),
		named(keys.Home, control, Move+motion.Start),
		named(keys.End, control, Move+motion.End),
		char('<', alt, Move+motion.Start),
		char('>', alt, Move+motion.End),
		named(keys.Left, shift, Extend+motion.Left),
		named(keys.Right, shift, Extend+motion.Right),
		named(keys.Left, control+shift, Extend+motion.WordLeft),
		named(keys.Right, control+shift, Extend+motion.WordRight),
		named(keys.Home, shift, Extend+motion.LineStart),
		named(keys.End, shift, Extend+motion.LineEnd),
		named(keys.Up, shift, Extend+motion.Up),
		named(keys.Down, shift, Extend+motion.Down),
		named(keys.Back, 0, DelLeft),
		char('d', control, DelRight),
		named(keys.Delete, 0, DelRight),
		char('d', alt, KillWord),
		char('k', control, KillLine),
		char('t', control, Transpose),
		char('y', control, Yank),
		char('z', control, Undo),
		char('x', control, Redo),
		named(keys.Tab, 0, Expand),
		named(keys.Tab, shift, Field),
		char('n', alt, Choice),
		char('p', alt, Other),
		named(keys.Up, alt, CaretUp),
		named(keys.Down, alt, CaretDown),
		named(keys.Escape, 0, One),
		char('g', control, One),
		char('p', control, Older),
		char('n', control, Newer),
		char('r', control, Search),
		named(keys.Enter, 0, Accept),
		named(keys.Enter, control, Newline),
		named(keys.Enter, alt, Newline),
		char('c', control, Abort),
	}
}

// char returns the binding of a Char.
func char(r rune, mods, command int) binding {
	return binding{key: keys.Key{Kind: keys.Char, Rune: r, Mods: mods}, command: command}
}

// named returns the binding of a key that is no Char.
func named(kind, mods, command int) binding {
	return binding{key: keys.Key{Kind: kind, Mods: mods}, command: command}
}
