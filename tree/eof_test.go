package tree_test

import "testing"

// P12.10: the end of the input

func TestEnd(t *testing.T) {
	cases{
		{"<!doctype html>", "?html html(head body)"},
		{"<!doctype html>  ", "?html html(head body)"},
		{"<!--a-->", "!a html(head body)"},
		{" ", "html(head body)"},
		{"<!doctype html><html>", "?html html(head body)"},
		{"<html><!--a-->", "html(!a head body)"},
		{"<html><head>", "html(head body)"},
		{"<html><head><meta>", "html(head(meta) body)"},
		{"<html><head></head>", "html(head body)"},
		{"<html><head></head> ", "html(head ' ' body)"},
		{"<body></body>", "html(head body)"},
		{"<p>a", "html(head body(p('a')))"},
		{"<pre>", "html(head body(pre))"},
		{"<svg><g>a", "html(head body(svg:svg(svg:g('a'))))"},
		{"<table>", "html(head body(table))"},
		{"<select>", "html(head body(select))"},
		{"<table><colgroup>", "html(head body(table(colgroup)))"},
		{"<table><caption>", "html(head body(table(caption)))"},
	}.check(t, page)
}

func TestEndOfTextsOfTables(t *testing.T) {
	cases{
		{"<table>a", "html(head body('a' table))"},
		{"<table> ", "html(head body(table(' ')))"},
		{"<table> <tr>a", "html(head body('a' table(' ' tbody(tr))))"},
		{"<table>\x00", "html(head body(table))"},
		{"<table><tr>a </", "html(head body('a </' table(tbody(tr))))"},
		{"<p><b></p><table>a", "html(head body(p(b) b('a') table))"},
		{"<template><tr>a", "html(head(template(tr 'a')) body)"},
		{"<template><table>a", "html(head(template('a' table)) body)"},
	}.check(t, page)
}

func TestEndOfTexts(t *testing.T) {
	cases{
		{"<title>a&amp", "html(head(title('a&')) body)"},
		{"<title>", "html(head(title) body)"},
		{"<head></head><script>a<!--<script>b", "html(head(script('a<!--<script>b')) body)"},
		{"<textarea>", "html(head body(textarea))"},
		{"<textarea>\n", "html(head body(textarea))"},
		{"<style>a</style", "html(head(style('a</style')) body)"},
		{"<template><title>a", "html(head(template(title('a'))) body)"},
		{"<table><td><textarea>a", "html(head body(table(tbody(tr(td(textarea('a')))))))"},
	}.check(t, page)
}

func TestEndWithTemplates(t *testing.T) {
	cases{
		{"<template>", "html(head(template) body)"},
		{"<head><template>a", "html(head(template('a')) body)"},
		{"<head></head><template>a", "html(head(template('a')) body)"},
		{"<head></head><template><template>a<p>b", "html(head(template(template('a' p('b')))) body)"},
		{"<body><template>a", "html(head body(template('a')))"},
		{"<table><template>a<td>b", "html(head body(table(template('a' td('b')))))"},
		{"<select><template>a", "html(head body(select(template('a'))))"},
		{"<template><svg><desc><template>a", "html(head(template(svg:svg(svg:desc(template('a'))))) body)"},
		{"<template><td><b>a<template><col>", "html(head(template(td(b('a' template(col))))) body)"},
	}.check(t, page)
}
