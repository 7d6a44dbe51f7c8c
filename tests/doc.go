// Package tests contains the tests of all layers, a file for each one.
package tests
