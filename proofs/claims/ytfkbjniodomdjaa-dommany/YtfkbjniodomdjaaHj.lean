/- The document's example of layer 8. -/
import Derived.Test.YtfkbjniodomdjaaHh
import Derived.Test.YtfkbjniodomdjaaHi
import Derived.Test.YtfkbjniodomdjaaGi
namespace Go.Proofs.Ytfkbjniodomdjaa
open Go.RowKit Go.Shelf Go.Lib

def s8P : ByteArray := ⟨#[112]⟩
def s8A : ByteArray := ⟨#[97]⟩
def s8B : ByteArray := ⟨#[98]⟩
/-- an element by its name -/
def elN (s : ByteArray) : Nd := ⟨2, 0, s, ⟨#[]⟩, none, [], 0, ⟨#[]⟩, ⟨#[]⟩, 0, .slice none 0 0, [], 0⟩
section
variable (A A' : Option Addr) (c c' : Nat) (v1 v2 v3 v4 : Value)
def h8L1 : List Nd := [pageNd, aloneNd (elN s8P) A c]
def h8L2 : List Nd := [{ pageNd with kv := v2, kids := [1] }, { aloneNd (elN s8P) A c with up := 0 }]
def h8L3 : List Nd := [{ pageNd with kv := v2, kids := [1] }, { aloneNd (elN s8P) A c with up := 0, kv := v4, kids := [2] }, { aloneNd (txN s8A) A' c' with up := 1 }]
def h8L4 : List Nd := [{ pageNd with kv := v2, kids := [1] }, { aloneNd (elN s8P) A c with up := 0, kv := v4, kids := [2] }, { aloneNd (txN s8A) A' c' with up := 1, data := s8A ++ s8B }]
theorem h8_put1 : putP (h8L1 A c) 0 1 (-1) v1 v2 = h8L2 A c v2 := by rfl
theorem h8_putE1 : putE (h8L1 A c) 0 1 (-1) = 0 := by rfl
theorem h8_in2 : inN (h8L2 A c v2) 1 = true := by rfl
theorem h8_plc2 : plcB (h8L2 A c v2) 1 (-1) = true := by rfl
theorem h8_say2 : sayN (h8L2 A c v2) 1 (-1) = none := by rfl
theorem h8_put2 : putP (h8L2 A c v2 ++ [aloneNd (txN s8A) A' c']) 1 2 (-1) v3 v4 = h8L3 A A' c c' v2 v4 := by rfl
theorem h8_putE2 : putE (h8L2 A c v2 ++ [aloneNd (txN s8A) A' c']) 1 2 (-1) = 0 := by rfl
theorem h8_in3 : inN (h8L3 A A' c c' v2 v4) 1 = true := by rfl
theorem h8_plc3 : plcB (h8L3 A A' c c' v2 v4) 1 (-1) = true := by rfl
theorem h8_say3 : sayN (h8L3 A A' c c' v2 v4) 1 (-1) = some 2 := by rfl
theorem h8_set3 : setD (h8L3 A A' c c' v2 v4) 2 s8B = h8L4 A A' c c' v2 v4 := by rfl
theorem h8_kd : kdN (h8L4 A A' c c' v2 v4) 1 = [2] := by rfl
theorem h8_src : kdN (h8L4 A A' c c' v2 v4) (srcN (h8L4 A A' c c' v2 v4) 1) = [2] := by rfl
theorem h8_src2 : kdN (h8L4 A A' c c' v2 v4) (srcN (h8L4 A A' c c' v2 v4) 2) = [] := by rfl
theorem h8_in4 : inN (h8L4 A A' c c' v2 v4) 2 = true := by rfl
theorem h8_kind : atN (h8L4 A A' c c' v2 v4) 2 Nd.kind 0 = 3 := by rfl
theorem h8_txts : txts (h8L4 A A' c c' v2 v4) [(2, 1)] = [97, 98] := by rfl
theorem h8_vis : Vis (h8L4 A A' c c' v2 v4) 3 [2] 1 [(2, 1)] 2 true := by
  have h := Vis.go (o := []) (h8_in4 A A' c c' v2 v4) (by rw [h8_src2]; exact Vis.nil (left := 2) (d := 2)) (Vis.nil (left := 2) (d := 1))
  simpa using h
theorem h8_no : s8A.toList ≠ [] ∧ s8B.toList ≠ [] := by constructor <;> (intro h; exact absurd h (by decide +kernel))
end
theorem say_new {ns ns' : List Nd} {up before z : Int} {s : ByteArray} (h : SayR ns up s before ns' z) (h1 : inN ns up = true) (h2 : s.toList ≠ []) (h3 : plcB ns up before = true) (h4 : sayN ns up before = none) :
    ∃ A c v1 v2, ns' = putP (ns ++ [aloneNd (txN s) A c]) up ns.length before v1 v2 ∧ z = putE (ns ++ [aloneNd (txN s) A c]) up ns.length before := by
  cases h with
  | arg h => rcases h with h | h
             · rw [h1] at h; cases h
             · exact absurd h h2
  | miss _ _ h => rw [h3] at h; cases h
  | grow l _ _ _ h => rw [h4] at h; cases h
  | new A c v1 v2 => exact ⟨A, c, v1, v2, rfl, rfl⟩
theorem say_grow {ns ns' : List Nd} {up before z : Int} {s : ByteArray} {l : Nat} (h : SayR ns up s before ns' z) (h1 : inN ns up = true) (h2 : s.toList ≠ []) (h3 : plcB ns up before = true) (h4 : sayN ns up before = some l) :
    ns' = setD ns l s ∧ z = 0 := by
  cases h with
  | arg h => rcases h with h | h
             · rw [h1] at h; cases h
             · exact absurd h h2
  | miss _ _ h => rw [h3] at h; cases h
  | grow l' _ _ _ h => rw [h4] at h; cases h; exact ⟨rfl, rfl⟩
  | new A c v1 v2 _ _ _ h => rw [h4] at h; cases h
end Go.Proofs.Ytfkbjniodomdjaa
