/- Lists in order, plain: one put in at its place, one taken out. -/
import Derived.WalkKit
namespace Go.Proofs.YtfkbjniodomdjaaDoor

section
variable {α : Type} (lt : α → α → Bool)
/-- how many stand ahead of x -/
def plc (ns : List α) (x : α) : Nat := ns.countP (fun y => lt y x)
/-- in order, each once -/
def Srt (ns : List α) : Prop := ns.Pairwise (fun a b => lt a b = true)
/-- x put in -/
def insAt {β : Type} (ns : List β) (c : Nat) (x : β) : List β := ns.take c ++ x :: ns.drop c
/-- an order of all -/
structure Ord : Prop where
  irr : ∀ a, lt a a = false
  tr : ∀ a b c, lt a b = true → lt b c = true → lt a c = true
  tot : ∀ a b, a ≠ b → lt a b = false → lt b a = true

variable {lt}
theorem plc_le (ns : List α) (x : α) : plc lt ns x ≤ ns.length := List.countP_le_length
theorem mem_insAt {β : Type} (ns : List β) (c : Nat) (x y : β) : y ∈ insAt ns c x ↔ y = x ∨ y ∈ ns := by
  unfold insAt
  have h : y ∈ ns ↔ y ∈ ns.take c ∨ y ∈ ns.drop c := by
    conv => lhs; rw [← List.take_append_drop c ns]
    exact List.mem_append
  rw [List.mem_append, List.mem_cons, h]
  constructor
  · rintro (h | h | h)
    · exact .inr (.inl h)
    · exact .inl h
    · exact .inr (.inr h)
  · rintro (h | h | h)
    · exact .inr (.inl h)
    · exact .inl h
    · exact .inr (.inr h)
theorem len_insAt {β : Type} (ns : List β) (c : Nat) (x : β) (hc : c ≤ ns.length) : (insAt ns c x).length = ns.length + 1 := by
  simp [insAt]; omega
theorem srt_ins (O : Ord lt) : ∀ (ns : List α) (x : α), Srt lt ns → x ∉ ns → Srt lt (insAt ns (plc lt ns x) x)
  | [], x, _, _ => by simp [insAt, Srt]
  | y :: ns, x, hs, hx => by
    have hs' := List.pairwise_cons.1 hs
    have hne : y ≠ x := fun e => hx (by simp [e])
    have hx' : x ∉ ns := fun h => hx (by simp [h])
    by_cases h : lt y x = true
    · have e1 : plc lt (y :: ns) x = plc lt ns x + 1 := by simp [plc, h]
      rw [e1]
      have e2 : insAt (y :: ns) (plc lt ns x + 1) x = y :: insAt ns (plc lt ns x) x := by simp [insAt]
      rw [e2]
      refine List.pairwise_cons.2 ⟨fun z hz => ?_, srt_ins O ns x hs'.2 hx'⟩
      rcases (mem_insAt _ _ _ _).1 hz with rfl | hz
      · exact h
      · exact hs'.1 z hz
    · have hf : lt y x = false := by simpa using h
      have hxy : lt x y = true := O.tot y x hne hf
      have h0 : plc lt (y :: ns) x = 0 := by
        unfold plc
        rw [List.countP_eq_zero]
        intro z hz
        rw [List.mem_cons] at hz
        rcases hz with rfl | hz
        · simp [hf]
        · intro hzx
          have := O.tr _ _ _ (hs'.1 z hz) hzx
          rw [hf] at this
          cases this
      rw [h0]
      refine List.pairwise_cons.2 ⟨fun z hz => ?_, hs⟩
      simp at hz
      rcases hz with rfl | hz
      · exact hxy
      · exact O.tr _ _ _ hxy (hs'.1 z hz)
theorem srt_nodup (O : Ord lt) {ns : List α} (hs : Srt lt ns) : ns.Nodup := by
  refine List.Pairwise.imp ?_ hs
  intro a b h e
  rw [e, O.irr] at h
  cases h
/-- what stands at the place is it, or it is not there -/
theorem plc_at (O : Ord lt) : ∀ (ns : List α) (x : α), Srt lt ns → x ∈ ns → ns[plc lt ns x]? = some x
  | [], x, _, h => by cases h
  | y :: ns, x, hs, hx => by
    have hs' := List.pairwise_cons.1 hs
    rw [List.mem_cons] at hx
    rcases hx with rfl | hx
    · have h0 : plc lt (x :: ns) x = 0 := by
        unfold plc
        rw [List.countP_eq_zero]
        intro z hz
        rw [List.mem_cons] at hz
        rcases hz with rfl | hz
        · simp [O.irr]
        · intro hzx
          have := O.tr _ _ _ (hs'.1 z hz) hzx
          rw [O.irr] at this
          cases this
      rw [h0]; rfl
    · have e1 : plc lt (y :: ns) x = plc lt ns x + 1 := by simp [plc, hs'.1 x hx]
      rw [e1]
      simpa using plc_at O ns x hs'.2 hx
/-- those ahead of the place are less, those from there on are not -/
theorem plc_lt (O : Ord lt) : ∀ (ns : List α) (x : α), Srt lt ns → ∀ (t : Nat) (y : α), ns[t]? = some y → lt y x = decide (t < plc lt ns x)
  | [], x, _, t, y, h => by simp at h
  | z :: ns, x, hs, t, y, h => by
    have hs' := List.pairwise_cons.1 hs
    by_cases hz : lt z x = true
    · have e1 : plc lt (z :: ns) x = plc lt ns x + 1 := by simp [plc, hz]
      cases t with
      | zero => simp at h; subst h; rw [hz, e1]; simp
      | succ t =>
        have := plc_lt O ns x hs'.2 t y (by simpa using h)
        rw [this, e1]
        simp
    · have hf : lt z x = false := by simpa using hz
      have key : ∀ u, u ∈ z :: ns → lt u x = false := by
        intro u hu
        rw [List.mem_cons] at hu
        rcases hu with rfl | hu
        · exact hf
        · cases hux : lt u x with
          | false => rfl
          | true =>
            have := O.tr _ _ _ (hs'.1 u hu) hux
            rw [hf] at this
            cases this
      have h0 : plc lt (z :: ns) x = 0 := by
        unfold plc
        rw [List.countP_eq_zero]
        intro u hu
        simp [key u hu]
      rw [h0, key y (List.mem_of_getElem? h)]
      simp
/-- one taken out: the others stay in order -/
theorem srt_erase {ns : List α} (hs : Srt lt ns) (c : Nat) : Srt lt (ns.eraseIdx c) := List.Pairwise.sublist (List.eraseIdx_sublist ns c) hs
end

def ltI (a b : Int) : Bool := decide (a < b)
theorem ordI : Ord ltI := ⟨fun a => by simp [ltI], fun a b c h1 h2 => by simp [ltI] at *; omega, fun a b h1 h2 => by simp [ltI] at *; omega⟩
theorem plcI (ns : List Int) (x : Int) : ns.countP (· < x) = plc ltI ns x := rfl
end Go.Proofs.YtfkbjniodomdjaaDoor
