/- A node taken out of its place: Out. -/
import Derived.Test.YtfkbjniodomdjaaGb
import Derived.Test.YtfkbjniodomdjaaGd
import Derived.Deep.RegionLaw
import Derived.BigRegion
namespace Go.Proofs.Ytfkbjniodomdjaa
open Go.RowKit Go.Shelf Go.Lib

/-- a node's kids, its place, set -/
def setK (ns : List Nd) (i : Nat) (v : Value) (ks : List Int) : List Nd := match ns[i]? with
  | some x => ns.set i { x with kv := v, kids := ks }
  | none => ns
def setU (ns : List Nd) (i : Nat) (u : Int) : List Nd := match ns[i]? with
  | some x => ns.set i { x with up := u }
  | none => ns
theorem setK_some {ns : List Nd} {i : Nat} {x : Nd} (h : ns[i]? = some x) (v : Value) (ks : List Int) : setK ns i v ks = ns.set i { x with kv := v, kids := ks } := by unfold setK; rw [h]
theorem setU_some {ns : List Nd} {i : Nat} {x : Nd} (h : ns[i]? = some x) (u : Int) : setU ns i u = ns.set i { x with up := u } := by unfold setU; rw [h]
/-- where among its node's kids a node stands -/
def outI (ns : List Nd) (n : Int) : Int := Lib.idxOf (kdN ns (atN ns n Nd.up (-1))) n
/-- a node taken out: the kids of the one above it lie at v then -/
def outP (ns : List Nd) (n : Int) (v : Value) : List Nd :=
  if inN ns n then setU (if 0 ≤ outI ns n then setK ns (atN ns n Nd.up (-1)).toNat v ((kdN ns (atN ns n Nd.up (-1))).eraseIdx (outI ns n).toNat) else ns) n.toNat (-1) else ns
/-- what a call leaves that turns a tree, its row of nodes where it was -/
def Trnd (base D : Nat) (v : Value) (qk : Bool) (ns ns' : List Nd) (W W' : World) : Prop :=
  DocM base D v qk ns' W' ∧ Frm (DB D v ns) W W' ∧ ∀ k, DB D v ns' k → DB D v ns k ∨ W.heap.size ≤ k
section
variable {base D : Nat} {v : Value} {qk : Bool} {ns ns' ns'' : List Nd} {W W' W'' : World}
theorem Trnd.refl (h : DocM base D v qk ns W) : Trnd base D v qk ns ns W W := ⟨h, Frm.refl _ _, fun _ h => .inl h⟩
theorem Trnd.trans (h1 : Trnd base D v qk ns ns' W W') (h2 : Trnd base D v qk ns' ns'' W' W'') : Trnd base D v qk ns ns'' W W'' :=
  ⟨h2.1, h1.2.1.trans' h2.2.1 h1.2.2, fun k hk => by
    rcases h2.2.2 k hk with h | h
    · exact h1.2.2 k h
    · exact .inr (Nat.le_trans h1.2.1.size h)⟩
/-- the node's own place is forgotten -/
theorem DocM.up_ {i : Nat} {x : Nd} {g c : Nat} (h : DocM base D (.slice (some ⟨g, 0, none⟩) ns.length c) qk ns W) (hx : ns[i]? = some x) (u : Int) :
    Trnd base D (.slice (some ⟨g, 0, none⟩) ns.length c) qk ns (setU ns i u) W (W.setCell ⟨g, i * 10 + 7, none⟩ (.int .i64 u)) := by
  rw [setU_some hx]
  exact h.fld (j := 7) (x' := { x with up := u }) hx (by omega) rfl rfl rfl rfl rfl
/-- the kids of one laid anew -/
theorem DocM.kids_ {i : Nat} {x : Nd} {g c : Nat} {v' : Value} {ks : List Int} {W2 : World} (h : DocM base D (.slice (some ⟨g, 0, none⟩) ns.length c) qk ns W) (hx : ns[i]? = some x) (hg : W.grownBy W2 x.kv.ownBlock) (ho : W2.ownsRow base 3 1 v' ks.length (ks.map (Value.int .i64)))
    (hkb : ∀ k, v'.ownBlock = some k → x.kv.ownBlock = some k ∨ W.heap.size ≤ k) :
    Trnd base D (.slice (some ⟨g, 0, none⟩) ns.length c) qk ns (setK ns i v' ks) W (W2.setCell ⟨g, i * 10 + 8, none⟩ v') := by
  rw [setK_some hx]
  have hgl : g < W.heap.size := (h.row.lt g rfl).2
  have hf2 : Frm (fun k => x.kv.ownBlock = some k) W W2 := Frm.grown hg (fun k e => e)
  have hvg : v'.ownBlock ≠ some g := fun e => by
    rcases hkb g e with e | e
    · exact rows_neN (h.kids i x hx) h.row (by decide) g e rfl
    · omega
  have hr2 : W2.ownsRow base _ 10 (.slice (some ⟨g, 0, none⟩) ns.length c) ns.length (cellsN ns) := hf2.own h.row (fun k e e2 => rows_neN (h.kids i x hx) h.row (by decide) k e2 e)
  have hfs : Frm (fun k => k = g) W2 (W2.setCell ⟨g, i * 10 + 8, none⟩ v') := Frm.set v' rfl
  refine h.upd (x' := { x with kv := v', kids := ks }) hx ?_ ?_ ?_ rfl rfl hkb
  · exact (hf2.mono (fun k e => .inr e)).trans (hfs.mono (fun k e => .inl (by rw [e]; rfl)))
  · rw [cellsN_set ns i 8 x { x with kv := v', kids := ks } v' hx (by omega) rfl]
    exact own_turnN hr2 rfl _ _
  · exact hfs.own ho (fun k e e2 => hvg (e2 ▸ e))
end
end Go.Proofs.Ytfkbjniodomdjaa
