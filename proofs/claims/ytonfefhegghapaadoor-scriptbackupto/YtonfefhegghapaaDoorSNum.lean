import Derived.Test.YtonfefhegghapaaDoorSCut
namespace Go.Proofs.YtonfefhegghapaaDoor
open Go.RowKit 

/-- The reader: what is left of a line. -/
theorem hWord {w : World} {g : Nat} {s : ByteArray} (hs : s.size ≤ 281474976710656) (hg : w.heap[g]? = some (.cells #[.string s] 75 (0, 0))) : Calls Tryd.prog 52 #[.pointer (some ⟨g, 0, none⟩)] w fun o w' => ∃ a b, o = .returned (.string a) ∧ CutQ s a b ∧ w'.heap[g]? = some (.cells #[.string b] 75 (0, 0)) ∧ Kept (fun j => j = g) w w' := by
  have C : Hid (Calls Tryd.prog 35 #[.string s, .int .i32 32] w (RetS fun a b w' => CutQ s a b ∧ Kept (fun _ => False) w w')) := hCut s w hs
  have c0 := cell_blk hg 0 (v := .string s) rfl
  have HG : Hid (w.heap[g]? = some (.cells #[.string s] 75 (0, 0))) := hg
  clear hg
  go_enter Tryd.func52, Tryd.ntmps52
  go_wp2_with fail
  refine C.out.mono ?_
  rintro o w2 ⟨a, b, rfl, Q', K'⟩
  have Q : Hid (CutQ s a b) := Q'
  have G2 : Hid (w2.heap[g]? = some (.cells #[.string s] 75 (0, 0))) := K'.get HG.out (fun z => z)
  have F : Hid ((w2.setCell ⟨g, 0, none⟩ (.string b)).heap[g]? = some (.cells #[.string b] 75 (0, 0)) ∧ Kept (fun j => j = g) w (w2.setCell ⟨g, 0, none⟩ (.string b))) := ⟨by rw [set_heap G2.out 0]; rfl, (K'.mono (S' := fun j => j = g) (fun _ _ z => z.elim)).setCell (p := ⟨g, 0, none⟩) (fun _ => rfl) (.string b)⟩
  have d0 := cell_blk G2.out 0 (v := .string s) rfl
  have t0 := soft_blk G2.out 0
  clear C c0 HG Q' K' G2
  go_wp2_with fail
  go_ret
  exact ⟨a, b, by first | rfl | simp, Q.out, F.out.1, F.out.2⟩
/-- A number of a line, and what is left. -/
structure NumQ (s b : ByteArray) (v : Int) : Prop where
  ki : KI v
  le : b.size ≤ s.size
  asc : Asc s → b.data.toList = (cutL s.data.toList).2 ∧ ∀ u, Lib.atoiAll (cutL s.data.toList).1 = .ok u → v = u
theorem hNum {w0 w : World} {g : Nat} {s : ByteArray} (hs : s.size ≤ 281474976710656) (hg : w.heap[g]? = some (.cells #[.string s] 75 (0, 0))) (V : Vars w0) (K0 : Kept (fun _ => False) w0 w) (hlow : w0.heap.size ≤ g) : Calls Tryd.prog 53 #[.pointer (some ⟨g, 0, none⟩)] w fun o w' => ∃ b v, o = .returned (.int .i64 v) ∧ NumQ s b v ∧ w'.heap[g]? = some (.cells #[.string b] 75 (0, 0)) ∧ Kept (fun j => j = g) w w' := by
  have C : Hid (Calls Tryd.prog 52 #[.pointer (some ⟨g, 0, none⟩)] w fun o w' => ∃ a b, o = .returned (.string a) ∧ CutQ s a b ∧ w'.heap[g]? = some (.cells #[.string b] 75 (0, 0)) ∧ Kept (fun j => j = g) w w') := hWord hs hg
  have VV : Hid (Vars w0 ∧ Kept (fun _ => False) w0 w ∧ w0.heap.size ≤ g) := ⟨V, K0, hlow⟩
  clear hg V K0
  go_enter Tryd.func53, Tryd.ntmps53
  go_wp2_with fail
  refine C.out.mono ?_
  rintro o w2 ⟨a, b, rfl, Q', g2, K'⟩
  have V2 : Vars w2 := VV.out.1.kept (VV.out.2.1.trans K' (fun j hj z => by subst z; have := VV.out.2.2; omega))
  have CA : Hid (Calls Tryd.prog 61 #[.string a] w2 fun x w' => ∃ v i, x = .returned (.tuple #[.int .i64 v, i]) ∧ (KI v ∧ ∀ u, Lib.atoiAll a.data.toList = .ok u → v = u) ∧ Kept (fun _ => False) w2 w') := atoiAny a w2 (by have := Q'.le; omega) V2
  have X : Hid (CutQ s a b ∧ w2.heap[g]? = some (.cells #[.string b] 75 (0, 0)) ∧ Kept (fun j => j = g) w w2) := ⟨Q', g2, K'⟩
  clear Q' g2 K' V2 C VV
  go_wp2_with fail
  refine CA.out.mono ?_
  rintro o w3 ⟨v, i, rfl, hv, K3⟩
  have F : Hid (NumQ s b v ∧ w3.heap[g]? = some (.cells #[.string b] 75 (0, 0)) ∧ Kept (fun j => j = g) w w3) := by
    refine ⟨⟨hv.1, X.out.1.le.2, fun ha => ?_⟩, K3.get X.out.2.1 (fun z => z), X.out.2.2.trans K3 (fun _ _ z => z.elim)⟩
    have q := X.out.1.asc ha
    have q1 := congrArg Prod.fst q
    have q2 := congrArg Prod.snd q
    refine ⟨q2, fun u hu => hv.2 u ?_⟩
    rw [← hu, ← q1]
  clear X CA hv K3
  go_wp2_with fail
  go_ret
  exact ⟨b, v, by first | rfl | simp, F.out⟩
end Go.Proofs.YtonfefhegghapaaDoor
