import Derived.Test.YtojfnehdanhgiaaSend
namespace Go.Proofs.Ytojfnehdanhgiaa
open Go.RowKit

/-- Bytes as a text. -/
def str (l : List Nat) : ByteArray := ⟨(l.map UInt8.ofNat).toArray⟩
theorem Reads.string {w : World} {a : Option Addr} {len cap : Nat} {l : List Nat} (r : Reads w a len cap l) : (convert 30 9 (.slice a len cap)).run Try.prog w = .ok (.string (str l)) w := by
  have hlen := r.length
  subst hlen
  have hm : (l.map UInt8.ofNat).length = l.length := List.length_map ..
  have some_case : ∀ ad : Addr, a = some ad → (∀ j, j < l.length → w.cell? (ad.add j) = some (.int .u8 ((l.getD j 0 : Nat) : Int))) → (convert 30 9 (.slice a l.length cap)).run Try.prog w = .ok (.string (str l)) w := fun ad e hc => by
    subst e
    have := run_convert_bytes_back (P := Try.prog) w 30 9 5 ad cap (l.map UInt8.ofNat) Try.underlying30 Try.underlying5 Try.underlying9 (fun j hj => by
      have hj' : j < l.length := by rw [← hm]; exact hj
      rw [hc j hj']
      have hb := r.bytes l[j] (List.getElem_mem hj')
      have e1 : l.getD j 0 = l[j] := by rw [List.getD_eq_getElem?_getD, List.getElem?_eq_getElem hj']; rfl
      rw [e1, List.getElem_map, UInt8.toNat_ofNat']
      congr 3
      omega)
    rw [hm] at this
    exact this
  by_cases h0 : 0 < l.length
  · obtain ⟨b, off, e, hc⟩ := r.cells h0
    exact some_case _ e (fun j hj => by rw [Addr.add_none]; exact hc j hj)
  · have hl : l = [] := List.eq_nil_of_length_eq_zero (by omega)
    subst hl
    cases a with
    | some ad => exact some_case ad rfl (fun j hj => absurd hj (by simp))
    | none =>
      have e : (convert 30 9 (.slice none 0 cap)).run Try.prog w = .ok (.string (str [])) w := by kernel_rfl
      exact e
set_option maxRecDepth 100000 in
set_option maxHeartbeats 1000000 in
/-- Two datagrams that are alike. -/
theorem samePacket (fk fi tk ti : Int) (lost : Bool) (l : List Nat) (a1 : Option Addr) (n1 c1 : Nat) (a2 : Option Addr) (n2 c2 : Nat) (w : World) (r1 : Reads w a1 n1 c1 l) (r2 : Reads w a2 n2 c2 l) :
    Calls Try.prog 13 #[.agg #[.int .i64 fk, .int .i64 fi, .int .i64 tk, .int .i64 ti, .slice a1 n1 c1, .bool lost], .agg #[.int .i64 fk, .int .i64 fi, .int .i64 tk, .int .i64 ti, .slice a2 n2 c2, .bool lost]] w fun x w' => x = .returned (.bool true) ∧ Kept (fun _ => False) w w' := by
  obtain ⟨W, hW⟩ : ∃ W, W = (w.alloc (.cells #[.int .i64 fk, .int .i64 fi, .int .i64 tk, .int .i64 ti, .slice a1 n1 c1, .bool lost] 39)).alloc (.cells #[.int .i64 fk, .int .i64 fi, .int .i64 tk, .int .i64 ti, .slice a2 n2 c2, .bool lost] 39) := ⟨_, rfl⟩
  have KW : Kept (fun _ => False) w W := by rw [hW]; exact ((Kept.refl _ w).alloc _).alloc _
  have s1 := (r1.kept' KW (fun _ _ q => q)).string
  have s2 := (r2.kept' KW (fun _ _ q => q)).string
  rw [hW] at s1 s2 KW
  have KH : Hid (Kept (fun _ => False) w ((w.alloc (.cells #[.int .i64 fk, .int .i64 fi, .int .i64 tk, .int .i64 ti, .slice a1 n1 c1, .bool lost] 39)).alloc (.cells #[.int .i64 fk, .int .i64 fi, .int .i64 tk, .int .i64 ti, .slice a2 n2 c2, .bool lost] 39))) := KW
  clear hW KW r1 r2 W
  go_enter Try.func13, Try.ntmps13
  go_wp2_with fail
  go_ret
  exact ⟨by simp, KH.out⟩
set_option maxRecDepth 100000 in
set_option maxHeartbeats 1000000 in
/-- Two lists that are alike. -/
theorem same (b1 b2 : Nat) (q1 q2 : Option Addr) (len c1 c2 : Nat) (R1 R2 : List Ent) (w : World) (h1 : IsL b1 w q1 len c1 R1) (h2 : IsL b2 w q2 len c2 R2) (he : R1.map Ent.p = R2.map Ent.p) :
    Calls Try.prog 14 #[.slice q1 len c1, .slice q2 len c2] w fun x w' => x = .returned (.bool true) ∧ Kept (fun _ => False) w w' := by
  have H1 : Hid (IsL b1 w q1 len c1 R1 ∧ IsL b2 w q2 len c2 R2 ∧ R1.map Ent.p = R2.map Ent.p) := ⟨h1, h2, he⟩
  obtain ⟨hr1, hr2⟩ := own_room h1.own
  unfold maxLen at hr2
  obtain ⟨hs1, hs2⟩ := own_room h2.own
  unfold maxLen at hs2
  clear h1 h2 he
  go_enter Try.func14, Try.ntmps14
  go_wp2_with fail
  go_loopw [13] (fun x wr => ∃ (i : Nat), x = .int .i64 (i : Int) ∧ i ≤ len ∧ Hid (Kept (fun _ => False) w wr)) (fun x _ => len - (intOf x).toNat)
  case atStart => exact ⟨0, rfl, Nat.zero_le _, Kept.refl _ _⟩
  case round =>
    obtain ⟨i, rfl, hi, S⟩ := hrel
    by_cases hlt : i < len
    · have L1 := H1.out.1.kept0 S.out
      have L2 := H1.out.2.1.kept0 S.out
      obtain ⟨g1, rfl, hl1, d0, d1, d2, d3, d4, d5⟩ := L1.cells i hlt
      obtain ⟨g2, rfl, hl2, e0, e1, e2, e3, e4, e5⟩ := L2.cells i hlt
      have hp : R1[i].p = R2[i].p := by
        have := congrArg (fun l => l[i]?) H1.out.2.2
        simpa [hl1, hl2] using this
      obtain ⟨r1, hr1'⟩ : ∃ r, R1[i] = r := ⟨_, rfl⟩
      obtain ⟨r2, hr2'⟩ : ∃ r, R2[i] = r := ⟨_, rfl⟩
      have G1 := L1.good r1 (by rw [← hr1']; exact List.getElem_mem _)
      have G2 := L2.good r2 (by rw [← hr2']; exact List.getElem_mem _)
      rw [hr1'] at d0 d1 d2 d3 d4 d5 hp
      rw [hr2'] at e0 e1 e2 e3 e4 e5 hp
      obtain ⟨⟨fk, fi, tk, ti, l, lost⟩, a1, n1, k1⟩ := r1
      obtain ⟨p2, a2, n2, k2⟩ := r2
      simp only [] at hp
      subst hp
      simp only [] at d0 d1 d2 d3 d4 d5 e0 e1 e2 e3 e4 e5
      have GG : Hid (Reads wr a1 n1 k1 l ∧ Reads wr a2 n2 k2 l) := ⟨G1.reads, G2.reads⟩
      have i1 : (i : Int) < (len : Int) := by omega
      clear L1 L2 G1 G2 hr1' hr2'
      go_upto_region 6 with fail
      go_region_held3 (fun w' => w'.cell? ⟨g1, i * 6, none⟩ = some (.int .i64 fk) ∧ w'.cell? ⟨g1, i * 6 + 1, none⟩ = some (.int .i64 fi) ∧ w'.cell? ⟨g1, i * 6 + 2, none⟩ = some (.int .i64 tk) ∧ w'.cell? ⟨g1, i * 6 + 3, none⟩ = some (.int .i64 ti) ∧ w'.cell? ⟨g1, i * 6 + 4, none⟩ = some (.slice a1 n1 k1) ∧ w'.cell? ⟨g1, i * 6 + 5, none⟩ = some (.bool lost) ∧
          w'.cell? ⟨g2, i * 6, none⟩ = some (.int .i64 fk) ∧ w'.cell? ⟨g2, i * 6 + 1, none⟩ = some (.int .i64 fi) ∧ w'.cell? ⟨g2, i * 6 + 2, none⟩ = some (.int .i64 tk) ∧ w'.cell? ⟨g2, i * 6 + 3, none⟩ = some (.int .i64 ti) ∧ w'.cell? ⟨g2, i * 6 + 4, none⟩ = some (.slice a2 n2 k2) ∧ w'.cell? ⟨g2, i * 6 + 5, none⟩ = some (.bool lost)) (first | go_keep)
        (first
          | (go_at_call 13; refine (samePacket fk fi tk ti lost l a1 n1 k1 a2 n2 k2 _ (GG.out.1.kept' ((Kept.refl (fun _ => False) wr).drew) (fun _ _ q => q)) (GG.out.2.kept' ((Kept.refl (fun _ => False) wr).drew) (fun _ _ q => q))).mono ?_; rintro x w2 ⟨rfl, K2⟩
             have x0 := K2.cell d0 (fun q => q)
             have x1 := K2.cell d1 (fun q => q)
             have x2 := K2.cell d2 (fun q => q)
             have x3 := K2.cell d3 (fun q => q)
             have x4 := K2.cell d4 (fun q => q)
             have x5 := K2.cell d5 (fun q => q)
             have y0 := K2.cell e0 (fun q => q)
             have y1 := K2.cell e1 (fun q => q)
             have y2 := K2.cell e2 (fun q => q)
             have y3 := K2.cell e3 (fun q => q)
             have y4 := K2.cell e4 (fun q => q)
             have y5 := K2.cell e5 (fun q => q)
             have KK : Hid (Kept (fun _ => False) w w2) := S.out.drew.trans K2 (fun _ _ q => q)
             clear K2)
          | fail)
      go_wp2_with fail
      go_roundw
      case rel => exact ⟨i + 1, by go_num, by omega, KK.out⟩
      case measure => simp [intOf]; omega
    · have he : len = i := by omega
      subst he
      have i1 : ¬ (len : Int) < (len : Int) := by omega
      go_wp2_with fail
      go_ret
      exact ⟨rfl, S.out⟩
end Go.Proofs.Ytojfnehdanhgiaa
