import Derived.Test.YtbangbobfeflcaaGreatDoorHSc
namespace Go.Proofs.YtbangbobfeflcaaGreatDoor
open Go.RowKit 

theorem kcs_get : ∀ (L : List Ca) (i : Nat) (h : i < L.length) (k : Nat), k < 11 → (kcs L)[i * 11 + k]? = L[i].cs[k]?
  | [], i, h, _, _ => absurd h (by simp)
  | a :: L, 0, _, k, hk => by
    have e : kcs (a :: L) = a.cs.toList ++ kcs L := by unfold kcs; simp
    have el : a.cs.toList.length = 11 := rfl
    rw [e, Nat.zero_mul, Nat.zero_add, List.getElem?_append_left (by rw [el]; exact hk), Array.getElem?_toList]
    rfl
  | a :: L, i + 1, h, k, hk => by
    have e : kcs (a :: L) = a.cs.toList ++ kcs L := by unfold kcs; simp
    have el : a.cs.toList.length = 11 := rfl
    rw [e, List.getElem?_append_right (by rw [el]; omega), el, show (i + 1) * 11 + k - 11 = i * 11 + k by omega]
    exact kcs_get L i (by simpa using h) k hk
theorem KaR.crd {b0 : Nat} {w : World} {p : Option Addr} {k c : Nat} {L : List Ca} (h : KaR b0 w p k c L) (hb : ∀ x ∈ L, ∀ y ∈ x.val, y < 256) : CaRd w p k c L := by
  obtain ⟨r1, r2⟩ := own_room h.row
  refine ⟨h.len, r1, r2, fun h0 => ?_, fun x hx => reads_own (h.val x hx) (hb x hx)⟩
  rcases h.row.2 with ⟨_, hn⟩ | ⟨g, cap, cur, z, _⟩
  · omega
  · have z : Value.slice p k c = .slice (some ⟨g, 0, none⟩) k cap := z
    injection z with z1 _ z3
    subst z1
    subst z3
    have hc := h.row.cells (g := g) rfl
    refine ⟨g, 0, rfl, fun i hi j v hv => ?_⟩
    have hj : j < 11 := by
      obtain ⟨h1, _⟩ := Array.getElem?_eq_some_iff.1 hv
      have : L[i].cs.size = 11 := rfl
      omega
    have := hc (i * 11 + j) v (by rw [kcs_get L i hi j hj]; exact hv)
    rw [Addr.add_none, Nat.zero_add] at this
    rw [Nat.zero_add]
    exact this
theorem callP_val {es : List Ev} : ∀ {pl : List Nat} {c : Cc}, callP es pl = some c → ∃ e ∈ es, c.val = e.val
  | [], c, h => by cases h
  | [p], c, h => by
    have h : (es[p]?).map (fun b => beginC b p) = some c := h
    obtain ⟨e, he, rfl⟩ := Option.map_eq_some_iff.1 h
    exact ⟨e, List.mem_of_getElem? he, rfl⟩
  | p :: q :: r, c, h => by
    have h : (match es[p]?, es[q]? with | some b, some x => some (endC (beginC b p) x q) | _, _ => none) = some c := h
    cases hp : es[p]? with
    | none => rw [hp] at h; cases h
    | some b =>
      cases hq : es[q]? with
      | none => rw [hp, hq] at h; cases h
      | some x =>
        rw [hp, hq] at h
        have h := Option.some.inj h
        rw [← h]
        unfold endC
        split
        · exact ⟨b, List.mem_of_getElem? hp, rfl⟩
        · split
          · exact ⟨x, List.mem_of_getElem? hq, rfl⟩
          · split
            · exact ⟨b, List.mem_of_getElem? hp, rfl⟩
            · exact ⟨b, List.mem_of_getElem? hp, rfl⟩
theorem told_bytes {w : World} {p0 : Option Addr} {n c0 : Nat} {es : List Ev} (er : ERd w p0 n c0 es) {L : List Ca} (h : L.map (fun x => some x.cc) = callsE es) : ∀ x ∈ L, ∀ y ∈ x.val, y < 256 := by
  intro x hx y hy
  have hm : some x.cc ∈ callsE es := by rw [← h]; exact List.mem_map.2 ⟨x, hx, rfl⟩
  unfold callsE at hm
  obtain ⟨i, _, hi⟩ := List.mem_map.1 hm
  obtain ⟨e, he, ev⟩ := callP_val hi
  have ev : x.val = e.val := ev
  rw [ev] at hy
  exact (er.rd e he).bytes y hy
def endB (st : Int) : ByteArray := if st = 0 then ⟨#[111, 107]⟩ else if st = 42 then ⟨#[102, 117, 108, 108]⟩ else if st = 76 then ⟨#[97, 98, 115, 101, 110, 116]⟩ else ⟨#[119, 114, 111, 110, 103]⟩
theorem hEndWord (st : Int) (w : World) : Calls Tryz.prog 63 #[.int .i64 st] w fun o w' => o = .returned (.string (endB st)) ∧ w' = w := by
  obtain ⟨v, hv⟩ : ∃ v, v = endB st := ⟨_, rfl⟩
  have HV : Hid (v = endB st) := hv
  rw [← hv]
  clear hv
  unfold endB at HV
  go_enter Tryz.func63, Tryz.ntmps63
  by_cases h0 : st = 0
  · subst h0
    have A : v = ⟨#[111, 107]⟩ := by rw [HV.out]; rfl
    subst A
    clear HV
    go_wp2_with fail
    go_ret
    exact ⟨by first | rfl | simp, rfl⟩
  · have q0 : (st == 0) = false := by simp [h0]
    by_cases h1 : st = 42
    · subst h1
      have A : v = ⟨#[102, 117, 108, 108]⟩ := by rw [HV.out]; rfl
      subst A
      clear HV
      go_wp2_with fail
      go_ret
      exact ⟨by first | rfl | simp, rfl⟩
    · have q1 : (st == 42) = false := by simp [h1]
      by_cases h2 : st = 76
      · subst h2
        have A : v = ⟨#[97, 98, 115, 101, 110, 116]⟩ := by rw [HV.out]; rfl
        subst A
        clear HV
        go_wp2_with fail
        go_ret
        exact ⟨by first | rfl | simp, rfl⟩
      · have q2 : (st == 76) = false := by simp [h2]
        have A : v = ⟨#[119, 114, 111, 110, 103]⟩ := by rw [HV.out, if_neg h0, if_neg h1, if_neg h2]
        subst A
        clear HV
        go_wp2_with fail
        go_ret
        exact ⟨by first | rfl | simp, rfl⟩
end Go.Proofs.YtbangbobfeflcaaGreatDoor
