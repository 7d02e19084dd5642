import Derived.Test.YtbangbobfeflcaaGreatDoorRKrJ
namespace Go.Proofs.YtbangbobfeflcaaGreatDoor
open Go.RowKit 

theorem strs_join (a b : List ByteArray) : strs [] ++ strs a ++ strs b = strs (a ++ b) := by unfold strs; rw [List.map_append]; rfl
theorem mid_keys {w w9 w10 : World} {p9 p10 : Option Addr} {m c9 c10 j : Nat} {a r : List ByteArray} (h9 : w9.ownsRow w.heap.size 9 1 (.slice p9 m c9) m (strs r)) (K : Kept (fun _ => False) w w9) (ho : w10.ownsRow w.heap.size 9 1 (.slice p10 (0 + j) c10) (0 + j) (strs [] ++ strs a)) (hg : (w9.alloc (.cells #[] 9)).grownBy w10 (Value.slice (some ⟨w9.heap.size, 0, none⟩) 0 0).ownBlock) : w10.ownsRow w.heap.size 9 1 (.slice p10 j c10) j (strs [] ++ strs a) ∧ Src Tryz.prog 1 44 (.slice p9 m c9) m (strs r) w10 ∧ Kept (fun _ => False) w w10 := by
  rw [Nat.zero_add] at ho
  have KG := kgr hg
  have KN : Kept (fun _ => False) w9 w10 := Kept.own ((Kept.refl _ _).alloc _) KG (fun q z => by
    have z : some w9.heap.size = some q := z
    have z := Option.some.inj z
    omega)
  exact ⟨ho, src_row9 (KN.owns h9 (fun _ _ z => z)), K.trans KN (fun _ _ z => z)⟩
def KeQ (w : World) (es : List Ev) (o : Ending) (w' : World) : Prop := ∃ (p : Option Addr) (k c : Nat), o = .returned (.slice p k c) ∧ SK w w' (keysR es) p k c
set_option maxRecDepth 100000 in
set_option maxHeartbeats 4000000 in
theorem hRefKeys {w : World} {p0 : Option Addr} {n c0 : Nat} {es : List Ev} (er : ERd w p0 n c0 es) (hb : n ≤ 1500000000000) : Calls Tryz.prog 26 #[.slice p0 n c0] w (KeQ w es) := by
  have H : Hid (ERd w p0 n c0 es) := er
  have S0 : Hid (SK w w (keysR (es.take 0)) none 0 0) := ⟨⟨rfl, .inl ⟨rfl, rfl⟩⟩, Kept.refl _ _⟩
  clear er
  go_enter Tryz.func26, Tryz.ntmps26
  go_upto_region 3 with fail
  go_loopw [3, 4, 5, 6] (fun u3 u4 _ _ wr => ∃ (i : Nat) (p : Option Addr) (k c : Nat), u3 = .slice p k c ∧ u4 = .int .i64 (i : Int) ∧ i ≤ n ∧ k ≤ i ∧ Hid (SK w wr (keysR (es.take i)) p k c)) (fun _ u4 _ _ _ => n - (intOf u4).toNat)
  case atStart => exact ⟨0, none, 0, 0, rfl, rfl, Nat.zero_le _, Nat.le_refl _, S0⟩
  case round =>
    clear S0
    obtain ⟨i, p, k, c, rfl, rfl, hi, hki, S⟩ := hrel
    obtain ⟨wo, hwo⟩ : ∃ wo, wo = wr := ⟨_, rfl⟩
    rw [← hwo] at S ⊢
    clear hwo
    by_cases hlt : i < n
    · have lti : (i : Int) < (n : Int) := by omega
      have i0 : (0 : Int) ≤ (i : Int) := by omega
      obtain ⟨b, off, e, rfl, he, -, -, -, -, c4', -⟩ := (H.out.k0 S.out.kept).at hlt
      have kt := keysR_take he
      obtain ⟨key, hkey⟩ : ∃ key, e.key = key := ⟨_, rfl⟩
      obtain ⟨ks, hks⟩ : ∃ ks, keysR (es.take i) = ks := ⟨_, rfl⟩
      rw [hks, hkey] at kt
      rw [hks] at S
      rw [hkey] at c4'
      have HK : Hid (keysR (es.take (i + 1)) = insK key ks) := kt
      have I0 : Hid (SK w wo ks p k c ∧ Kept (fun _ => False) wo wo ∧ ∀ (m : Nat) (x : ByteArray), m < 0 → ks[m]? = some x → ltB x key = true) := ⟨S.out, Kept.refl _ _, fun m x h => absurd h (Nat.not_lt_zero _)⟩
      clear he kt hkey hks S
      go_upto_region 6 with fail
      go_loopw [5] (fun u5 wr => ∃ j : Nat, u5 = .int .i64 (j : Int) ∧ j ≤ k ∧ Hid (SK w wr ks p k c ∧ Kept (fun _ => False) wo wr ∧ ∀ (m : Nat) (x : ByteArray), m < j → ks[m]? = some x → ltB x key = true)) (fun u5 _ => k - (intOf u5).toNat)
      case atStart => exact ⟨0, rfl, Nat.zero_le _, I0⟩
      case round =>
        clear I0
        obtain ⟨j, rfl, hjk, S⟩ := hrel
        obtain ⟨wq, hwq⟩ : ∃ wq, wq = wr := ⟨_, rfl⟩
        rw [← hwq] at S ⊢
        clear hwq
        have c4 := S.out.2.1.cell c4' (fun z => z)
        by_cases hj : j < k
        · have ltj : (j : Int) < (k : Int) := by omega
          have j0 : (0 : Int) ≤ (j : Int) := by omega
          obtain ⟨g, x, rfl, hx, cx⟩ := S.out.1.at hj
          by_cases hl : ltB x key = true
          · have lt : Op.bytesLess x.toList key.toList = true := hl
            have N : Hid (∀ m, SK w (wq.drewN m) ks (some ⟨g, 0, none⟩) k c ∧ Kept (fun _ => False) wo (wq.drewN m) ∧ ∀ (m : Nat) (x : ByteArray), m < j + 1 → ks[m]? = some x → ltB x key = true) := fun m => ⟨S.out.1.drewN m, S.out.2.1.drewN m, fun m y hm hy => by
              by_cases q : m = j
              · subst q
                rw [hx] at hy
                rw [← Option.some.inj hy]
                exact hl
              · exact S.out.2.2 m y (by omega) hy⟩
            clear S hx hl
            go_upto_region 6 with fail
            go_quiet (fail)
            go_wp2_with fail
            go_roundw
            case rel => exact ⟨j + 1, by go_num, by omega, N.out _⟩
            case measure => simp [intOf] <;> omega
          · have hl2 : ltB x key = false := by simpa using hl
            have lt : Op.bytesLess x.toList key.toList = false := hl2
            have ia := insK_at key ks j S.out.2.2 (by rw [S.out.1.len]; exact hjk) (fun y hy => by rw [hx] at hy; rw [← Option.some.inj hy]; exact hl2)
            clear hl
            by_cases hq : x = key
            · subst hq
              rw [if_pos hx] at ia
              have N : Hid (∀ V, Kept (fun _ => False) wq V → SK w V (keysR (es.take (i + 1))) (some ⟨g, 0, none⟩) k c) := fun V K => by
                rw [HK.out, ia]
                exact S.out.1.k0 K
              clear S hx ia
              go_upto_region 6 with fail
              go_quiet (fail)
              go_upto_region 8 with fail
              go_quiet (fail)
              go_wp2_with fail
              go_roundw
              case rel => exact ⟨i + 1, some ⟨g, 0, none⟩, k, c, rfl, by go_num, by omega, by omega, N.out _ ((Kept.refl _ _).drewN _)⟩
              case measure => simp [intOf] <;> omega
            · have kn := ba_ne hq
              have b5 : (x.toList == key.toList) = false := by simpa using kn
              rw [if_neg (by rw [hx]; intro z; exact hq (Option.some.inj z))] at ia
              have KI : Hid (insK key ks = ks.take j ++ key :: ks.drop j) := ia
              clear ia hx hl2
              go_upto_region 6 with fail
              go_quiet (fail)
              go_upto_region 8 with fail
              go_quiet (fail)
              obtain ⟨p, hp⟩ : ∃ p : Option Addr, some ⟨g, 0, none⟩ = p := ⟨_, rfl⟩
              rw [hp] at S ⊢
              clear hp cx lt kn b5
              obtain ⟨p5, c5, sf, sfs⟩ := sk_from S.out.1.row j hjk
              have st := (sk_to S.out.1.row j hjk).1
              have ST : Hid (∀ V, Kept (fun _ => False) wq V → Src Tryz.prog 1 44 (.slice p j c) j (strs (ks.take j)) V) := fun V K => (sk_to S.out.1.row j hjk).2 V (K.owns S.out.1.row (fun _ _ z => z))
              have SF : Hid (∀ V, Kept (fun _ => False) wq V → Src Tryz.prog 1 44 (.slice p5 (k - j) c5) (k - j) (strs (ks.drop j)) V) := fun V K => sfs V (K.owns S.out.1.row (fun _ _ z => z))
              have R1 : Hid (∀ V : World, V.heap = wq.heap → (V.alloc (.cells #[.string key] 9)).ownsRow w.heap.size 9 1 (.slice (some ⟨wq.heap.size, 0, none⟩) 1 1) 1 (strs [key])) := fun V e => ⟨rfl, .inr ⟨wq.heap.size, 1, #[.string key], rfl, S.out.1.kept.size, by rw [← e]; exact alloc_new _ _, Nat.le_refl _, by unfold maxLen; omega, rfl, rfl⟩⟩
              have BS : Hid (b < wq.heap.size ∧ w.heap.size ≤ wq.heap.size) := ⟨World.block_lt_of_cell? wq _ c4, S.out.1.kept.size⟩
              have CA : Hid (∀ V : World, Kept (fun _ => False) wq V → V.cell? ⟨b, off + i * 9 + 4, none⟩ = some (.string key)) := fun V K => K.cell c4 (fun z => z)
              have TS : Hid (SK w wq ks p k c) := S.out.1
              have KW : Hid (Kept (fun _ => False) w wq) := S.out.1.kept
              clear S sfs
              go_upto_region 9 with fail
              refine wp_region_held_drew (S := (fun w' => w'.cell? ⟨b, off + i * 9 + 4, none⟩ = some (.string key))) (by kernel_rfl) c4 (fun hHeld => ?_)
              refine wpAnyH_take (i := 0) (oi := { dst := some 47, op := Go.Op.move (Go.Operand.tmp 0), type := 22, pos := "ref.go:175", after := #[], guard := none }) (v := .slice (some ⟨b, off, none⟩) n c0) rfl (by kernel_rfl) (by kernel_rfl) (by kernel_rfl) (fun _ _ _ h => h) (Or.inl ⟨by rfl, ?_⟩) (by assumption) ?_
              · intro w9 hSw
                (try dsimp only at hSw)
                go_simp
              (try simp only [Act.put, List.setIfInBounds_toArray, List.set_cons_zero, List.set_cons_succ])
              refine wpAnyH_take (i := 1) (oi := { dst := some 48, op := Go.Op.move (Go.Operand.tmp 4), type := 3, pos := "ref.go:175", after := #[], guard := none }) (v := .int .i64 (i : Int)) rfl (by kernel_rfl) (by kernel_rfl) (by kernel_rfl) (fun _ _ _ h => h) (Or.inl ⟨by rfl, ?_⟩) (by assumption) ?_
              · intro w9 hSw
                (try dsimp only at hSw)
                go_simp
              (try simp only [Act.put, List.setIfInBounds_toArray, List.set_cons_zero, List.set_cons_succ])
              refine wpAnyH_take (i := 2) (oi := { dst := some 49, op := Go.Op.indexAddr 22 (Go.Operand.tmp 47) (Go.Operand.tmp 48), type := 0, pos := "ref.go:175", after := #[{ on := 0, ground := Go.Ground.data }, { on := 1, ground := Go.Ground.data }], guard := none }) (v := .pointer (some ⟨b, off + i * 9, none⟩)) rfl (by kernel_rfl) (by kernel_rfl) (by kernel_rfl) (fun _ _ _ h => h) (Or.inl ⟨by rfl, ?_⟩) (by assumption) ?_
              · intro w9 hSw
                (try dsimp only at hSw)
                go_simp
              (try simp only [Act.put, List.setIfInBounds_toArray, List.set_cons_zero, List.set_cons_succ])
              refine wpAnyH_take (i := 3) (oi := { dst := some 50, op := Go.Op.fieldAddr 39 (Go.Operand.tmp 49) 4, type := 0, pos := "ref.go:175", after := #[{ on := 2, ground := Go.Ground.data }], guard := none }) (v := .pointer (some ⟨b, off + i * 9 + 4, none⟩)) rfl (by kernel_rfl) (by kernel_rfl) (by kernel_rfl) (fun _ _ _ h => h) (Or.inl ⟨by rfl, ?_⟩) (by assumption) ?_
              · intro w9 hSw
                (try dsimp only at hSw)
                go_simp
              (try simp only [Act.put, List.setIfInBounds_toArray, List.set_cons_zero, List.set_cons_succ])
              refine wpAnyH_take (i := 4) (oi := { dst := some 51, op := Go.Op.load 9 (Go.Operand.tmp 50), type := 9, pos := "ref.go:175", after := #[{ on := 3, ground := Go.Ground.data }], guard := none }) (v := .string key) rfl (by kernel_rfl) (by kernel_rfl) (by kernel_rfl) (fun _ _ _ h => h) (Or.inl ⟨by rfl, ?_⟩) (by assumption) ?_
              · intro w9 hSw
                (try dsimp only at hSw)
                go_simp
              (try simp only [Act.put, List.setIfInBounds_toArray, List.set_cons_zero, List.set_cons_succ])
              refine wpAnyH_take (i := 6) (oi := { dst := some 53, op := Go.Op.move (Go.Operand.tmp 3), type := 44, pos := "ref.go:175", after := #[], guard := none }) (v := .slice p k c) rfl (by kernel_rfl) (by kernel_rfl) (by kernel_rfl) (fun _ _ _ h => h) (Or.inl ⟨by rfl, ?_⟩) (by assumption) ?_
              · intro w9 hSw
                (try dsimp only at hSw)
                go_simp
              (try simp only [Act.put, List.setIfInBounds_toArray, List.set_cons_zero, List.set_cons_succ])
              refine wpAnyH_take (i := 7) (oi := { dst := some 54, op := Go.Op.move (Go.Operand.tmp 5), type := 3, pos := "ref.go:175", after := #[], guard := none }) (v := .int .i64 (j : Int)) rfl (by kernel_rfl) (by kernel_rfl) (by kernel_rfl) (fun _ _ _ h => h) (Or.inl ⟨by rfl, ?_⟩) (by assumption) ?_
              · intro w9 hSw
                (try dsimp only at hSw)
                go_simp
              (try simp only [Act.put, List.setIfInBounds_toArray, List.set_cons_zero, List.set_cons_succ])
              refine wpAnyH_take (i := 8) (oi := { dst := some 55, op := Go.Op.slice 44 (Go.Operand.tmp 53) (some (Go.Operand.tmp 54)) none none, type := 44, pos := "ref.go:175", after := #[{ on := 6, ground := Go.Ground.data }, { on := 7, ground := Go.Ground.data }], guard := none }) (v := .slice p5 (k - j) c5) rfl (by kernel_rfl) (by kernel_rfl) (by kernel_rfl) (fun _ _ _ h => h) (Or.inl ⟨by rfl, ?_⟩) (by assumption) ?_
              · intro w9 hSw
                (try dsimp only at hSw)
                go_simp
              (try simp only [Act.put, List.setIfInBounds_toArray, List.set_cons_zero, List.set_cons_succ])
              refine wpAnyH_ready (rs := [5]) (by kernel_rfl) (by simp) ?_
              refine (AllReadyH.cons (o := { dst := some 52, op := Go.Op.buildSlice 44 1 #[(0, Go.Operand.tmp 51)], type := 44, pos := "ref.go:175", after := #[{ on := 4, ground := Go.Ground.data }], guard := none }) rfl (fun K hK => ?_) AllReadyH.nil)
              go_simp
              refine hK.out _ _ ?_ (fun hHeld => ?_)
              · exact CA.out _ (((Kept.refl (fun _ => False) wq).drewN _).alloc _)
              clear hK K
              (try simp only [Act.put, List.setIfInBounds_toArray, List.set_cons_zero, List.set_cons_succ])
              refine wpAnyH_ready (rs := [9]) (by kernel_rfl) (by simp) ?_
              refine (AllReadyH.cons (o := { dst := some 56, op := Go.Op.call { callee := Go.Callee.builtin Go.Builtin.append, args := #[Go.Operand.tmp 52, Go.Operand.tmp 55], argTypes := #[44, 44] }, type := 44, pos := "ref.go:175", after := #[{ on := 5, ground := Go.Ground.data }, { on := 8, ground := Go.Ground.data }], guard := none }) rfl (fun K hK => ?_) AllReadyH.nil)
              refine step_append_all _ rfl (.tmp 52) (.tmp 55) 44 9 44 _ 1 16 rfl Tryz.underlying44 Tryz.info9c rfl w.heap.size (.slice (some ⟨wq.heap.size, 0, none⟩) 1 1) 1 (strs [key]) rfl (R1.out _ rfl) _ (k - j) (strs (ks.drop j)) rfl (SF.out _ (((Kept.refl (fun _ => False) wq).drewN _).alloc _)) (by unfold maxLen; omega) (by omega) (Nat.le_trans BS.out.2 (((Kept.refl (fun _ => False) wq).drewN _).alloc _).size) ?_
              intro p9 c9 w9 ho hg hn9
              have K9 : Hid (Kept (fun _ => False) wq w9) := Kept.own (((Kept.refl (fun _ => False) wq).drewN _).alloc _) (kgr hg.out) (fun j z => by have z : some wq.heap.size = some j := z; have z := Option.some.inj z; omega)
              have O9 : Hid (w9.ownsRow w.heap.size 9 1 (.slice p9 (1 + (k - j)) c9) (1 + (k - j)) (strs (key :: ks.drop j))) := ho.out
              refine hK.out _ _ ?_ (fun hHeld => ?_)
              · exact CA.out _ K9.out
              clear hK K
              (try simp only [Act.put, List.setIfInBounds_toArray, List.set_cons_zero, List.set_cons_succ])
              clear ho hg hn9 CA c4 SF sf R1 BS
              refine wpAnyH_take (i := 10) (oi := { dst := some 6, op := Go.Op.assign (Go.Operand.tmp 56), type := 44, pos := "ref.go:175", after := #[{ on := 9, ground := Go.Ground.data }, { on := 9, ground := Go.Ground.chain }, { on := 0, ground := Go.Ground.phase }, { on := 1, ground := Go.Ground.phase }, { on := 2, ground := Go.Ground.phase }, { on := 3, ground := Go.Ground.phase }, { on := 4, ground := Go.Ground.phase }, { on := 5, ground := Go.Ground.phase }, { on := 6, ground := Go.Ground.phase }, { on := 7, ground := Go.Ground.phase }, { on := 8, ground := Go.Ground.phase }, { on := 9, ground := Go.Ground.phase }], guard := none }) (v := .slice p9 (1 + (k - j)) c9) rfl (by kernel_rfl) (by kernel_rfl) (by kernel_rfl) (fun _ _ _ h => h) (Or.inl ⟨by rfl, ?_⟩) (by assumption) ?_
              · intro w9 hSw
                (try dsimp only at hSw)
                go_simp
              (try simp only [Act.put, List.setIfInBounds_toArray, List.set_cons_zero, List.set_cons_succ])
              refine wpAnyH_done (by kernel_rfl) ?_ _
              clear hHeld
              have Z1 : Hid ((w9.alloc (.cells #[] 9)).ownsRow w.heap.size 9 1 (.slice (some ⟨w9.heap.size, 0, none⟩) 0 0) 0 (strs []) ∧ Src Tryz.prog 1 44 (.slice p j c) j (strs (ks.take j)) (w9.alloc (.cells #[] 9)) ∧ w.heap.size ≤ (w9.alloc (.cells #[] 9)).heap.size) := ⟨⟨rfl, .inr ⟨w9.heap.size, 0, #[], rfl, Nat.le_trans KW.out.size K9.out.size, alloc_new _ _, Nat.le_refl _, by unfold maxLen; omega, rfl, rfl⟩⟩, ST.out _ (K9.out.alloc _), Nat.le_trans (Nat.le_trans KW.out.size K9.out.size) ((Kept.refl (fun _ => False) w9).alloc _).size⟩
              go_upto_region 4 with
                (first
                  | (at_builtin; refine wpList_append_all _ rfl (.tmp 61) (.tmp 62) 44 9 44 _ 1 16 rfl Tryz.underlying44 Tryz.info9c rfl w.heap.size (.slice p10 j c10) j (strs [] ++ strs (ks.take j)) rfl Y10.out.1 _ (1 + (k - j)) (strs (key :: ks.drop j)) rfl Y10.out.2.1 (by unfold maxLen; omega) (by omega) Y10.out.2.2.size ?_; intro p11 c11 w11 ho hg hn9)
                  | (at_builtin; refine wpList_append_all _ rfl (.tmp 57) (.tmp 60) 44 9 44 _ 1 16 rfl Tryz.underlying44 Tryz.info9c rfl w.heap.size (.slice (some ⟨w9.heap.size, 0, none⟩) 0 0) 0 (strs []) rfl Z1.out.1 _ j (strs (ks.take j)) rfl Z1.out.2.1 (by unfold maxLen; omega) (by omega) Z1.out.2.2 ?_; intro p10 c10 w10 ho hg hn9; have Y10 : Hid (w10.ownsRow w.heap.size 9 1 (.slice p10 j c10) j (strs [] ++ strs (ks.take j)) ∧ Src Tryz.prog 1 44 (.slice p9 (1 + (k - j)) c9) (1 + (k - j)) (strs (key :: ks.drop j)) w10 ∧ Kept (fun _ => False) w w10) := mid_keys O9.out (KW.out.trans K9.out (fun _ _ z => z)) ho.out hg.out; clear ho hg hn9 Z1; rw [Nat.zero_add])
                  | fail)
              have NF : Hid (SK w w11 (keysR (es.take (i + 1))) p11 (j + (1 + (k - j))) c11) := by
                rw [HK.out, KI.out]
                refine ⟨?_, Kept.own Y10.out.2.2 (kgr hg.out) (fun q z => (own_lt Y10.out.1 q z).1)⟩
                have o := ho.out
                rw [strs_join] at o
                exact o
              clear ho hg hn9 Y10 O9 ST TS st
              go_wp2_with fail
              go_roundw
              case rel => exact ⟨i + 1, p11, j + (1 + (k - j)), c11, rfl, by go_num, by omega, by omega, NF⟩
              case measure => simp [intOf] <;> omega
        · have ltj : ¬ (j : Int) < (k : Int) := by omega
          have ia := insK_at key ks j S.out.2.2 (by rw [S.out.1.len]; exact hjk) (fun y hy => by rw [List.getElem?_eq_none (by rw [S.out.1.len]; omega)] at hy; cases hy)
          rw [if_neg (by rw [List.getElem?_eq_none (by rw [S.out.1.len]; omega)]; intro z; cases z)] at ia
          have KI : Hid (insK key ks = ks.take j ++ key :: ks.drop j) := ia
          clear ia
          go_upto_region 6 with fail
          go_quiet (fail)
          go_upto_region 8 with fail
          go_quiet (fail)
          obtain ⟨p5, c5, sf, sfs⟩ := sk_from S.out.1.row j hjk
          have st := (sk_to S.out.1.row j hjk).1
          have ST : Hid (∀ V, Kept (fun _ => False) wq V → Src Tryz.prog 1 44 (.slice p j c) j (strs (ks.take j)) V) := fun V K => (sk_to S.out.1.row j hjk).2 V (K.owns S.out.1.row (fun _ _ z => z))
          have SF : Hid (∀ V, Kept (fun _ => False) wq V → Src Tryz.prog 1 44 (.slice p5 (k - j) c5) (k - j) (strs (ks.drop j)) V) := fun V K => sfs V (K.owns S.out.1.row (fun _ _ z => z))
          have R1 : Hid (∀ V : World, V.heap = wq.heap → (V.alloc (.cells #[.string key] 9)).ownsRow w.heap.size 9 1 (.slice (some ⟨wq.heap.size, 0, none⟩) 1 1) 1 (strs [key])) := fun V e => ⟨rfl, .inr ⟨wq.heap.size, 1, #[.string key], rfl, S.out.1.kept.size, by rw [← e]; exact alloc_new _ _, Nat.le_refl _, by unfold maxLen; omega, rfl, rfl⟩⟩
          have BS : Hid (b < wq.heap.size ∧ w.heap.size ≤ wq.heap.size) := ⟨World.block_lt_of_cell? wq _ c4, S.out.1.kept.size⟩
          have CA : Hid (∀ V : World, Kept (fun _ => False) wq V → V.cell? ⟨b, off + i * 9 + 4, none⟩ = some (.string key)) := fun V K => K.cell c4 (fun z => z)
          have TS : Hid (SK w wq ks p k c) := S.out.1
          have KW : Hid (Kept (fun _ => False) w wq) := S.out.1.kept
          clear S sfs
          go_upto_region 9 with fail
          refine wp_region_held_drew (S := (fun w' => w'.cell? ⟨b, off + i * 9 + 4, none⟩ = some (.string key))) (by kernel_rfl) c4 (fun hHeld => ?_)
          refine wpAnyH_take (i := 0) (oi := { dst := some 47, op := Go.Op.move (Go.Operand.tmp 0), type := 22, pos := "ref.go:175", after := #[], guard := none }) (v := .slice (some ⟨b, off, none⟩) n c0) rfl (by kernel_rfl) (by kernel_rfl) (by kernel_rfl) (fun _ _ _ h => h) (Or.inl ⟨by rfl, ?_⟩) (by assumption) ?_
          · intro w9 hSw
            (try dsimp only at hSw)
            go_simp
          (try simp only [Act.put, List.setIfInBounds_toArray, List.set_cons_zero, List.set_cons_succ])
          refine wpAnyH_take (i := 1) (oi := { dst := some 48, op := Go.Op.move (Go.Operand.tmp 4), type := 3, pos := "ref.go:175", after := #[], guard := none }) (v := .int .i64 (i : Int)) rfl (by kernel_rfl) (by kernel_rfl) (by kernel_rfl) (fun _ _ _ h => h) (Or.inl ⟨by rfl, ?_⟩) (by assumption) ?_
          · intro w9 hSw
            (try dsimp only at hSw)
            go_simp
          (try simp only [Act.put, List.setIfInBounds_toArray, List.set_cons_zero, List.set_cons_succ])
          refine wpAnyH_take (i := 2) (oi := { dst := some 49, op := Go.Op.indexAddr 22 (Go.Operand.tmp 47) (Go.Operand.tmp 48), type := 0, pos := "ref.go:175", after := #[{ on := 0, ground := Go.Ground.data }, { on := 1, ground := Go.Ground.data }], guard := none }) (v := .pointer (some ⟨b, off + i * 9, none⟩)) rfl (by kernel_rfl) (by kernel_rfl) (by kernel_rfl) (fun _ _ _ h => h) (Or.inl ⟨by rfl, ?_⟩) (by assumption) ?_
          · intro w9 hSw
            (try dsimp only at hSw)
            go_simp
          (try simp only [Act.put, List.setIfInBounds_toArray, List.set_cons_zero, List.set_cons_succ])
          refine wpAnyH_take (i := 3) (oi := { dst := some 50, op := Go.Op.fieldAddr 39 (Go.Operand.tmp 49) 4, type := 0, pos := "ref.go:175", after := #[{ on := 2, ground := Go.Ground.data }], guard := none }) (v := .pointer (some ⟨b, off + i * 9 + 4, none⟩)) rfl (by kernel_rfl) (by kernel_rfl) (by kernel_rfl) (fun _ _ _ h => h) (Or.inl ⟨by rfl, ?_⟩) (by assumption) ?_
          · intro w9 hSw
            (try dsimp only at hSw)
            go_simp
          (try simp only [Act.put, List.setIfInBounds_toArray, List.set_cons_zero, List.set_cons_succ])
          refine wpAnyH_take (i := 4) (oi := { dst := some 51, op := Go.Op.load 9 (Go.Operand.tmp 50), type := 9, pos := "ref.go:175", after := #[{ on := 3, ground := Go.Ground.data }], guard := none }) (v := .string key) rfl (by kernel_rfl) (by kernel_rfl) (by kernel_rfl) (fun _ _ _ h => h) (Or.inl ⟨by rfl, ?_⟩) (by assumption) ?_
          · intro w9 hSw
            (try dsimp only at hSw)
            go_simp
          (try simp only [Act.put, List.setIfInBounds_toArray, List.set_cons_zero, List.set_cons_succ])
          refine wpAnyH_take (i := 6) (oi := { dst := some 53, op := Go.Op.move (Go.Operand.tmp 3), type := 44, pos := "ref.go:175", after := #[], guard := none }) (v := .slice p k c) rfl (by kernel_rfl) (by kernel_rfl) (by kernel_rfl) (fun _ _ _ h => h) (Or.inl ⟨by rfl, ?_⟩) (by assumption) ?_
          · intro w9 hSw
            (try dsimp only at hSw)
            go_simp
          (try simp only [Act.put, List.setIfInBounds_toArray, List.set_cons_zero, List.set_cons_succ])
          refine wpAnyH_take (i := 7) (oi := { dst := some 54, op := Go.Op.move (Go.Operand.tmp 5), type := 3, pos := "ref.go:175", after := #[], guard := none }) (v := .int .i64 (j : Int)) rfl (by kernel_rfl) (by kernel_rfl) (by kernel_rfl) (fun _ _ _ h => h) (Or.inl ⟨by rfl, ?_⟩) (by assumption) ?_
          · intro w9 hSw
            (try dsimp only at hSw)
            go_simp
          (try simp only [Act.put, List.setIfInBounds_toArray, List.set_cons_zero, List.set_cons_succ])
          refine wpAnyH_take (i := 8) (oi := { dst := some 55, op := Go.Op.slice 44 (Go.Operand.tmp 53) (some (Go.Operand.tmp 54)) none none, type := 44, pos := "ref.go:175", after := #[{ on := 6, ground := Go.Ground.data }, { on := 7, ground := Go.Ground.data }], guard := none }) (v := .slice p5 (k - j) c5) rfl (by kernel_rfl) (by kernel_rfl) (by kernel_rfl) (fun _ _ _ h => h) (Or.inl ⟨by rfl, ?_⟩) (by assumption) ?_
          · intro w9 hSw
            (try dsimp only at hSw)
            go_simp
          (try simp only [Act.put, List.setIfInBounds_toArray, List.set_cons_zero, List.set_cons_succ])
          refine wpAnyH_ready (rs := [5]) (by kernel_rfl) (by simp) ?_
          refine (AllReadyH.cons (o := { dst := some 52, op := Go.Op.buildSlice 44 1 #[(0, Go.Operand.tmp 51)], type := 44, pos := "ref.go:175", after := #[{ on := 4, ground := Go.Ground.data }], guard := none }) rfl (fun K hK => ?_) AllReadyH.nil)
          go_simp
          refine hK.out _ _ ?_ (fun hHeld => ?_)
          · exact CA.out _ (((Kept.refl (fun _ => False) wq).drewN _).alloc _)
          clear hK K
          (try simp only [Act.put, List.setIfInBounds_toArray, List.set_cons_zero, List.set_cons_succ])
          refine wpAnyH_ready (rs := [9]) (by kernel_rfl) (by simp) ?_
          refine (AllReadyH.cons (o := { dst := some 56, op := Go.Op.call { callee := Go.Callee.builtin Go.Builtin.append, args := #[Go.Operand.tmp 52, Go.Operand.tmp 55], argTypes := #[44, 44] }, type := 44, pos := "ref.go:175", after := #[{ on := 5, ground := Go.Ground.data }, { on := 8, ground := Go.Ground.data }], guard := none }) rfl (fun K hK => ?_) AllReadyH.nil)
          refine step_append_all _ rfl (.tmp 52) (.tmp 55) 44 9 44 _ 1 16 rfl Tryz.underlying44 Tryz.info9c rfl w.heap.size (.slice (some ⟨wq.heap.size, 0, none⟩) 1 1) 1 (strs [key]) rfl (R1.out _ rfl) _ (k - j) (strs (ks.drop j)) rfl (SF.out _ (((Kept.refl (fun _ => False) wq).drewN _).alloc _)) (by unfold maxLen; omega) (by omega) (Nat.le_trans BS.out.2 (((Kept.refl (fun _ => False) wq).drewN _).alloc _).size) ?_
          intro p9 c9 w9 ho hg hn9
          have K9 : Hid (Kept (fun _ => False) wq w9) := Kept.own (((Kept.refl (fun _ => False) wq).drewN _).alloc _) (kgr hg.out) (fun j z => by have z : some wq.heap.size = some j := z; have z := Option.some.inj z; omega)
          have O9 : Hid (w9.ownsRow w.heap.size 9 1 (.slice p9 (1 + (k - j)) c9) (1 + (k - j)) (strs (key :: ks.drop j))) := ho.out
          refine hK.out _ _ ?_ (fun hHeld => ?_)
          · exact CA.out _ K9.out
          clear hK K
          (try simp only [Act.put, List.setIfInBounds_toArray, List.set_cons_zero, List.set_cons_succ])
          clear ho hg hn9 CA c4 SF sf R1 BS
          refine wpAnyH_take (i := 10) (oi := { dst := some 6, op := Go.Op.assign (Go.Operand.tmp 56), type := 44, pos := "ref.go:175", after := #[{ on := 9, ground := Go.Ground.data }, { on := 9, ground := Go.Ground.chain }, { on := 0, ground := Go.Ground.phase }, { on := 1, ground := Go.Ground.phase }, { on := 2, ground := Go.Ground.phase }, { on := 3, ground := Go.Ground.phase }, { on := 4, ground := Go.Ground.phase }, { on := 5, ground := Go.Ground.phase }, { on := 6, ground := Go.Ground.phase }, { on := 7, ground := Go.Ground.phase }, { on := 8, ground := Go.Ground.phase }, { on := 9, ground := Go.Ground.phase }], guard := none }) (v := .slice p9 (1 + (k - j)) c9) rfl (by kernel_rfl) (by kernel_rfl) (by kernel_rfl) (fun _ _ _ h => h) (Or.inl ⟨by rfl, ?_⟩) (by assumption) ?_
          · intro w9 hSw
            (try dsimp only at hSw)
            go_simp
          (try simp only [Act.put, List.setIfInBounds_toArray, List.set_cons_zero, List.set_cons_succ])
          refine wpAnyH_done (by kernel_rfl) ?_ _
          clear hHeld
          have Z1 : Hid ((w9.alloc (.cells #[] 9)).ownsRow w.heap.size 9 1 (.slice (some ⟨w9.heap.size, 0, none⟩) 0 0) 0 (strs []) ∧ Src Tryz.prog 1 44 (.slice p j c) j (strs (ks.take j)) (w9.alloc (.cells #[] 9)) ∧ w.heap.size ≤ (w9.alloc (.cells #[] 9)).heap.size) := ⟨⟨rfl, .inr ⟨w9.heap.size, 0, #[], rfl, Nat.le_trans KW.out.size K9.out.size, alloc_new _ _, Nat.le_refl _, by unfold maxLen; omega, rfl, rfl⟩⟩, ST.out _ (K9.out.alloc _), Nat.le_trans (Nat.le_trans KW.out.size K9.out.size) ((Kept.refl (fun _ => False) w9).alloc _).size⟩
          go_upto_region 4 with
            (first
              | (at_builtin; refine wpList_append_all _ rfl (.tmp 61) (.tmp 62) 44 9 44 _ 1 16 rfl Tryz.underlying44 Tryz.info9c rfl w.heap.size (.slice p10 j c10) j (strs [] ++ strs (ks.take j)) rfl Y10.out.1 _ (1 + (k - j)) (strs (key :: ks.drop j)) rfl Y10.out.2.1 (by unfold maxLen; omega) (by omega) Y10.out.2.2.size ?_; intro p11 c11 w11 ho hg hn9)
              | (at_builtin; refine wpList_append_all _ rfl (.tmp 57) (.tmp 60) 44 9 44 _ 1 16 rfl Tryz.underlying44 Tryz.info9c rfl w.heap.size (.slice (some ⟨w9.heap.size, 0, none⟩) 0 0) 0 (strs []) rfl Z1.out.1 _ j (strs (ks.take j)) rfl Z1.out.2.1 (by unfold maxLen; omega) (by omega) Z1.out.2.2 ?_; intro p10 c10 w10 ho hg hn9; have Y10 : Hid (w10.ownsRow w.heap.size 9 1 (.slice p10 j c10) j (strs [] ++ strs (ks.take j)) ∧ Src Tryz.prog 1 44 (.slice p9 (1 + (k - j)) c9) (1 + (k - j)) (strs (key :: ks.drop j)) w10 ∧ Kept (fun _ => False) w w10) := mid_keys O9.out (KW.out.trans K9.out (fun _ _ z => z)) ho.out hg.out; clear ho hg hn9 Z1; rw [Nat.zero_add])
              | fail)
          have NF : Hid (SK w w11 (keysR (es.take (i + 1))) p11 (j + (1 + (k - j))) c11) := by
            rw [HK.out, KI.out]
            refine ⟨?_, Kept.own Y10.out.2.2 (kgr hg.out) (fun q z => (own_lt Y10.out.1 q z).1)⟩
            have o := ho.out
            rw [strs_join] at o
            exact o
          clear ho hg hn9 Y10 O9 ST TS st
          go_wp2_with fail
          go_roundw
          case rel => exact ⟨i + 1, p11, j + (1 + (k - j)), c11, rfl, by go_num, by omega, by omega, NF⟩
          case measure => simp [intOf] <;> omega
    · have lti : ¬ (i : Int) < (n : Int) := by omega
      obtain rfl : i = n := by omega
      have F : Hid (SK w wo (keysR es) p k c) := by
        have q := S.out
        rw [List.take_of_length_le (by rw [H.out.len]; exact Nat.le_refl _)] at q
        exact q
      clear S
      go_wp2_with fail
      go_ret
      exact ⟨p, k, c, by first | rfl | simp, F.out⟩
end Go.Proofs.YtbangbobfeflcaaGreatDoor
