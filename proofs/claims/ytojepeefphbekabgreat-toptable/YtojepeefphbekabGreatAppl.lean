import Derived.Test.YtojepeefphbekabGreatTab2
namespace Go.Proofs.YtojepeefphbekabGreat
open Go.RowKit

/-- 'm[k] = v', run. -/
theorem TM.put_run {κ ε : Type} [DecidableEq κ] {T K E : TypeId} {kv : κ → Value} {kl : κ → Lit} {KF : κ → Prop} {ev : ε → Value} {z : ε} {RD : Value → Option (DataW Value × List MemPlace)} (X : MK T K E kv kl KF ev z RD) {w : World} {b n : Nat} {M : κ → Option ε} (h : TM K kl KF ev RD w b n M) (hn : n < maxLen) {k : κ} (hk : KF k) (e : ε) : ∃ w', (Instr.mapUpdate T (.map (some b)) (kv k) (ev e)).run Tryz.prog w = .ok () w' ∧ TM K kl KF ev RD w' b (n + 1) (upd M k e) ∧ Kept (fun j => j = b) w w' := by
  obtain ⟨D, h, s⟩ := h
  obtain ⟨w', hrun, r1, r2⟩ := h.update X.law X.und hn (X.key k hk) (X.rd e)
  exact ⟨w', hrun, ⟨_, r1, s.put X h.isMap hk e⟩, (Kept.refl _ w).grown r2 (fun j _ q => by simp at q; exact q.symm)⟩
theorem Reads.nomap {w : World} {a : Option Addr} {len cap : Nat} {l : List Nat} (r : Reads w a len cap l) {k : Nat} {es : Array MapEntry} {clock : Nat} (hk : w.heap[k]? = some (.map es clock)) (h0 : 0 < len) : ∀ p, a = some p → p.block ≠ k := by
  intro p hp e
  obtain ⟨b, off, e1, hc⟩ := r.cells h0
  have h1 := hc 0 h0
  rw [hp] at e1
  have e1 := Option.some.inj e1
  rw [e1] at e
  have e : b = k := e
  rw [e] at h1
  simp [World.cell?, hk] at h1
/-- What lies in the boxes of Apply. -/
structure AB (w wc : World) (kd : Int) (key : ByteArray) (x y : Int) (fin has : Bool) (a : Option Addr) (n c : Nat) (X : Nat) (m p : Value) : Prop where
  box : wc.heap[w.heap.size]? = some (.cells #[.int .i64 kd, .string key, .int .i64 x, .int .i64 y, .bool fin, .bool has, .slice a n c] 36 (0, 0))
  row : wc.heap[X]? = some (.cells #[m, p] 60 (0, 0))
  kept : Kept (fun _ => False) w wc
  lo : w.heap.size < X
set_option maxRecDepth 100000 in
set_option maxHeartbeats 4000000 in
theorem apply (nn m : Nat) (t : TK) (u : Upd) (l : List Nat) (w : World) (h : IsT w nn t) (d0 : DatT w t) (ll : ∀ k r, t.R k = some r → r.len ≤ m) (hm : (m + 2) * 16 ≤ 211106232532992) (hk : u.key.size ≤ maxLen) (ft : TFit (u.x, u.y)) (rd : Reads w u.a u.n u.c l) (hn : u.n ≤ 140737488355328) (hnn : nn < maxLen) : Calls Tryz.prog 7 #[.pointer (some ⟨t.tb, 0, none⟩), u.val] w fun o w' => o = .returned (.tuple #[.bool (wouldV t u).1, .int .i64 (wouldV t u).2]) ∧ ∃ t', Ap w w' m t t' u ∧ IsT w' (nn + 1) t' := by
  obtain ⟨tb, rb, delta, R⟩ := t
  obtain ⟨kd, key, x, y, fin, has, a, n, c⟩ := u
  obtain ⟨W, hW⟩ : ∃ W, W = w.alloc (.cells #[.int .i64 kd, .string key, .int .i64 x, .int .i64 y, .bool fin, .bool has, .slice a n c] 36) := ⟨_, rfl⟩
  have KZ : Kept (fun _ => False) w W := by rw [hW]; exact k0_alloc _ _
  have HA : Hid (IsT w nn ⟨tb, rb, delta, R⟩ ∧ DatT w ⟨tb, rb, delta, R⟩ ∧ (∀ k r, R k = some r → r.len ≤ m) ∧ (m + 2) * 16 ≤ 211106232532992 ∧ key.size ≤ maxLen ∧ TFit (x, y) ∧ Reads w a n c l ∧ n ≤ 140737488355328 ∧ nn < maxLen) := ⟨h, d0, ll, hm, hk, ft, rd, hn, hnn⟩
  have H : Hid (W.heap[w.heap.size]? = some (.cells #[.int .i64 kd, .string key, .int .i64 x, .int .i64 y, .bool fin, .bool has, .slice a n c] 36 (0, 0)) ∧ Kept (fun _ => False) w W) := by
    refine ⟨?_, KZ⟩
    rw [hW]
    exact heap_alloc_new _ _
  have EW : Hid (W = w.alloc (.cells #[.int .i64 kd, .string key, .int .i64 x, .int .i64 y, .bool fin, .bool has, .slice a n c] 36)) := hW
  have WO : Hid (Calls Tryz.prog 6 #[.pointer (some ⟨tb, 0, none⟩), .agg #[.int .i64 kd, .string key, .int .i64 x, .int .i64 y, .bool fin, .bool has, .slice a n c]] W fun o w' => o = .returned (.tuple #[.bool (wouldV ⟨tb, rb, delta, R⟩ ⟨kd, key, x, y, fin, has, a, n, c⟩).1, .int .i64 (wouldV ⟨tb, rb, delta, R⟩ ⟨kd, key, x, y, fin, has, a, n, c⟩).2]) ∧ Kept (fun _ => False) W w') := would nn ⟨tb, rb, delta, R⟩ ⟨kd, key, x, y, fin, has, a, n, c⟩ W (h.k0 KZ) hk ft
  obtain ⟨wv, hwv⟩ : ∃ wv, wv = (wouldV ⟨tb, rb, delta, R⟩ ⟨kd, key, x, y, fin, has, a, n, c⟩).1 := ⟨_, rfl⟩
  obtain ⟨we, hwe⟩ : ∃ we, we = (wouldV ⟨tb, rb, delta, R⟩ ⟨kd, key, x, y, fin, has, a, n, c⟩).2 := ⟨_, rfl⟩
  have WV : Hid (wv = (wouldV ⟨tb, rb, delta, R⟩ ⟨kd, key, x, y, fin, has, a, n, c⟩).1) := hwv
  have WE : Hid (wv = true → we = 0) := by
    rw [hwv, hwe]
    intro q
    unfold wouldV at q ⊢
    split at q
    · rename_i z
      rw [if_pos z]
    · cases q
  rw [← hwv, ← hwe] at WO ⊢
  unfold Upd.val
  dsimp only
  have g0 := cell_blk H.out.1 0 (v := .int .i64 kd) rfl
  have g1 := cell_blk H.out.1 1 (v := .string key) rfl
  have g2 := cell_blk H.out.1 2 (v := .int .i64 x) rfl
  have g3 := cell_blk H.out.1 3 (v := .int .i64 y) rfl
  have g4 := cell_blk H.out.1 4 (v := .bool fin) rfl
  have g5 := cell_blk H.out.1 5 (v := .bool has) rfl
  have g6 := cell_blk H.out.1 6 (v := .slice a n c) rfl
  clear h d0 ll hm hk ft rd hn hnn KZ hW hwv hwe
  go_enter Tryz.func7, Tryz.ntmps7
  go_upto_region 1 with fail
  rw [← EW.out]
  go_wp2_with fail
  refine WO.out.mono ?_
  rintro o w2 ⟨rfl, K2⟩
  have H2 : Hid (w2.heap[w.heap.size]? = some (.cells #[.int .i64 kd, .string key, .int .i64 x, .int .i64 y, .bool fin, .bool has, .slice a n c] 36 (0, 0)) ∧ Kept (fun _ => False) w w2) := ⟨K2.get H.out.1 (fun z => z), H.out.2.and0 K2⟩
  clear K2 g0 g1 g2 g3 g4 g5 g6
  cases wv
  · go_wp2_with fail
    go_ret2
    refine ⟨rfl, ⟨tb, rb, delta, R⟩, Ap.same H2.out.2 HA.out.2.1 HA.out.2.2.1 WV.out.symm, ?_⟩
    have i := HA.out.1.k0 H2.out.2
    exact (i.u.mono (Nat.le_succ _) (Nat.le_succ _)).t i.len
  · have e0 : we = 0 := WE.out rfl
    subst e0
    go_upto_region 4 with fail
    obtain ⟨m0, p0, hmp⟩ : ∃ m0 p0, RV.val ((TK.rv ⟨tb, rb, delta, R⟩ key).getD RV.zero) = .agg #[.map m0, .pointer p0] := ⟨_, _, rfl⟩
    obtain ⟨bb, hbb⟩ : ∃ bb, bb = (TK.rv ⟨tb, rb, delta, R⟩ key).isSome := ⟨_, rfl⟩
    have AT : Hid (∀ V, Kept (fun _ => False) w V → (Instr.lookup 52 (.map (some rb)) (.string key) true).run Tryz.prog V = .ok (.tuple #[.agg #[.map m0, .pointer p0], .bool bb]) V) := by
      intro V K
      have e := (HA.out.1.k0 K).rows.look2 rowsK HA.out.2.2.2.2.1
      rw [hmp, ← hbb] at e
      exact e
    have HB : Hid (bb = (TK.rv ⟨tb, rb, delta, R⟩ key).isSome ∧ RV.val ((TK.rv ⟨tb, rb, delta, R⟩ key).getD RV.zero) = .agg #[.map m0, .pointer p0]) := ⟨hbb, hmp⟩
    clear hbb hmp
    have HS : Hid (∀ V, Kept (fun _ => False) w2 V → V.cell? ⟨tb, 1, none⟩ = some (.map (some rb)) ∧ V.cell? ⟨w.heap.size, 1, none⟩ = some (.string key) ∧ (Instr.lookup 52 (.map (some rb)) (.string key) true).run Tryz.prog V = .ok (.tuple #[.agg #[.map m0, .pointer p0], .bool bb]) V) := by
      intro V K
      have i := HA.out.1.k0 (H2.out.2.and0 K)
      exact ⟨cell_blk i.blk 1 rfl, cell_blk (K.get H2.out.1 (fun z => z)) 1 rfl, AT.out V (H2.out.2.and0 K)⟩
    go_cut [8, 9] (fun u v wc => ∃ (X : Nat), u = .pointer (some ⟨X, 0, none⟩) ∧ v = .bool bb ∧ Hid (AB w wc kd key x y fin has a n c X (.map m0) (.pointer p0)))
    case first =>
      obtain ⟨q1, q2, q3⟩ := HS.out w2 (Kept.refl _ _)
      obtain ⟨_, _, q4⟩ := HS.out w2.drew (Kept.refl _ _).drew
      go_region_held3 (fun w' => w'.cell? ⟨tb, 1, none⟩ = some (.map (some rb)) ∧ w'.cell? ⟨w.heap.size, 1, none⟩ = some (.string key) ∧ (Instr.lookup 52 (.map (some rb)) (.string key) true).run Tryz.prog w' = .ok (.tuple #[.agg #[.map m0, .pointer p0], .bool bb]) w') (first | (refine HS.out _ ?_; (repeat (first | with_reducible exact Kept.refl _ _ | with_reducible refine Kept.drew ?_ | with_reducible refine Kept.alloc ?_ _ | refine Kept.setCell ?_ (fun z => absurd z (Nat.lt_irrefl _)) _)); done) | go_keep)
        (fail)
      all_goals go_wp2_with fail
      all_goals go_meet
      all_goals refine ⟨_, rfl, rfl, ?_⟩
      all_goals have KK : Kept (fun _ => False) w2 (w2.alloc (.cells #[.map m0, .pointer p0] 60)).drew := ((Kept.refl _ w2).alloc _).drew
      all_goals exact ⟨KK.get H2.out.1 (fun z => z), heap_alloc_new _ _, H2.out.2.and0 KK, block_lt H2.out.1⟩
    case rest =>
      obtain ⟨X, rfl, rfl, Q⟩ := hcut
      cases hr : R key with
      | some r =>
        have hv : TK.rv ⟨tb, rb, delta, R⟩ key = some ⟨some r.mb, some r.sb⟩ := by unfold TK.rv; dsimp only; rw [hr]; rfl
        have e1 := HB.out.1
        have e2 := HB.out.2
        rw [hv] at e1 e2
        have e4 : bb = true := e1
        clear e1
        subst e4
        have e3 : m0 = some r.mb ∧ p0 = some ⟨r.sb, 0, none⟩ := by
          have e2 : Value.agg #[.map (some r.mb), .pointer (some ⟨r.sb, 0, none⟩)] = .agg #[.map m0, .pointer p0] := e2
          simp at e2
          exact ⟨e2.1.symm, e2.2.symm⟩
        obtain ⟨rfl, rfl⟩ := e3
        have HR : Hid (R key = some r) := hr
        obtain ⟨wx, hwx⟩ : ∃ wx, wx = wc := ⟨_, rfl⟩
        rw [← hwx] at Q ⊢
        have QX : Hid (wx.heap[w.heap.size]? = some (.cells #[.int .i64 kd, .string key, .int .i64 x, .int .i64 y, .bool fin, .bool has, .slice a n c] 36 (0, 0)) ∧ wx.heap[X]? = some (.cells #[.map (some r.mb), .pointer (some ⟨r.sb, 0, none⟩)] 60 (0, 0)) ∧ wx.heap[tb]? = some (.cells #[.int .i64 delta, .map (some rb)] 54 (0, 0)) ∧ IsRow wx nn r ∧ (r.len + 1) * 16 ≤ 211106232532992 ∧ Reads wx a n c l ∧ ∀ V, Kept r.Uses wx.drew V → V.heap[w.heap.size]? = some (.cells #[.int .i64 kd, .string key, .int .i64 x, .int .i64 y, .bool fin, .bool has, .slice a n c] 36 (0, 0)) ∧ V.heap[X]? = some (.cells #[.map (some r.mb), .pointer (some ⟨r.sb, 0, none⟩)] 60 (0, 0)) ∧ V.heap[tb]? = some (.cells #[.int .i64 delta, .map (some rb)] 54 (0, 0))) := by
          have i := HA.out.1.k0 Q.out.kept
          have ir := i.row key r hr
          have i0 := HA.out.1.row key r hr
          have lo := Q.out.lo
          refine ⟨Q.out.box, Q.out.row, i.blk, ir, by have := HA.out.2.2.1 key r hr; have := HA.out.2.2.2.1; omega, HA.out.2.2.2.2.2.2.1.kept Q.out.kept (fun _ _ z => z), fun V K => ⟨K.get Q.out.box (fun z => ?_), K.get Q.out.row (fun z => ?_), K.get i.blk (i.own key r hr).2⟩⟩
          · have := i0.lt z
            omega
          · have := i0.lt z
            omega
        clear hv e2 hr hwx HS AT
        go_upto_region 8 with fail
        have g0 := cell_blk QX.out.1 0 (v := .int .i64 kd) rfl
        have g1 := cell_blk QX.out.1 1 (v := .string key) rfl
        have g2 := cell_blk QX.out.1 2 (v := .int .i64 x) rfl
        have g3 := cell_blk QX.out.1 3 (v := .int .i64 y) rfl
        have g4 := cell_blk QX.out.1 4 (v := .bool fin) rfl
        have g5 := cell_blk QX.out.1 5 (v := .bool has) rfl
        have g6 := cell_blk QX.out.1 6 (v := .slice a n c) rfl
        have r0 := cell_blk QX.out.2.1 0 (v := .map (some r.mb)) rfl
        have r1 := cell_blk QX.out.2.1 1 (v := .pointer (some ⟨r.sb, 0, none⟩)) rfl
        have e0 := cell_blk QX.out.2.2.1 0 (v := .int .i64 delta) rfl
        go_region_held3 (fun w' => w'.cell? ⟨tb, 0, none⟩ = some (.int .i64 delta) ∧ w'.cell? ⟨X, 0, none⟩ = some (.map (some r.mb)) ∧ w'.cell? ⟨X, 1, none⟩ = some (.pointer (some ⟨r.sb, 0, none⟩)) ∧ w'.cell? ⟨w.heap.size, 0, none⟩ = some (.int .i64 kd) ∧ w'.cell? ⟨w.heap.size, 1, none⟩ = some (.string key) ∧ w'.cell? ⟨w.heap.size, 2, none⟩ = some (.int .i64 x) ∧ w'.cell? ⟨w.heap.size, 3, none⟩ = some (.int .i64 y) ∧ w'.cell? ⟨w.heap.size, 4, none⟩ = some (.bool fin) ∧ w'.cell? ⟨w.heap.size, 5, none⟩ = some (.bool has) ∧ w'.cell? ⟨w.heap.size, 6, none⟩ = some (.slice a n c)) (first | go_keep)
          (first
            | (go_at_call 23; refine (changeA nn r kd key x y fin has a n c delta wx.drew (QX.out.2.2.2.1.k0 (Kept.refl _ _).drew) QX.out.2.2.2.2.1 HA.out.2.2.2.2.2.1 l (QX.out.2.2.2.2.2.1.kept (Kept.refl (fun _ => False) _).drew (fun _ _ z => z)) HA.out.2.2.2.2.2.2.2.1 HA.out.2.2.2.2.2.2.2.2).mono ?_; rintro o w5 ⟨rfl, ch⟩
               have QC : Hid (ChgR wx.drew w5 nn r x y n delta l (lackF r.S r.M ⟨kd, key, x, y, fin, has, a, n, c⟩ delta)) := ch
               obtain ⟨k1, k2, k3⟩ := QX.out.2.2.2.2.2.2 w5 (by obtain ⟨_, _, _, mv, _⟩ := ch; exact mv.kept)
               have g0 := cell_blk k1 0 (v := .int .i64 kd) rfl
               have g1 := cell_blk k1 1 (v := .string key) rfl
               have g2 := cell_blk k1 2 (v := .int .i64 x) rfl
               have g3 := cell_blk k1 3 (v := .int .i64 y) rfl
               have g4 := cell_blk k1 4 (v := .bool fin) rfl
               have g5 := cell_blk k1 5 (v := .bool has) rfl
               have g6 := cell_blk k1 6 (v := .slice a n c) rfl
               have r0 := cell_blk k2 0 (v := .map (some r.mb)) rfl
               have r1 := cell_blk k2 1 (v := .pointer (some ⟨r.sb, 0, none⟩)) rfl
               have e0 := cell_blk k3 0 (v := .int .i64 delta) rfl
               clear ch k1 k2 k3)
            | fail)
        go_wp2_with fail
        go_ret2
        have i := HA.out.1.k0 (Q.out.kept.drew)
        obtain ⟨t', ap, iu⟩ := Ap.of (t := ⟨tb, rb, delta, R⟩) (t0 := ⟨tb, rb, delta, R⟩) (u := ⟨kd, key, x, y, fin, has, a, n, c⟩) i.u HR.out rfl rfl rfl (fun _ _ => rfl) (TS_at HR.out) (TMp_at HR.out) (Q.out.kept.drew.mono (fun _ _ z => z.elim)) (fun b hb => .inl (.inr ⟨key, r, HR.out, hb⟩)) (HA.out.2.1.k0 Q.out.kept.drew) HA.out.2.2.1 WV.out.symm QC.out HA.out.2.2.2.2.2.2.1.bytes HA.out.2.2.2.2.2.2.2.1 HA.out.2.2.2.2.2.2.1 (fun D hD => hD.k0 HA.out.2.1 Q.out.kept.drew)
        refine ⟨rfl, t', ap, (iu.mono (Nat.le_succ _) (Nat.le_refl _)).t (fun k r hr => ?_)⟩
        have := ap.len k r hr
        have := HA.out.2.2.2.1
        omega
      | none =>
        have hv : TK.rv ⟨tb, rb, delta, R⟩ key = none := by unfold TK.rv; dsimp only; rw [hr]; rfl
        have e1 := HB.out.1
        have e2 := HB.out.2
        rw [hv] at e1 e2
        have e4 : bb = false := e1
        clear e1
        subst e4
        have e3 : m0 = none ∧ p0 = none := by
          have e2 : Value.agg #[.map none, .pointer none] = .agg #[.map m0, .pointer p0] := e2
          simp at e2
          exact ⟨e2.1.symm, e2.2.symm⟩
        obtain ⟨rfl, rfl⟩ := e3
        have HR : Hid (R key = none) := hr
        have b0 := cell_blk Q.out.row 0 (v := .map none) rfl
        clear hv e2 hr HS AT b0
        go_wp2_with fail
        refine (newRow wc).mono ?_
        rintro o w3 ⟨r, rfl, ir, rS, rM, fr, K3⟩
        have QA : Hid (w3.heap[w.heap.size]? = some (.cells #[.int .i64 kd, .string key, .int .i64 x, .int .i64 y, .bool fin, .bool has, .slice a n c] 36 (0, 0)) ∧ w3.heap[X]? = some (.cells #[.map none, .pointer none] 60 (0, 0)) ∧ IsRow w3 0 r ∧ r.S = [] ∧ r.M = (fun _ => none) ∧ (∀ k, r.Uses k → w.heap.size < k ∧ X < k) ∧ Kept (fun _ => False) w w3) := by
          have b1 := block_lt Q.out.box
          have b2 := block_lt Q.out.row
          exact ⟨K3.get Q.out.box (fun z => z), K3.get Q.out.row (fun z => z), ir, rS, rM, fun k hk => ⟨by have := fr k hk; omega, by have := fr k hk; omega⟩, Q.out.kept.and0 K3⟩
        have x0 := cell_blk QA.out.2.1 0 (v := .map none) rfl
        have x1 := cell_blk QA.out.2.1 1 (v := .pointer none) rfl
        have s0 := soft_blk QA.out.2.1 0
        have s1 := soft_blk QA.out.2.1 1
        have LO : Hid (w.heap.size < X) := Q.out.lo
        clear ir rS rM fr K3 Q
        go_upto_region 7 with fail
        obtain ⟨wy, hwy⟩ : ∃ wy, wy = (w3.setCell ⟨X, 0, none⟩ (.map (some r.mb))).setCell ⟨X, 1, none⟩ (.pointer (some ⟨r.sb, 0, none⟩)) := ⟨_, rfl⟩
        rw [← hwy]
        have QY : Hid (wy.heap[w.heap.size]? = some (.cells #[.int .i64 kd, .string key, .int .i64 x, .int .i64 y, .bool fin, .bool has, .slice a n c] 36 (0, 0)) ∧ wy.heap[X]? = some (.cells #[.map (some r.mb), .pointer (some ⟨r.sb, 0, none⟩)] 60 (0, 0)) ∧ IsRow wy 0 r ∧ Kept (fun _ => False) w wy ∧ IsT wy nn ⟨tb, rb, delta, R⟩) := by
          have K : Kept (fun k => k = X) w3 wy := by rw [hwy]; exact ((Kept.refl (fun k => k = X) w3).setCell (p := ⟨X, 0, none⟩) (fun _ => rfl) _).setCell (p := ⟨X, 1, none⟩) (fun _ => rfl) _
          have K0 : Kept (fun _ => False) w wy := QA.out.2.2.2.2.2.2.trans K (fun j hj z => by have z : j = X := z; have := LO.out; omega)
          have lo := LO.out
          refine ⟨K.get QA.out.1 (by omega), by rw [hwy]; exact set2 QA.out.2.1 _ _, QA.out.2.2.1.off K (fun b hb z => by have z : b = X := z; have := (QA.out.2.2.2.2.2.1 b hb).2; omega), K0, HA.out.1.k0 K0⟩
        clear hwy x0 x1 s0 s1
        have g1 := cell_blk QY.out.1 1 (v := .string key) rfl
        have r0 := cell_blk QY.out.2.1 0 (v := .map (some r.mb)) rfl
        have r1 := cell_blk QY.out.2.1 1 (v := .pointer (some ⟨r.sb, 0, none⟩)) rfl
        have e1 : wy.cell? ⟨tb, 1, none⟩ = some (.map (some rb)) := cell_blk QY.out.2.2.2.2.blk 1 rfl
        obtain ⟨wx, hrun, tm4', k4'⟩ := (QY.out.2.2.2.2.rows.kept (Kept.refl (fun _ => False) _).drew (fun z => z)).put_run rowsK HA.out.2.2.2.2.2.2.2.2 HA.out.2.2.2.2.1 ⟨some r.mb, some r.sb⟩
        have hrun : (Instr.mapUpdate 52 (.map (some rb)) (.string key) (.agg #[.map (some r.mb), .pointer (some ⟨r.sb, 0, none⟩)])).run Tryz.prog wy.drew = .ok () wx := hrun
        have tm4 : Hid _ := tm4'
        have k4 : Hid _ := k4'
        clear tm4' k4'
        have QX : Hid (wx.heap[w.heap.size]? = some (.cells #[.int .i64 kd, .string key, .int .i64 x, .int .i64 y, .bool fin, .bool has, .slice a n c] 36 (0, 0)) ∧ wx.heap[X]? = some (.cells #[.map (some r.mb), .pointer (some ⟨r.sb, 0, none⟩)] 60 (0, 0)) ∧ wx.heap[tb]? = some (.cells #[.int .i64 delta, .map (some rb)] 54 (0, 0)) ∧ IsRow wx nn r ∧ (r.len + 1) * 16 ≤ 211106232532992 ∧ Reads wx a n c l ∧ ∀ V, Kept r.Uses wx.drew V → V.heap[w.heap.size]? = some (.cells #[.int .i64 kd, .string key, .int .i64 x, .int .i64 y, .bool fin, .bool has, .slice a n c] 36 (0, 0)) ∧ V.heap[X]? = some (.cells #[.map (some r.mb), .pointer (some ⟨r.sb, 0, none⟩)] 60 (0, 0)) ∧ V.heap[tb]? = some (.cells #[.int .i64 delta, .map (some rb)] 54 (0, 0))) := by
          have k5 : Kept (fun k => k = rb) wy wx := (Kept.refl (fun k => k = rb) wy).drew.trans k4.out (fun _ _ z => z)
          have i := QY.out.2.2.2.2
          have l1 : rb < w.heap.size := HA.out.1.rows.lt
          have l2 : tb < w.heap.size := block_lt HA.out.1.blk
          have nt : tb ≠ rb := fun e => i.u.ntb (.inl e)
          have lo := LO.out
          have fr := QA.out.2.2.2.2.2.1
          have bx := k5.get QY.out.1 (by omega)
          have rw1 := k5.get QY.out.2.1 (by omega)
          have tb1 := k5.get i.blk nt
          have rl : r.len = 0 := by have := QY.out.2.2.1.st.row.length; rw [QA.out.2.2.2.1] at this; exact this.symm
          obtain ⟨D, ⟨es, clock, hmp, _⟩, _⟩ := i.rows
          refine ⟨bx, rw1, tb1, (QY.out.2.2.1.off k5 (fun b hb z => by have z : b = rb := z; have := (fr b hb).1; omega)).mono (Nat.zero_le _), by rw [rl]; decide, (HA.out.2.2.2.2.2.2.1.kept QY.out.2.2.2.1 (fun _ _ z => z)).kept0 k5 (fun h0 p hp z => ((HA.out.2.2.2.2.2.2.1.kept QY.out.2.2.2.1 (fun _ _ z => z)).nomap hmp h0 p hp) z), fun V K => ⟨K.get bx (fun z => ?_), K.get rw1 (fun z => ?_), K.get tb1 (fun z => ?_)⟩⟩
          · have := (fr _ z).1
            omega
          · have := (fr _ z).2
            omega
          · have := (fr _ z).1
            omega
        have QT : Hid (TM 9 (fun s : ByteArray => Lit.string s.data.toList) (fun s : ByteArray => s.size ≤ maxLen) RV.val RR wx rb (nn + 1) (upd (TK.rv ⟨tb, rb, delta, R⟩) key ⟨some r.mb, some r.sb⟩) ∧ Kept (fun k => k = rb) wy wx) := ⟨tm4.out, (Kept.refl (fun k => k = rb) wy).drew.trans k4.out (fun _ _ z => z)⟩
        have g1' := cell_blk QX.out.1 1 (v := .string key) rfl
        have r0' := cell_blk QX.out.2.1 0 (v := .map (some r.mb)) rfl
        have r1' := cell_blk QX.out.2.1 1 (v := .pointer (some ⟨r.sb, 0, none⟩)) rfl
        have e1' := cell_blk QX.out.2.2.1 1 (v := .map (some rb)) rfl
        clear tm4 k4
        go_region_held3 (fun w' => w'.cell? ⟨tb, 1, none⟩ = some (.map (some rb)) ∧ w'.cell? ⟨w.heap.size, 1, none⟩ = some (.string key) ∧ w'.cell? ⟨X, 0, none⟩ = some (.map (some r.mb)) ∧ w'.cell? ⟨X, 1, none⟩ = some (.pointer (some ⟨r.sb, 0, none⟩))) (first | go_keep) (fail)
        clear g1' r0' r1' e1' hrun
        clear g1 r0 r1 e1
        go_upto_region 8 with fail
        have g0 := cell_blk QX.out.1 0 (v := .int .i64 kd) rfl
        have g1 := cell_blk QX.out.1 1 (v := .string key) rfl
        have g2 := cell_blk QX.out.1 2 (v := .int .i64 x) rfl
        have g3 := cell_blk QX.out.1 3 (v := .int .i64 y) rfl
        have g4 := cell_blk QX.out.1 4 (v := .bool fin) rfl
        have g5 := cell_blk QX.out.1 5 (v := .bool has) rfl
        have g6 := cell_blk QX.out.1 6 (v := .slice a n c) rfl
        have r0 := cell_blk QX.out.2.1 0 (v := .map (some r.mb)) rfl
        have r1 := cell_blk QX.out.2.1 1 (v := .pointer (some ⟨r.sb, 0, none⟩)) rfl
        have e0 := cell_blk QX.out.2.2.1 0 (v := .int .i64 delta) rfl
        go_region_held3 (fun w' => w'.cell? ⟨tb, 0, none⟩ = some (.int .i64 delta) ∧ w'.cell? ⟨X, 0, none⟩ = some (.map (some r.mb)) ∧ w'.cell? ⟨X, 1, none⟩ = some (.pointer (some ⟨r.sb, 0, none⟩)) ∧ w'.cell? ⟨w.heap.size, 0, none⟩ = some (.int .i64 kd) ∧ w'.cell? ⟨w.heap.size, 1, none⟩ = some (.string key) ∧ w'.cell? ⟨w.heap.size, 2, none⟩ = some (.int .i64 x) ∧ w'.cell? ⟨w.heap.size, 3, none⟩ = some (.int .i64 y) ∧ w'.cell? ⟨w.heap.size, 4, none⟩ = some (.bool fin) ∧ w'.cell? ⟨w.heap.size, 5, none⟩ = some (.bool has) ∧ w'.cell? ⟨w.heap.size, 6, none⟩ = some (.slice a n c)) (first | go_keep)
          (first
            | (go_at_call 23; refine (changeA nn r kd key x y fin has a n c delta wx.drew (QX.out.2.2.2.1.k0 (Kept.refl _ _).drew) QX.out.2.2.2.2.1 HA.out.2.2.2.2.2.1 l (QX.out.2.2.2.2.2.1.kept (Kept.refl (fun _ => False) _).drew (fun _ _ z => z)) HA.out.2.2.2.2.2.2.2.1 HA.out.2.2.2.2.2.2.2.2).mono ?_; rintro o w5 ⟨rfl, ch⟩
               have QC : Hid (ChgR wx.drew w5 nn r x y n delta l (lackF r.S r.M ⟨kd, key, x, y, fin, has, a, n, c⟩ delta)) := ch
               obtain ⟨k1, k2, k3⟩ := QX.out.2.2.2.2.2.2 w5 (by obtain ⟨_, _, _, mv, _⟩ := ch; exact mv.kept)
               have g0 := cell_blk k1 0 (v := .int .i64 kd) rfl
               have g1 := cell_blk k1 1 (v := .string key) rfl
               have g2 := cell_blk k1 2 (v := .int .i64 x) rfl
               have g3 := cell_blk k1 3 (v := .int .i64 y) rfl
               have g4 := cell_blk k1 4 (v := .bool fin) rfl
               have g5 := cell_blk k1 5 (v := .bool has) rfl
               have g6 := cell_blk k1 6 (v := .slice a n c) rfl
               have r0 := cell_blk k2 0 (v := .map (some r.mb)) rfl
               have r1 := cell_blk k2 1 (v := .pointer (some ⟨r.sb, 0, none⟩)) rfl
               have e0 := cell_blk k3 0 (v := .int .i64 delta) rfl
               clear ch k1 k2 k3)
            | fail)
        go_wp2_with fail
        go_ret2
        have iU : IsU wx.drew (nn + 1) nn (TK.set ⟨tb, rb, delta, R⟩ key r) := (IsU.new (HA.out.1.u) QY.out.2.2.1 (fun b hb => Nat.le_of_lt (QA.out.2.2.2.2.2.1 b hb).1) QY.out.2.2.2.1 QT.out.1 QT.out.2).k0 (Kept.refl _ _).drew
        have KW : Kept (TK.Uses ⟨tb, rb, delta, R⟩) w wx.drew := (QY.out.2.2.2.1.mono (fun _ _ z => z.elim)).trans (QT.out.2.drew) (fun _ _ z => .inl z)
        have dT : DatT wx.drew (TK.set ⟨tb, rb, delta, R⟩ key r) := by
          intro k r2 hk
          rcases TK.set_of hk with ⟨_, rfl⟩ | ⟨_, q⟩
          · intro t h ht
            rw [QA.out.2.2.2.2.1] at ht
            cases ht
          · refine ((HA.out.2.1.k0 QY.out.2.2.2.1) k r2 q).off (QT.out.2.drew) (fun b cs hb z => ?_)
            have z : b = rb := z
            exact QY.out.2.2.2.2.u.nb hb (.inl z)
        have dDD : ∀ D, DatD w ⟨tb, rb, delta, R⟩ D → DatD wx.drew (TK.set ⟨tb, rb, delta, R⟩ key r) D := by
          intro D hD k r2 hk
          rcases TK.set_of hk with ⟨_, rfl⟩ | ⟨_, q⟩
          · intro t h ht
            rw [QA.out.2.2.2.2.1] at ht
            cases ht
          · refine ((hD.k0 HA.out.2.1 QY.out.2.2.2.1) k r2 q).off ((HA.out.2.1.k0 QY.out.2.2.2.1) k r2 q) (QT.out.2.drew) (fun b cs hb z => ?_)
            have z : b = rb := z
            exact QY.out.2.2.2.2.u.nb hb (.inl z)
        have rl : r.len = 0 := by have := QY.out.2.2.1.st.row.length; rw [QA.out.2.2.2.1] at this; exact this.symm
        obtain ⟨t', ap, iu⟩ := Ap.of (t := ⟨tb, rb, delta, R⟩) (t0 := TK.set ⟨tb, rb, delta, R⟩ key r) (u := ⟨kd, key, x, y, fin, has, a, n, c⟩) iU (TK.set_at _ _ _) rfl rfl rfl (fun k hk => TK.set_ne _ _ _ hk) ((TS_no HR.out).trans QA.out.2.2.2.1.symm) ((TMp_no HR.out).trans QA.out.2.2.2.2.1.symm) KW (fun b hb => .inr (Nat.le_of_lt (QA.out.2.2.2.2.2.1 b hb).1)) dT (fun k r2 hk => by
          rcases TK.set_of hk with ⟨_, rfl⟩ | ⟨_, q⟩
          · rw [rl]; exact Nat.zero_le _
          · exact HA.out.2.2.1 k r2 q) WV.out.symm QC.out HA.out.2.2.2.2.2.2.1.bytes HA.out.2.2.2.2.2.2.2.1 HA.out.2.2.2.2.2.2.1 dDD
        refine ⟨rfl, t', ap, iu.t (fun k r hr => ?_)⟩
        have := ap.len k r hr
        have := HA.out.2.2.2.1
        omega
end Go.Proofs.YtojepeefphbekabGreat
