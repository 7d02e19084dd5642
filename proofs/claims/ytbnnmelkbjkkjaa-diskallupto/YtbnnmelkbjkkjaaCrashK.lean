import Derived.Test.YtbnnmelkbjkkjaaOne
import Derived.Test.YtbnnmelkbjkkjaaOpenMoreJ
namespace Go.Proofs.Ytbnnmelkbjkkjaa
open Go.RowKit

theorem Try.info60 : (Try.prog.info? 60).map (fun i => (i.zero, i.size, i.bytes)) = some (some (.agg #[.pointer none, .pointer none]), 2, 16) := by kernel_rfl
theorem src_pair {w : World} {b : Nat} {e : Pr} {v u : Value} (h : w.heap[b]? = some (.cells #[v, u] 60 (0, 0))) (hv : v = .pointer (some ⟨e.bp, 0, none⟩)) (hu : u = .pointer (some ⟨e.br, 0, none⟩)) : Src Try.prog 2 61 (.slice (some ⟨b, 0, none⟩) 1 1) 1 e.cells w := by
  subst hv hu
  exact Src.ofSlice w Try.underlying61 ⟨b, 0, none⟩ 1 1 e.cells rfl (fun j u hj => by
    rw [Addr.add_none, Nat.zero_add, cell_of_row w b j _ 60 (0, 0) h]
    have : e.cells = (#[.pointer (some ⟨e.bp, 0, none⟩), .pointer (some ⟨e.br, 0, none⟩)] : Array Value).toList := rfl
    rw [this] at hj
    simpa using hj) (by have := pcells_ones [e]; rw [pcells_one'] at this; exact this)
/-- The row has one pair more. -/
theorem AL.grow {w wr W w' : World} {L : List Pr} {S : Nat → Prop} {pa pa' : Option Addr} {pn pc pc' : Nat} (h : AL w wr L S) (hS : ∀ k, blockOf pa = some k → S k) (K : Kept (fun _ => False) wr W) (ho : w'.ownsRow w.heap.size 60 2 (.slice pa' (pn + 1) pc') (pn + 1) (pcells L)) (hg : W.grownBy w' (Value.slice pa pn pc).ownBlock) (hn : (Value.slice pa' (pn + 1) pc').ownBlock = (Value.slice pa pn pc).ownBlock ∨ ((Value.slice pa' (pn + 1) pc').ownBlock = some W.heap.size ∧ W.grownBy w' none)) : AL w w' L (fun k => blockOf pa' = some k) := by
  rw [blockOf_own] at hg hn
  rw [blockOf_own] at hn
  have hW := h.quiet K
  have KW : Kept (fun k => blockOf pa = some k) W w' := (Kept.refl _ _).grown hg (fun k _ z => z.symm ▸ rfl)
  have h2 := hW.wrote KW (fun k hk => ⟨(h.far k (hS k hk)).2.1, (h.far k (hS k hk)).2.2⟩)
  refine ⟨h2.isd, h2.isr, h2.two, h2.apart, fun k hk => ⟨(own_lt ho k hk).2, (own_lt ho k hk).1, fun y hy u => ?_⟩, h2.kept⟩
  rcases hn with z | ⟨z, _⟩
  · rw [z] at hk
    exact (h.far k (hS k hk)).2.2 y hy u
  · rw [z] at hk
    simp at hk
    have := hW.lt hy u
    omega
/-- What a step leaves that makes one more pair. -/
theorem OD.one {w w8 W9 w10 : World} {pa : Option Addr} {pn pc : Nat} {L : List Pr} {e : Pr} {S : Nat → Prop} {pa' : Option Addr} {pc' s t : Nat} (al : AL w w8 (e :: L) S) (hS : ∀ k, blockOf pa = some k → S k) (K : Kept (fun _ => False) w8 W9) (ho : w10.ownsRow w.heap.size 60 2 (.slice pa' (pn + 1) pc') (pn + 1) (pcells L ++ e.cells)) (hg : W9.grownBy w10 (Value.slice pa pn pc).ownBlock) (hn : (Value.slice pa' (pn + 1) pc').ownBlock = (Value.slice pa pn pc).ownBlock ∨ ((Value.slice pa' (pn + 1) pc').ownBlock = some W9.heap.size ∧ W9.grownBy w10 none)) (same : ∀ y ∈ L, y.d.ab = y.r.ab) (se : e.d.ab = e.r.ab) (fits : ∀ y ∈ L, Fits y.d.ab s t) (fe : Fits e.d.ab s t) : OD w w10 pa' (pn + 1) pc' (L ++ [e]) s t := by
  have ho' : w10.ownsRow w.heap.size 60 2 (.slice pa' (pn + 1) pc') (pn + 1) (pcells (L ++ [e])) := by rw [pcells_append, pcells_one']; exact ho
  have al' := al.perm (List.perm_append_singleton e L).symm
  refine ⟨al'.grow hS K ho' hg hn, ho', fun y hy => ?_, fun y hy => ?_⟩
  · rcases List.mem_append.1 hy with z | z
    · exact same y z
    · rw [List.mem_singleton.1 z]; exact se
  · rcases List.mem_append.1 hy with z | z
    · exact fits y z
    · rw [List.mem_singleton.1 z]; exact fe
theorem pair_lim {n : Nat} (h : n < 1000000000) : n + 1 ≤ maxLen ∧ ((n + 1) + (n + 1) / 4 + 192) * 16 ≤ 281474976710656 := by unfold maxLen; omega

theorem src_77 (w : World) : Src Try.prog 1 24 (.slice (some ⟨w.heap.size, 0, none⟩) 1 1) 1 (zcells [77]) (w.alloc (.cells #[.int .i64 77] 3)) := by
  exact Src.ofSlice _ Try.underlying24 ⟨w.heap.size, 0, none⟩ 1 1 (zcells [77]) rfl (fun j u hj => by
    rw [Addr.add_none, Nat.zero_add, cell_of_row _ w.heap.size j _ 3 (0, 0) (alloc_new w (.cells #[.int .i64 77] 3))]
    have : zcells [77] = (#[.int .i64 77] : Array Value).toList := rfl
    rw [this] at hj
    simpa using hj) (zcells_one [77])
theorem slice_to24 {w : World} {base : Nat} {a : Option Addr} {len cap : Nat} {xs : List Value} (h : w.ownsRow base 3 1 (.slice a len cap) len xs) (mn : Nat) (hm : mn ≤ len) (W : World) : (Instr.slice 24 (.slice a len cap) none (some (.int .i64 (mn : Int))) none).run Try.prog W = .ok (.slice a mn cap) W := by
  rcases h.2 with ⟨e0, e1⟩ | ⟨g, cap', cur, e0, _, _, h1, h2, _⟩
  · simp at e0
    obtain ⟨rfl, rfl, rfl⟩ := e0
    have : mn = 0 := by omega
    subst this
    simp [Instr.slice, Instr.sliceBounds, Instr.sliceBound, asIntOf, run_underlying Try.underlying24]
  · simp at e0
    obtain ⟨rfl, rfl⟩ := e0
    unfold maxLen at h2
    have h3 : mn ≤ cap := by omega
    simp [Instr.slice, Instr.sliceBounds, Instr.sliceBound, asIntOf, run_underlying Try.underlying24, h3]
    intro _
    rw [Addr.add_none]
theorem ON.held' {w W W' : World} {pa : Option Addr} {pn pc : Nat} {L1 : List Pr} {x x' : Pr} {L2 : List Pr} {o : Opv} {V U : Nat} {S S' : Nat → Prop} (h : ON w W pa pn pc L1 x L2 o V U S) (al : AL w W' (x' :: (L1 ++ L2)) (fun k => S' k ∨ blockOf pa = some k ∨ k = V ∨ k = U)) (K : Kept (fun k => ¬ (S k ∨ blockOf pa = some k ∨ k = V ∨ k = U)) W W') (hp : x'.bp = x.bp) (hr : x'.br = x.br) : ON w W' pa pn pc L1 x' L2 o V U S' := by
  refine ⟨al, ?_, K.get h.o3 (fun z => z (.inr (.inr (.inl rfl)))), by rw [hp, hr]; exact K.get h.x7 (fun z => z (.inr (.inr (.inr rfl)))), h.rd⟩
  have e : pcells (L1 ++ x' :: L2) = pcells (L1 ++ x :: L2) := by
    rw [pcells_append, pcells_append, pcells_cons, pcells_cons]
    unfold Pr.cells
    rw [hp, hr]
  rw [e]
  exact K.owns h.row (fun k hk z => z (.inr (.inl (by rw [← hk]; exact (blockOf_own ..).symm))))
/-- The list of choices, written over up to i. -/
structure CL (w3 wr : World) (B gl n2 k2 : Nat) (ch : List Int) (i : Nat) : Prop where
  ex : ∃ l, wr.ownsRow B 3 1 (.slice (some ⟨gl, 0, none⟩) (n2 + 1) k2) (n2 + 1) (zcells l) ∧ ∀ k, i ≤ k → l[k]? = (ch ++ [77])[k]?
  kept : Kept (fun k => k = gl) w3 wr
theorem CL.step {w3 wr : World} {B gl n2 k2 : Nat} {ch : List Int} {i : Nat} (h : CL w3 wr B gl n2 k2 ch i) : CL w3 (wr.setCell ⟨gl, i, none⟩ (.int .i64 5)) B gl n2 k2 ch (i + 1) := by
  obtain ⟨l, o, hk⟩ := h.ex
  refine ⟨⟨l.set i 5, own_zset o i 5, fun k hk2 => ?_⟩, h.kept.setCell (p := ⟨gl, i, none⟩) (fun _ => rfl) _⟩
  rw [List.getElem?_set, if_neg (by omega)]
  exact hk k (by omega)
theorem CL.cell {w3 wr : World} {B gl n2 k2 : Nat} {ch : List Int} {i : Nat} (h : CL w3 wr B gl n2 k2 ch i) {k : Nat} {y : Int} (hk : i ≤ k) (hy : (ch ++ [77])[k]? = some y) : wr.cell? ⟨gl, k, none⟩ = some (.int .i64 y) ∧ wr.frozen? ⟨gl, k, none⟩ = false := by
  obtain ⟨l, o, hl⟩ := h.ex
  obtain ⟨g', e, hc⟩ := own_int o (by omega)
  simp at e
  subst e
  exact hc k y ((hl k hk).trans hy)
set_option maxRecDepth 100000 in
set_option maxHeartbeats 8000000 in
theorem oneCrash (w wr : World) (pa : Option Addr) (pn pc : Nat) (L1 : List Pr) (x : Pr) (L2 : List Pr) (o : Opv) (s t : Nat) (h : OD w wr pa pn pc (L1 ++ x :: L2) s t) (hs : s ≤ Few) (ht : t ≤ Few) (hD : o.D % (pn : Int) = (L1.length : Int)) (hp : pn < 1000000000) (a0 : Option Addr) (n0 c0 : Nat) (l0 : List Nat) (a1 : Option Addr) (n1 c1 : Nat) (l1 : List Nat) (a2 : Option Addr) (n2 c2 : Nat) (ch : List Int) (hv0 : o.v0 = .slice a0 n0 c0) (hv1 : o.v1 = .slice a1 n1 c1) (hv2 : o.v2 = .slice a2 n2 c2) (rd0 : Reads w a0 n0 c0 l0) (rd1 : Reads w a1 n1 c1 l1) (rdc : IRd w a2 n2 c2 ch) (hb0 : n0 ≤ Lim) (hb1 : n1 ≤ Lim) (hb2 : n2 ≤ Lim) (rd : Reads w o.a o.n o.c o.l) (hn : o.n ≤ Lim) (hkk : o.kind = 9) :
    Calls Try.prog 32 #[.slice pa pn pc, .agg o.cs] wr fun y w' => ∃ pa' pn' pc' L', y = .returned (.tuple #[.slice pa' pn' pc', .bool true]) ∧ OD w w' pa' pn' pc' L' (s + o.wh) (t + 1) ∧ L'.length ≤ (L1 ++ x :: L2).length + 1 ∧ (L1 ++ x :: L2).length ≤ L'.length := by
  have OC : #[.int .i64 o.kind, .int .i64 o.D, .int .i64 o.slot, .slice o.a o.n o.c, .int .i64 o.N, .bool o.done, .slice a0 n0 c0, .slice a1 n1 c1, .slice a2 n2 c2] = o.cs := by unfold Opv.cs; rw [hv0, hv1, hv2]
  have SL : Hid o.Sl := ⟨a0, n0, c0, a1, n1, c1, a2, n2, c2, hv0, hv1, hv2⟩
  have hx : (L1 ++ x :: L2)[L1.length]? = some x := by rw [List.getElem?_append_right (Nat.le_refl _), Nat.sub_self]; rfl
  obtain ⟨g, hpa, hnl, r0, r1⟩ := row_pair h.row hx
  subst hpa
  have hpc := (own_room h.row).1
  have hpc2 := (own_room h.row).2
  unfold maxLen at hpc2
  obtain ⟨nn, hnn⟩ : ∃ nn, nn = L1.length := ⟨_, rfl⟩
  rw [← hnn] at hD hnl r0 r1
  obtain ⟨W, hW⟩ : ∃ W, W = wr.alloc (.cells o.cs 46) := ⟨_, rfl⟩
  have EW : Hid (W = wr.alloc (.cells #[.int .i64 o.kind, .int .i64 o.D, .int .i64 o.slot, .slice o.a o.n o.c, .int .i64 o.N, .bool o.done, .slice a0 n0 c0, .slice a1 n1 c1, .slice a2 n2 c2] 46)) := by show W = _; rw [OC]; exact hW
  have K1 : Kept (fun _ => False) wr W := by rw [hW]; exact alloc_kept0 _ _
  have b3 : W.heap[wr.heap.size]? = some (.cells o.cs 46 (0, 0)) := by rw [hW]; exact alloc_new _ _
  have e1 : W.cell? ⟨wr.heap.size, 1, none⟩ = some (.int .i64 o.D) := cell_blk b3 1 rfl
  have r0' := K1.cell r0 (fun z => z)
  have r1' := K1.cell r1 (fun z => z)
  obtain ⟨W7, hW7⟩ : ∃ W7, W7 = W.alloc (.cells #[.pointer (some ⟨x.bp, 0, none⟩), .pointer (some ⟨x.br, 0, none⟩)] 60) := ⟨_, rfl⟩
  have E7 : Hid (W7 = W.alloc (.cells #[.pointer (some ⟨x.bp, 0, none⟩), .pointer (some ⟨x.br, 0, none⟩)] 60)) := hW7
  have szW : W.heap.size = wr.heap.size + 1 := by rw [hW]; exact alloc_size _ _
  have K7 : Kept (fun _ => False) W W7 := by rw [hW7]; exact alloc_kept0 _ _
  have sz7 : W7.heap.size = wr.heap.size + 2 := by rw [hW7, alloc_size, szW]
  have Z : Hid (ON w W7 (some ⟨g, 0, none⟩) pn pc L1 x L2 o wr.heap.size W.heap.size (fun _ => False)) := by
    have K17 : Kept (fun _ => False) wr W7 := K1.trans K7 (fun _ _ z => z)
    refine ⟨(h.al.perm List.perm_middle).more K17 (fun k hk => ?_), K17.owns h.row (fun _ _ z => z), K7.get b3 (fun z => z), by rw [hW7]; exact alloc_new _ _, rd⟩
    rcases hk with z | z | z | z
    · exact z.elim
    · exact .inl z
    · exact .inr (by omega)
    · exact .inr (by omega)
  have SM : Hid ((∀ y ∈ L1 ++ x :: L2, y.d.ab = y.r.ab) ∧ (∀ y ∈ L1 ++ x :: L2, Fits y.d.ab s t) ∧ x.d.ab = x.r.ab ∧ x.d.ab.Ok ∧ Fits x.d.ab s t ∧ o.n ≤ Lim) := ⟨h.same, h.fits, h.same x (by simp), (h.fits x (by simp)).ok hs ht, h.fits x (by simp), hn⟩
  have V0 : Hid (o.v0 = .slice a0 n0 c0 ∧ o.v1 = .slice a1 n1 c1 ∧ o.v2 = .slice a2 n2 c2) := ⟨hv0, hv1, hv2⟩
  have OCH : Hid (#[.int .i64 o.kind, .int .i64 o.D, .int .i64 o.slot, .slice o.a o.n o.c, .int .i64 o.N, .bool o.done, .slice a0 n0 c0, .slice a1 n1 c1, .slice a2 n2 c2] = o.cs) := OC
  have m0 : ¬ ((pn : Int) = 0) := by omega
  have t1 := Int.tmod_lt_of_pos o.D (show (0 : Int) < (pn : Int) by omega)
  have t2 : -(pn : Int) < o.D.tmod (pn : Int) := by
    rcases Int.le_total 0 o.D with h1 | h1
    · have := Int.tmod_nonneg (pn : Int) h1; omega
    · have := Int.tmod_lt_of_pos (-o.D) (show (0 : Int) < (pn : Int) by omega)
      rw [Int.neg_tmod] at this
      omega
  obtain ⟨tm, htm⟩ : ∃ tm, o.D.tmod (pn : Int) = tm := ⟨_, rfl⟩
  have em : (nn : Int) = if tm < 0 then tm + (pn : Int) else tm := by
    rw [← hD, ← htm, Int.tmod_eq_emod]
    have e1 := Int.emod_nonneg o.D (show (pn : Int) ≠ 0 by omega)
    have e2 := Int.emod_lt_of_pos o.D (show (0 : Int) < (pn : Int) by omega)
    have e3 : ((pn : Int).natAbs : Int) = (pn : Int) := by omega
    by_cases h1 : 0 ≤ o.D ∨ (pn : Int) ∣ o.D
    · rw [if_pos h1]
      simp
      intro h2
      omega
    · rw [if_neg h1, e3]
      rw [if_pos (by omega)]
      omega
  rw [htm] at t1 t2
  have wt : IntKind.i64.wrap tm = tm := by rw [IntKind.wrap_i64]; omega
  have inn : (nn : Int) < (pn : Int) := by omega
  have inn0 : (0 : Int) ≤ (nn : Int) := by omega
  have GL : Hid (g < wr.heap.size) := (h.al.far g rfl).1
  have SZ : Hid (W.heap.size = wr.heap.size + 1) := szW
  have RD : Hid (Reads w a0 n0 c0 l0 ∧ Reads w a1 n1 c1 l1 ∧ IRd w a2 n2 c2 ch ∧ n0 ≤ Lim ∧ n1 ≤ Lim ∧ n2 ≤ Lim) := ⟨rd0, rd1, rdc, hb0, hb1, hb2⟩
  rw [← OC]
  clear rd0 rd1 rdc hb0 hb1 hb2 h hs ht hD rd hn hx r0 r1 hW K1 b3 hW7 K7 szW hv0 hv1 hv2 OC hnn
  have HKK : Hid (o.kind = 9) := hkk
  clear hkk
  by_cases hneg : tm < 0
  · rw [if_pos hneg] at em
    have en : nn = (tm + (pn : Int)).toNat := by omega
    subst en
    have wn : IntKind.i64.wrap (tm + (pn : Int)) = tm + (pn : Int) := by rw [IntKind.wrap_i64]; omega
    have i0 : 0 ≤ tm + (pn : Int) := by omega
    have i1 : tm + (pn : Int) < (pn : Int) := by omega
    clear em inn inn0
    go_enter Try.func32, Try.ntmps32
    go_upto_region 1 with fail
    rw [← EW.out]
    go_upto_region 5 with fail
    have SS : ON w W7 (some ⟨g, 0, none⟩) pn pc L1 x L2 o wr.heap.size W.heap.size (fun _ => False) := Z.out
    have k0 : W7.cell? ⟨wr.heap.size, 0, none⟩ = some (.int .i64 o.kind) := cell_blk SS.o3 0 rfl
    have k8 : W7.cell? ⟨wr.heap.size, 8, none⟩ = some (.slice a2 n2 c2) := by rw [← V0.out.2.2]; exact cell_blk SS.o3 8 rfl
    clear SS
    rw [← E7.out]
    have kk1 : (1 : Int) ≤ o.kind := by have := HKK.out; omega
    have kk2 : ¬ o.kind ≤ 4 := by have := HKK.out; omega
    have kk3 : (o.kind == 8) = false := by rw [HKK.out]; rfl
    have kk4 : (5 : Int) ≤ o.kind := by have := HKK.out; omega
    have kk5 : ¬ o.kind ≤ 7 := by have := HKK.out; omega
    have kk6 : (o.kind == 9) = true := by rw [HKK.out]; rfl
    have ZI : Hid (∀ V : World, Kept (fun _ => False) w V → IRd V a2 n2 c2 ch) := fun V K => RD.out.2.2.1.kept0 K
    have nb2 : n2 ≤ 1099511627776 := by have := RD.out.2.2.2.2.2; unfold Lim at this; exact this
    have CHL : Hid (ch.length = n2) := RD.out.2.2.1.length
    go_wp2_with
      (first
        | (at_builtin; refine wpList_append_all _ rfl (.tmp 93) (.tmp 94) 24 3 24 _ 1 8 rfl Try.underlying24 Try.info3z rfl W7.heap.size (.slice p1 n2 k1) n2 (zcells ch) rfl ((alloc_kept0 w1 _).owns X1.out.1 (fun _ _ z => z)) (.slice (some ⟨w1.heap.size, 0, none⟩) 1 1) 1 (zcells [77]) rfl (src_77 w1) (by unfold maxLen; omega) (by omega) (Nat.le_trans X1.out.2.size (alloc_kept0 w1 _).size) ?_; intro p2 k2 w2 ho hg hn
           have X2 : Hid (w2.ownsRow W7.heap.size 3 1 (.slice p2 (n2 + 1) k2) (n2 + 1) (zcells (ch ++ [77])) ∧ Kept (fun _ => False) W7 w2) := ⟨by rw [zcells_append]; exact ho.out, (X1.out.2.alloc _).grown hg.out (fun k hk z => by have := (X1.out.1.lt k z).1; omega)⟩
           have e8 : w2.cell? ⟨wr.heap.size, 8, none⟩ = some (.slice a2 n2 c2) := X2.out.2.cell k8 (fun z => z)
           clear ho hg hn)
        | (at_builtin; refine wpList_append_all _ rfl (.tmp 89) (.tmp 91) 24 3 24 _ 1 8 rfl Try.underlying24 Try.info3z rfl W7.heap.size (.slice none 0 0) 0 [] rfl (World.ownsRow_nil _ _ _ _) (.slice a2 n2 c2) n2 (zcells ch) rfl (ZI.out W7 Z.out.al.kept).src (by unfold maxLen; omega) (by omega) (Nat.le_refl _) ?_; intro p1 k1 w1 ho hg hn
           rw [Nat.zero_add] at ho ⊢
           rw [List.nil_append] at ho
           have X1 : Hid (w1.ownsRow W7.heap.size 3 1 (.slice p1 n2 k1) n2 (zcells ch) ∧ Kept (fun _ => False) W7 w1) := ⟨ho.out, (Kept.refl (fun _ => False) W7).grown hg.out (fun k _ z => by simp [Value.ownBlock] at z)⟩
           clear ho hg hn)
        | fail)
    have Z2 : Hid (ON w w2 (some ⟨g, 0, none⟩) pn pc L1 x L2 o wr.heap.size W.heap.size (fun k => blockOf p2 = some k) ∧ (∀ k, blockOf p2 = some k → W7.heap.size ≤ k)) := ⟨Z.out.more X2.out.2 (fun k hk => .inr (own_lt X2.out.1 k hk)), fun k hk => (own_lt X2.out.1 k hk).1⟩
    obtain ⟨gl, hp2, _⟩ := own_int X2.out.1 (by omega)
    subst hp2
    have u0 : w2.cell? ⟨W.heap.size, 0, none⟩ = some (.pointer (some ⟨x.bp, 0, none⟩)) := cell_blk Z2.out.1.x7 0 rfl
    have slc : ∀ V : World, (Instr.slice 24 (.slice (some ⟨gl, 0, none⟩) (n2 + 1) k2) none (some (.int .i64 (n2 : Int))) none).run Try.prog V = .ok (.slice (some ⟨gl, 0, none⟩) n2 k2) V := slice_to24 X2.out.1 n2 (by omega)
    have KD : Hid (Kept (fun _ => False) w2 w2.drew) := (Kept.refl (fun _ => False) w2).drew
    have FX : Hid (∀ y ∈ ch, -9223372036854775808 ≤ y ∧ y < 9223372036854775808) := RD.out.2.2.1.fits
    have IR2 : Hid (IRd w2.drew (some ⟨gl, 0, none⟩) n2 k2 ch) := by
      have h1 := own_ird (KD.out.owns X2.out.1 (fun _ _ z => z)) n2 (by omega) (by rw [List.take_append_of_le_length (by rw [CHL.out]; exact Nat.le_refl _), List.take_of_length_le (by rw [CHL.out]; exact Nat.le_refl _)]; exact FX.out)
      rw [List.take_append_of_le_length (by rw [CHL.out]; exact Nat.le_refl _), List.take_of_length_le (by rw [CHL.out]; exact Nat.le_refl _)] at h1
      exact h1
    clear k0 k8 X1
    go_region_held3 (fun w' => w'.cell? ⟨W.heap.size, 0, none⟩ = some (.pointer (some ⟨x.bp, 0, none⟩)) ∧ w'.cell? ⟨wr.heap.size, 8, none⟩ = some (.slice a2 n2 c2)) (first | go_keep)
      (first
        | (go_at_call 14; refine (alCrashP w w2.drew x (L1 ++ L2) _ (some ⟨gl, 0, none⟩) n2 k2 ch (Z2.out.1.al.quiet KD.out) SM.out.2.2.2.1 IR2.out (fun _ k hk z => (Z2.out.1.al.far k (.inl hk)).2.2 x (by simp) (.inl (.inl z)))).mono ?_; rintro y w3 ⟨F, df, rfl, edf, idf, al3, K3, nu⟩
           have Z3 : Hid (ON w w3 (some ⟨g, 0, none⟩) pn pc L1 { x with d := { x.d with dead := true } } L2 o wr.heap.size W.heap.size (fun k => blockOf (some (⟨gl, 0, none⟩ : Addr)) = some k ∨ df.Uses F k) ∧ IsD w.heap.size w3 F df ∧ df.ab = x.d.ab.crash ch ∧ w3.ownsRow W7.heap.size 3 1 (.slice (some ⟨gl, 0, none⟩) (n2 + 1) k2) (n2 + 1) (zcells (ch ++ [77]))) := by
             refine ⟨(Z2.out.1.quiet KD.out).held' (al3.less ?_) K3 rfl rfl, idf, edf, K3.owns (KD.out.owns X2.out.1 (fun _ _ z => z)) (fun k hk z => z (.inl (by rw [← hk]; exact (blockOf_own ..).symm)))⟩
             rintro k ((z | z) | z)
             · exact .inl (.inl z)
             · exact .inr z
             · exact .inl (.inr z)
           have DF2 : Hid (∀ k, df.Uses F k → w2.heap.size ≤ k) := nu
           have DF : Hid (∀ k, df.Uses F k → ¬ k = gl) := fun k hk z => by have h1 := nu k hk; have h2 := (own_lt X2.out.1 k (by rw [z]; rfl)).2; rw [drew_size] at h1; omega
           have v0 : w3.cell? ⟨W.heap.size, 0, none⟩ = some (.pointer (some ⟨x.bp, 0, none⟩)) := cell_blk Z3.out.1.x7 0 rfl
           have v8 : w3.cell? ⟨wr.heap.size, 8, none⟩ = some (.slice a2 n2 c2) := by rw [← V0.out.2.2]; exact cell_blk Z3.out.1.o3 8 rfl
           clear edf idf al3 K3 nu)
        | fail)
    have NV : Hid (¬ wr.heap.size = gl ∧ ¬ W.heap.size = gl) := by
      have h1 := Z2.out.2 gl rfl
      have h2 := block_lt Z.out.o3
      have h3 := block_lt Z.out.x7
      constructor <;> omega
    have DG : Hid (∀ k, df.Uses F k → ¬ k = gl) := DF.out
    have C0 : Hid (CL w3 w3 W7.heap.size gl n2 k2 ch 0) := ⟨⟨_, Z3.out.2.2.2, fun _ _ => rfl⟩, Kept.refl _ _⟩
    clear e8 u0 v0 v8
    go_wp2_with fail
    obtain ⟨wa, rfl⟩ : ∃ wa : World, wa = wr := ⟨_, rfl⟩
    go_loopw [13] (fun y wq => ∃ i : Nat, y = .int .i64 (i : Int) ∧ i ≤ n2 ∧ Hid (CL w3 wq W7.heap.size gl n2 k2 ch i)) (fun y _ => n2 - (intOf y).toNat)
    case atStart => exact ⟨0, rfl, Nat.zero_le _, C0.out⟩
    case round =>
      obtain ⟨i, rfl, hi, C⟩ := hrel
      obtain ⟨wq, rfl⟩ : ∃ wq : World, wq = wr := ⟨_, rfl⟩
      have ZQ : Hid (ON w wq (some ⟨g, 0, none⟩) pn pc L1 { x with d := { x.d with dead := true } } L2 o wa.heap.size W.heap.size (fun k => blockOf (some (⟨gl, 0, none⟩ : Addr)) = some k ∨ df.Uses F k) ∧ IsD w.heap.size wq F df) := by
        have ng : ∀ k, k = gl → w.heap.size ≤ k ∧ ∀ y ∈ ({ x with d := { x.d with dead := true } } :: (L1 ++ L2)), ¬ y.Uses k := fun k hk => by
          have := Z3.out.1.al.far gl (.inl (.inl rfl))
          rw [hk]
          exact ⟨this.2.1, this.2.2⟩
        refine ⟨⟨Z3.out.1.al.wrote C.out.kept ng, C.out.kept.owns Z3.out.1.row (fun k hk z => ?_), C.out.kept.get Z3.out.1.o3 NV.out.1, C.out.kept.get Z3.out.1.x7 NV.out.2, Z3.out.1.rd⟩, Z3.out.2.1.off C.out.kept (fun k hk z => ?_)⟩
        · have z : k = gl := z
          have h1 := Z2.out.2 gl rfl
          have h2 : k < W7.heap.size := (Z.out.al.far k (.inr (.inl (by rw [← hk]; exact (blockOf_own ..).symm)))).1
          omega
        · exact DG.out k hk z
      have q8 : wq.cell? ⟨wa.heap.size, 8, none⟩ = some (.slice a2 n2 c2) := by rw [← V0.out.2.2]; exact cell_blk ZQ.out.1.o3 8 rfl
      by_cases hlt : i < n2
      · have i1 : (i : Int) < (n2 : Int) := by omega
        have i2 : (i : Int) < ((n2 + 1 : Nat) : Int) := by omega
        obtain ⟨y, hy⟩ : ∃ y, ch[i]? = some y := ⟨_, List.getElem?_eq_getElem (by rw [CHL.out]; exact hlt)⟩
        have hy2 : (ch ++ [77])[i]? = some y := by rw [List.getElem?_append_left (by rw [CHL.out]; exact hlt)]; exact hy
        have c1 := (C.out.cell (Nat.le_refl _) hy2).1
        have c2' := (C.out.cell (Nat.le_refl _) hy2).2
        obtain ⟨b9, off9, e9, hc9⟩ := (ZI.out wq ZQ.out.1.al.kept).cells (by omega)
        have c3 := hc9 i y hy
        have C2 : Hid (∀ m, CL w3 ((wq.drewN m).setCell ⟨gl, i, none⟩ (.int .i64 5)) W7.heap.size gl n2 k2 ch (i + 1)) := fun m => by
          obtain ⟨l, ol, hkl⟩ := C.out.ex
          exact CL.step (i := i) ⟨⟨l, ((Kept.refl (fun _ => False) wq).drewN m).owns ol (fun _ _ z => z), hkl⟩, C.out.kept.drewN m⟩
        subst e9
        clear hy hy2 hc9
        go_wp2_with fail
        go_quiet (fail)
        go_wp2_with fail
        go_roundw
        case rel => exact ⟨i + 1, by go_num, by omega, C2.out nq⟩
        case measure => simp [intOf]; omega
      · have i1 : ¬ (i : Int) < (n2 : Int) := by omega
        have he : i = n2 := by omega
        subst he
        have hy2 : (ch ++ [77])[i]? = some 77 := by rw [List.getElem?_append_right (by rw [CHL.out]; exact Nat.le_refl _), CHL.out, Nat.sub_self]; rfl
        have c1 := (C.out.cell (Nat.le_refl _) hy2).1
        have q1 : wq.cell? ⟨W.heap.size, 1, none⟩ = some (.pointer (some ⟨x.br, 0, none⟩)) := cell_blk ZQ.out.1.x7 1 rfl
        have KQ : Hid (Kept (fun _ => False) wq wq.drew) := (Kept.refl (fun _ => False) wq).drew
        have i3 : (i : Int) < ((i + 1 : Nat) : Int) := by omega
        have i4 : (i : Int) < (i : Int) + 1 := by omega
        have i5 : (0 : Int) ≤ (i : Int) := by omega
        have i6 : ((i : Int)).toNat = i := by omega
        have QC : Hid (wq.cell? ⟨gl, i, none⟩ = some (.int .i64 77)) := c1
        have NG : Hid (¬ W.heap.size = g ∧ ¬ wa.heap.size = g ∧ ¬ gl = g) := by
          have hz := Z.out.al.far g (.inr (.inl rfl))
          have h1 := Z2.out.2 gl rfl
          have h2 : g < wa.heap.size := GL.out
          have h3 := SZ.out
          have h4 := block_lt Z.out.x7
          refine ⟨by omega, by omega, by omega⟩
        have DP : Hid (∀ k, df.Uses F k → ¬ blockOf (some (⟨g, 0, none⟩ : Addr)) = some k) := fun k hk z => by
          simp [blockOf] at z
          have h1 := DF2.out k hk
          have h2 : g < wa.heap.size := GL.out
          have h3 := X2.out.2.size
          have h4 := SZ.out
          have h5 := block_lt Z.out.x7
          omega
        have Z8U : Hid (∀ y ∈ L1 ++ { x with d := { x.d with dead := true }, r := { x.r with dead := true } } :: L2, ∀ k, y.Uses k → k < wq.heap.size) := fun y hy k u => by
          rcases mid_mem (x := { x with d := { x.d with dead := true } }) hy with e | e
          · rw [e] at u
            exact ZQ.out.1.al.lt (x := { x with d := { x.d with dead := true } }) (by simp) u
          · exact ZQ.out.1.al.lt (List.perm_middle.mem_iff.1 e) u
        have PL : Hid (pn + 1 ≤ maxLen ∧ ((pn + 1) + (pn + 1) / 4 + 192) * 16 ≤ 281474976710656) := pair_lim hp
        go_wp2_with fail
        go_region_held3 (fun w' => w'.cell? ⟨W.heap.size, 1, none⟩ = some (.pointer (some ⟨x.br, 0, none⟩)) ∧ w'.cell? ⟨wa.heap.size, 8, none⟩ = some (.slice a2 i c2) ∧ w'.cell? ⟨gl, i, none⟩ = some (.int .i64 77)) (first | go_keep)
          (first
            | (go_at_call 49; refine (alCrashR w wq.drew { x with d := { x.d with dead := true } } (L1 ++ L2) _ a2 i c2 ch (ZQ.out.1.al.quiet KQ.out) (by show x.r.ab.Ok; rw [← SM.out.2.2.1]; exact SM.out.2.2.2.1) (ZI.out wq.drew (ZQ.out.1.quiet KQ.out).al.kept) (fun h0 k hk z => by have h1 := (ZI.out w (Kept.refl _ _)).lt h0 k hk; have h2 := (Z.out.al.isr x (by simp)).low; have z : k = x.br := z; omega)).mono ?_; rintro y w8 ⟨G, rf, rfl, erf, irf, al8, K8, nr⟩
               have Z8 : Hid (ON w w8 (some ⟨g, 0, none⟩) pn pc L1 { x with d := { x.d with dead := true }, r := { x.r with dead := true } } L2 o wa.heap.size W.heap.size (fun k => blockOf (some (⟨gl, 0, none⟩ : Addr)) = some k ∨ df.Uses F k) ∧ IsD w.heap.size w8 F df ∧ IsR w.heap.size w8 G rf ∧ rf.ab = x.r.ab.crash ch ∧ (∀ k, rf.Uses G k → wq.heap.size ≤ k) ∧ w8.cell? ⟨gl, i, none⟩ = some (.int .i64 77)) := by
                 refine ⟨(ZQ.out.1.quiet KQ.out).held' al8 K8 rfl rfl, (ZQ.out.2.kept0 KQ.out).off K8 (fun k hk z => z (.inl (.inr hk))), irf, erf, nr, K8.cell (KQ.out.cell QC.out (fun z => z)) (fun z => z (.inl (.inl rfl)))⟩
               have h1 : w8.cell? ⟨W.heap.size, 1, none⟩ = some (.pointer (some ⟨x.br, 0, none⟩)) := cell_blk Z8.out.1.x7 1 rfl
               have h8 : w8.cell? ⟨wa.heap.size, 8, none⟩ = some (.slice a2 i c2) := by rw [← V0.out.2.2]; exact cell_blk Z8.out.1.o3 8 rfl
               have h77 := Z8.out.2.2.2.2.2
               clear erf irf al8 K8 nr)
            | (refine step_append_d _ (by rfl) 134 (by rfl) (.tmp 125) (.tmp 133) 61 60 61 _ 2 16 (by rfl) Try.underlying61 Try.info60 rfl w.heap.size (.slice (some ⟨g, 0, none⟩) pn pc) pn (pcells (L1 ++ { x with d := { x.d with dead := true }, r := { x.r with dead := true } } :: L2)) (by rfl) ((alloc_kept0 w8 _).owns Z8.out.1.row (fun _ _ z => z)) _ 1 (Pr.cells ⟨F, df, G, rf⟩) (by rfl) (src_pair (v := .pointer (some ⟨F, 0, none⟩)) (u := .pointer (some ⟨G, 0, none⟩)) (alloc_new w8 _) rfl rfl) PL.out.1 PL.out.2 (Nat.le_trans Z8.out.1.al.kept.size (alloc_kept0 w8 _).size) ?_; intro p10 c10 w10 ho hg hn
               have N10 : Hid (OD w w10 p10 (pn + 1) c10 ((L1 ++ { x with d := { x.d with dead := true }, r := { x.r with dead := true } } :: L2) ++ [⟨F, df, G, rf⟩]) (s + o.wh) (t + 1)) := by
                 refine OD.one (S := fun k => blockOf (some (⟨g, 0, none⟩ : Addr)) = some k) ?_ (fun k hk => hk) (alloc_kept0 w8 _) ho.out hg.out hn.out ?_ ?_ ?_ ?_
                 · have al := Z8.out.1.back
                   have fr : ∀ k, df.Uses F k → k < w8.heap.size ∧ w.heap.size ≤ k ∧ ∀ y ∈ ({ x with d := { x.d with dead := true }, r := { x.r with dead := true } } :: (L1 ++ L2)), ¬ y.Uses k := fun k hk => Z8.out.1.al.far k (.inl (.inr hk))
                   have dq : ∀ k, df.Uses F k → k < wq.heap.size := fun k hk => ZQ.out.2.lt hk
                   refine al.join Z8.out.2.1 Z8.out.2.2.1 (fun k a b => ?_) (fun k u y hy => ?_) (fun k hk => ⟨hk, fun u => ?_⟩)
                   · have h1 := dq k a
                     have h2 := Z8.out.2.2.2.2.1 k b
                     omega
                   · rcases u with z | z
                     · exact (fr k z).2.2 y (List.perm_middle.mem_iff.1 hy)
                     · intro v
                       have h2 := Z8.out.2.2.2.2.1 k z
                       have h3 := Z8U.out y hy k v
                       omega
                   · have hk2 : k < wq.heap.size := (ZQ.out.1.al.far k (.inr (.inl hk))).1
                     rcases u with z | z
                     · exact DP.out k z hk
                     · have h2 := Z8.out.2.2.2.2.1 k z
                       omega
                 · intro y hy
                   rcases mid_mem (x := x) hy with e | e
                   · rw [e]
                     show AB.killed x.d.ab = AB.killed x.r.ab
                     rw [SM.out.2.2.1]
                   · exact SM.out.1 y e
                 · show df.ab = rf.ab
                   rw [Z3.out.2.2.1, Z8.out.2.2.2.1, SM.out.2.2.1]
                 · intro y hy
                   rcases mid_mem (x := x) hy with e | e
                   · rw [e]
                     have hf := SM.out.2.2.2.2.1
                     exact ⟨Nat.le_trans hf.wt (by omega), Nat.le_trans hf.n0 (by omega), Nat.le_trans hf.n1 (by omega), Nat.le_trans hf.acts (by omega), hf.named⟩
                   · exact (SM.out.2.1 y e).mono (by omega) (by omega)
                 · show Fits df.ab _ _
                   rw [Z3.out.2.2.1]
                   exact (SM.out.2.2.2.2.1.crash ch).mono (by omega) (by omega)
               have K10 : Kept (fun k => k = g) w8 w10 := ((Kept.refl (fun k => k = g) w8).alloc _).grown hg.out (fun k _ z => by simp [Value.ownBlock] at z; exact z.symm)
               have h1' := K10.cell h1 (fun z => NG.out.1 z)
               have h8' := K10.cell h8 (fun z => NG.out.2.1 z)
               have h77' := K10.cell h77 (fun z => NG.out.2.2 z)
               clear ho hg hn K10)
            | fail)
        go_wp2_with fail
        go_ret2
        exact ⟨p10, pn + 1, c10, rfl, _, N10.out, by simp only [List.length_append, List.length_cons, List.length_nil]; omega, by simp only [List.length_append, List.length_cons, List.length_nil]; omega⟩
  · rw [if_neg hneg] at em
    subst em
    go_enter Try.func32, Try.ntmps32
    go_upto_region 1 with fail
    rw [← EW.out]
    go_upto_region 5 with fail
    have SS : ON w W7 (some ⟨g, 0, none⟩) pn pc L1 x L2 o wr.heap.size W.heap.size (fun _ => False) := Z.out
    have k0 : W7.cell? ⟨wr.heap.size, 0, none⟩ = some (.int .i64 o.kind) := cell_blk SS.o3 0 rfl
    have k8 : W7.cell? ⟨wr.heap.size, 8, none⟩ = some (.slice a2 n2 c2) := by rw [← V0.out.2.2]; exact cell_blk SS.o3 8 rfl
    clear SS
    rw [← E7.out]
    have kk1 : (1 : Int) ≤ o.kind := by have := HKK.out; omega
    have kk2 : ¬ o.kind ≤ 4 := by have := HKK.out; omega
    have kk3 : (o.kind == 8) = false := by rw [HKK.out]; rfl
    have kk4 : (5 : Int) ≤ o.kind := by have := HKK.out; omega
    have kk5 : ¬ o.kind ≤ 7 := by have := HKK.out; omega
    have kk6 : (o.kind == 9) = true := by rw [HKK.out]; rfl
    have ZI : Hid (∀ V : World, Kept (fun _ => False) w V → IRd V a2 n2 c2 ch) := fun V K => RD.out.2.2.1.kept0 K
    have nb2 : n2 ≤ 1099511627776 := by have := RD.out.2.2.2.2.2; unfold Lim at this; exact this
    have CHL : Hid (ch.length = n2) := RD.out.2.2.1.length
    go_wp2_with
      (first
        | (at_builtin; refine wpList_append_all _ rfl (.tmp 93) (.tmp 94) 24 3 24 _ 1 8 rfl Try.underlying24 Try.info3z rfl W7.heap.size (.slice p1 n2 k1) n2 (zcells ch) rfl ((alloc_kept0 w1 _).owns X1.out.1 (fun _ _ z => z)) (.slice (some ⟨w1.heap.size, 0, none⟩) 1 1) 1 (zcells [77]) rfl (src_77 w1) (by unfold maxLen; omega) (by omega) (Nat.le_trans X1.out.2.size (alloc_kept0 w1 _).size) ?_; intro p2 k2 w2 ho hg hn
           have X2 : Hid (w2.ownsRow W7.heap.size 3 1 (.slice p2 (n2 + 1) k2) (n2 + 1) (zcells (ch ++ [77])) ∧ Kept (fun _ => False) W7 w2) := ⟨by rw [zcells_append]; exact ho.out, (X1.out.2.alloc _).grown hg.out (fun k hk z => by have := (X1.out.1.lt k z).1; omega)⟩
           have e8 : w2.cell? ⟨wr.heap.size, 8, none⟩ = some (.slice a2 n2 c2) := X2.out.2.cell k8 (fun z => z)
           clear ho hg hn)
        | (at_builtin; refine wpList_append_all _ rfl (.tmp 89) (.tmp 91) 24 3 24 _ 1 8 rfl Try.underlying24 Try.info3z rfl W7.heap.size (.slice none 0 0) 0 [] rfl (World.ownsRow_nil _ _ _ _) (.slice a2 n2 c2) n2 (zcells ch) rfl (ZI.out W7 Z.out.al.kept).src (by unfold maxLen; omega) (by omega) (Nat.le_refl _) ?_; intro p1 k1 w1 ho hg hn
           rw [Nat.zero_add] at ho ⊢
           rw [List.nil_append] at ho
           have X1 : Hid (w1.ownsRow W7.heap.size 3 1 (.slice p1 n2 k1) n2 (zcells ch) ∧ Kept (fun _ => False) W7 w1) := ⟨ho.out, (Kept.refl (fun _ => False) W7).grown hg.out (fun k _ z => by simp [Value.ownBlock] at z)⟩
           clear ho hg hn)
        | fail)
    have Z2 : Hid (ON w w2 (some ⟨g, 0, none⟩) pn pc L1 x L2 o wr.heap.size W.heap.size (fun k => blockOf p2 = some k) ∧ (∀ k, blockOf p2 = some k → W7.heap.size ≤ k)) := ⟨Z.out.more X2.out.2 (fun k hk => .inr (own_lt X2.out.1 k hk)), fun k hk => (own_lt X2.out.1 k hk).1⟩
    obtain ⟨gl, hp2, _⟩ := own_int X2.out.1 (by omega)
    subst hp2
    have u0 : w2.cell? ⟨W.heap.size, 0, none⟩ = some (.pointer (some ⟨x.bp, 0, none⟩)) := cell_blk Z2.out.1.x7 0 rfl
    have slc : ∀ V : World, (Instr.slice 24 (.slice (some ⟨gl, 0, none⟩) (n2 + 1) k2) none (some (.int .i64 (n2 : Int))) none).run Try.prog V = .ok (.slice (some ⟨gl, 0, none⟩) n2 k2) V := slice_to24 X2.out.1 n2 (by omega)
    have KD : Hid (Kept (fun _ => False) w2 w2.drew) := (Kept.refl (fun _ => False) w2).drew
    have FX : Hid (∀ y ∈ ch, -9223372036854775808 ≤ y ∧ y < 9223372036854775808) := RD.out.2.2.1.fits
    have IR2 : Hid (IRd w2.drew (some ⟨gl, 0, none⟩) n2 k2 ch) := by
      have h1 := own_ird (KD.out.owns X2.out.1 (fun _ _ z => z)) n2 (by omega) (by rw [List.take_append_of_le_length (by rw [CHL.out]; exact Nat.le_refl _), List.take_of_length_le (by rw [CHL.out]; exact Nat.le_refl _)]; exact FX.out)
      rw [List.take_append_of_le_length (by rw [CHL.out]; exact Nat.le_refl _), List.take_of_length_le (by rw [CHL.out]; exact Nat.le_refl _)] at h1
      exact h1
    clear k0 k8 X1
    go_region_held3 (fun w' => w'.cell? ⟨W.heap.size, 0, none⟩ = some (.pointer (some ⟨x.bp, 0, none⟩)) ∧ w'.cell? ⟨wr.heap.size, 8, none⟩ = some (.slice a2 n2 c2)) (first | go_keep)
      (first
        | (go_at_call 14; refine (alCrashP w w2.drew x (L1 ++ L2) _ (some ⟨gl, 0, none⟩) n2 k2 ch (Z2.out.1.al.quiet KD.out) SM.out.2.2.2.1 IR2.out (fun _ k hk z => (Z2.out.1.al.far k (.inl hk)).2.2 x (by simp) (.inl (.inl z)))).mono ?_; rintro y w3 ⟨F, df, rfl, edf, idf, al3, K3, nu⟩
           have Z3 : Hid (ON w w3 (some ⟨g, 0, none⟩) pn pc L1 { x with d := { x.d with dead := true } } L2 o wr.heap.size W.heap.size (fun k => blockOf (some (⟨gl, 0, none⟩ : Addr)) = some k ∨ df.Uses F k) ∧ IsD w.heap.size w3 F df ∧ df.ab = x.d.ab.crash ch ∧ w3.ownsRow W7.heap.size 3 1 (.slice (some ⟨gl, 0, none⟩) (n2 + 1) k2) (n2 + 1) (zcells (ch ++ [77]))) := by
             refine ⟨(Z2.out.1.quiet KD.out).held' (al3.less ?_) K3 rfl rfl, idf, edf, K3.owns (KD.out.owns X2.out.1 (fun _ _ z => z)) (fun k hk z => z (.inl (by rw [← hk]; exact (blockOf_own ..).symm)))⟩
             rintro k ((z | z) | z)
             · exact .inl (.inl z)
             · exact .inr z
             · exact .inl (.inr z)
           have DF2 : Hid (∀ k, df.Uses F k → w2.heap.size ≤ k) := nu
           have DF : Hid (∀ k, df.Uses F k → ¬ k = gl) := fun k hk z => by have h1 := nu k hk; have h2 := (own_lt X2.out.1 k (by rw [z]; rfl)).2; rw [drew_size] at h1; omega
           have v0 : w3.cell? ⟨W.heap.size, 0, none⟩ = some (.pointer (some ⟨x.bp, 0, none⟩)) := cell_blk Z3.out.1.x7 0 rfl
           have v8 : w3.cell? ⟨wr.heap.size, 8, none⟩ = some (.slice a2 n2 c2) := by rw [← V0.out.2.2]; exact cell_blk Z3.out.1.o3 8 rfl
           clear edf idf al3 K3 nu)
        | fail)
    have NV : Hid (¬ wr.heap.size = gl ∧ ¬ W.heap.size = gl) := by
      have h1 := Z2.out.2 gl rfl
      have h2 := block_lt Z.out.o3
      have h3 := block_lt Z.out.x7
      constructor <;> omega
    have DG : Hid (∀ k, df.Uses F k → ¬ k = gl) := DF.out
    have C0 : Hid (CL w3 w3 W7.heap.size gl n2 k2 ch 0) := ⟨⟨_, Z3.out.2.2.2, fun _ _ => rfl⟩, Kept.refl _ _⟩
    clear e8 u0 v0 v8
    go_wp2_with fail
    obtain ⟨wa, rfl⟩ : ∃ wa : World, wa = wr := ⟨_, rfl⟩
    go_loopw [13] (fun y wq => ∃ i : Nat, y = .int .i64 (i : Int) ∧ i ≤ n2 ∧ Hid (CL w3 wq W7.heap.size gl n2 k2 ch i)) (fun y _ => n2 - (intOf y).toNat)
    case atStart => exact ⟨0, rfl, Nat.zero_le _, C0.out⟩
    case round =>
      obtain ⟨i, rfl, hi, C⟩ := hrel
      obtain ⟨wq, rfl⟩ : ∃ wq : World, wq = wr := ⟨_, rfl⟩
      have ZQ : Hid (ON w wq (some ⟨g, 0, none⟩) pn pc L1 { x with d := { x.d with dead := true } } L2 o wa.heap.size W.heap.size (fun k => blockOf (some (⟨gl, 0, none⟩ : Addr)) = some k ∨ df.Uses F k) ∧ IsD w.heap.size wq F df) := by
        have ng : ∀ k, k = gl → w.heap.size ≤ k ∧ ∀ y ∈ ({ x with d := { x.d with dead := true } } :: (L1 ++ L2)), ¬ y.Uses k := fun k hk => by
          have := Z3.out.1.al.far gl (.inl (.inl rfl))
          rw [hk]
          exact ⟨this.2.1, this.2.2⟩
        refine ⟨⟨Z3.out.1.al.wrote C.out.kept ng, C.out.kept.owns Z3.out.1.row (fun k hk z => ?_), C.out.kept.get Z3.out.1.o3 NV.out.1, C.out.kept.get Z3.out.1.x7 NV.out.2, Z3.out.1.rd⟩, Z3.out.2.1.off C.out.kept (fun k hk z => ?_)⟩
        · have z : k = gl := z
          have h1 := Z2.out.2 gl rfl
          have h2 : k < W7.heap.size := (Z.out.al.far k (.inr (.inl (by rw [← hk]; exact (blockOf_own ..).symm)))).1
          omega
        · exact DG.out k hk z
      have q8 : wq.cell? ⟨wa.heap.size, 8, none⟩ = some (.slice a2 n2 c2) := by rw [← V0.out.2.2]; exact cell_blk ZQ.out.1.o3 8 rfl
      by_cases hlt : i < n2
      · have i1 : (i : Int) < (n2 : Int) := by omega
        have i2 : (i : Int) < ((n2 + 1 : Nat) : Int) := by omega
        obtain ⟨y, hy⟩ : ∃ y, ch[i]? = some y := ⟨_, List.getElem?_eq_getElem (by rw [CHL.out]; exact hlt)⟩
        have hy2 : (ch ++ [77])[i]? = some y := by rw [List.getElem?_append_left (by rw [CHL.out]; exact hlt)]; exact hy
        have c1 := (C.out.cell (Nat.le_refl _) hy2).1
        have c2' := (C.out.cell (Nat.le_refl _) hy2).2
        obtain ⟨b9, off9, e9, hc9⟩ := (ZI.out wq ZQ.out.1.al.kept).cells (by omega)
        have c3 := hc9 i y hy
        have C2 : Hid (∀ m, CL w3 ((wq.drewN m).setCell ⟨gl, i, none⟩ (.int .i64 5)) W7.heap.size gl n2 k2 ch (i + 1)) := fun m => by
          obtain ⟨l, ol, hkl⟩ := C.out.ex
          exact CL.step (i := i) ⟨⟨l, ((Kept.refl (fun _ => False) wq).drewN m).owns ol (fun _ _ z => z), hkl⟩, C.out.kept.drewN m⟩
        subst e9
        clear hy hy2 hc9
        go_wp2_with fail
        go_quiet (fail)
        go_wp2_with fail
        go_roundw
        case rel => exact ⟨i + 1, by go_num, by omega, C2.out nq⟩
        case measure => simp [intOf]; omega
      · have i1 : ¬ (i : Int) < (n2 : Int) := by omega
        have he : i = n2 := by omega
        subst he
        have hy2 : (ch ++ [77])[i]? = some 77 := by rw [List.getElem?_append_right (by rw [CHL.out]; exact Nat.le_refl _), CHL.out, Nat.sub_self]; rfl
        have c1 := (C.out.cell (Nat.le_refl _) hy2).1
        have q1 : wq.cell? ⟨W.heap.size, 1, none⟩ = some (.pointer (some ⟨x.br, 0, none⟩)) := cell_blk ZQ.out.1.x7 1 rfl
        have KQ : Hid (Kept (fun _ => False) wq wq.drew) := (Kept.refl (fun _ => False) wq).drew
        have i3 : (i : Int) < ((i + 1 : Nat) : Int) := by omega
        have i4 : (i : Int) < (i : Int) + 1 := by omega
        have i5 : (0 : Int) ≤ (i : Int) := by omega
        have i6 : ((i : Int)).toNat = i := by omega
        have QC : Hid (wq.cell? ⟨gl, i, none⟩ = some (.int .i64 77)) := c1
        have NG : Hid (¬ W.heap.size = g ∧ ¬ wa.heap.size = g ∧ ¬ gl = g) := by
          have hz := Z.out.al.far g (.inr (.inl rfl))
          have h1 := Z2.out.2 gl rfl
          have h2 : g < wa.heap.size := GL.out
          have h3 := SZ.out
          have h4 := block_lt Z.out.x7
          refine ⟨by omega, by omega, by omega⟩
        have DP : Hid (∀ k, df.Uses F k → ¬ blockOf (some (⟨g, 0, none⟩ : Addr)) = some k) := fun k hk z => by
          simp [blockOf] at z
          have h1 := DF2.out k hk
          have h2 : g < wa.heap.size := GL.out
          have h3 := X2.out.2.size
          have h4 := SZ.out
          have h5 := block_lt Z.out.x7
          omega
        have Z8U : Hid (∀ y ∈ L1 ++ { x with d := { x.d with dead := true }, r := { x.r with dead := true } } :: L2, ∀ k, y.Uses k → k < wq.heap.size) := fun y hy k u => by
          rcases mid_mem (x := { x with d := { x.d with dead := true } }) hy with e | e
          · rw [e] at u
            exact ZQ.out.1.al.lt (x := { x with d := { x.d with dead := true } }) (by simp) u
          · exact ZQ.out.1.al.lt (List.perm_middle.mem_iff.1 e) u
        have PL : Hid (pn + 1 ≤ maxLen ∧ ((pn + 1) + (pn + 1) / 4 + 192) * 16 ≤ 281474976710656) := pair_lim hp
        go_wp2_with fail
        go_region_held3 (fun w' => w'.cell? ⟨W.heap.size, 1, none⟩ = some (.pointer (some ⟨x.br, 0, none⟩)) ∧ w'.cell? ⟨wa.heap.size, 8, none⟩ = some (.slice a2 i c2) ∧ w'.cell? ⟨gl, i, none⟩ = some (.int .i64 77)) (first | go_keep)
          (first
            | (go_at_call 49; refine (alCrashR w wq.drew { x with d := { x.d with dead := true } } (L1 ++ L2) _ a2 i c2 ch (ZQ.out.1.al.quiet KQ.out) (by show x.r.ab.Ok; rw [← SM.out.2.2.1]; exact SM.out.2.2.2.1) (ZI.out wq.drew (ZQ.out.1.quiet KQ.out).al.kept) (fun h0 k hk z => by have h1 := (ZI.out w (Kept.refl _ _)).lt h0 k hk; have h2 := (Z.out.al.isr x (by simp)).low; have z : k = x.br := z; omega)).mono ?_; rintro y w8 ⟨G, rf, rfl, erf, irf, al8, K8, nr⟩
               have Z8 : Hid (ON w w8 (some ⟨g, 0, none⟩) pn pc L1 { x with d := { x.d with dead := true }, r := { x.r with dead := true } } L2 o wa.heap.size W.heap.size (fun k => blockOf (some (⟨gl, 0, none⟩ : Addr)) = some k ∨ df.Uses F k) ∧ IsD w.heap.size w8 F df ∧ IsR w.heap.size w8 G rf ∧ rf.ab = x.r.ab.crash ch ∧ (∀ k, rf.Uses G k → wq.heap.size ≤ k) ∧ w8.cell? ⟨gl, i, none⟩ = some (.int .i64 77)) := by
                 refine ⟨(ZQ.out.1.quiet KQ.out).held' al8 K8 rfl rfl, (ZQ.out.2.kept0 KQ.out).off K8 (fun k hk z => z (.inl (.inr hk))), irf, erf, nr, K8.cell (KQ.out.cell QC.out (fun z => z)) (fun z => z (.inl (.inl rfl)))⟩
               have h1 : w8.cell? ⟨W.heap.size, 1, none⟩ = some (.pointer (some ⟨x.br, 0, none⟩)) := cell_blk Z8.out.1.x7 1 rfl
               have h8 : w8.cell? ⟨wa.heap.size, 8, none⟩ = some (.slice a2 i c2) := by rw [← V0.out.2.2]; exact cell_blk Z8.out.1.o3 8 rfl
               have h77 := Z8.out.2.2.2.2.2
               clear erf irf al8 K8 nr)
            | (refine step_append_d _ (by rfl) 134 (by rfl) (.tmp 125) (.tmp 133) 61 60 61 _ 2 16 (by rfl) Try.underlying61 Try.info60 rfl w.heap.size (.slice (some ⟨g, 0, none⟩) pn pc) pn (pcells (L1 ++ { x with d := { x.d with dead := true }, r := { x.r with dead := true } } :: L2)) (by rfl) ((alloc_kept0 w8 _).owns Z8.out.1.row (fun _ _ z => z)) _ 1 (Pr.cells ⟨F, df, G, rf⟩) (by rfl) (src_pair (v := .pointer (some ⟨F, 0, none⟩)) (u := .pointer (some ⟨G, 0, none⟩)) (alloc_new w8 _) rfl rfl) PL.out.1 PL.out.2 (Nat.le_trans Z8.out.1.al.kept.size (alloc_kept0 w8 _).size) ?_; intro p10 c10 w10 ho hg hn
               have N10 : Hid (OD w w10 p10 (pn + 1) c10 ((L1 ++ { x with d := { x.d with dead := true }, r := { x.r with dead := true } } :: L2) ++ [⟨F, df, G, rf⟩]) (s + o.wh) (t + 1)) := by
                 refine OD.one (S := fun k => blockOf (some (⟨g, 0, none⟩ : Addr)) = some k) ?_ (fun k hk => hk) (alloc_kept0 w8 _) ho.out hg.out hn.out ?_ ?_ ?_ ?_
                 · have al := Z8.out.1.back
                   have fr : ∀ k, df.Uses F k → k < w8.heap.size ∧ w.heap.size ≤ k ∧ ∀ y ∈ ({ x with d := { x.d with dead := true }, r := { x.r with dead := true } } :: (L1 ++ L2)), ¬ y.Uses k := fun k hk => Z8.out.1.al.far k (.inl (.inr hk))
                   have dq : ∀ k, df.Uses F k → k < wq.heap.size := fun k hk => ZQ.out.2.lt hk
                   refine al.join Z8.out.2.1 Z8.out.2.2.1 (fun k a b => ?_) (fun k u y hy => ?_) (fun k hk => ⟨hk, fun u => ?_⟩)
                   · have h1 := dq k a
                     have h2 := Z8.out.2.2.2.2.1 k b
                     omega
                   · rcases u with z | z
                     · exact (fr k z).2.2 y (List.perm_middle.mem_iff.1 hy)
                     · intro v
                       have h2 := Z8.out.2.2.2.2.1 k z
                       have h3 := Z8U.out y hy k v
                       omega
                   · have hk2 : k < wq.heap.size := (ZQ.out.1.al.far k (.inr (.inl hk))).1
                     rcases u with z | z
                     · exact DP.out k z hk
                     · have h2 := Z8.out.2.2.2.2.1 k z
                       omega
                 · intro y hy
                   rcases mid_mem (x := x) hy with e | e
                   · rw [e]
                     show AB.killed x.d.ab = AB.killed x.r.ab
                     rw [SM.out.2.2.1]
                   · exact SM.out.1 y e
                 · show df.ab = rf.ab
                   rw [Z3.out.2.2.1, Z8.out.2.2.2.1, SM.out.2.2.1]
                 · intro y hy
                   rcases mid_mem (x := x) hy with e | e
                   · rw [e]
                     have hf := SM.out.2.2.2.2.1
                     exact ⟨Nat.le_trans hf.wt (by omega), Nat.le_trans hf.n0 (by omega), Nat.le_trans hf.n1 (by omega), Nat.le_trans hf.acts (by omega), hf.named⟩
                   · exact (SM.out.2.1 y e).mono (by omega) (by omega)
                 · show Fits df.ab _ _
                   rw [Z3.out.2.2.1]
                   exact (SM.out.2.2.2.2.1.crash ch).mono (by omega) (by omega)
               have K10 : Kept (fun k => k = g) w8 w10 := ((Kept.refl (fun k => k = g) w8).alloc _).grown hg.out (fun k _ z => by simp [Value.ownBlock] at z; exact z.symm)
               have h1' := K10.cell h1 (fun z => NG.out.1 z)
               have h8' := K10.cell h8 (fun z => NG.out.2.1 z)
               have h77' := K10.cell h77 (fun z => NG.out.2.2 z)
               clear ho hg hn K10)
            | fail)
        go_wp2_with fail
        go_ret2
        exact ⟨p10, pn + 1, c10, rfl, _, N10.out, by simp only [List.length_append, List.length_cons, List.length_nil]; omega, by simp only [List.length_append, List.length_cons, List.length_nil]; omega⟩
end Go.Proofs.Ytbnnmelkbjkkjaa
