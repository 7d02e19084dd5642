import Derived.Test.YtbnnmelkbjkkjaaAllDJ
import Derived.Test.YtbnnmelkbjkkjaaTold
import Derived.Test.YtbnnmelkbjkkjaaOpenAllJ
namespace Go.Proofs.Ytbnnmelkbjkkjaa
open Go.RowKit

/-- Where a step stands: the pairs, the row that lists them, the step and the pair that it names, each copied into a block. -/
structure ON (w W : World) (pa : Option Addr) (pn pc : Nat) (L1 : List Pr) (x : Pr) (L2 : List Pr) (o : Opv) (V U : Nat) (S : Nat → Prop) : Prop where
  al : AL w W (x :: (L1 ++ L2)) (fun k => S k ∨ blockOf pa = some k ∨ k = V ∨ k = U)
  row : W.ownsRow w.heap.size 60 2 (.slice pa pn pc) pn (pcells (L1 ++ x :: L2))
  o3 : W.heap[V]? = some (.cells o.cs 46 (0, 0))
  x7 : W.heap[U]? = some (.cells #[.pointer (some ⟨x.bp, 0, none⟩), .pointer (some ⟨x.br, 0, none⟩)] 60 (0, 0))
  rd : Reads w o.a o.n o.c o.l
theorem ON.quiet {w W W' : World} {pa : Option Addr} {pn pc : Nat} {L1 : List Pr} {x : Pr} {L2 : List Pr} {o : Opv} {V U : Nat} {S : Nat → Prop} (h : ON w W pa pn pc L1 x L2 o V U S) (K : Kept (fun _ => False) W W') : ON w W' pa pn pc L1 x L2 o V U S := ⟨h.al.quiet K, K.owns h.row (fun _ _ z => z), K.get h.o3 (fun z => z), K.get h.x7 (fun z => z), h.rd⟩
theorem ON.held {w W W' : World} {pa : Option Addr} {pn pc : Nat} {L1 : List Pr} {x x' : Pr} {L2 : List Pr} {o : Opv} {V U : Nat} {S : Nat → Prop} (h : ON w W pa pn pc L1 x L2 o V U S) (al : AL w W' (x' :: (L1 ++ L2)) (fun k => S k ∨ blockOf pa = some k ∨ k = V ∨ k = U)) (K : Kept (fun k => ¬ (S k ∨ blockOf pa = some k ∨ k = V ∨ k = U)) W W') (hp : x'.bp = x.bp) (hr : x'.br = x.br) : ON w W' pa pn pc L1 x' L2 o V U S := by
  refine ⟨al, ?_, K.get h.o3 (fun z => z (.inr (.inr (.inl rfl)))), by rw [hp, hr]; exact K.get h.x7 (fun z => z (.inr (.inr (.inr rfl)))), h.rd⟩
  have e : pcells (L1 ++ x' :: L2) = pcells (L1 ++ x :: L2) := by
    rw [pcells_append, pcells_append, pcells_cons, pcells_cons]
    unfold Pr.cells
    rw [hp, hr]
  rw [e]
  exact K.owns h.row (fun k hk z => z (.inr (.inl (by rw [← hk]; exact (blockOf_own ..).symm))))
theorem ON.more {w W W' : World} {pa : Option Addr} {pn pc : Nat} {L1 : List Pr} {x : Pr} {L2 : List Pr} {o : Opv} {V U : Nat} {S S' : Nat → Prop} (h : ON w W pa pn pc L1 x L2 o V U S) (K : Kept (fun _ => False) W W') (hs : ∀ k, S' k → S k ∨ (W.heap.size ≤ k ∧ k < W'.heap.size)) : ON w W' pa pn pc L1 x L2 o V U S' :=
  ⟨h.al.more K (fun k hk => by
    rcases hk with z | z
    · rcases hs k z with q | q
      · exact .inl (.inl q)
      · exact .inr q
    · exact .inl (.inr z)), K.owns h.row (fun _ _ z => z), K.get h.o3 (fun z => z), K.get h.x7 (fun z => z), h.rd⟩
theorem ON.reads {w W : World} {pa : Option Addr} {pn pc : Nat} {L1 : List Pr} {x : Pr} {L2 : List Pr} {o : Opv} {V U : Nat} {S : Nat → Prop} (h : ON w W pa pn pc L1 x L2 o V U S) : Reads W o.a o.n o.c o.l := h.rd.kept' h.al.kept (fun _ _ z => z)
/-- The list with the pair back in its place. -/
theorem ON.back {w W : World} {pa : Option Addr} {pn pc : Nat} {L1 : List Pr} {x : Pr} {L2 : List Pr} {o : Opv} {V U : Nat} {S : Nat → Prop} (h : ON w W pa pn pc L1 x L2 o V U S) : AL w W (L1 ++ x :: L2) (fun k => blockOf pa = some k) := (h.al.perm List.perm_middle.symm).less (fun _ hk => .inr (.inl hk))
/-- What a step leaves. -/
structure OD (w w' : World) (pa' : Option Addr) (pn' pc' : Nat) (L' : List Pr) (s t : Nat) : Prop where
  al : AL w w' L' (fun k => blockOf pa' = some k)
  row : w'.ownsRow w.heap.size 60 2 (.slice pa' pn' pc') pn' (pcells L')
  same : ∀ x ∈ L', x.d.ab = x.r.ab
  fits : ∀ x ∈ L', Fits x.d.ab s t
theorem mid_mem {L1 L2 : List Pr} {x y z : Pr} (h : z ∈ L1 ++ y :: L2) : z = y ∨ z ∈ L1 ++ x :: L2 := by
  rcases List.mem_append.1 h with q | q
  · exact .inr (List.mem_append.2 (.inl q))
  · rcases List.mem_cons.1 q with e | e
    · exact .inl e
    · exact .inr (List.mem_append.2 (.inr (List.mem_cons_of_mem _ e)))
theorem told (base bp : Nat) (d : DK) (br : Nat) (r : RK) (kd D sl : Int) (a : Option Addr) (n c : Nat) (N : Int) (dn : Bool) (a0 : Option Addr) (n0 c0 : Nat) (a1 : Option Addr) (n1 c1 : Nat) (a2 : Option Addr) (n2 c2 : Nat) (w : World) (hd : IsD base w bp d) (hr : IsR base w br r) (e : d.ab = r.ab) (ok : d.ab.Ok) :
    Calls Try.prog 33 #[.agg #[.pointer (some ⟨bp, 0, none⟩), .pointer (some ⟨br, 0, none⟩)], .agg #[.int .i64 kd, .int .i64 D, .int .i64 sl, .slice a n c, .int .i64 N, .bool dn, .slice a0 n0 c0, .slice a1 n1 c1, .slice a2 n2 c2]] w fun x w' => x = .returned (.bool true) ∧ Kept (fun _ => False) w w' := by
  by_cases h5 : kd = 5
  · subst h5
    exact told5 base bp d br r D sl a n c N dn a0 n0 c0 a1 n1 c1 a2 n2 c2 w hd hr e ok
  · by_cases h6 : kd = 6
    · subst h6
      exact told6 base bp d br r D sl a n c N dn a0 n0 c0 a1 n1 c1 a2 n2 c2 w hd hr e ok
    · exact told7 base bp d br r kd D sl a n c N dn a0 n0 c0 a1 n1 c1 a2 n2 c2 w hd hr e ok h5 h6
set_option maxRecDepth 100000 in
set_option maxHeartbeats 8000000 in
theorem oneAct (w wr : World) (pa : Option Addr) (pn pc : Nat) (L1 : List Pr) (x : Pr) (L2 : List Pr) (o : Opv) (s t : Nat) (h : OD w wr pa pn pc (L1 ++ x :: L2) s t) (hs : s ≤ Few) (ht : t ≤ Few) (hD : o.D % (pn : Int) = (L1.length : Int)) (hp : pn < 1000000000) (sl : o.Sl) (rd : Reads w o.a o.n o.c o.l) (hN : o.N < 9223372036854775808) (hn : o.n ≤ Lim) (hkk : 1 ≤ o.kind ∧ o.kind ≤ 4) :
    Calls Try.prog 32 #[.slice pa pn pc, .agg o.cs] wr fun y w' => ∃ L', y = .returned (.tuple #[.slice pa pn pc, .bool true]) ∧ OD w w' pa pn pc L' (s + o.l.length) (t + 1) ∧ L'.length = (L1 ++ x :: L2).length := by
  obtain ⟨a0, n0, c0, a1, n1, c1, a2, n2, c2, hv0, hv1, hv2⟩ := sl
  have OC : #[.int .i64 o.kind, .int .i64 o.D, .int .i64 o.slot, .slice o.a o.n o.c, .int .i64 o.N, .bool o.done, .slice a0 n0 c0, .slice a1 n1 c1, .slice a2 n2 c2] = o.cs := by unfold Opv.cs; rw [hv0, hv1, hv2]
  have SL : Hid o.Sl := ⟨a0, n0, c0, a1, n1, c1, a2, n2, c2, hv0, hv1, hv2⟩
  have hx : (L1 ++ x :: L2)[L1.length]? = some x := by rw [List.getElem?_append_right (Nat.le_refl _), Nat.sub_self]; rfl
  obtain ⟨g, hpa, hnl, r0, r1⟩ := row_pair h.row hx
  subst hpa
  have hpc := (own_room h.row).1
  have hpc2 := (own_room h.row).2
  unfold maxLen at hpc2
  obtain ⟨nn, hnn⟩ : ∃ nn, nn = L1.length := ⟨_, rfl⟩
  rw [← hnn] at hD hnl r0 r1
  obtain ⟨W, hW⟩ : ∃ W, W = wr.alloc (.cells o.cs 46) := ⟨_, rfl⟩
  have EW : Hid (W = wr.alloc (.cells #[.int .i64 o.kind, .int .i64 o.D, .int .i64 o.slot, .slice o.a o.n o.c, .int .i64 o.N, .bool o.done, .slice a0 n0 c0, .slice a1 n1 c1, .slice a2 n2 c2] 46)) := by show W = _; rw [OC]; exact hW
  have K1 : Kept (fun _ => False) wr W := by rw [hW]; exact alloc_kept0 _ _
  have b3 : W.heap[wr.heap.size]? = some (.cells o.cs 46 (0, 0)) := by rw [hW]; exact alloc_new _ _
  have e1 : W.cell? ⟨wr.heap.size, 1, none⟩ = some (.int .i64 o.D) := cell_blk b3 1 rfl
  have r0' := K1.cell r0 (fun z => z)
  have r1' := K1.cell r1 (fun z => z)
  obtain ⟨W7, hW7⟩ : ∃ W7, W7 = W.alloc (.cells #[.pointer (some ⟨x.bp, 0, none⟩), .pointer (some ⟨x.br, 0, none⟩)] 60) := ⟨_, rfl⟩
  have E7 : Hid (W7 = W.alloc (.cells #[.pointer (some ⟨x.bp, 0, none⟩), .pointer (some ⟨x.br, 0, none⟩)] 60)) := hW7
  have szW : W.heap.size = wr.heap.size + 1 := by rw [hW]; exact alloc_size _ _
  have K7 : Kept (fun _ => False) W W7 := by rw [hW7]; exact alloc_kept0 _ _
  have sz7 : W7.heap.size = wr.heap.size + 2 := by rw [hW7, alloc_size, szW]
  have Z : Hid (ON w W7 (some ⟨g, 0, none⟩) pn pc L1 x L2 o wr.heap.size W.heap.size (fun _ => False)) := by
    have K17 : Kept (fun _ => False) wr W7 := K1.trans K7 (fun _ _ z => z)
    refine ⟨(h.al.perm List.perm_middle).more K17 (fun k hk => ?_), K17.owns h.row (fun _ _ z => z), K7.get b3 (fun z => z), by rw [hW7]; exact alloc_new _ _, rd⟩
    rcases hk with z | z | z | z
    · exact z.elim
    · exact .inl z
    · exact .inr (by omega)
    · exact .inr (by omega)
  have SM : Hid ((∀ y ∈ L1 ++ x :: L2, y.d.ab = y.r.ab) ∧ (∀ y ∈ L1 ++ x :: L2, Fits y.d.ab s t) ∧ x.d.ab = x.r.ab ∧ x.d.ab.Ok ∧ Fits x.d.ab s t ∧ o.n ≤ Lim) := ⟨h.same, h.fits, h.same x (by simp), (h.fits x (by simp)).ok hs ht, h.fits x (by simp), hn⟩
  have V0 : Hid (o.v0 = .slice a0 n0 c0 ∧ o.v1 = .slice a1 n1 c1 ∧ o.v2 = .slice a2 n2 c2) := ⟨hv0, hv1, hv2⟩
  have OCH : Hid (#[.int .i64 o.kind, .int .i64 o.D, .int .i64 o.slot, .slice o.a o.n o.c, .int .i64 o.N, .bool o.done, .slice a0 n0 c0, .slice a1 n1 c1, .slice a2 n2 c2] = o.cs) := OC
  have HN : Hid (o.N < 9223372036854775808) := hN
  have RB : Hid (0 < o.n → ∀ k, blockOf o.a = some k → k ≠ x.br) := fun h0 k hk z => by
    obtain ⟨b9, off9, e9, hc9⟩ := rd.cells h0
    rw [e9] at hk
    simp [blockOf] at hk
    subst hk
    have h1 := World.block_lt_of_cell? w _ (hc9 0 h0)
    have h2 := (Z.out.al.isr x (by simp)).low
    have h1 : b9 < w.heap.size := h1
    omega
  have m0 : ¬ ((pn : Int) = 0) := by omega
  have t1 := Int.tmod_lt_of_pos o.D (show (0 : Int) < (pn : Int) by omega)
  have t2 : -(pn : Int) < o.D.tmod (pn : Int) := by
    rcases Int.le_total 0 o.D with h1 | h1
    · have := Int.tmod_nonneg (pn : Int) h1; omega
    · have := Int.tmod_lt_of_pos (-o.D) (show (0 : Int) < (pn : Int) by omega)
      rw [Int.neg_tmod] at this
      omega
  obtain ⟨tm, htm⟩ : ∃ tm, o.D.tmod (pn : Int) = tm := ⟨_, rfl⟩
  have em : (nn : Int) = if tm < 0 then tm + (pn : Int) else tm := by
    rw [← hD, ← htm, Int.tmod_eq_emod]
    have e1 := Int.emod_nonneg o.D (show (pn : Int) ≠ 0 by omega)
    have e2 := Int.emod_lt_of_pos o.D (show (0 : Int) < (pn : Int) by omega)
    have e3 : ((pn : Int).natAbs : Int) = (pn : Int) := by omega
    by_cases h1 : 0 ≤ o.D ∨ (pn : Int) ∣ o.D
    · rw [if_pos h1]
      simp
      intro h2
      omega
    · rw [if_neg h1, e3]
      rw [if_pos (by omega)]
      omega
  rw [htm] at t1 t2
  have wt : IntKind.i64.wrap tm = tm := by rw [IntKind.wrap_i64]; omega
  have inn : (nn : Int) < (pn : Int) := by omega
  have inn0 : (0 : Int) ≤ (nn : Int) := by omega
  rw [← OC]
  clear h hs ht hD rd hN hn hx r0 r1 hW K1 b3 hW7 K7 szW hv0 hv1 hv2 OC hnn
  have HKK : Hid (1 ≤ o.kind ∧ o.kind ≤ 4) := hkk
  clear hkk
  by_cases hneg : tm < 0
  · rw [if_pos hneg] at em
    have en : nn = (tm + (pn : Int)).toNat := by omega
    subst en
    have wn : IntKind.i64.wrap (tm + (pn : Int)) = tm + (pn : Int) := by rw [IntKind.wrap_i64]; omega
    have i0 : 0 ≤ tm + (pn : Int) := by omega
    have i1 : tm + (pn : Int) < (pn : Int) := by omega
    clear em inn inn0
    go_enter Try.func32, Try.ntmps32
    go_upto_region 1 with fail
    rw [← EW.out]
    go_upto_region 5 with fail
    have SS : ON w W7 (some ⟨g, 0, none⟩) pn pc L1 x L2 o wr.heap.size W.heap.size (fun _ => False) := Z.out
    have k0 : W7.cell? ⟨wr.heap.size, 0, none⟩ = some (.int .i64 o.kind) := cell_blk SS.o3 0 rfl
    have k3 : W7.cell? ⟨wr.heap.size, 3, none⟩ = some (.slice o.a o.n o.c) := cell_blk SS.o3 3 rfl
    clear SS
    rw [← E7.out]
    have kk1 : (1 : Int) ≤ o.kind := HKK.out.1
    have kk2 : o.kind ≤ 4 := HKK.out.2
    go_wp2_with fail
    refine (wide o.a o.n o.c o.l W7 Z.out.reads SM.out.2.2.2.2.2).mono ?_
    rintro y w2 ⟨p2, q2, rfl, o2, K2⟩
    have Z2 : Hid (ON w w2 (some ⟨g, 0, none⟩) pn pc L1 x L2 o wr.heap.size W.heap.size (fun k => blockOf p2 = some k) ∧ w2.ownsRow W7.heap.size 5 1 (.slice p2 (o.n + 2) q2) (o.n + 2) (cellsOf (o.l ++ [193, 194])) ∧ Reads w2 p2 o.n q2 o.l ∧ (∀ k, blockOf p2 = some k → W7.heap.size ≤ k)) := ⟨Z.out.more K2 (fun k hk => .inr (own_lt o2 k hk)), o2, wide_reads Z.out.rd.length Z.out.rd.bytes o2, fun k hk => (own_lt o2 k hk).1⟩
    clear o2 K2 k0 k3
    have m0 : w2.cell? ⟨wr.heap.size, 0, none⟩ = some (.int .i64 o.kind) := cell_blk Z2.out.1.o3 0 rfl
    have m1 : w2.cell? ⟨wr.heap.size, 1, none⟩ = some (.int .i64 o.D) := cell_blk Z2.out.1.o3 1 rfl
    have m2 : w2.cell? ⟨wr.heap.size, 2, none⟩ = some (.int .i64 o.slot) := cell_blk Z2.out.1.o3 2 rfl
    have m3 : w2.cell? ⟨wr.heap.size, 3, none⟩ = some (.slice o.a o.n o.c) := cell_blk Z2.out.1.o3 3 rfl
    have m4 : w2.cell? ⟨wr.heap.size, 4, none⟩ = some (.int .i64 o.N) := cell_blk Z2.out.1.o3 4 rfl
    have m5 : w2.cell? ⟨wr.heap.size, 5, none⟩ = some (.bool o.done) := cell_blk Z2.out.1.o3 5 rfl
    have m6 : w2.cell? ⟨wr.heap.size, 6, none⟩ = some (.slice a0 n0 c0) := by rw [← V0.out.1]; exact cell_blk Z2.out.1.o3 6 rfl
    have m7 : w2.cell? ⟨wr.heap.size, 7, none⟩ = some (.slice a1 n1 c1) := by rw [← V0.out.2.1]; exact cell_blk Z2.out.1.o3 7 rfl
    have m8 : w2.cell? ⟨wr.heap.size, 8, none⟩ = some (.slice a2 n2 c2) := by rw [← V0.out.2.2]; exact cell_blk Z2.out.1.o3 8 rfl
    have mp : w2.cell? ⟨W.heap.size, 0, none⟩ = some (.pointer (some ⟨x.bp, 0, none⟩)) := cell_blk Z2.out.1.x7 0 rfl
    have mq : w2.cell? ⟨W.heap.size, 1, none⟩ = some (.pointer (some ⟨x.br, 0, none⟩)) := cell_blk Z2.out.1.x7 1 rfl
    go_wp2_with fail
    rw [OCH.out]
    refine (goP w.heap.size x.bp x.d o (.inl HKK.out) p2 q2 w2 (Z2.out.1.al.isd x (by simp)) SM.out.2.2.2.1 Z2.out.2.2.1 SM.out.2.2.2.2.2 (fun k hk z => (Z2.out.1.al.far k (.inl hk)).2.2 x (by simp) (.inl (.inl z)))).mono ?_
    obtain ⟨ac, hac⟩ : ∃ ac, ac = x.d.ab.go o := ⟨_, rfl⟩
    have AC : Hid (ac = x.d.ab.go o) := hac
    rw [← hac]
    clear hac
    obtain ⟨A', v⟩ := ac
    rintro y w3 ⟨rfl, d', i3, dm3, e3⟩
    have Z3 : Hid (ON w w3 (some ⟨g, 0, none⟩) pn pc L1 { x with d := d' } L2 o wr.heap.size W.heap.size (fun k => blockOf p2 = some k) ∧ w3.ownsRow W7.heap.size 5 1 (.slice p2 (o.n + 2) q2) (o.n + 2) (cellsOf (o.l ++ [193, 194])) ∧ d'.ab = A') := by
      obtain ⟨q1, q2'⟩ := Z2.out.1.al.stepP i3 dm3
      exact ⟨Z2.out.1.held q1 q2' rfl rfl, q2'.owns Z2.out.2.1 (fun k hk z => z (.inl (by rw [← hk]; exact (blockOf_own ..).symm))), e3⟩
    clear i3 dm3 e3 m0 m1 m2 m3 m4 m5 m6 m7 m8 mp mq
    have u0 : w3.cell? ⟨wr.heap.size, 0, none⟩ = some (.int .i64 o.kind) := cell_blk Z3.out.1.o3 0 rfl
    have u1 : w3.cell? ⟨wr.heap.size, 1, none⟩ = some (.int .i64 o.D) := cell_blk Z3.out.1.o3 1 rfl
    have u2 : w3.cell? ⟨wr.heap.size, 2, none⟩ = some (.int .i64 o.slot) := cell_blk Z3.out.1.o3 2 rfl
    have u3 : w3.cell? ⟨wr.heap.size, 3, none⟩ = some (.slice o.a o.n o.c) := cell_blk Z3.out.1.o3 3 rfl
    have u4 : w3.cell? ⟨wr.heap.size, 4, none⟩ = some (.int .i64 o.N) := cell_blk Z3.out.1.o3 4 rfl
    have u5 : w3.cell? ⟨wr.heap.size, 5, none⟩ = some (.bool o.done) := cell_blk Z3.out.1.o3 5 rfl
    have u6 : w3.cell? ⟨wr.heap.size, 6, none⟩ = some (.slice a0 n0 c0) := by rw [← V0.out.1]; exact cell_blk Z3.out.1.o3 6 rfl
    have u7 : w3.cell? ⟨wr.heap.size, 7, none⟩ = some (.slice a1 n1 c1) := by rw [← V0.out.2.1]; exact cell_blk Z3.out.1.o3 7 rfl
    have u8 : w3.cell? ⟨wr.heap.size, 8, none⟩ = some (.slice a2 n2 c2) := by rw [← V0.out.2.2]; exact cell_blk Z3.out.1.o3 8 rfl
    have upp : w3.cell? ⟨W.heap.size, 0, none⟩ = some (.pointer (some ⟨x.bp, 0, none⟩)) := cell_blk Z3.out.1.x7 0 rfl
    have uqq : w3.cell? ⟨W.heap.size, 1, none⟩ = some (.pointer (some ⟨x.br, 0, none⟩)) := cell_blk Z3.out.1.x7 1 rfl
    rw [← OCH.out]
    go_wp2_with fail
    rw [OCH.out]
    refine (goR w.heap.size x.br x.r o SL.out (.inl HKK.out) w3 (Z3.out.1.al.isr { x with d := d' } (by simp)) (by rw [← SM.out.2.2.1]; exact SM.out.2.2.2.1) Z3.out.1.reads SM.out.2.2.2.2.2 RB.out).mono ?_
    rw [← SM.out.2.2.1, ← AC.out]
    rintro y w4 ⟨rfl, r', i4, m4', e4⟩
    have Z4 : Hid (ON w w4 (some ⟨g, 0, none⟩) pn pc L1 { x with d := d', r := r' } L2 o wr.heap.size W.heap.size (fun k => blockOf p2 = some k) ∧ w4.ownsRow W7.heap.size 5 1 (.slice p2 (o.n + 2) q2) (o.n + 2) (cellsOf (o.l ++ [193, 194])) ∧ r'.ab = A') := by
      obtain ⟨q1, q2'⟩ := Z3.out.1.al.stepR (r' := r') i4 m4'
      exact ⟨Z3.out.1.held q1 q2' rfl rfl, q2'.owns Z3.out.2.1 (fun k hk z => z (.inl (by rw [← hk]; exact (blockOf_own ..).symm))), e4⟩
    clear i4 m4' e4 u0 u1 u2 u3 u4 u5 u6 u7 u8 upp uqq
    have h3 : w4.cell? ⟨wr.heap.size, 3, none⟩ = some (.slice o.a o.n o.c) := cell_blk Z4.out.1.o3 3 rfl
    rw [← OCH.out]
    go_wp2_with fail
    refine (keptOK W7.heap.size p2 q2 o.a o.n o.c o.l w4 Z4.out.2.1 Z4.out.1.reads SM.out.2.2.2.2.2).mono ?_
    rintro y wz ⟨rfl, ez⟩
    rw [ez]
    clear ez wz h3
    go_wp2_with fail
    have WO : Hid (w4.ownsRow W7.heap.size 5 1 (.slice p2 o.n q2) o.n (cellsOf ((o.l ++ [193, 194]).take o.n))) := own_take Z4.out.2.1 o.n (by omega)
    refine (over W7.heap.size p2 o.n q2 _ w4 WO.out).mono ?_
    rintro y w5 ⟨rfl, K5⟩
    have Z5 : Hid (OD w w5 (some ⟨g, 0, none⟩) pn pc (L1 ++ { x with d := d', r := r' } :: L2) (s + o.l.length) (t + 1)) := by
      have al5 : AL w w5 (L1 ++ { x with d := d', r := r' } :: L2) (fun k => blockOf (some (⟨g, 0, none⟩ : Addr)) = some k) := Z4.out.1.back.wrote K5 (fun k hk => ⟨by have := Z2.out.2.2.2 k hk; have := Z.out.al.kept.size; omega, fun y hy u => (Z4.out.1.al.far k (.inl hk)).2.2 y (List.perm_middle.mem_iff.1 hy) u⟩)
      refine ⟨al5, K5.owns Z4.out.1.row (fun k hk z => ?_), fun y hy => ?_, fun y hy => ?_⟩
      · have h1 := Z2.out.2.2.2 k z
        have h2 : k < W7.heap.size := (Z.out.al.far k (.inr (.inl (by rw [← hk]; exact (blockOf_own ..).symm)))).1
        omega
      · rcases mid_mem (x := x) hy with e | e
        · rw [e]; exact Z3.out.2.2.trans Z4.out.2.2.symm
        · exact SM.out.1 y e
      · rcases mid_mem (x := x) hy with e | e
        · rw [e]
          have hf := SM.out.2.2.2.2.1.go o HN.out
          rw [← AC.out] at hf
          have e3 := Z3.out.2.2
          show Fits d'.ab _ _
          rw [e3]
          exact hf
        · exact (SM.out.2.1 y e).mono (by omega) (by omega)
    clear K5
    go_wp2_with fail
    go_ret2
    exact ⟨_, by first | rfl | simp, Z5.out, by simp⟩
  · rw [if_neg hneg] at em
    subst em
    go_enter Try.func32, Try.ntmps32
    go_upto_region 1 with fail
    rw [← EW.out]
    go_upto_region 5 with fail
    have SS : ON w W7 (some ⟨g, 0, none⟩) pn pc L1 x L2 o wr.heap.size W.heap.size (fun _ => False) := Z.out
    have k0 : W7.cell? ⟨wr.heap.size, 0, none⟩ = some (.int .i64 o.kind) := cell_blk SS.o3 0 rfl
    have k3 : W7.cell? ⟨wr.heap.size, 3, none⟩ = some (.slice o.a o.n o.c) := cell_blk SS.o3 3 rfl
    clear SS
    rw [← E7.out]
    have kk1 : (1 : Int) ≤ o.kind := HKK.out.1
    have kk2 : o.kind ≤ 4 := HKK.out.2
    go_wp2_with fail
    refine (wide o.a o.n o.c o.l W7 Z.out.reads SM.out.2.2.2.2.2).mono ?_
    rintro y w2 ⟨p2, q2, rfl, o2, K2⟩
    have Z2 : Hid (ON w w2 (some ⟨g, 0, none⟩) pn pc L1 x L2 o wr.heap.size W.heap.size (fun k => blockOf p2 = some k) ∧ w2.ownsRow W7.heap.size 5 1 (.slice p2 (o.n + 2) q2) (o.n + 2) (cellsOf (o.l ++ [193, 194])) ∧ Reads w2 p2 o.n q2 o.l ∧ (∀ k, blockOf p2 = some k → W7.heap.size ≤ k)) := ⟨Z.out.more K2 (fun k hk => .inr (own_lt o2 k hk)), o2, wide_reads Z.out.rd.length Z.out.rd.bytes o2, fun k hk => (own_lt o2 k hk).1⟩
    clear o2 K2 k0 k3
    have m0 : w2.cell? ⟨wr.heap.size, 0, none⟩ = some (.int .i64 o.kind) := cell_blk Z2.out.1.o3 0 rfl
    have m1 : w2.cell? ⟨wr.heap.size, 1, none⟩ = some (.int .i64 o.D) := cell_blk Z2.out.1.o3 1 rfl
    have m2 : w2.cell? ⟨wr.heap.size, 2, none⟩ = some (.int .i64 o.slot) := cell_blk Z2.out.1.o3 2 rfl
    have m3 : w2.cell? ⟨wr.heap.size, 3, none⟩ = some (.slice o.a o.n o.c) := cell_blk Z2.out.1.o3 3 rfl
    have m4 : w2.cell? ⟨wr.heap.size, 4, none⟩ = some (.int .i64 o.N) := cell_blk Z2.out.1.o3 4 rfl
    have m5 : w2.cell? ⟨wr.heap.size, 5, none⟩ = some (.bool o.done) := cell_blk Z2.out.1.o3 5 rfl
    have m6 : w2.cell? ⟨wr.heap.size, 6, none⟩ = some (.slice a0 n0 c0) := by rw [← V0.out.1]; exact cell_blk Z2.out.1.o3 6 rfl
    have m7 : w2.cell? ⟨wr.heap.size, 7, none⟩ = some (.slice a1 n1 c1) := by rw [← V0.out.2.1]; exact cell_blk Z2.out.1.o3 7 rfl
    have m8 : w2.cell? ⟨wr.heap.size, 8, none⟩ = some (.slice a2 n2 c2) := by rw [← V0.out.2.2]; exact cell_blk Z2.out.1.o3 8 rfl
    have mp : w2.cell? ⟨W.heap.size, 0, none⟩ = some (.pointer (some ⟨x.bp, 0, none⟩)) := cell_blk Z2.out.1.x7 0 rfl
    have mq : w2.cell? ⟨W.heap.size, 1, none⟩ = some (.pointer (some ⟨x.br, 0, none⟩)) := cell_blk Z2.out.1.x7 1 rfl
    go_wp2_with fail
    rw [OCH.out]
    refine (goP w.heap.size x.bp x.d o (.inl HKK.out) p2 q2 w2 (Z2.out.1.al.isd x (by simp)) SM.out.2.2.2.1 Z2.out.2.2.1 SM.out.2.2.2.2.2 (fun k hk z => (Z2.out.1.al.far k (.inl hk)).2.2 x (by simp) (.inl (.inl z)))).mono ?_
    obtain ⟨ac, hac⟩ : ∃ ac, ac = x.d.ab.go o := ⟨_, rfl⟩
    have AC : Hid (ac = x.d.ab.go o) := hac
    rw [← hac]
    clear hac
    obtain ⟨A', v⟩ := ac
    rintro y w3 ⟨rfl, d', i3, dm3, e3⟩
    have Z3 : Hid (ON w w3 (some ⟨g, 0, none⟩) pn pc L1 { x with d := d' } L2 o wr.heap.size W.heap.size (fun k => blockOf p2 = some k) ∧ w3.ownsRow W7.heap.size 5 1 (.slice p2 (o.n + 2) q2) (o.n + 2) (cellsOf (o.l ++ [193, 194])) ∧ d'.ab = A') := by
      obtain ⟨q1, q2'⟩ := Z2.out.1.al.stepP i3 dm3
      exact ⟨Z2.out.1.held q1 q2' rfl rfl, q2'.owns Z2.out.2.1 (fun k hk z => z (.inl (by rw [← hk]; exact (blockOf_own ..).symm))), e3⟩
    clear i3 dm3 e3 m0 m1 m2 m3 m4 m5 m6 m7 m8 mp mq
    have u0 : w3.cell? ⟨wr.heap.size, 0, none⟩ = some (.int .i64 o.kind) := cell_blk Z3.out.1.o3 0 rfl
    have u1 : w3.cell? ⟨wr.heap.size, 1, none⟩ = some (.int .i64 o.D) := cell_blk Z3.out.1.o3 1 rfl
    have u2 : w3.cell? ⟨wr.heap.size, 2, none⟩ = some (.int .i64 o.slot) := cell_blk Z3.out.1.o3 2 rfl
    have u3 : w3.cell? ⟨wr.heap.size, 3, none⟩ = some (.slice o.a o.n o.c) := cell_blk Z3.out.1.o3 3 rfl
    have u4 : w3.cell? ⟨wr.heap.size, 4, none⟩ = some (.int .i64 o.N) := cell_blk Z3.out.1.o3 4 rfl
    have u5 : w3.cell? ⟨wr.heap.size, 5, none⟩ = some (.bool o.done) := cell_blk Z3.out.1.o3 5 rfl
    have u6 : w3.cell? ⟨wr.heap.size, 6, none⟩ = some (.slice a0 n0 c0) := by rw [← V0.out.1]; exact cell_blk Z3.out.1.o3 6 rfl
    have u7 : w3.cell? ⟨wr.heap.size, 7, none⟩ = some (.slice a1 n1 c1) := by rw [← V0.out.2.1]; exact cell_blk Z3.out.1.o3 7 rfl
    have u8 : w3.cell? ⟨wr.heap.size, 8, none⟩ = some (.slice a2 n2 c2) := by rw [← V0.out.2.2]; exact cell_blk Z3.out.1.o3 8 rfl
    have upp : w3.cell? ⟨W.heap.size, 0, none⟩ = some (.pointer (some ⟨x.bp, 0, none⟩)) := cell_blk Z3.out.1.x7 0 rfl
    have uqq : w3.cell? ⟨W.heap.size, 1, none⟩ = some (.pointer (some ⟨x.br, 0, none⟩)) := cell_blk Z3.out.1.x7 1 rfl
    rw [← OCH.out]
    go_wp2_with fail
    rw [OCH.out]
    refine (goR w.heap.size x.br x.r o SL.out (.inl HKK.out) w3 (Z3.out.1.al.isr { x with d := d' } (by simp)) (by rw [← SM.out.2.2.1]; exact SM.out.2.2.2.1) Z3.out.1.reads SM.out.2.2.2.2.2 RB.out).mono ?_
    rw [← SM.out.2.2.1, ← AC.out]
    rintro y w4 ⟨rfl, r', i4, m4', e4⟩
    have Z4 : Hid (ON w w4 (some ⟨g, 0, none⟩) pn pc L1 { x with d := d', r := r' } L2 o wr.heap.size W.heap.size (fun k => blockOf p2 = some k) ∧ w4.ownsRow W7.heap.size 5 1 (.slice p2 (o.n + 2) q2) (o.n + 2) (cellsOf (o.l ++ [193, 194])) ∧ r'.ab = A') := by
      obtain ⟨q1, q2'⟩ := Z3.out.1.al.stepR (r' := r') i4 m4'
      exact ⟨Z3.out.1.held q1 q2' rfl rfl, q2'.owns Z3.out.2.1 (fun k hk z => z (.inl (by rw [← hk]; exact (blockOf_own ..).symm))), e4⟩
    clear i4 m4' e4 u0 u1 u2 u3 u4 u5 u6 u7 u8 upp uqq
    have h3 : w4.cell? ⟨wr.heap.size, 3, none⟩ = some (.slice o.a o.n o.c) := cell_blk Z4.out.1.o3 3 rfl
    rw [← OCH.out]
    go_wp2_with fail
    refine (keptOK W7.heap.size p2 q2 o.a o.n o.c o.l w4 Z4.out.2.1 Z4.out.1.reads SM.out.2.2.2.2.2).mono ?_
    rintro y wz ⟨rfl, ez⟩
    rw [ez]
    clear ez wz h3
    go_wp2_with fail
    have WO : Hid (w4.ownsRow W7.heap.size 5 1 (.slice p2 o.n q2) o.n (cellsOf ((o.l ++ [193, 194]).take o.n))) := own_take Z4.out.2.1 o.n (by omega)
    refine (over W7.heap.size p2 o.n q2 _ w4 WO.out).mono ?_
    rintro y w5 ⟨rfl, K5⟩
    have Z5 : Hid (OD w w5 (some ⟨g, 0, none⟩) pn pc (L1 ++ { x with d := d', r := r' } :: L2) (s + o.l.length) (t + 1)) := by
      have al5 : AL w w5 (L1 ++ { x with d := d', r := r' } :: L2) (fun k => blockOf (some (⟨g, 0, none⟩ : Addr)) = some k) := Z4.out.1.back.wrote K5 (fun k hk => ⟨by have := Z2.out.2.2.2 k hk; have := Z.out.al.kept.size; omega, fun y hy u => (Z4.out.1.al.far k (.inl hk)).2.2 y (List.perm_middle.mem_iff.1 hy) u⟩)
      refine ⟨al5, K5.owns Z4.out.1.row (fun k hk z => ?_), fun y hy => ?_, fun y hy => ?_⟩
      · have h1 := Z2.out.2.2.2 k z
        have h2 : k < W7.heap.size := (Z.out.al.far k (.inr (.inl (by rw [← hk]; exact (blockOf_own ..).symm)))).1
        omega
      · rcases mid_mem (x := x) hy with e | e
        · rw [e]; exact Z3.out.2.2.trans Z4.out.2.2.symm
        · exact SM.out.1 y e
      · rcases mid_mem (x := x) hy with e | e
        · rw [e]
          have hf := SM.out.2.2.2.2.1.go o HN.out
          rw [← AC.out] at hf
          have e3 := Z3.out.2.2
          show Fits d'.ab _ _
          rw [e3]
          exact hf
        · exact (SM.out.2.1 y e).mono (by omega) (by omega)
    clear K5
    go_wp2_with fail
    go_ret2
    exact ⟨_, by first | rfl | simp, Z5.out, by simp⟩
set_option maxRecDepth 100000 in
set_option maxHeartbeats 8000000 in
theorem oneTold (w wr : World) (pa : Option Addr) (pn pc : Nat) (L1 : List Pr) (x : Pr) (L2 : List Pr) (o : Opv) (s t : Nat) (h : OD w wr pa pn pc (L1 ++ x :: L2) s t) (hs : s ≤ Few) (ht : t ≤ Few) (hD : o.D % (pn : Int) = (L1.length : Int)) (hp : pn < 1000000000) (sl : o.Sl) (rd : Reads w o.a o.n o.c o.l) (hN : o.N < 9223372036854775808) (hn : o.n ≤ Lim) (hkk : 5 ≤ o.kind ∧ o.kind ≤ 7) :
    Calls Try.prog 32 #[.slice pa pn pc, .agg o.cs] wr fun y w' => ∃ L', y = .returned (.tuple #[.slice pa pn pc, .bool true]) ∧ OD w w' pa pn pc L' (s + o.l.length) (t + 1) ∧ L'.length = (L1 ++ x :: L2).length := by
  obtain ⟨a0, n0, c0, a1, n1, c1, a2, n2, c2, hv0, hv1, hv2⟩ := sl
  have OC : #[.int .i64 o.kind, .int .i64 o.D, .int .i64 o.slot, .slice o.a o.n o.c, .int .i64 o.N, .bool o.done, .slice a0 n0 c0, .slice a1 n1 c1, .slice a2 n2 c2] = o.cs := by unfold Opv.cs; rw [hv0, hv1, hv2]
  have SL : Hid o.Sl := ⟨a0, n0, c0, a1, n1, c1, a2, n2, c2, hv0, hv1, hv2⟩
  have hx : (L1 ++ x :: L2)[L1.length]? = some x := by rw [List.getElem?_append_right (Nat.le_refl _), Nat.sub_self]; rfl
  obtain ⟨g, hpa, hnl, r0, r1⟩ := row_pair h.row hx
  subst hpa
  have hpc := (own_room h.row).1
  have hpc2 := (own_room h.row).2
  unfold maxLen at hpc2
  obtain ⟨nn, hnn⟩ : ∃ nn, nn = L1.length := ⟨_, rfl⟩
  rw [← hnn] at hD hnl r0 r1
  obtain ⟨W, hW⟩ : ∃ W, W = wr.alloc (.cells o.cs 46) := ⟨_, rfl⟩
  have EW : Hid (W = wr.alloc (.cells #[.int .i64 o.kind, .int .i64 o.D, .int .i64 o.slot, .slice o.a o.n o.c, .int .i64 o.N, .bool o.done, .slice a0 n0 c0, .slice a1 n1 c1, .slice a2 n2 c2] 46)) := by show W = _; rw [OC]; exact hW
  have K1 : Kept (fun _ => False) wr W := by rw [hW]; exact alloc_kept0 _ _
  have b3 : W.heap[wr.heap.size]? = some (.cells o.cs 46 (0, 0)) := by rw [hW]; exact alloc_new _ _
  have e1 : W.cell? ⟨wr.heap.size, 1, none⟩ = some (.int .i64 o.D) := cell_blk b3 1 rfl
  have r0' := K1.cell r0 (fun z => z)
  have r1' := K1.cell r1 (fun z => z)
  obtain ⟨W7, hW7⟩ : ∃ W7, W7 = W.alloc (.cells #[.pointer (some ⟨x.bp, 0, none⟩), .pointer (some ⟨x.br, 0, none⟩)] 60) := ⟨_, rfl⟩
  have E7 : Hid (W7 = W.alloc (.cells #[.pointer (some ⟨x.bp, 0, none⟩), .pointer (some ⟨x.br, 0, none⟩)] 60)) := hW7
  have szW : W.heap.size = wr.heap.size + 1 := by rw [hW]; exact alloc_size _ _
  have K7 : Kept (fun _ => False) W W7 := by rw [hW7]; exact alloc_kept0 _ _
  have sz7 : W7.heap.size = wr.heap.size + 2 := by rw [hW7, alloc_size, szW]
  have Z : Hid (ON w W7 (some ⟨g, 0, none⟩) pn pc L1 x L2 o wr.heap.size W.heap.size (fun _ => False)) := by
    have K17 : Kept (fun _ => False) wr W7 := K1.trans K7 (fun _ _ z => z)
    refine ⟨(h.al.perm List.perm_middle).more K17 (fun k hk => ?_), K17.owns h.row (fun _ _ z => z), K7.get b3 (fun z => z), by rw [hW7]; exact alloc_new _ _, rd⟩
    rcases hk with z | z | z | z
    · exact z.elim
    · exact .inl z
    · exact .inr (by omega)
    · exact .inr (by omega)
  have SM : Hid ((∀ y ∈ L1 ++ x :: L2, y.d.ab = y.r.ab) ∧ (∀ y ∈ L1 ++ x :: L2, Fits y.d.ab s t) ∧ x.d.ab = x.r.ab ∧ x.d.ab.Ok ∧ Fits x.d.ab s t ∧ o.n ≤ Lim) := ⟨h.same, h.fits, h.same x (by simp), (h.fits x (by simp)).ok hs ht, h.fits x (by simp), hn⟩
  have V0 : Hid (o.v0 = .slice a0 n0 c0 ∧ o.v1 = .slice a1 n1 c1 ∧ o.v2 = .slice a2 n2 c2) := ⟨hv0, hv1, hv2⟩
  have OCH : Hid (#[.int .i64 o.kind, .int .i64 o.D, .int .i64 o.slot, .slice o.a o.n o.c, .int .i64 o.N, .bool o.done, .slice a0 n0 c0, .slice a1 n1 c1, .slice a2 n2 c2] = o.cs) := OC
  have HN : Hid (o.N < 9223372036854775808) := hN
  have RB : Hid (0 < o.n → ∀ k, blockOf o.a = some k → k ≠ x.br) := fun h0 k hk z => by
    obtain ⟨b9, off9, e9, hc9⟩ := rd.cells h0
    rw [e9] at hk
    simp [blockOf] at hk
    subst hk
    have h1 := World.block_lt_of_cell? w _ (hc9 0 h0)
    have h2 := (Z.out.al.isr x (by simp)).low
    have h1 : b9 < w.heap.size := h1
    omega
  have m0 : ¬ ((pn : Int) = 0) := by omega
  have t1 := Int.tmod_lt_of_pos o.D (show (0 : Int) < (pn : Int) by omega)
  have t2 : -(pn : Int) < o.D.tmod (pn : Int) := by
    rcases Int.le_total 0 o.D with h1 | h1
    · have := Int.tmod_nonneg (pn : Int) h1; omega
    · have := Int.tmod_lt_of_pos (-o.D) (show (0 : Int) < (pn : Int) by omega)
      rw [Int.neg_tmod] at this
      omega
  obtain ⟨tm, htm⟩ : ∃ tm, o.D.tmod (pn : Int) = tm := ⟨_, rfl⟩
  have em : (nn : Int) = if tm < 0 then tm + (pn : Int) else tm := by
    rw [← hD, ← htm, Int.tmod_eq_emod]
    have e1 := Int.emod_nonneg o.D (show (pn : Int) ≠ 0 by omega)
    have e2 := Int.emod_lt_of_pos o.D (show (0 : Int) < (pn : Int) by omega)
    have e3 : ((pn : Int).natAbs : Int) = (pn : Int) := by omega
    by_cases h1 : 0 ≤ o.D ∨ (pn : Int) ∣ o.D
    · rw [if_pos h1]
      simp
      intro h2
      omega
    · rw [if_neg h1, e3]
      rw [if_pos (by omega)]
      omega
  rw [htm] at t1 t2
  have wt : IntKind.i64.wrap tm = tm := by rw [IntKind.wrap_i64]; omega
  have inn : (nn : Int) < (pn : Int) := by omega
  have inn0 : (0 : Int) ≤ (nn : Int) := by omega
  rw [← OC]
  clear h hs ht hD rd hN hn hx r0 r1 hW K1 b3 hW7 K7 szW hv0 hv1 hv2 OC hnn
  have HKK : Hid (5 ≤ o.kind ∧ o.kind ≤ 7) := hkk
  clear hkk
  by_cases hneg : tm < 0
  · rw [if_pos hneg] at em
    have en : nn = (tm + (pn : Int)).toNat := by omega
    subst en
    have wn : IntKind.i64.wrap (tm + (pn : Int)) = tm + (pn : Int) := by rw [IntKind.wrap_i64]; omega
    have i0 : 0 ≤ tm + (pn : Int) := by omega
    have i1 : tm + (pn : Int) < (pn : Int) := by omega
    clear em inn inn0
    go_enter Try.func32, Try.ntmps32
    go_upto_region 1 with fail
    rw [← EW.out]
    go_upto_region 5 with fail
    have SS : ON w W7 (some ⟨g, 0, none⟩) pn pc L1 x L2 o wr.heap.size W.heap.size (fun _ => False) := Z.out
    have k0 : W7.cell? ⟨wr.heap.size, 0, none⟩ = some (.int .i64 o.kind) := cell_blk SS.o3 0 rfl
    rw [← E7.out]
    have m0 : W7.cell? ⟨wr.heap.size, 0, none⟩ = some (.int .i64 o.kind) := cell_blk SS.o3 0 rfl
    have m1 : W7.cell? ⟨wr.heap.size, 1, none⟩ = some (.int .i64 o.D) := cell_blk SS.o3 1 rfl
    have m2 : W7.cell? ⟨wr.heap.size, 2, none⟩ = some (.int .i64 o.slot) := cell_blk SS.o3 2 rfl
    have m3 : W7.cell? ⟨wr.heap.size, 3, none⟩ = some (.slice o.a o.n o.c) := cell_blk SS.o3 3 rfl
    have m4 : W7.cell? ⟨wr.heap.size, 4, none⟩ = some (.int .i64 o.N) := cell_blk SS.o3 4 rfl
    have m5 : W7.cell? ⟨wr.heap.size, 5, none⟩ = some (.bool o.done) := cell_blk SS.o3 5 rfl
    have m6 : W7.cell? ⟨wr.heap.size, 6, none⟩ = some (.slice a0 n0 c0) := by rw [← V0.out.1]; exact cell_blk SS.o3 6 rfl
    have m7 : W7.cell? ⟨wr.heap.size, 7, none⟩ = some (.slice a1 n1 c1) := by rw [← V0.out.2.1]; exact cell_blk SS.o3 7 rfl
    have m8 : W7.cell? ⟨wr.heap.size, 8, none⟩ = some (.slice a2 n2 c2) := by rw [← V0.out.2.2]; exact cell_blk SS.o3 8 rfl
    have mp : W7.cell? ⟨W.heap.size, 0, none⟩ = some (.pointer (some ⟨x.bp, 0, none⟩)) := cell_blk SS.x7 0 rfl
    have mq : W7.cell? ⟨W.heap.size, 1, none⟩ = some (.pointer (some ⟨x.br, 0, none⟩)) := cell_blk SS.x7 1 rfl
    clear SS k0
    have kk1 : (1 : Int) ≤ o.kind := by have := HKK.out.1; omega
    have kk2 : ¬ o.kind ≤ 4 := by have := HKK.out.1; omega
    have kk3 : ¬ o.kind = 8 := by have := HKK.out.2; omega
    have kk4 : (5 : Int) ≤ o.kind := HKK.out.1
    have kk5 : o.kind ≤ 7 := HKK.out.2
    go_wp2_with fail
    refine (told w.heap.size x.bp x.d x.br x.r o.kind o.D o.slot o.a o.n o.c o.N o.done a0 n0 c0 a1 n1 c1 a2 n2 c2 W7 (Z.out.al.isd x (by simp)) (Z.out.al.isr x (by simp)) SM.out.2.2.1 SM.out.2.2.2.1).mono ?_
    rintro y w2 ⟨rfl, K2⟩
    have Z5 : Hid (OD w w2 (some ⟨g, 0, none⟩) pn pc (L1 ++ x :: L2) (s + o.l.length) (t + 1)) := ⟨(Z.out.quiet K2).back, (Z.out.quiet K2).row, SM.out.1, fun y hy => (SM.out.2.1 y hy).mono (by omega) (by omega)⟩
    clear K2
    go_wp2_with fail
    go_ret2
    exact ⟨L1 ++ x :: L2, by first | rfl | simp, Z5.out, by simp⟩
  · rw [if_neg hneg] at em
    subst em
    go_enter Try.func32, Try.ntmps32
    go_upto_region 1 with fail
    rw [← EW.out]
    go_upto_region 5 with fail
    have SS : ON w W7 (some ⟨g, 0, none⟩) pn pc L1 x L2 o wr.heap.size W.heap.size (fun _ => False) := Z.out
    have k0 : W7.cell? ⟨wr.heap.size, 0, none⟩ = some (.int .i64 o.kind) := cell_blk SS.o3 0 rfl
    rw [← E7.out]
    have m0 : W7.cell? ⟨wr.heap.size, 0, none⟩ = some (.int .i64 o.kind) := cell_blk SS.o3 0 rfl
    have m1 : W7.cell? ⟨wr.heap.size, 1, none⟩ = some (.int .i64 o.D) := cell_blk SS.o3 1 rfl
    have m2 : W7.cell? ⟨wr.heap.size, 2, none⟩ = some (.int .i64 o.slot) := cell_blk SS.o3 2 rfl
    have m3 : W7.cell? ⟨wr.heap.size, 3, none⟩ = some (.slice o.a o.n o.c) := cell_blk SS.o3 3 rfl
    have m4 : W7.cell? ⟨wr.heap.size, 4, none⟩ = some (.int .i64 o.N) := cell_blk SS.o3 4 rfl
    have m5 : W7.cell? ⟨wr.heap.size, 5, none⟩ = some (.bool o.done) := cell_blk SS.o3 5 rfl
    have m6 : W7.cell? ⟨wr.heap.size, 6, none⟩ = some (.slice a0 n0 c0) := by rw [← V0.out.1]; exact cell_blk SS.o3 6 rfl
    have m7 : W7.cell? ⟨wr.heap.size, 7, none⟩ = some (.slice a1 n1 c1) := by rw [← V0.out.2.1]; exact cell_blk SS.o3 7 rfl
    have m8 : W7.cell? ⟨wr.heap.size, 8, none⟩ = some (.slice a2 n2 c2) := by rw [← V0.out.2.2]; exact cell_blk SS.o3 8 rfl
    have mp : W7.cell? ⟨W.heap.size, 0, none⟩ = some (.pointer (some ⟨x.bp, 0, none⟩)) := cell_blk SS.x7 0 rfl
    have mq : W7.cell? ⟨W.heap.size, 1, none⟩ = some (.pointer (some ⟨x.br, 0, none⟩)) := cell_blk SS.x7 1 rfl
    clear SS k0
    have kk1 : (1 : Int) ≤ o.kind := by have := HKK.out.1; omega
    have kk2 : ¬ o.kind ≤ 4 := by have := HKK.out.1; omega
    have kk3 : ¬ o.kind = 8 := by have := HKK.out.2; omega
    have kk4 : (5 : Int) ≤ o.kind := HKK.out.1
    have kk5 : o.kind ≤ 7 := HKK.out.2
    go_wp2_with fail
    refine (told w.heap.size x.bp x.d x.br x.r o.kind o.D o.slot o.a o.n o.c o.N o.done a0 n0 c0 a1 n1 c1 a2 n2 c2 W7 (Z.out.al.isd x (by simp)) (Z.out.al.isr x (by simp)) SM.out.2.2.1 SM.out.2.2.2.1).mono ?_
    rintro y w2 ⟨rfl, K2⟩
    have Z5 : Hid (OD w w2 (some ⟨g, 0, none⟩) pn pc (L1 ++ x :: L2) (s + o.l.length) (t + 1)) := ⟨(Z.out.quiet K2).back, (Z.out.quiet K2).row, SM.out.1, fun y hy => (SM.out.2.1 y hy).mono (by omega) (by omega)⟩
    clear K2
    go_wp2_with fail
    go_ret2
    exact ⟨L1 ++ x :: L2, by first | rfl | simp, Z5.out, by simp⟩
set_option maxRecDepth 100000 in
set_option maxHeartbeats 8000000 in
theorem oneNone (w wr : World) (pa : Option Addr) (pn pc : Nat) (L1 : List Pr) (x : Pr) (L2 : List Pr) (o : Opv) (s t : Nat) (h : OD w wr pa pn pc (L1 ++ x :: L2) s t) (hs : s ≤ Few) (ht : t ≤ Few) (hD : o.D % (pn : Int) = (L1.length : Int)) (hp : pn < 1000000000) (sl : o.Sl) (rd : Reads w o.a o.n o.c o.l) (hN : o.N < 9223372036854775808) (hn : o.n ≤ Lim) (hkk : ¬ (1 ≤ o.kind ∧ o.kind ≤ 10)) :
    Calls Try.prog 32 #[.slice pa pn pc, .agg o.cs] wr fun y w' => ∃ L', y = .returned (.tuple #[.slice pa pn pc, .bool true]) ∧ OD w w' pa pn pc L' (s + o.l.length) (t + 1) ∧ L'.length = (L1 ++ x :: L2).length := by
  obtain ⟨a0, n0, c0, a1, n1, c1, a2, n2, c2, hv0, hv1, hv2⟩ := sl
  have OC : #[.int .i64 o.kind, .int .i64 o.D, .int .i64 o.slot, .slice o.a o.n o.c, .int .i64 o.N, .bool o.done, .slice a0 n0 c0, .slice a1 n1 c1, .slice a2 n2 c2] = o.cs := by unfold Opv.cs; rw [hv0, hv1, hv2]
  have SL : Hid o.Sl := ⟨a0, n0, c0, a1, n1, c1, a2, n2, c2, hv0, hv1, hv2⟩
  have hx : (L1 ++ x :: L2)[L1.length]? = some x := by rw [List.getElem?_append_right (Nat.le_refl _), Nat.sub_self]; rfl
  obtain ⟨g, hpa, hnl, r0, r1⟩ := row_pair h.row hx
  subst hpa
  have hpc := (own_room h.row).1
  have hpc2 := (own_room h.row).2
  unfold maxLen at hpc2
  obtain ⟨nn, hnn⟩ : ∃ nn, nn = L1.length := ⟨_, rfl⟩
  rw [← hnn] at hD hnl r0 r1
  obtain ⟨W, hW⟩ : ∃ W, W = wr.alloc (.cells o.cs 46) := ⟨_, rfl⟩
  have EW : Hid (W = wr.alloc (.cells #[.int .i64 o.kind, .int .i64 o.D, .int .i64 o.slot, .slice o.a o.n o.c, .int .i64 o.N, .bool o.done, .slice a0 n0 c0, .slice a1 n1 c1, .slice a2 n2 c2] 46)) := by show W = _; rw [OC]; exact hW
  have K1 : Kept (fun _ => False) wr W := by rw [hW]; exact alloc_kept0 _ _
  have b3 : W.heap[wr.heap.size]? = some (.cells o.cs 46 (0, 0)) := by rw [hW]; exact alloc_new _ _
  have e1 : W.cell? ⟨wr.heap.size, 1, none⟩ = some (.int .i64 o.D) := cell_blk b3 1 rfl
  have r0' := K1.cell r0 (fun z => z)
  have r1' := K1.cell r1 (fun z => z)
  obtain ⟨W7, hW7⟩ : ∃ W7, W7 = W.alloc (.cells #[.pointer (some ⟨x.bp, 0, none⟩), .pointer (some ⟨x.br, 0, none⟩)] 60) := ⟨_, rfl⟩
  have E7 : Hid (W7 = W.alloc (.cells #[.pointer (some ⟨x.bp, 0, none⟩), .pointer (some ⟨x.br, 0, none⟩)] 60)) := hW7
  have szW : W.heap.size = wr.heap.size + 1 := by rw [hW]; exact alloc_size _ _
  have K7 : Kept (fun _ => False) W W7 := by rw [hW7]; exact alloc_kept0 _ _
  have sz7 : W7.heap.size = wr.heap.size + 2 := by rw [hW7, alloc_size, szW]
  have Z : Hid (ON w W7 (some ⟨g, 0, none⟩) pn pc L1 x L2 o wr.heap.size W.heap.size (fun _ => False)) := by
    have K17 : Kept (fun _ => False) wr W7 := K1.trans K7 (fun _ _ z => z)
    refine ⟨(h.al.perm List.perm_middle).more K17 (fun k hk => ?_), K17.owns h.row (fun _ _ z => z), K7.get b3 (fun z => z), by rw [hW7]; exact alloc_new _ _, rd⟩
    rcases hk with z | z | z | z
    · exact z.elim
    · exact .inl z
    · exact .inr (by omega)
    · exact .inr (by omega)
  have SM : Hid ((∀ y ∈ L1 ++ x :: L2, y.d.ab = y.r.ab) ∧ (∀ y ∈ L1 ++ x :: L2, Fits y.d.ab s t) ∧ x.d.ab = x.r.ab ∧ x.d.ab.Ok ∧ Fits x.d.ab s t ∧ o.n ≤ Lim) := ⟨h.same, h.fits, h.same x (by simp), (h.fits x (by simp)).ok hs ht, h.fits x (by simp), hn⟩
  have V0 : Hid (o.v0 = .slice a0 n0 c0 ∧ o.v1 = .slice a1 n1 c1 ∧ o.v2 = .slice a2 n2 c2) := ⟨hv0, hv1, hv2⟩
  have OCH : Hid (#[.int .i64 o.kind, .int .i64 o.D, .int .i64 o.slot, .slice o.a o.n o.c, .int .i64 o.N, .bool o.done, .slice a0 n0 c0, .slice a1 n1 c1, .slice a2 n2 c2] = o.cs) := OC
  have HN : Hid (o.N < 9223372036854775808) := hN
  have RB : Hid (0 < o.n → ∀ k, blockOf o.a = some k → k ≠ x.br) := fun h0 k hk z => by
    obtain ⟨b9, off9, e9, hc9⟩ := rd.cells h0
    rw [e9] at hk
    simp [blockOf] at hk
    subst hk
    have h1 := World.block_lt_of_cell? w _ (hc9 0 h0)
    have h2 := (Z.out.al.isr x (by simp)).low
    have h1 : b9 < w.heap.size := h1
    omega
  have m0 : ¬ ((pn : Int) = 0) := by omega
  have t1 := Int.tmod_lt_of_pos o.D (show (0 : Int) < (pn : Int) by omega)
  have t2 : -(pn : Int) < o.D.tmod (pn : Int) := by
    rcases Int.le_total 0 o.D with h1 | h1
    · have := Int.tmod_nonneg (pn : Int) h1; omega
    · have := Int.tmod_lt_of_pos (-o.D) (show (0 : Int) < (pn : Int) by omega)
      rw [Int.neg_tmod] at this
      omega
  obtain ⟨tm, htm⟩ : ∃ tm, o.D.tmod (pn : Int) = tm := ⟨_, rfl⟩
  have em : (nn : Int) = if tm < 0 then tm + (pn : Int) else tm := by
    rw [← hD, ← htm, Int.tmod_eq_emod]
    have e1 := Int.emod_nonneg o.D (show (pn : Int) ≠ 0 by omega)
    have e2 := Int.emod_lt_of_pos o.D (show (0 : Int) < (pn : Int) by omega)
    have e3 : ((pn : Int).natAbs : Int) = (pn : Int) := by omega
    by_cases h1 : 0 ≤ o.D ∨ (pn : Int) ∣ o.D
    · rw [if_pos h1]
      simp
      intro h2
      omega
    · rw [if_neg h1, e3]
      rw [if_pos (by omega)]
      omega
  rw [htm] at t1 t2
  have wt : IntKind.i64.wrap tm = tm := by rw [IntKind.wrap_i64]; omega
  have inn : (nn : Int) < (pn : Int) := by omega
  have inn0 : (0 : Int) ≤ (nn : Int) := by omega
  rw [← OC]
  clear h hs ht hD rd hN hn hx r0 r1 hW K1 b3 hW7 K7 szW hv0 hv1 hv2 OC hnn
  have HKK : Hid (¬ (1 ≤ o.kind ∧ o.kind ≤ 10)) := hkk
  clear hkk
  by_cases hneg : tm < 0
  · rw [if_pos hneg] at em
    have en : nn = (tm + (pn : Int)).toNat := by omega
    subst en
    have wn : IntKind.i64.wrap (tm + (pn : Int)) = tm + (pn : Int) := by rw [IntKind.wrap_i64]; omega
    have i0 : 0 ≤ tm + (pn : Int) := by omega
    have i1 : tm + (pn : Int) < (pn : Int) := by omega
    clear em inn inn0
    go_enter Try.func32, Try.ntmps32
    go_upto_region 1 with fail
    rw [← EW.out]
    go_upto_region 5 with fail
    have SS : ON w W7 (some ⟨g, 0, none⟩) pn pc L1 x L2 o wr.heap.size W.heap.size (fun _ => False) := Z.out
    have k0 : W7.cell? ⟨wr.heap.size, 0, none⟩ = some (.int .i64 o.kind) := cell_blk SS.o3 0 rfl
    clear SS
    rw [← E7.out]
    have Z5 : Hid (OD w W7 (some ⟨g, 0, none⟩) pn pc (L1 ++ x :: L2) (s + o.l.length) (t + 1)) := ⟨Z.out.back, Z.out.row, SM.out.1, fun y hy => (SM.out.2.1 y hy).mono (by omega) (by omega)⟩
    have kk3 : ¬ o.kind = 8 := by have := HKK.out; omega
    have kk8 : ¬ o.kind = 9 := by have := HKK.out; omega
    have kk9 : ¬ o.kind = 10 := by have := HKK.out; omega
    by_cases kk1 : (1 : Int) ≤ o.kind
    · have kk2 : ¬ o.kind ≤ 4 := by have := HKK.out; omega
      by_cases kk4 : (5 : Int) ≤ o.kind
      · have kk5 : ¬ o.kind ≤ 7 := by have := HKK.out; omega
        go_wp2_with fail
        go_ret2
        first | exact ⟨by first | rfl | simp, L1 ++ x :: L2, Z5.out, by simp⟩ | exact ⟨L1 ++ x :: L2, by first | rfl | simp, Z5.out, by simp⟩
      · exact absurd HKK.out (by omega)
    · have kk4 : ¬ (5 : Int) ≤ o.kind := by omega
      go_wp2_with fail
      go_ret2
      first | exact ⟨by first | rfl | simp, L1 ++ x :: L2, Z5.out, by simp⟩ | exact ⟨L1 ++ x :: L2, by first | rfl | simp, Z5.out, by simp⟩
  · rw [if_neg hneg] at em
    subst em
    go_enter Try.func32, Try.ntmps32
    go_upto_region 1 with fail
    rw [← EW.out]
    go_upto_region 5 with fail
    have SS : ON w W7 (some ⟨g, 0, none⟩) pn pc L1 x L2 o wr.heap.size W.heap.size (fun _ => False) := Z.out
    have k0 : W7.cell? ⟨wr.heap.size, 0, none⟩ = some (.int .i64 o.kind) := cell_blk SS.o3 0 rfl
    clear SS
    rw [← E7.out]
    have Z5 : Hid (OD w W7 (some ⟨g, 0, none⟩) pn pc (L1 ++ x :: L2) (s + o.l.length) (t + 1)) := ⟨Z.out.back, Z.out.row, SM.out.1, fun y hy => (SM.out.2.1 y hy).mono (by omega) (by omega)⟩
    have kk3 : ¬ o.kind = 8 := by have := HKK.out; omega
    have kk8 : ¬ o.kind = 9 := by have := HKK.out; omega
    have kk9 : ¬ o.kind = 10 := by have := HKK.out; omega
    by_cases kk1 : (1 : Int) ≤ o.kind
    · have kk2 : ¬ o.kind ≤ 4 := by have := HKK.out; omega
      by_cases kk4 : (5 : Int) ≤ o.kind
      · have kk5 : ¬ o.kind ≤ 7 := by have := HKK.out; omega
        go_wp2_with fail
        go_ret2
        first | exact ⟨by first | rfl | simp, L1 ++ x :: L2, Z5.out, by simp⟩ | exact ⟨L1 ++ x :: L2, by first | rfl | simp, Z5.out, by simp⟩
      · exact absurd HKK.out (by omega)
    · have kk4 : ¬ (5 : Int) ≤ o.kind := by omega
      go_wp2_with fail
      go_ret2
      first | exact ⟨by first | rfl | simp, L1 ++ x :: L2, Z5.out, by simp⟩ | exact ⟨L1 ++ x :: L2, by first | rfl | simp, Z5.out, by simp⟩
set_option maxRecDepth 100000 in
set_option maxHeartbeats 8000000 in
theorem one8 (w wr : World) (pa : Option Addr) (pn pc : Nat) (L1 : List Pr) (x : Pr) (L2 : List Pr) (o : Opv) (s t : Nat) (h : OD w wr pa pn pc (L1 ++ x :: L2) s t) (hs : s ≤ Few) (ht : t ≤ Few) (hD : o.D % (pn : Int) = (L1.length : Int)) (hp : pn < 1000000000) (sl : o.Sl) (rd : Reads w o.a o.n o.c o.l) (hN : o.N < 9223372036854775808) (hn : o.n ≤ Lim) (hkk : o.kind = 8) :
    Calls Try.prog 32 #[.slice pa pn pc, .agg o.cs] wr fun y w' => ∃ L', y = .returned (.tuple #[.slice pa pn pc, .bool true]) ∧ OD w w' pa pn pc L' (s + o.l.length) (t + 1) ∧ L'.length = (L1 ++ x :: L2).length := by
  obtain ⟨a0, n0, c0, a1, n1, c1, a2, n2, c2, hv0, hv1, hv2⟩ := sl
  have OC : #[.int .i64 o.kind, .int .i64 o.D, .int .i64 o.slot, .slice o.a o.n o.c, .int .i64 o.N, .bool o.done, .slice a0 n0 c0, .slice a1 n1 c1, .slice a2 n2 c2] = o.cs := by unfold Opv.cs; rw [hv0, hv1, hv2]
  have SL : Hid o.Sl := ⟨a0, n0, c0, a1, n1, c1, a2, n2, c2, hv0, hv1, hv2⟩
  have hx : (L1 ++ x :: L2)[L1.length]? = some x := by rw [List.getElem?_append_right (Nat.le_refl _), Nat.sub_self]; rfl
  obtain ⟨g, hpa, hnl, r0, r1⟩ := row_pair h.row hx
  subst hpa
  have hpc := (own_room h.row).1
  have hpc2 := (own_room h.row).2
  unfold maxLen at hpc2
  obtain ⟨nn, hnn⟩ : ∃ nn, nn = L1.length := ⟨_, rfl⟩
  rw [← hnn] at hD hnl r0 r1
  obtain ⟨W, hW⟩ : ∃ W, W = wr.alloc (.cells o.cs 46) := ⟨_, rfl⟩
  have EW : Hid (W = wr.alloc (.cells #[.int .i64 o.kind, .int .i64 o.D, .int .i64 o.slot, .slice o.a o.n o.c, .int .i64 o.N, .bool o.done, .slice a0 n0 c0, .slice a1 n1 c1, .slice a2 n2 c2] 46)) := by show W = _; rw [OC]; exact hW
  have K1 : Kept (fun _ => False) wr W := by rw [hW]; exact alloc_kept0 _ _
  have b3 : W.heap[wr.heap.size]? = some (.cells o.cs 46 (0, 0)) := by rw [hW]; exact alloc_new _ _
  have e1 : W.cell? ⟨wr.heap.size, 1, none⟩ = some (.int .i64 o.D) := cell_blk b3 1 rfl
  have r0' := K1.cell r0 (fun z => z)
  have r1' := K1.cell r1 (fun z => z)
  obtain ⟨W7, hW7⟩ : ∃ W7, W7 = W.alloc (.cells #[.pointer (some ⟨x.bp, 0, none⟩), .pointer (some ⟨x.br, 0, none⟩)] 60) := ⟨_, rfl⟩
  have E7 : Hid (W7 = W.alloc (.cells #[.pointer (some ⟨x.bp, 0, none⟩), .pointer (some ⟨x.br, 0, none⟩)] 60)) := hW7
  have szW : W.heap.size = wr.heap.size + 1 := by rw [hW]; exact alloc_size _ _
  have K7 : Kept (fun _ => False) W W7 := by rw [hW7]; exact alloc_kept0 _ _
  have sz7 : W7.heap.size = wr.heap.size + 2 := by rw [hW7, alloc_size, szW]
  have Z : Hid (ON w W7 (some ⟨g, 0, none⟩) pn pc L1 x L2 o wr.heap.size W.heap.size (fun _ => False)) := by
    have K17 : Kept (fun _ => False) wr W7 := K1.trans K7 (fun _ _ z => z)
    refine ⟨(h.al.perm List.perm_middle).more K17 (fun k hk => ?_), K17.owns h.row (fun _ _ z => z), K7.get b3 (fun z => z), by rw [hW7]; exact alloc_new _ _, rd⟩
    rcases hk with z | z | z | z
    · exact z.elim
    · exact .inl z
    · exact .inr (by omega)
    · exact .inr (by omega)
  have SM : Hid ((∀ y ∈ L1 ++ x :: L2, y.d.ab = y.r.ab) ∧ (∀ y ∈ L1 ++ x :: L2, Fits y.d.ab s t) ∧ x.d.ab = x.r.ab ∧ x.d.ab.Ok ∧ Fits x.d.ab s t ∧ o.n ≤ Lim) := ⟨h.same, h.fits, h.same x (by simp), (h.fits x (by simp)).ok hs ht, h.fits x (by simp), hn⟩
  have V0 : Hid (o.v0 = .slice a0 n0 c0 ∧ o.v1 = .slice a1 n1 c1 ∧ o.v2 = .slice a2 n2 c2) := ⟨hv0, hv1, hv2⟩
  have OCH : Hid (#[.int .i64 o.kind, .int .i64 o.D, .int .i64 o.slot, .slice o.a o.n o.c, .int .i64 o.N, .bool o.done, .slice a0 n0 c0, .slice a1 n1 c1, .slice a2 n2 c2] = o.cs) := OC
  have HN : Hid (o.N < 9223372036854775808) := hN
  have RB : Hid (0 < o.n → ∀ k, blockOf o.a = some k → k ≠ x.br) := fun h0 k hk z => by
    obtain ⟨b9, off9, e9, hc9⟩ := rd.cells h0
    rw [e9] at hk
    simp [blockOf] at hk
    subst hk
    have h1 := World.block_lt_of_cell? w _ (hc9 0 h0)
    have h2 := (Z.out.al.isr x (by simp)).low
    have h1 : b9 < w.heap.size := h1
    omega
  have m0 : ¬ ((pn : Int) = 0) := by omega
  have t1 := Int.tmod_lt_of_pos o.D (show (0 : Int) < (pn : Int) by omega)
  have t2 : -(pn : Int) < o.D.tmod (pn : Int) := by
    rcases Int.le_total 0 o.D with h1 | h1
    · have := Int.tmod_nonneg (pn : Int) h1; omega
    · have := Int.tmod_lt_of_pos (-o.D) (show (0 : Int) < (pn : Int) by omega)
      rw [Int.neg_tmod] at this
      omega
  obtain ⟨tm, htm⟩ : ∃ tm, o.D.tmod (pn : Int) = tm := ⟨_, rfl⟩
  have em : (nn : Int) = if tm < 0 then tm + (pn : Int) else tm := by
    rw [← hD, ← htm, Int.tmod_eq_emod]
    have e1 := Int.emod_nonneg o.D (show (pn : Int) ≠ 0 by omega)
    have e2 := Int.emod_lt_of_pos o.D (show (0 : Int) < (pn : Int) by omega)
    have e3 : ((pn : Int).natAbs : Int) = (pn : Int) := by omega
    by_cases h1 : 0 ≤ o.D ∨ (pn : Int) ∣ o.D
    · rw [if_pos h1]
      simp
      intro h2
      omega
    · rw [if_neg h1, e3]
      rw [if_pos (by omega)]
      omega
  rw [htm] at t1 t2
  have wt : IntKind.i64.wrap tm = tm := by rw [IntKind.wrap_i64]; omega
  have inn : (nn : Int) < (pn : Int) := by omega
  have inn0 : (0 : Int) ≤ (nn : Int) := by omega
  rw [← OC]
  clear h hs ht hD rd hN hn hx r0 r1 hW K1 b3 hW7 K7 szW hv0 hv1 hv2 OC hnn
  have HKK : Hid (o.kind = 8) := hkk
  clear hkk
  by_cases hneg : tm < 0
  · rw [if_pos hneg] at em
    have en : nn = (tm + (pn : Int)).toNat := by omega
    subst en
    have wn : IntKind.i64.wrap (tm + (pn : Int)) = tm + (pn : Int) := by rw [IntKind.wrap_i64]; omega
    have i0 : 0 ≤ tm + (pn : Int) := by omega
    have i1 : tm + (pn : Int) < (pn : Int) := by omega
    clear em inn inn0
    go_enter Try.func32, Try.ntmps32
    go_upto_region 1 with fail
    rw [← EW.out]
    go_upto_region 5 with fail
    have SS : ON w W7 (some ⟨g, 0, none⟩) pn pc L1 x L2 o wr.heap.size W.heap.size (fun _ => False) := Z.out
    have k0 : W7.cell? ⟨wr.heap.size, 0, none⟩ = some (.int .i64 o.kind) := cell_blk SS.o3 0 rfl
    have k3 : W7.cell? ⟨wr.heap.size, 3, none⟩ = some (.slice o.a o.n o.c) := cell_blk SS.o3 3 rfl
    clear SS
    rw [← E7.out]
    have kk1 : (1 : Int) ≤ o.kind := by have := HKK.out; omega
    have kk2 : ¬ o.kind ≤ 4 := by have := HKK.out; omega
    have kk3 : (o.kind == 8) = true := by rw [HKK.out]; rfl
    go_wp2_with fail
    refine (wide o.a o.n o.c o.l W7 Z.out.reads SM.out.2.2.2.2.2).mono ?_
    rintro y w2 ⟨p2, q2, rfl, o2, K2⟩
    have Z2 : Hid (ON w w2 (some ⟨g, 0, none⟩) pn pc L1 x L2 o wr.heap.size W.heap.size (fun k => blockOf p2 = some k) ∧ w2.ownsRow W7.heap.size 5 1 (.slice p2 (o.n + 2) q2) (o.n + 2) (cellsOf (o.l ++ [193, 194])) ∧ Reads w2 p2 o.n q2 o.l ∧ (∀ k, blockOf p2 = some k → W7.heap.size ≤ k)) := ⟨Z.out.more K2 (fun k hk => .inr (own_lt o2 k hk)), o2, wide_reads Z.out.rd.length Z.out.rd.bytes o2, fun k hk => (own_lt o2 k hk).1⟩
    clear o2 K2 k0 k3
    have m0 : w2.cell? ⟨wr.heap.size, 0, none⟩ = some (.int .i64 o.kind) := cell_blk Z2.out.1.o3 0 rfl
    have m1 : w2.cell? ⟨wr.heap.size, 1, none⟩ = some (.int .i64 o.D) := cell_blk Z2.out.1.o3 1 rfl
    have m2 : w2.cell? ⟨wr.heap.size, 2, none⟩ = some (.int .i64 o.slot) := cell_blk Z2.out.1.o3 2 rfl
    have m3 : w2.cell? ⟨wr.heap.size, 3, none⟩ = some (.slice o.a o.n o.c) := cell_blk Z2.out.1.o3 3 rfl
    have m4 : w2.cell? ⟨wr.heap.size, 4, none⟩ = some (.int .i64 o.N) := cell_blk Z2.out.1.o3 4 rfl
    have m5 : w2.cell? ⟨wr.heap.size, 5, none⟩ = some (.bool o.done) := cell_blk Z2.out.1.o3 5 rfl
    have m6 : w2.cell? ⟨wr.heap.size, 6, none⟩ = some (.slice a0 n0 c0) := by rw [← V0.out.1]; exact cell_blk Z2.out.1.o3 6 rfl
    have m7 : w2.cell? ⟨wr.heap.size, 7, none⟩ = some (.slice a1 n1 c1) := by rw [← V0.out.2.1]; exact cell_blk Z2.out.1.o3 7 rfl
    have m8 : w2.cell? ⟨wr.heap.size, 8, none⟩ = some (.slice a2 n2 c2) := by rw [← V0.out.2.2]; exact cell_blk Z2.out.1.o3 8 rfl
    have mp : w2.cell? ⟨W.heap.size, 0, none⟩ = some (.pointer (some ⟨x.bp, 0, none⟩)) := cell_blk Z2.out.1.x7 0 rfl
    have mq : w2.cell? ⟨W.heap.size, 1, none⟩ = some (.pointer (some ⟨x.br, 0, none⟩)) := cell_blk Z2.out.1.x7 1 rfl
    go_wp2_with fail
    rw [OCH.out]
    refine (goP w.heap.size x.bp x.d o (.inr HKK.out) p2 q2 w2 (Z2.out.1.al.isd x (by simp)) SM.out.2.2.2.1 Z2.out.2.2.1 SM.out.2.2.2.2.2 (fun k hk z => (Z2.out.1.al.far k (.inl hk)).2.2 x (by simp) (.inl (.inl z)))).mono ?_
    obtain ⟨ac, hac⟩ : ∃ ac, ac = x.d.ab.go o := ⟨_, rfl⟩
    have AC : Hid (ac = x.d.ab.go o) := hac
    rw [← hac]
    clear hac
    obtain ⟨A', v⟩ := ac
    rintro y w3 ⟨rfl, d', i3, dm3, e3⟩
    have Z3 : Hid (ON w w3 (some ⟨g, 0, none⟩) pn pc L1 { x with d := d' } L2 o wr.heap.size W.heap.size (fun k => blockOf p2 = some k) ∧ w3.ownsRow W7.heap.size 5 1 (.slice p2 (o.n + 2) q2) (o.n + 2) (cellsOf (o.l ++ [193, 194])) ∧ d'.ab = A') := by
      obtain ⟨q1, q2'⟩ := Z2.out.1.al.stepP i3 dm3
      exact ⟨Z2.out.1.held q1 q2' rfl rfl, q2'.owns Z2.out.2.1 (fun k hk z => z (.inl (by rw [← hk]; exact (blockOf_own ..).symm))), e3⟩
    clear i3 dm3 e3 m0 m1 m2 m3 m4 m5 m6 m7 m8 mp mq
    have u0 : w3.cell? ⟨wr.heap.size, 0, none⟩ = some (.int .i64 o.kind) := cell_blk Z3.out.1.o3 0 rfl
    have u1 : w3.cell? ⟨wr.heap.size, 1, none⟩ = some (.int .i64 o.D) := cell_blk Z3.out.1.o3 1 rfl
    have u2 : w3.cell? ⟨wr.heap.size, 2, none⟩ = some (.int .i64 o.slot) := cell_blk Z3.out.1.o3 2 rfl
    have u3 : w3.cell? ⟨wr.heap.size, 3, none⟩ = some (.slice o.a o.n o.c) := cell_blk Z3.out.1.o3 3 rfl
    have u4 : w3.cell? ⟨wr.heap.size, 4, none⟩ = some (.int .i64 o.N) := cell_blk Z3.out.1.o3 4 rfl
    have u5 : w3.cell? ⟨wr.heap.size, 5, none⟩ = some (.bool o.done) := cell_blk Z3.out.1.o3 5 rfl
    have u6 : w3.cell? ⟨wr.heap.size, 6, none⟩ = some (.slice a0 n0 c0) := by rw [← V0.out.1]; exact cell_blk Z3.out.1.o3 6 rfl
    have u7 : w3.cell? ⟨wr.heap.size, 7, none⟩ = some (.slice a1 n1 c1) := by rw [← V0.out.2.1]; exact cell_blk Z3.out.1.o3 7 rfl
    have u8 : w3.cell? ⟨wr.heap.size, 8, none⟩ = some (.slice a2 n2 c2) := by rw [← V0.out.2.2]; exact cell_blk Z3.out.1.o3 8 rfl
    have upp : w3.cell? ⟨W.heap.size, 0, none⟩ = some (.pointer (some ⟨x.bp, 0, none⟩)) := cell_blk Z3.out.1.x7 0 rfl
    have uqq : w3.cell? ⟨W.heap.size, 1, none⟩ = some (.pointer (some ⟨x.br, 0, none⟩)) := cell_blk Z3.out.1.x7 1 rfl
    rw [← OCH.out]
    go_wp2_with fail
    rw [OCH.out]
    refine (goR w.heap.size x.br x.r o SL.out (.inr HKK.out) w3 (Z3.out.1.al.isr { x with d := d' } (by simp)) (by rw [← SM.out.2.2.1]; exact SM.out.2.2.2.1) Z3.out.1.reads SM.out.2.2.2.2.2 RB.out).mono ?_
    rw [← SM.out.2.2.1, ← AC.out]
    rintro y w4 ⟨rfl, r', i4, m4', e4⟩
    have Z4 : Hid (ON w w4 (some ⟨g, 0, none⟩) pn pc L1 { x with d := d', r := r' } L2 o wr.heap.size W.heap.size (fun k => blockOf p2 = some k) ∧ w4.ownsRow W7.heap.size 5 1 (.slice p2 (o.n + 2) q2) (o.n + 2) (cellsOf (o.l ++ [193, 194])) ∧ r'.ab = A') := by
      obtain ⟨q1, q2'⟩ := Z3.out.1.al.stepR (r' := r') i4 m4'
      exact ⟨Z3.out.1.held q1 q2' rfl rfl, q2'.owns Z3.out.2.1 (fun k hk z => z (.inl (by rw [← hk]; exact (blockOf_own ..).symm))), e4⟩
    clear i4 m4' e4 u0 u1 u2 u3 u4 u5 u6 u7 u8 upp uqq
    have h3 : w4.cell? ⟨wr.heap.size, 3, none⟩ = some (.slice o.a o.n o.c) := cell_blk Z4.out.1.o3 3 rfl
    rw [← OCH.out]
    go_wp2_with fail
    refine (keptOK W7.heap.size p2 q2 o.a o.n o.c o.l w4 Z4.out.2.1 Z4.out.1.reads SM.out.2.2.2.2.2).mono ?_
    rintro y wz ⟨rfl, ez⟩
    rw [ez]
    clear ez wz h3
    go_wp2_with fail
    have WO : Hid (w4.ownsRow W7.heap.size 5 1 (.slice p2 o.n q2) o.n (cellsOf ((o.l ++ [193, 194]).take o.n))) := own_take Z4.out.2.1 o.n (by omega)
    refine (over W7.heap.size p2 o.n q2 _ w4 WO.out).mono ?_
    rintro y w5 ⟨rfl, K5⟩
    have Z5 : Hid (OD w w5 (some ⟨g, 0, none⟩) pn pc (L1 ++ { x with d := d', r := r' } :: L2) (s + o.l.length) (t + 1)) := by
      have al5 : AL w w5 (L1 ++ { x with d := d', r := r' } :: L2) (fun k => blockOf (some (⟨g, 0, none⟩ : Addr)) = some k) := Z4.out.1.back.wrote K5 (fun k hk => ⟨by have := Z2.out.2.2.2 k hk; have := Z.out.al.kept.size; omega, fun y hy u => (Z4.out.1.al.far k (.inl hk)).2.2 y (List.perm_middle.mem_iff.1 hy) u⟩)
      refine ⟨al5, K5.owns Z4.out.1.row (fun k hk z => ?_), fun y hy => ?_, fun y hy => ?_⟩
      · have h1 := Z2.out.2.2.2 k z
        have h2 : k < W7.heap.size := (Z.out.al.far k (.inr (.inl (by rw [← hk]; exact (blockOf_own ..).symm)))).1
        omega
      · rcases mid_mem (x := x) hy with e | e
        · rw [e]; exact Z3.out.2.2.trans Z4.out.2.2.symm
        · exact SM.out.1 y e
      · rcases mid_mem (x := x) hy with e | e
        · rw [e]
          have hf := SM.out.2.2.2.2.1.go o HN.out
          rw [← AC.out] at hf
          have e3 := Z3.out.2.2
          show Fits d'.ab _ _
          rw [e3]
          exact hf
        · exact (SM.out.2.1 y e).mono (by omega) (by omega)
    clear K5
    go_wp2_with fail
    go_ret2
    exact ⟨_, by first | rfl | simp, Z5.out, by simp⟩
  · rw [if_neg hneg] at em
    subst em
    go_enter Try.func32, Try.ntmps32
    go_upto_region 1 with fail
    rw [← EW.out]
    go_upto_region 5 with fail
    have SS : ON w W7 (some ⟨g, 0, none⟩) pn pc L1 x L2 o wr.heap.size W.heap.size (fun _ => False) := Z.out
    have k0 : W7.cell? ⟨wr.heap.size, 0, none⟩ = some (.int .i64 o.kind) := cell_blk SS.o3 0 rfl
    have k3 : W7.cell? ⟨wr.heap.size, 3, none⟩ = some (.slice o.a o.n o.c) := cell_blk SS.o3 3 rfl
    clear SS
    rw [← E7.out]
    have kk1 : (1 : Int) ≤ o.kind := by have := HKK.out; omega
    have kk2 : ¬ o.kind ≤ 4 := by have := HKK.out; omega
    have kk3 : (o.kind == 8) = true := by rw [HKK.out]; rfl
    go_wp2_with fail
    refine (wide o.a o.n o.c o.l W7 Z.out.reads SM.out.2.2.2.2.2).mono ?_
    rintro y w2 ⟨p2, q2, rfl, o2, K2⟩
    have Z2 : Hid (ON w w2 (some ⟨g, 0, none⟩) pn pc L1 x L2 o wr.heap.size W.heap.size (fun k => blockOf p2 = some k) ∧ w2.ownsRow W7.heap.size 5 1 (.slice p2 (o.n + 2) q2) (o.n + 2) (cellsOf (o.l ++ [193, 194])) ∧ Reads w2 p2 o.n q2 o.l ∧ (∀ k, blockOf p2 = some k → W7.heap.size ≤ k)) := ⟨Z.out.more K2 (fun k hk => .inr (own_lt o2 k hk)), o2, wide_reads Z.out.rd.length Z.out.rd.bytes o2, fun k hk => (own_lt o2 k hk).1⟩
    clear o2 K2 k0 k3
    have m0 : w2.cell? ⟨wr.heap.size, 0, none⟩ = some (.int .i64 o.kind) := cell_blk Z2.out.1.o3 0 rfl
    have m1 : w2.cell? ⟨wr.heap.size, 1, none⟩ = some (.int .i64 o.D) := cell_blk Z2.out.1.o3 1 rfl
    have m2 : w2.cell? ⟨wr.heap.size, 2, none⟩ = some (.int .i64 o.slot) := cell_blk Z2.out.1.o3 2 rfl
    have m3 : w2.cell? ⟨wr.heap.size, 3, none⟩ = some (.slice o.a o.n o.c) := cell_blk Z2.out.1.o3 3 rfl
    have m4 : w2.cell? ⟨wr.heap.size, 4, none⟩ = some (.int .i64 o.N) := cell_blk Z2.out.1.o3 4 rfl
    have m5 : w2.cell? ⟨wr.heap.size, 5, none⟩ = some (.bool o.done) := cell_blk Z2.out.1.o3 5 rfl
    have m6 : w2.cell? ⟨wr.heap.size, 6, none⟩ = some (.slice a0 n0 c0) := by rw [← V0.out.1]; exact cell_blk Z2.out.1.o3 6 rfl
    have m7 : w2.cell? ⟨wr.heap.size, 7, none⟩ = some (.slice a1 n1 c1) := by rw [← V0.out.2.1]; exact cell_blk Z2.out.1.o3 7 rfl
    have m8 : w2.cell? ⟨wr.heap.size, 8, none⟩ = some (.slice a2 n2 c2) := by rw [← V0.out.2.2]; exact cell_blk Z2.out.1.o3 8 rfl
    have mp : w2.cell? ⟨W.heap.size, 0, none⟩ = some (.pointer (some ⟨x.bp, 0, none⟩)) := cell_blk Z2.out.1.x7 0 rfl
    have mq : w2.cell? ⟨W.heap.size, 1, none⟩ = some (.pointer (some ⟨x.br, 0, none⟩)) := cell_blk Z2.out.1.x7 1 rfl
    go_wp2_with fail
    rw [OCH.out]
    refine (goP w.heap.size x.bp x.d o (.inr HKK.out) p2 q2 w2 (Z2.out.1.al.isd x (by simp)) SM.out.2.2.2.1 Z2.out.2.2.1 SM.out.2.2.2.2.2 (fun k hk z => (Z2.out.1.al.far k (.inl hk)).2.2 x (by simp) (.inl (.inl z)))).mono ?_
    obtain ⟨ac, hac⟩ : ∃ ac, ac = x.d.ab.go o := ⟨_, rfl⟩
    have AC : Hid (ac = x.d.ab.go o) := hac
    rw [← hac]
    clear hac
    obtain ⟨A', v⟩ := ac
    rintro y w3 ⟨rfl, d', i3, dm3, e3⟩
    have Z3 : Hid (ON w w3 (some ⟨g, 0, none⟩) pn pc L1 { x with d := d' } L2 o wr.heap.size W.heap.size (fun k => blockOf p2 = some k) ∧ w3.ownsRow W7.heap.size 5 1 (.slice p2 (o.n + 2) q2) (o.n + 2) (cellsOf (o.l ++ [193, 194])) ∧ d'.ab = A') := by
      obtain ⟨q1, q2'⟩ := Z2.out.1.al.stepP i3 dm3
      exact ⟨Z2.out.1.held q1 q2' rfl rfl, q2'.owns Z2.out.2.1 (fun k hk z => z (.inl (by rw [← hk]; exact (blockOf_own ..).symm))), e3⟩
    clear i3 dm3 e3 m0 m1 m2 m3 m4 m5 m6 m7 m8 mp mq
    have u0 : w3.cell? ⟨wr.heap.size, 0, none⟩ = some (.int .i64 o.kind) := cell_blk Z3.out.1.o3 0 rfl
    have u1 : w3.cell? ⟨wr.heap.size, 1, none⟩ = some (.int .i64 o.D) := cell_blk Z3.out.1.o3 1 rfl
    have u2 : w3.cell? ⟨wr.heap.size, 2, none⟩ = some (.int .i64 o.slot) := cell_blk Z3.out.1.o3 2 rfl
    have u3 : w3.cell? ⟨wr.heap.size, 3, none⟩ = some (.slice o.a o.n o.c) := cell_blk Z3.out.1.o3 3 rfl
    have u4 : w3.cell? ⟨wr.heap.size, 4, none⟩ = some (.int .i64 o.N) := cell_blk Z3.out.1.o3 4 rfl
    have u5 : w3.cell? ⟨wr.heap.size, 5, none⟩ = some (.bool o.done) := cell_blk Z3.out.1.o3 5 rfl
    have u6 : w3.cell? ⟨wr.heap.size, 6, none⟩ = some (.slice a0 n0 c0) := by rw [← V0.out.1]; exact cell_blk Z3.out.1.o3 6 rfl
    have u7 : w3.cell? ⟨wr.heap.size, 7, none⟩ = some (.slice a1 n1 c1) := by rw [← V0.out.2.1]; exact cell_blk Z3.out.1.o3 7 rfl
    have u8 : w3.cell? ⟨wr.heap.size, 8, none⟩ = some (.slice a2 n2 c2) := by rw [← V0.out.2.2]; exact cell_blk Z3.out.1.o3 8 rfl
    have upp : w3.cell? ⟨W.heap.size, 0, none⟩ = some (.pointer (some ⟨x.bp, 0, none⟩)) := cell_blk Z3.out.1.x7 0 rfl
    have uqq : w3.cell? ⟨W.heap.size, 1, none⟩ = some (.pointer (some ⟨x.br, 0, none⟩)) := cell_blk Z3.out.1.x7 1 rfl
    rw [← OCH.out]
    go_wp2_with fail
    rw [OCH.out]
    refine (goR w.heap.size x.br x.r o SL.out (.inr HKK.out) w3 (Z3.out.1.al.isr { x with d := d' } (by simp)) (by rw [← SM.out.2.2.1]; exact SM.out.2.2.2.1) Z3.out.1.reads SM.out.2.2.2.2.2 RB.out).mono ?_
    rw [← SM.out.2.2.1, ← AC.out]
    rintro y w4 ⟨rfl, r', i4, m4', e4⟩
    have Z4 : Hid (ON w w4 (some ⟨g, 0, none⟩) pn pc L1 { x with d := d', r := r' } L2 o wr.heap.size W.heap.size (fun k => blockOf p2 = some k) ∧ w4.ownsRow W7.heap.size 5 1 (.slice p2 (o.n + 2) q2) (o.n + 2) (cellsOf (o.l ++ [193, 194])) ∧ r'.ab = A') := by
      obtain ⟨q1, q2'⟩ := Z3.out.1.al.stepR (r' := r') i4 m4'
      exact ⟨Z3.out.1.held q1 q2' rfl rfl, q2'.owns Z3.out.2.1 (fun k hk z => z (.inl (by rw [← hk]; exact (blockOf_own ..).symm))), e4⟩
    clear i4 m4' e4 u0 u1 u2 u3 u4 u5 u6 u7 u8 upp uqq
    have h3 : w4.cell? ⟨wr.heap.size, 3, none⟩ = some (.slice o.a o.n o.c) := cell_blk Z4.out.1.o3 3 rfl
    rw [← OCH.out]
    go_wp2_with fail
    refine (keptOK W7.heap.size p2 q2 o.a o.n o.c o.l w4 Z4.out.2.1 Z4.out.1.reads SM.out.2.2.2.2.2).mono ?_
    rintro y wz ⟨rfl, ez⟩
    rw [ez]
    clear ez wz h3
    go_wp2_with fail
    have WO : Hid (w4.ownsRow W7.heap.size 5 1 (.slice p2 o.n q2) o.n (cellsOf ((o.l ++ [193, 194]).take o.n))) := own_take Z4.out.2.1 o.n (by omega)
    refine (over W7.heap.size p2 o.n q2 _ w4 WO.out).mono ?_
    rintro y w5 ⟨rfl, K5⟩
    have Z5 : Hid (OD w w5 (some ⟨g, 0, none⟩) pn pc (L1 ++ { x with d := d', r := r' } :: L2) (s + o.l.length) (t + 1)) := by
      have al5 : AL w w5 (L1 ++ { x with d := d', r := r' } :: L2) (fun k => blockOf (some (⟨g, 0, none⟩ : Addr)) = some k) := Z4.out.1.back.wrote K5 (fun k hk => ⟨by have := Z2.out.2.2.2 k hk; have := Z.out.al.kept.size; omega, fun y hy u => (Z4.out.1.al.far k (.inl hk)).2.2 y (List.perm_middle.mem_iff.1 hy) u⟩)
      refine ⟨al5, K5.owns Z4.out.1.row (fun k hk z => ?_), fun y hy => ?_, fun y hy => ?_⟩
      · have h1 := Z2.out.2.2.2 k z
        have h2 : k < W7.heap.size := (Z.out.al.far k (.inr (.inl (by rw [← hk]; exact (blockOf_own ..).symm)))).1
        omega
      · rcases mid_mem (x := x) hy with e | e
        · rw [e]; exact Z3.out.2.2.trans Z4.out.2.2.symm
        · exact SM.out.1 y e
      · rcases mid_mem (x := x) hy with e | e
        · rw [e]
          have hf := SM.out.2.2.2.2.1.go o HN.out
          rw [← AC.out] at hf
          have e3 := Z3.out.2.2
          show Fits d'.ab _ _
          rw [e3]
          exact hf
        · exact (SM.out.2.1 y e).mono (by omega) (by omega)
    clear K5
    go_wp2_with fail
    go_ret2
    exact ⟨_, by first | rfl | simp, Z5.out, by simp⟩
end Go.Proofs.Ytbnnmelkbjkkjaa
