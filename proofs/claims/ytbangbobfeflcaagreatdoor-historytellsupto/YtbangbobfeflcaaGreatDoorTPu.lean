import Derived.Test.YtbangbobfeflcaaGreatDoorTStJ
import Derived.Test.YtbangbobfeflcaaGreatDoorRCl
import Derived.Test.YtbangbobfeflcaaGreatDoorRTwJ
import Derived.Test.YtbangbobfeflcaaGreatDoorRPoJ
import Derived.Test.YtbangbobfeflcaaGreatDoorRKw
import Derived.Test.YtbangbobfeflcaaGreatDoorShelfJ
import Derived.Test.YtbangbobfeflcaaGreatDoorHScJ
namespace Go.Proofs.YtbangbobfeflcaaGreatDoor
open Go.RowKit 

theorem Tryz.info22c : (Tryz.prog.info? 22).map (fun i => (i.zero, i.size, i.bytes)) = some (some (.slice none 0 0), 1, 24) := by kernel_rfl
/-- What Calls tells of events. -/
def Tol (es : List Ev) (e : Int) (L : List Ca) : Prop := (¬ e = 0 ∧ L = [] ∧ ∃ a, chkE es noM 0 = (a, e)) ∨ (e = 0 ∧ chkE es noM 0 = (-1, 0) ∧ L.map (fun x => some x.cc) = callsE es)
theorem Tol.core {L0 es : List Ev} {e : Int} {L : List Ca} (h : Tol L0 e L) (hc : L0.map Ev.core = es.map Ev.core) : Tol es e L := by
  unfold Tol at h ⊢
  rw [chk_same hc, calls_same hc] at h
  exact h
theorem map_some_inj {α β : Type} {f : α → β} : ∀ {a b : List α}, a.map (fun x => some (f x)) = b.map (fun x => some (f x)) → a.map f = b.map f
  | [], [], _ => rfl
  | [], _ :: _, h => by cases h
  | _ :: _, [], h => by cases h
  | x :: a, y :: b, h => by
    rw [List.map_cons, List.map_cons] at h
    injection h with h1 h2
    rw [List.map_cons, List.map_cons, Option.some.inj h1, map_some_inj h2]
theorem Tol.same {es : List Ev} {e e' : Int} {L M : List Ca} (h1 : Tol es e L) (h2 : Tol es e' M) : e = e' ∧ L.map Ca.cc = M.map Ca.cc := by
  rcases h1 with ⟨a1, a2, a, a3⟩ | ⟨a1, a2, a3⟩ <;> rcases h2 with ⟨b1, b2, b, b3⟩ | ⟨b1, b2, b3⟩
  · rw [a3] at b3
    injection b3 with _ q
    rw [a2, b2]
    exact ⟨q, rfl⟩
  · rw [a3] at b2
    injection b2 with _ q
    exact absurd q a1
  · rw [a2] at b3
    injection b3 with _ q
    exact absurd q.symm b1
  · rw [← b3] at a3
    exact ⟨a1.trans b1.symm, map_some_inj a3⟩
theorem Tol.len {es : List Ev} {e : Int} {L : List Ca} (h : Tol es e L) : L.length ≤ es.length := by
  rcases h with ⟨_, a2, _⟩ | ⟨_, _, a3⟩
  · rw [a2]
    exact Nat.zero_le _
  · have q := congrArg List.length a3
    rw [List.length_map] at q
    unfold callsE invE at q
    rw [List.length_map] at q
    have q2 := List.length_filter_le (isInv es) (List.range es.length)
    rw [List.length_range] at q2
    omega
theorem Tol.bytes {w : World} {p0 : Option Addr} {n c0 : Nat} {es : List Ev} (er : ERd w p0 n c0 es) {e : Int} {L : List Ca} (h : Tol es e L) : ∀ x ∈ L, ∀ y ∈ x.val, y < 256 := by
  rcases h with ⟨_, a2, _⟩ | ⟨_, _, a3⟩
  · rw [a2]
    intro x hx
    cases hx
  · exact told_bytes er a3
theorem keys_nodup (es : List Ev) : (keysR es).Nodup := rib_nodup (keysR_rise es)
/-- How many events all Ofs have together. -/
theorem ofs_le (es : List Ev) (key : ByteArray) (i : Nat) : (((keysR es ++ [key]).take i).map fun k => (ofK es k).length).sum ≤ 2 * es.length := by
  have e : ∀ l : List ByteArray, (l.map fun k => (ofK es k).length) = l.map fun k => (placesS es k).length := fun l => List.map_congr_left (fun k _ => ofK_len es k)
  rw [e, List.take_append]
  rw [List.map_append, List.sum_append]
  have q1 := (sum_le (List.Nodup.sublist (List.take_sublist i (keysR es)) (keys_nodup es)) es).1
  have q2 : ((([key].take (i - (keysR es).length))).map fun k => (placesS es k).length).sum ≤ es.length := by
    cases h : i - (keysR es).length with
    | zero => exact Nat.zero_le _
    | succ m =>
      have : ([key].take (m + 1)) = [key] := by simp
      rw [this]
      have q := placesS_len es key
      simpa using q
  omega
theorem keys_le (es : List Ev) : (keysR es).length ≤ es.length := by
  have h : ∀ k ∈ keysR es, 1 ≤ (placesS es k).length := fun k hk => by
    obtain ⟨e, he, q⟩ := (keysR_mem k es).1 hk
    have q2 : e ∈ ofK es k := List.mem_filter.2 ⟨he, by simpa using q⟩
    rw [← ofK_len]
    exact List.length_pos_of_mem q2
  have q1 := (sum_le (keys_nodup es) es).1
  have q2 : ∀ l : List ByteArray, (∀ k ∈ l, 1 ≤ (placesS es k).length) → l.length ≤ (l.map fun k => (placesS es k).length).sum := fun l => by
    induction l with
    | nil => intro _; exact Nat.le_refl _
    | cons k l ih =>
      intro h
      have a := h k List.mem_cons_self
      have b := ih (fun k hk => h k (List.mem_cons_of_mem _ hk))
      rw [List.map_cons, List.sum_cons, List.length_cons]
      omega
  have q3 := q2 (keysR es) h
  omega
theorem vls_len (O : List Ol) : (vls O).length = (O.map fun x => x.l.length).sum := by
  unfold vls
  rw [List.length_flatMap]
  congr 1
  exact List.map_congr_left (fun x _ => List.length_map _)
/-- What the Ofs told. -/
def OfT (es : List Ev) (l : List ByteArray) (O : List Ol) : Prop := O.map (fun x => x.l.map Ev.core) = l.map fun k => (ofK es k).map Ev.core
theorem OfT.len {es : List Ev} {l : List ByteArray} {O : List Ol} (h : OfT es l O) : (vls O).length = (l.map fun k => (ofK es k).length).sum := by
  rw [vls_len]
  have q := congrArg (fun z => (z.map List.length).sum) h
  simp only [List.map_map] at q
  have e1 : (O.map (List.length ∘ fun x => x.l.map Ev.core)) = O.map fun x => x.l.length := List.map_congr_left (fun x _ => List.length_map _)
  have e2 : (l.map (List.length ∘ fun k => (ofK es k).map Ev.core)) = l.map fun k => (ofK es k).length := List.map_congr_left (fun x _ => List.length_map _)
  rw [e1, e2] at q
  exact q
theorem OfT.snoc {es : List Ev} {l : List ByteArray} {O : List Ol} {k : ByteArray} {x : Ol} (h : OfT es l O) (hx : x.l.map Ev.core = (ofK es k).map Ev.core) : OfT es (l ++ [k]) (O ++ [x]) := by
  unfold OfT at h ⊢
  rw [List.map_append, List.map_append, h]
  show _ ++ [x.l.map Ev.core] = _ ++ [(ofK es k).map Ev.core]
  rw [hx]
/-- The names one after another. -/
theorem names_take {ks : List ByteArray} {key k : ByteArray} {i : Nat} (h : (i < ks.length ∧ ks[i]? = some k) ∨ (i = ks.length ∧ k = key)) : (ks ++ [key]).take (i + 1) = (ks ++ [key]).take i ++ [k] := by
  have e : (ks ++ [key])[i]? = some k := by
    rcases h with ⟨h1, h2⟩ | ⟨h1, h2⟩
    · rw [List.getElem?_append_left h1]
      exact h2
    · rw [List.getElem?_append_right (by omega), h1, Nat.sub_self, h2]
      rfl
  rw [List.take_add_one, e]
  rfl
theorem str_of {W : World} {b n c : Nat} {p : Option Addr} {ks : List ByteArray} (h : W.ownsRow b 9 1 (.slice p n c) n (strs ks)) : StR W p ks := fun i k hk => by
  have hl : i < n := by
    have q := h.1
    rw [strs_lenK] at q
    have := (List.getElem?_eq_some_iff.1 hk).1
    omega
  rcases h.2 with ⟨_, z⟩ | ⟨g, cap, cur, z, _⟩
  · omega
  · have z : Value.slice p n c = .slice (some ⟨g, 0, none⟩) n cap := z
    injection z with z1 _ _
    subst z1
    have q := h.cells (g := g) rfl i _ (strs_at hk)
    rw [Addr.add_none, Nat.zero_add] at q
    exact ⟨g, rfl, q⟩
theorem rwC_take {L : List Ca} {i : Nat} {x : Ca} (h : L[i]? = some x) : (L.take (i + 1)).map rwC = (L.take i).map rwC ++ [rwC x] := by
  rw [List.take_add_one, h, List.map_append]
  rfl
theorem rwE_take {L : List Ev} {i : Nat} {x : Ev} (h : L[i]? = some x) : (L.take (i + 1)).map rwE = (L.take i).map rwE ++ [rwE x] := by
  rw [List.take_add_one, h, List.map_append]
  rfl
theorem src_sl {W : World} {B : Nat} {ty tx : TypeId} {u : Value} (hu2 : Tryz.prog.underlying tx = some (.slice ty)) (hB : W.heap[B]? = some (.cells #[u] ty (0, 0))) (hu : u.oneCell' = true) : Src Tryz.prog 1 tx (.slice (some ⟨B, 0, none⟩) 1 1) 1 [u] W := by
  refine Src.ofSlice W hu2 ⟨B, 0, none⟩ 1 1 [u] rfl (fun j x hx => ?_) (fun x hx => ?_)
  · rw [Addr.add_none, Nat.zero_add]
    refine cell_blk hB j ?_
    rw [← hx]
    cases j <;> rfl
  · rw [List.mem_singleton.1 hx]
    exact hu
theorem TA.start {w W : World} {q : Option Addr} {k c : Nat} {L : List Ca} {pk : Option Addr} {nk ck : Nat} {ks : List ByteArray} (h1 : KaR w.heap.size W q k c L) (h2 : L.Pairwise (fun a b => ∀ x, blockOf a.va = some x → blockOf b.va ≠ some x)) (h3 : W.ownsRow w.heap.size 9 1 (.slice pk nk ck) nk (strs ks)) (K : Kept (fun _ => False) w W) : TA w W none 0 0 [] q k c L pk nk ck ks none 0 0 [] [] := by
  refine ⟨⟨rfl, .inl ⟨rfl, rfl⟩⟩, h1, h3, ⟨rfl, .inl ⟨rfl, rfl⟩⟩, fun x hx => (by cases hx), List.Pairwise.nil, ?_, K⟩
  rw [show vls [] = [] from rfl, List.append_nil, List.pairwise_map]
  exact h2
theorem TA.dropK {w W W' : World} {Pa : Option Addr} {na Ka : Nat} {RA : List Rw} {q : Option Addr} {k c : Nat} {L : List Ca} {pk : Option Addr} {nk ck : Nat} {ks : List ByteArray} {Po : Option Addr} {no Co : Nat} {Os O : List Ol} (h : TA w W Pa na Ka RA q k c L pk nk ck ks Po no Co Os O) (hg : W.grownBy W' (Value.slice pk nk ck).ownBlock) : TA w W' Pa na Ka RA q k c L none 0 0 [] Po no Co Os O := by
  have KG := kgr hg
  have hS : ∀ b, blockOf pk = some b → ∃ cs, W.heap[b]? = some (.cells cs 9 (0, 0)) := fun b z => own_type h.key b z
  exact ⟨own_off h.all KG hS (by decide), h.cal.off KG hS (by decide) (by decide), ⟨rfl, .inl ⟨rfl, rfl⟩⟩, own_off h.ofs KG hS (by decide), ev_off h.ev KG hS (by decide) (by decide), h.ne, h.vs, Kept.own h.kept KG (fun j z => (own_lt h.key j z).1)⟩
end Go.Proofs.YtbangbobfeflcaaGreatDoor
