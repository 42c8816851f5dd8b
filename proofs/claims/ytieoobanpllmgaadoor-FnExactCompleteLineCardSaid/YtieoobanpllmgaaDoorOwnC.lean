/- What is owned, further: a row or a block among others, its cells; any other order; append in a drawn region; rows of pitches. -/
import Derived.Test.YtieoobanpllmgaaDoorStks
import Derived.Test.YtieoobanpllmgaaDoorIntC
import Derived.Test.YtieoobanpllmgaaDoorWalks10T
import Derived.Lib.AppendZeros
import Derived.Laws.Bits64b
import Derived.Test.YtieoobanpllmgaaDoorRegionD
namespace Go.Proofs.YtieoobanpllmgaaDoor
set_option linter.unusedSimpArgs false
set_option linter.unusedVariables false
set_option maxRecDepth 8000
open Go.RowKit

open Classical in
theorem perm_cnt15 {l m : List Item} (h : ∀ a : Item, l.count a = m.count a) : l.Perm m := List.perm_iff_count.2 h
theorem own_mem15 {n : Nat} {B : World → Prop} {w : World} {L : List Item} {e : TypeId} {size k q cap i : Nat} {u : Value} {xs : List Value} (h : Own n B w L) (hm : Item.row e size (.slice (some ⟨q, 0, none⟩) k cap) k xs ∈ L) (hu : xs[i]? = some u) : w.cell? ⟨q, i, none⟩ = some u := by
  have := World.ownsRow.cells (h.holds _ hm : w.ownsRow n e size _ k xs) (g := q) rfl i u hu
  rwa [add_flat] at this
theorem own_free15 {n : Nat} {B : World → Prop} {w : World} {L : List Item} {e : TypeId} {size k q cap : Nat} {xs : List Value} (h : Own n B w L) (hm : Item.row e size (.slice (some ⟨q, 0, none⟩) k cap) k xs ∈ L) (i : Nat) : w.frozen? ⟨q, i, none⟩ = false := by
  rcases (h.holds _ hm : w.ownsRow n e size _ k xs).2 with ⟨h2, _⟩ | ⟨g', c', cur, h3, h4, h5, _⟩
  · cases h2
  · cases h3
    simp [World.frozen?, h5]
theorem own_blk15 {n : Nat} {B : World → Prop} {w : World} {L : List Item} {b j : Nat} {vs : List Value} {v : Value} (h : Own n B w L) (hm : Item.blk b vs ∈ L) (hv : vs[j]? = some v) : w.cell? ⟨b, j, none⟩ = some v := by
  have := (h.cells hm).get hv
  simpa using this
theorem own_form15 {n : Nat} {B : World → Prop} {w : World} {L : List Item} {e : TypeId} {size k : Nat} {v : Value} {xs : List Value} (h : Own n B w L) (hm : Item.row e size v k xs ∈ L) (hk : 0 < k) : ∃ q cap, v = .slice (some ⟨q, 0, none⟩) k cap ∧ k ≤ cap ∧ cap ≤ maxLen := by
  rcases (h.holds _ hm : w.ownsRow n e size v k xs).2 with ⟨_, h2⟩ | ⟨q, cap, cur, h3, _, _, h6, h7, _⟩
  · omega
  · exact ⟨q, cap, h3, h6, h7⟩
theorem own_slat15 {n : Nat} {B : World → Prop} {w : World} {L : List Item} {e : TypeId} {size k : Nat} {v : Value} {xs : List Value} (h : Own n B w L) (hm : Item.row e size v k xs ∈ L) : SlAt w v k size xs := SlAt.of_row (h.holds _ hm : w.ownsRow n e size v k xs)
theorem wp_append15 {P : Program} {o : Oper} {a : Act} {Q : Exit → Act → World → Prop} {n : Nat} {B : World → Prop} {w : World} {L : List Item} {v : Value} {k q c : Nat} {xs news : List Value} {K : Act → World → Prop}
    (s x : Operand) (t : TypeId) (ho : o.op = .call { callee := .builtin .append, args := #[s, x], argTypes := #[t, t] })
    (e : TypeId) (i : TypeInfo) (z : Value) (size bytes : Nat) (ht : P.underlying t = some (.slice e)) (hi : P.info? e = some i) (hz : i.zero = some z)
    (hsize : i.size = size) (hby : i.bytes = bytes) (hzs : z.cells.size = size) (hsz : 0 < size)
    (hs : a.eval s = v) (hx : a.eval x = .slice (some ⟨q, 0, none⟩) 1 c) (hO : Own n B w (.blk q news :: .row e size v k xs :: L)) (hl : news.length = size) (h1 : ∀ u ∈ news, u.oneCell' = true)
    (h63 : k + 1 ≤ maxLen) (hbytes : (k + 1) * bytes ≤ 140737488355328)
    (h : ∀ v' w', Own n B w' (.row e size v' (k + 1) (xs ++ news) :: L) → K (a.put o.dst v') w') : o.wp P a w K Q := by
  have hown : w.ownsRow n e size v k xs := hO.2.1.1
  have hnews : ∀ j u, news[j]? = some u → w.cell? ((⟨q, 0, none⟩ : Addr).add j) = some u := fun j u hj => by
    rw [add_flat]
    have := (hO.cells (b := q) (vs := news) (by simp)).get hj
    simpa using this
  obtain ⟨v', w', hr, h2, h3, h4⟩ := run_append_own (P := P) w n t o.type e i z size bytes ht hi hz hsize hby hzs hsz v k xs hown ⟨q, 0, none⟩ 1 c news (by simpa using hl) hnews h1 h63 hbytes hO.low
  have h5 := append_block ht hi hz hsize hby hown (by omega) (by simpa using hl) hnews h1 h63 hbytes hr
  unfold Oper.wp execOp
  simp only [ho, resolve, invoke, builtin, Sem.run_bind, Sem.run_pure, Result.andThen_ok, List.map_toArray, List.map_cons, List.map_nil, hs, hx, hr]
  exact h v' w' (hO.2.regrown h3 h2 h5)
/-- make([]T, k) in a drawn region. -/
theorem wp_make15 {P : Program} {o : Oper} {a : Act} {Q : Exit → Act → World → Prop} {n : Nat} {B : World → Prop} {w : World} {L : List Item} {K : Act → World → Prop}
    (l c : Operand) (t : TypeId) (hop : o.op = Op.makeSlice t l c) (e : TypeId) (i : TypeInfo) (z : Value) (size bytes : Nat) (h1 : P.underlying t = some (.slice e)) (h2 : P.info? e = some i) (h3 : i.zero = some z) (h4 : i.size = size) (h5 : i.bytes = bytes)
    (k : Nat) (hl : a.eval l = .int .i64 k) (hc : a.eval c = .int .i64 k) (b2 : bytes * k ≤ 281474976710656) (b3 : k ≤ maxLen) (hO : Own n B w L)
    (hK : ∀ q w', Own n B w' (.row e size (.slice (some ⟨q, 0, none⟩) k k) k (madeCells z.cells (k * size)).toList :: L) → K (a.put o.dst (.slice (some ⟨q, 0, none⟩) k k)) w') : o.wp P a w K Q := by
  subst h5
  subst h4
  have h63' : (k : Int) ≤ 9223372036854775807 := by
    have h := b3
    simp [maxLen] at h
    omega
  have hb' : (i.bytes : Int) * (k : Int) ≤ 281474976710656 := by
    have h : ((i.bytes * k : Nat) : Int) ≤ 281474976710656 := by omega
    rwa [Int.natCast_mul] at h
  have hr := run_make (P := P) w t e i z h1 h2 h3 .i64 .i64 k k (by omega) (by omega) hb' h63'
  simp only [Int.toNat_natCast] at hr
  unfold Oper.wp
  simp only [execOp, hop, hl, hc]
  simp [hr, Result.andThen]
  refine hK _ _ ?_
  have := hO.allocRow (e := e) (cur := madeCells z.cells (k * i.size)) (k := k) (cap := k) i.size (Nat.le_refl _) b3 (size_madeCells _ _)
  rwa [List.take_of_length_le (by rw [Array.length_toList, size_madeCells]; exact Nat.le_refl _)] at this
/-- Several orders lead to one way on. -/
theorem one_way15 {R : Nat → Nat → Nat → World → Prop} {G : Prop} (O : Nat → Nat → Nat → World → Prop) (h1 : (∀ a b c W, O a b c W → R a b c W) → G) (h2 : ∀ a b c W, O a b c W → R a b c W) : G := h1 h2

theorem rwP_cons15 (p : Value × List Pt) (b : List (Value × List Pt)) : rwP (p :: b) = .row 37 3 p.1 p.2.length (pcC p.2) :: rwP b := rfl
theorem split15 {α : Type} {l : List α} {k : Nat} {p : α} (h : l[k]? = some p) : ∃ U V, l = U ++ p :: V ∧ U.length = k := by
  have hk := (List.getElem?_eq_some_iff.1 h).1
  refine ⟨l.take k, l.drop (k + 1), ?_, by rw [List.length_take]; omega⟩
  rw [List.getElem?_eq_getElem hk] at h
  cases h
  rw [← List.drop_eq_getElem_cons hk, List.take_append_drop]
theorem own_nils15 {n : Nat} {B : World → Prop} {w : World} {L : List Item} (h : Own n B w L) : ∀ m, Own n B w (rwP (List.replicate m (.slice none 0 0, [])) ++ L)
  | 0 => h
  | m + 1 => by
    rw [List.replicate_succ, rwP_cons15]
    exact Own.nilRow 37 3 (own_nils15 h m)
theorem own_skip15 {n : Nat} {B : World → Prop} {w : World} : ∀ {U V : List Item}, Own n B w (U ++ V) → Own n B w V
  | [], _, h => h
  | _ :: _, _, h => own_skip15 h.2
theorem own_front15 {n : Nat} {B : World → Prop} {w : World} : ∀ {U L : List Item}, Own n B w (U ++ L) → Own n B w U
  | [], _, h => ⟨h.stab, h.base⟩
  | _ :: _, _, h => ⟨⟨h.1.1, fun y hy => h.1.2 y (List.mem_append_left _ hy)⟩, own_front15 h.2⟩
/-- One of the rows of pitches comes to the head; it goes back. -/
theorem pt_head15 {n : Nat} {B : World → Prop} {w : World} {s t : Item} {U V : List (Value × List Pt)} {p : Value × List Pt} {R : List Item} (h : Own n B w (s :: t :: (rwP (U ++ p :: V) ++ R))) :
    Own n B w (.row 37 3 p.1 p.2.length (pcC p.2) :: s :: t :: (rwP (U ++ V) ++ R)) := by
  refine h.perm (perm_cnt15 fun a => ?_)
  simp only [rwP_append, rwP_cons15, List.count_append, List.count_cons]
  omega
theorem pt_vs15 {U V : List (Value × List Pt)} {p p' : Value × List Pt} {k : Nat} (hU : U.length = k) : (vsO (U ++ p :: V)).set k p'.1 = vsO (U ++ p' :: V) := by
  subst hU
  simp
theorem pt_at15 {U V : List (Value × List Pt)} {p : Value × List Pt} {k : Nat} (hU : U.length = k) : (vsO (U ++ p :: V))[k]? = some p.1 := by
  subst hU
  simp
/-- One of the rows of pitches comes behind the head, from behind other things; it goes back. -/
theorem pt_pull15 {n : Nat} {B : World → Prop} {w : World} {b : Item} (X : List Item) {U V : List (Value × List Pt)} {p : Value × List Pt} {R : List Item} (h : Own n B w (b :: (X ++ (rwP (U ++ p :: V) ++ R)))) :
    Own n B w (b :: .row 37 3 p.1 p.2.length (pcC p.2) :: (X ++ (rwP (U ++ V) ++ R))) := by
  refine h.perm (perm_cnt15 fun a => ?_)
  simp only [rwP_append, rwP_cons15, List.count_append, List.count_cons]
  omega
theorem own_setB15 {n q i : Nat} {B : World → Prop} {w : World} {L : List Item} {vs : List Value} {u : Value} (h : Own n B w (.blk q vs :: L)) : Own n B (w.setCell ⟨q, i, none⟩ u) (.blk q (vs.set i u) :: L) := by
  have h1 := Own.set_at (i := i) (u := u) h.1.1.2.1 h
  have h2 : upd (.blk q vs :: L) q i u = .blk q (vs.set i u) :: L := by
    unfold upd
    rw [List.map_cons, upd_none (fun x hx e => (h.1.2 x hx).to q e rfl)]
    simp only [updI, if_true]
  rwa [h2] at h1
theorem vs_len15 (es : List (Value × List Pt)) : (vsO es).length = es.length := List.length_map _

/- The library's functions that repeat a slice of one integer and join slices of pitches. -/
open Go.RowKit Go.Joins

/-- copy into a row's places from one on; the source may lie in the same row. -/
theorem wp_copy_row {P : Program} {o : Oper} {a : Act} {Q : Exit → Act → World → Prop} {n : Nat} {B : World → Prop} {w : World} {L : List Item} {q N cap off dl dc k sl sc : Nat} {ad : Addr} {xs news : List Value} {K : Act → World → Prop}
    (d s : Operand) (dT sT : TypeId) (ho : o.op = .call { callee := .builtin .copy, args := #[d, s], argTypes := #[dT, sT] })
    (e : TypeId) (ht : P.underlying dT = some (.slice e)) (hi : (P.info? e).map (·.size) = some 1)
    (hd : a.eval d = .slice (some ⟨q, off, none⟩) dl dc) (hs : a.eval s = .slice (some ad) sl sc)
    (hO : Own n B w (.row e 1 (.slice (some ⟨q, 0, none⟩) N cap) N xs :: L))
    (hk : Nat.min sl dl = k) (hn : news.length = k) (hfit : off + k ≤ N) (hsrc : ∀ j v, news[j]? = some v → w.cell? (ad.add j) = some v) (h1 : ∀ v ∈ news, v.oneCell' = true)
    (h : ∀ w', Own n B w' (.row e 1 (.slice (some ⟨q, 0, none⟩) N cap) N (xs.take off ++ news ++ xs.drop (off + k)) :: L) → K (a.put o.dst (goInt k)) w') : o.wp P a w K Q := by
  have hown : w.ownsRow n e 1 (.slice (some ⟨q, 0, none⟩) N cap) N xs := hO.1.1
  rcases hown.2 with ⟨h0, _⟩ | ⟨g, cap', cur, h0, hbg, hg, hkc, hcm, hcs, htk⟩
  · cases h0
  cases h0
  have hxl := hown.1
  rw [Nat.mul_one] at hxl hcs
  have hr := run_copy_row (P := P) w dT sT o.type e q off dl dc ad sl sc cur e news ht hi hg (by rw [hn, hk]) hsrc (by omega) h1
  have hh := setRow_heap w q cur (cur.toList.take off ++ news ++ cur.toList.drop (off + news.length)).toArray e _ hg
  unfold Oper.wp execOp
  simp only [ho, resolve, invoke, builtin, Sem.run_bind, Sem.run_pure, Result.andThen_ok, List.map_toArray, List.map_cons, List.map_nil, hd, hs, hr]
  rw [hn] at hh ⊢
  have hcl : cur.toList.length = cap := by rw [Array.length_toList]; exact hcs
  have htk' : cur.toList.take N = xs := by simpa using htk
  have hta : xs.take off = cur.toList.take off := by rw [← htk', List.take_take, Nat.min_eq_left (by omega)]
  have htd : xs.drop (off + k) = (cur.toList.drop (off + k)).take (N - (off + k)) := by rw [← htk', List.drop_take]
  refine h _ (hO.regrown ⟨rfl, rfl, rfl, by simp [World.setRow], fun j hj hne => setRow_other w q j _ (fun e => hne (by rw [e]; rfl))⟩ ⟨?_, .inr ⟨q, cap, _, rfl, hbg, hh, hkc, hcm, ?_, ?_⟩⟩ (.inl rfl))
  · rw [List.length_append, List.length_append, List.length_take, List.length_drop, hn]
    omega
  · simp [hn]
    omega
  · simp only
    rw [Nat.mul_one, hta, htd]
    have e1 : (cur.toList.take off ++ news).length = off + k := by rw [List.length_append, List.length_take, hn]; omega
    rw [List.take_append, e1, List.take_of_length_le (by omega)]
theorem wpList_copy_row {P : Program} {ops : Array Oper} {rest : List Oper} {o : Oper} {a : Act} {Q : Exit → Act → World → Prop} {n : Nat} {B : World → Prop} {w : World} {L : List Item} {q N cap off dl dc k sl sc : Nat} {ad : Addr} {xs news : List Value}
    (hgd : o.guard = none) (d s : Operand) (dT sT : TypeId) (ho : o.op = .call { callee := .builtin .copy, args := #[d, s], argTypes := #[dT, sT] })
    (e : TypeId) (ht : P.underlying dT = some (.slice e)) (hi : (P.info? e).map (·.size) = some 1)
    (hd : a.eval d = .slice (some ⟨q, off, none⟩) dl dc) (hs : a.eval s = .slice (some ad) sl sc)
    (hO : Own n B w (.row e 1 (.slice (some ⟨q, 0, none⟩) N cap) N xs :: L))
    (hk : Nat.min sl dl = k) (hn : news.length = k) (hfit : off + k ≤ N) (hsrc : ∀ j v, news[j]? = some v → w.cell? (ad.add j) = some v) (h1 : ∀ v ∈ news, v.oneCell' = true)
    (h : ∀ w', Own n B w' (.row e 1 (.slice (some ⟨q, 0, none⟩) N cap) N (xs.take off ++ news ++ xs.drop (off + k)) :: L) → wpList P ops Q rest (a.put o.dst (goInt k)) w') : wpList P ops Q (o :: rest) a w :=
  wpList_plain hgd fun _ hK => wp_copy_row d s dT sT ho e ht hi hd hs hO hk hn hfit hsrc h1 fun w' hw => hK _ _ (h w' hw)

theorem madeI15 (n : Nat) : (madeCells (Value.int .i64 0).cells (n * 1)).toList = intC (List.replicate n 0) := by
  have hz : (Value.int .i64 0).cells = #[.int .i64 0] := by kernel_rfl
  rw [hz]
  have := made_rep #[Value.int .i64 0] (by decide) n
  rw [show (#[Value.int .i64 0] : Array Value).size = 1 from rfl] at this
  rw [this]
  show _ = List.map (Value.int .i64) (List.replicate n 0)
  rw [List.map_replicate]
  clear this hz
  induction n with
  | zero => rfl
  | succ n ih => rw [List.replicate_succ, List.flatten_cons, ih, List.replicate_succ]; rfl

set_option maxHeartbeats 1000000 in
theorem mul64I_is (m : Nat) (hm : m ≤ 100) (w : World) :
    Calls Tryd.prog 85 #[.int .u64 1, .int .u64 m] w fun e w' => e = .returned (.tuple #[.int .u64 0, .int .u64 m]) ∧ w = w' := by
  have h1 : bits .and .u64 (m : Int) 4294967295 = (m : Int) := by
    have h := bits_and_u64_nat m 4294967295 (by omega) (by omega)
    have e : m &&& 4294967295 = m % 4294967296 := Nat.and_two_pow_sub_one_eq_mod m 32
    rw [e, Nat.mod_eq_of_lt (by omega)] at h
    exact h
  have h2 : bits .and .u64 (1 : Int) 4294967295 = 1 := by decide
  have h5 : bits .and .u64 (0 : Int) 4294967295 = 0 := by decide
  have h3 : (m : Int) / 4294967296 = 0 := by omega
  have h4 : IntKind.u64.wrap (m : Int) = (m : Int) := by rw [IntKind.wrap_u64]; omega
  have h6 : IntKind.u64.wrap (0 : Int) = 0 := by decide
  go_enter Tryd.func85, Tryd.ntmps85
  go_wp2
  try simp only [h1, h2, h3, h4, h5, h6, Int.zero_mul, Int.mul_zero, Int.one_mul, Int.add_zero, Int.zero_add, Int.zero_ediv]
  go_ret2
  first | exact ⟨rfl, rfl⟩ | simp

set_option maxHeartbeats 1000000 in
theorem mulI_is (m : Nat) (hm : m ≤ 100) (w : World) :
    Calls Tryd.prog 70 #[.int .u64 1, .int .u64 m] w fun e w' => e = .returned (.tuple #[.int .u64 0, .int .u64 m]) ∧ w = w' := by
  have h4 : IntKind.u64.wrap (m : Int) = (m : Int) := by rw [IntKind.wrap_u64]; omega
  have HM := hid (fun w => mul64I_is m hm w)
  go_enter Tryd.func70, Tryd.ntmps70
  go_wp2_with (go_at_call 85; refine (HM.out _).mono ?_; rintro e w1 ⟨rfl, rfl⟩)
  go_ret2
  exact ⟨rfl, rfl⟩

theorem ones_get {m n j : Nat} {v : Value} (h : (List.replicate n (Value.int .i64 1))[j]? = some v) (hn : n ≤ m) : (intC (List.replicate n 1 ++ List.replicate (m - n) 0))[j]? = some v := by
  have h1 := (List.getElem?_eq_some_iff.1 h).1
  rw [List.length_replicate] at h1
  rw [List.getElem?_replicate, if_pos h1] at h
  cases h
  refine intC_get ?_
  rw [List.getElem?_append_left (by rw [List.length_replicate]; exact h1), List.getElem?_replicate, if_pos h1]
theorem ones_more {m n k : Nat} (hn : n + k ≤ m) : (intC (List.replicate n 1 ++ List.replicate (m - n) 0)).take n ++ List.replicate k (Value.int .i64 1) ++ (intC (List.replicate n 1 ++ List.replicate (m - n) 0)).drop (n + k) = intC (List.replicate (n + k) 1 ++ List.replicate (m - (n + k)) 0) := by
  unfold intC
  rw [List.map_append, List.map_replicate, List.map_replicate, List.map_append, List.map_replicate, List.map_replicate]
  rw [List.take_left' (by simp), List.drop_append, List.length_replicate, List.drop_of_length_le (by simp), List.nil_append, List.drop_replicate, List.replicate_append_replicate, show n + k - n = k by omega, show m - n - k = m - (n + k) by omega]
theorem one_ones (n : Nat) : ∀ v ∈ List.replicate n (Value.int .i64 1), v.oneCell' = true := by
  intro v hv
  rw [(List.mem_replicate.1 hv).2]
  rfl

theorem one_int15 (z : Int) : ∀ v ∈ [Value.int .i64 z], v.oneCell' = true := by
  intro v hv
  rw [List.mem_singleton.1 hv]
  rfl

set_option maxRecDepth 20000 in
set_option maxHeartbeats 4000000 in
theorem repI_any (va : Value) (m : Nat) (w : World) (hs : SlAt w va 1 1 [.int .i64 1]) (hm : m ≤ 63) :
    Calls Tryd.prog 53 #[va, .int .i64 m] w (RowOut 3 1 m (intC (List.replicate m 1)) w) := by
  have hO := Own.start w
  have hF := True.intro
  obtain ⟨i0, hi0, hz0, hz1, hz2⟩ := info_parts infoI10
  obtain ⟨A, c, rfl, nb, hA⟩ := hs.open
  obtain ⟨b, off, rfl, hc1, hc2, hb⟩ := hA (by omega)
  have e0 : w.cell? ⟨b, off + 0, none⟩ = some (.int .i64 1) := hs.cellAt (j := 0) rfl
  have HS := hid hs
  have HM := hid (fun W => mulI_is m (by omega) W)
  have h4 : IntKind.u64.wrap (m : Int) = (m : Int) := by rw [IntKind.wrap_u64]; omega
  have h5 : IntKind.i64.wrap (m : Int) = (m : Int) := IntWalk.i64_in _ (by omega)
  have h6 : ¬ (m : Int) < 0 := by omega
  have h7 : ¬ (9223372036854775807 : Int) < (m : Int) := by omega
  have h8 : IntKind.u64.wrap (1 : Int) = 1 := by decide
  clear hs hA e0
  by_cases hm0 : m = 0
  · subst hm0
    go_enter Tryd.func53, Tryd.ntmps53
    go_wp2_with (first | (go_at_call 70; refine (HM.out _).mono ?_; rintro e w1 ⟨rfl, rfl⟩) | (at_make; refine wpList_make_item rfl _ _ 60 rfl 3 i0 (.int .i64 0) 1 8 Tryd.underlying60 hi0 hz0 hz1 hz2 _ _ _ _ 0 rfl rfl rfl rfl (by omega) (by unfold maxLen; omega) (by (repeat (first | (with_reducible exact hO) | (with_reducible apply Own.alloc) | (with_reducible apply Own.drew) | ((with_reducible apply Own.set_at); (focus (show _ ≤ _; omega)))))) ?_; clear hO hF; intro qg w4 hO; rw [madeI15] at hO; have hF := True.intro) | (with_reducible (show wpList _ _ _ (⟨_, .call { callee := .builtin .copy, args := _, argTypes := _ }, _, _, _, _⟩ :: _) _ _); go_loud (refine wpList_copy_row rfl _ _ 60 60 rfl 3 Tryd.underlying60 (by kernel_rfl) rfl rfl hO (k := 0) (news := []) (by decide) rfl (by omega) (fun j v hj => absurd hj (by simp)) (fun v hv => absurd hv (by simp)) ?_); clear hO; intro w5 hO; have hF := True.intro))
    go_loopw [8] (fun s wr => s = .int .i64 0 ∧ Own w.heap.size (Below w.heap.size w) wr [.row 3 1 (.slice (some ⟨qg, 0, none⟩) 0 0) 0 []]) (fun s _ => 0)
    case atStart => exact ⟨rfl, hO⟩
    case round =>
      clear hO hF
      obtain ⟨rfl, hO⟩ := hrel
      have hF := hO; (try simp only [Own, Item.Holds, apartI, CellsAt, Nat.reduceAdd, Nat.zero_add, List.mem_cons, List.not_mem_nil, or_false, forall_eq_or_imp, forall_eq, ne_eq, false_imp_iff, implies_true, and_true] at hF)
      go_wp2_with fail
      go_ret
      exact RowOut.mk hO
  · have hm1 : 0 < m := by omega
    have hm2 : (0 : Int) < (m : Int) := by omega
    go_enter Tryd.func53, Tryd.ntmps53
    go_wp2_with (first | (go_at_call 70; refine (HM.out _).mono ?_; rintro e w1 ⟨rfl, rfl⟩) | (at_make; refine wpList_make_item rfl _ _ 60 rfl 3 i0 (.int .i64 0) 1 8 Tryd.underlying60 hi0 hz0 hz1 hz2 _ _ _ _ m rfl rfl rfl rfl (by omega) (by unfold maxLen; omega) (by (repeat (first | (with_reducible exact hO) | (with_reducible apply Own.alloc) | (with_reducible apply Own.drew) | ((with_reducible apply Own.set_at); (focus (show _ ≤ _; omega)))))) ?_; clear hO hF; intro qg w4 hO; rw [madeI15] at hO; have hF := True.intro) | (with_reducible (show wpList _ _ _ (⟨_, .call { callee := .builtin .copy, args := _, argTypes := _ }, _, _, _, _⟩ :: _) _ _); go_loud (refine wpList_copy_row rfl _ _ 60 60 rfl 3 Tryd.underlying60 (by kernel_rfl) rfl rfl hO (k := 1) (news := [.int .i64 1]) (Nat.min_eq_left (by omega)) rfl (by omega) (fun j v hj => by rw [add_any]; exact (HS.out.below hO.base).cellAt hj) (one_int15 1) ?_); clear hO; intro w5 hO; have hF := True.intro))
    have e1 : (intC (List.replicate m 0)).take 0 ++ [Value.int .i64 1] ++ (intC (List.replicate m 0)).drop (0 + 1) = intC (List.replicate 1 1 ++ List.replicate (m - 1) 0) := by
      have := ones_more (m := m) (n := 0) (k := 1) (by omega)
      simpa using this
    rw [e1] at hO
    clear e1
    go_loopw [8] (fun s wr => ∃ n : Nat, 1 ≤ n ∧ n ≤ m ∧ s = .int .i64 n ∧ Own w.heap.size (Below w.heap.size w) wr [.row 3 1 (.slice (some ⟨qg, 0, none⟩) m m) m (intC (List.replicate n 1 ++ List.replicate (m - n) 0))]) (fun s _ => m - (intOf s).toNat)
    case atStart => exact ⟨1, by omega, by omega, rfl, hO⟩
    case round =>
      clear hO hF
      obtain ⟨n, hn1, hn, rfl, hO⟩ := hrel
      have hF := hO; (try simp only [Own, Item.Holds, apartI, CellsAt, Nat.reduceAdd, Nat.zero_add, List.mem_cons, List.not_mem_nil, or_false, forall_eq_or_imp, forall_eq, ne_eq, false_imp_iff, implies_true, and_true] at hF)
      by_cases he : n = m
      · subst he
        rw [Nat.sub_self, List.replicate_zero, List.append_nil] at hO
        go_wp2_with fail
        go_ret
        exact RowOut.mk hO
      · have hlt : n < m := by omega
        have hlt2 : (n : Int) < (m : Int) := by omega
        have hn0 : (0 : Int) ≤ (n : Int) := by omega
        have hnm : (n : Int) ≤ (m : Int) := by omega
        obtain ⟨k, hk⟩ : ∃ k, Nat.min n (m - n) = k := ⟨_, rfl⟩
        have hk1 : n + k ≤ m := by have : Nat.min n (m - n) ≤ m - n := Nat.min_le_right _ _; omega
        have hk2 : 0 < k := by
          have : 0 < Nat.min n (m - n) := Nat.lt_min.2 ⟨by omega, by omega⟩
          omega
        have wk : IntKind.i64.wrap ((n : Int) + (k : Int)) = (n : Int) + (k : Int) := IntWalk.i64_in _ (by omega)
        clear he
        have HIF := hid (show Value.slice (if m = n then some ⟨qg, 0, none⟩ else some ⟨qg, n, none⟩) (m - n) (m - n) = .slice (some ⟨qg, n, none⟩) (m - n) (m - n) by rw [if_neg (by omega)])
        have HE := hid (ones_more (m := m) (n := n) (k := k) hk1)
        have HK := hid hk
        clear hk
        go_wp2_with fail
        apply own_code hO
        (repeat (first | (with_reducible exact hO) | (with_reducible apply Own.alloc) | (with_reducible apply Own.drew) | ((with_reducible apply Own.set_at); (focus (show _ ≤ _; omega)))))
        have hG := hF; clear hF; clear hO; intro hO
        (try simp only [World.size_alloc1, World.size_drew, Nat.reduceAdd] at hO); (try simp only [upd, updI, List.map_cons, List.map_nil, eq_self, if_true, if_false, reduceIte, Nat.add_eq_left, Nat.left_eq_add, Nat.reduceEqDiff, List.set_cons_zero, List.set_cons_succ, hG] at hO); clear hG
        refine region_own (X := fun _ => True) [7] (by kernel_rfl) (hO) (trivial) (by first | exact XStab.true | exact XStab.rd | exact XStab.rdIf) ?_
        clear hO
        refine Sim.sP (i := 0) (d := some 38) (h := ?_)
        refine Sim.sP (i := 1) (d := some 39) (h := ?_)
        refine Sim.sP (i := 2) (d := some 40) (h := ?_)
        refine Sim.sP (i := 3) (d := some 41) (h := ?_)
        refine Sim.sP (i := 4) (d := some 42) (h := ?_)
        refine Sim.sP (i := 5) (d := some 43) (h := ?_)
        refine Sim.sP (i := 6) (d := some 44) (h := ?_)
        refine Sim.one' (i := 7) (oi := { dst := some 45, op := Op.call { callee := Callee.builtin Builtin.copy, args := #[Operand.tmp 41, Operand.tmp 44], argTypes := #[60, 60] }, type := 3, pos := "slices.go:528", after := #[{ on := 3, ground := Ground.data }, { on := 6, ground := Ground.data }], guard := none }) (by kernel_rfl) rfl (by rfl) (fun w0 hO hX K hK => ?_)
        (have hF := hO; (try simp only [Own, Item.Holds, apartI, CellsAt, Nat.reduceAdd, Nat.zero_add, List.mem_cons, List.not_mem_nil, or_false, forall_eq_or_imp, forall_eq, ne_eq, false_imp_iff, implies_true, and_true] at hF))
        refine wp_copy_row _ _ 60 60 rfl 3 Tryd.underlying60 (by kernel_rfl) HIF.out rfl hO HK.out (news := List.replicate k (.int .i64 1)) (by simp) hk1 (fun j v hj => by rw [add_any, Nat.zero_add]; exact hO.row_cell (ones_get (by rw [List.getElem?_replicate] at hj ⊢; (split at hj); (rw [if_pos (by have : Nat.min n (m - n) ≤ n := Nat.min_le_left _ _; have := HK.out; omega)]; exact hj); cases hj) hn)) (one_ones k) ?_
        intro w2 hO2
        rw [HE.out] at hO2
        apply hK _ _ _ (fun _ => True)
        · exact hO2
        · exact trivial
        · exact XStab.true
        · exact fun h => absurd h (by decide)
        clear hO hO2 hF
        clear hK K
        try simp only [Act.put, List.setIfInBounds_toArray, List.set_cons_zero, List.set_cons_succ]
        refine Sim.sP (i := 8) (d := some 46) (h := ?_)
        refine Sim.sP (i := 9) (d := some 8) (h := ?_)
        refine Sim.done (by kernel_rfl) (fun w1 hO hX => ?_) _
        (try simp only [World.size_alloc1, World.size_drew, Nat.reduceAdd] at hO); (try simp only [upd, updI, List.map_cons, List.map_nil, eq_self, if_true, if_false, reduceIte, Nat.add_eq_left, Nat.left_eq_add, Nat.reduceEqDiff, List.set_cons_zero, List.set_cons_succ] at hO)
        have hF := hO; (try simp only [Own, Item.Holds, apartI, CellsAt, Nat.reduceAdd, Nat.zero_add, List.mem_cons, List.not_mem_nil, or_false, forall_eq_or_imp, forall_eq, ne_eq, false_imp_iff, implies_true, and_true] at hF)
        go_wp2_with fail
        go_roundw
        case rel => exact ⟨n + k, by omega, by omega, by go_num, hO⟩
        case measure => simp [intOf]; omega

set_option maxHeartbeats 4000000 in
theorem growI_is (m : Nat) (h0 : 0 < m) (hm : m ≤ 1000) (w : World) :
    Calls Tryd.prog 60 #[.slice none 0 0, .int .i64 m] w (RowOut 37 3 0 [] w) := by
  have hO := Own.start w
  have hF := True.intro
  obtain ⟨i0, hi0, hz0, hz1, hz2⟩ := info_parts infoPi
  have HR := hid (fun ty => Lib.run_append_nil_zeros (P := Tryd.prog) w 23 3 ty 37 i0 (.agg #[.int .i64 0, .int .i64 0, .int .i64 0]) .i64 .i64 Tryd.underlying23 Tryd.underlying3 hi0 hz0 m h0 (by rw [hz1]; omega) (by omega) (by rw [hz2]; omega))
  have hG := grownCap_ge w m 0 37
  have hG2 := grownCap_le_maxLen w m 0 37 (by unfold maxLen; omega)
  obtain ⟨G, hGe⟩ : ∃ G, grownCap w m 0 37 = G := ⟨_, rfl⟩
  rw [hGe] at HR hG hG2
  clear hGe
  obtain ⟨cs, hcs⟩ : ∃ cs, Builtin.zeroCells (Value.agg #[.int .i64 0, .int .i64 0, .int .i64 0]).cells m ++ Builtin.zeroCells (Value.agg #[.int .i64 0, .int .i64 0, .int .i64 0]).cells (G - m) = cs := ⟨_, rfl⟩
  have hsz : cs.size = G * 3 := by
    rw [← hcs, Array.size_append, size_zeroCells, size_zeroCells, show (Value.agg #[.int .i64 0, .int .i64 0, .int .i64 0]).cells.size = 3 by kernel_rfl]
    omega
  rw [hcs] at HR
  clear hcs
  have HO := hid (show Own w.heap.size (Below w.heap.size w) (w.drew.alloc (.cells cs 37)) [.row 37 3 (.slice (some ⟨w.heap.size, 0, none⟩) 0 G) 0 []] from by
    have := hO.drew.allocRow (e := 37) (cur := cs) (k := 0) (cap := G) 3 (by omega) hG2 hsz
    simpa using this)
  have g63 : (G : Int) ≤ 9223372036854775807 := by unfold maxLen at hG2; omega
  have m0 : (0 : Int) < (m : Int) := by omega
  have m1 : ¬ (m : Int) < 0 := by omega
  have wm : IntKind.i64.wrap (m : Int) = (m : Int) := IntWalk.i64_in _ (by omega)
  clear hG2 hsz hO
  go_enter Tryd.func60, Tryd.ntmps60
  go_wp2_with (at_builtin; refine Lib.wpList_append_run _ rfl _ _ _ _ rfl _ _ rfl rfl _ _ (HR.out _) ?_)
  go_ret
  exact RowOut.mk HO.out

theorem one_pc15 (v : List Pt) : ∀ u ∈ pcC v, u.oneCell' = true := by
  intro u hu
  obtain ⟨x, _, hx⟩ := List.mem_flatMap.1 hu
  simp [ptC] at hx
  rcases hx with rfl | rfl | rfl <;> rfl

set_option maxRecDepth 20000 in
set_option maxHeartbeats 4000000 in
theorem concI_is (va : Value) (P : List Pt) (w : World) (hs : StkR w va (P.map fun p => [p])) (h0 : 0 < P.length) (hn : P.length ≤ 1000) :
    Calls Tryd.prog 37 #[va] w (RowOut 37 3 P.length (pcC P) w) := by
  have hO := Own.start w
  have hF := True.intro
  obtain ⟨i0, hi0, hz0, hz1, hz2⟩ := info_parts infoPi
  obtain ⟨A, c, rfl, nb, hA⟩ := hs.open
  rw [List.length_map] at nb hA ⊢
  obtain ⟨b, off, rfl, hc1, hc2, hb, hC⟩ := hA h0
  obtain ⟨n, hnl⟩ : ∃ n, P.length = n := ⟨_, rfl⟩
  have HN := hid hnl
  rw [hnl] at h0 hn nb hc1 ⊢
  have HC := hid hC
  have HG := hid (fun W => growI_is n h0 hn W)
  have hn0 : (0 : Int) < (n : Int) := by omega
  clear hs hA hC hnl
  go_enter Tryd.func37, Tryd.ntmps37
  go_wp2_with fail
  go_loopw [3, 11] (fun s t wr => ∃ j : Nat, j ≤ n ∧ s = .int .i64 j ∧ t = .int .i64 j ∧ Own w.heap.size (Below w.heap.size w) wr []) (fun _ t _ => n - (intOf t).toNat)
  case atStart => exact ⟨0, by omega, rfl, rfl, hO⟩
  case round =>
    clear hO hF
    obtain ⟨j, hj, rfl, rfl, hO⟩ := hrel
    have hF := hO; (try simp only [Own, Item.Holds, apartI, CellsAt, Nat.reduceAdd, Nat.zero_add, List.mem_cons, List.not_mem_nil, or_false, forall_eq_or_imp, forall_eq, ne_eq, false_imp_iff, implies_true, and_true] at hF)
    by_cases he : j = n
    · subst he
      go_wp2_with (go_at_call 60; apply own_at hO; (repeat (first | (with_reducible exact hO) | (with_reducible apply Own.alloc) | (with_reducible apply Own.drew) | ((with_reducible apply Own.set_at); (focus (show _ ≤ _; omega))))); have hG := hF; clear hF; clear hO; intro hO; refine own_call_row hO (fun hB => HG.out _) ?_; clear hO; intro v w1 hO; (try simp only [World.size_alloc1, World.size_drew, Nat.reduceAdd] at hO); (try simp only [upd, updI, List.map_cons, List.map_nil, eq_self, if_true, if_false, reduceIte, Nat.add_eq_left, Nat.left_eq_add, Nat.reduceEqDiff, List.set_cons_zero, List.set_cons_succ, hG] at hO); clear hG; have hF := hO; (try simp only [Own, Item.Holds, apartI, CellsAt, Nat.reduceAdd, Nat.zero_add, List.mem_cons, List.not_mem_nil, or_false, forall_eq_or_imp, forall_eq, ne_eq, false_imp_iff, implies_true, and_true] at hF))
      go_loopw [6, 27] (fun u t wr => ∃ i : Nat, i ≤ j ∧ t = .int .i64 i ∧ Own w.heap.size (Below w.heap.size w) wr [.row 37 3 u i (pcC (P.take i))]) (fun _ t _ => j - (intOf t).toNat)
      case atStart => exact ⟨0, by omega, rfl, hO⟩
      case round =>
        clear hO hF
        obtain ⟨i, hi, rfl, hO⟩ := hrel
        have hF := hO; (try simp only [Own, Item.Holds, apartI, CellsAt, Nat.reduceAdd, Nat.zero_add, List.mem_cons, List.not_mem_nil, or_false, forall_eq_or_imp, forall_eq, ne_eq, false_imp_iff, implies_true, and_true] at hF)
        by_cases he : i = j
        · subst he
          have HT := hid (show P.take i = P by rw [← HN.out]; exact List.take_length)
          go_wp2_with fail
          go_ret
          rw [HT.out] at hO
          exact RowOut.mk hO
        · have hlt : i < j := by omega
          have hlt2 : (i : Int) < (j : Int) := by omega
          have hi0' : (0 : Int) ≤ (i : Int) := by omega
          obtain ⟨p, hp⟩ : ∃ x, P[i]? = some x := ⟨_, List.getElem?_eq_getElem (by have := HN.out; omega)⟩
          obtain ⟨A1, c1, hs1, he1⟩ := HC.out i [p] (by rw [List.getElem?_map, hp]; rfl)
          have ec : wr.cell? ⟨b, off + i, none⟩ = some (.slice A1 1 c1) := ((bcell hO.base).1 _ _ hb).trans he1
          have HS := hid (show SlAt w (.slice A1 1 c1) 1 3 (pcC [p]) from hs1)
          have HT := hid (show pcC (P.take i) ++ pcC [p] = pcC (P.take (i + 1)) by rw [← pcC_append, List.take_add_one, hp]; rfl)
          have H1 := hid (one_pc15 [p])
          clear hs1 he1 hp he
          go_wp2_with (at_builtin; refine wpList_append_slice rfl _ _ 23 rfl 37 i0 (.agg #[.int .i64 0, .int .i64 0, .int .i64 0]) 3 24 Tryd.underlying23 hi0 hz0 hz1 hz2 rfl (by decide) rfl rfl hO (HS.out.below hO.base) H1.out (by unfold maxLen; omega) (by omega) ?_; clear hO hF; intro v' w2 hO; have hF := True.intro)
          go_roundw
          case rel => exact ⟨i + 1, by omega, by go_num, by rw [← HT.out]; exact hO⟩
          case measure => simp [intOf]; omega
    · have hlt : j < n := by omega
      have hlt2 : (j : Int) < (n : Int) := by omega
      have hj0 : (0 : Int) ≤ (j : Int) := by omega
      obtain ⟨p, hp⟩ : ∃ x, P[j]? = some x := ⟨_, List.getElem?_eq_getElem (by have := HN.out; omega)⟩
      obtain ⟨A1, c1, hs1, he1⟩ := HC.out j [p] (by rw [List.getElem?_map, hp]; rfl)
      have ec : wr.cell? ⟨b, off + j, none⟩ = some (.slice A1 1 c1) := ((bcell hO.base).1 _ _ hb).trans he1
      have wj : IntKind.i64.wrap ((j : Int) + 1) = (j : Int) + 1 := IntWalk.i64_in _ (by omega)
      have hj1 : ¬ (j : Int) + 1 < 0 := by omega
      clear hs1 he1 hp he
      go_wp2_with fail
      go_roundw
      case rel => exact ⟨j + 1, by omega, by go_num, by go_num, hO⟩
      case measure => simp [intOf]; omega
end Go.Proofs.YtieoobanpllmgaaDoor
