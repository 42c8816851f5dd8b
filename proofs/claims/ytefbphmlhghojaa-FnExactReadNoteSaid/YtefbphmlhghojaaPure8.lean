/- Plain facts for chapter 8: the text of a note; which note a text is. -/
import Derived.Test.YtefbphmlhghojaaPure5
import Derived.Test.YtefbphmlhghojaaPureRead
import Derived.Lib.Bytealg
import Derived.Lib.Strings
namespace Go.Proofs.Ytefbphmlhghojaa
set_option linter.unusedSimpArgs false
set_option linter.unusedVariables false

/-- a digit's byte; a number of up to three digits. -/
def dgN (k : Nat) : UInt8 := UInt8.ofNat (48 + k)
def nuL (k : Nat) : List UInt8 := if k < 10 then [dgN k] else if k < 100 then [dgN (k / 10), dgN (k % 10)] else [dgN (k / 100), dgN (k / 10 % 10), dgN (k % 10)]
/-- what digits tell. -/
def diV (l : List UInt8) : Nat := l.foldl (fun a c => 10 * a + (c.toNat - 48)) 0
def isD (c : UInt8) : Bool := decide (48 ≤ c.toNat) && decide (c.toNat ≤ 57)
theorem dgN_to {k : Nat} (h : k < 10) : (dgN k).toNat = 48 + k := by
  unfold dgN
  rw [UInt8.toNat_ofNat']
  omega
theorem isD_dg {k : Nat} (h : k < 10) : isD (dgN k) = true := by unfold isD; rw [dgN_to h]; simp; omega
theorem nuL_dig {k : Nat} (h : k < 1000) : ∀ c ∈ nuL k, isD c = true := by
  intro c hc
  unfold nuL at hc
  split at hc
  · simp at hc; subst hc; exact isD_dg (by omega)
  · split at hc
    · simp at hc; rcases hc with rfl | rfl <;> exact isD_dg (by omega)
    · simp at hc; rcases hc with rfl | rfl | rfl <;> exact isD_dg (by omega)
theorem diV_nu {k : Nat} (h : k < 1000) : diV (nuL k) = k := by
  unfold nuL
  split
  · simp [diV, dgN_to, *]
  · split
    · simp [diV, dgN_to (k := k / 10) (by omega), dgN_to (k := k % 10) (by omega)]; omega
    · simp [diV, dgN_to (k := k / 100) (by omega), dgN_to (k := k / 10 % 10) (by omega), dgN_to (k := k % 10) (by omega)]; omega
theorem nuL_ne (k : Nat) : nuL k ≠ [] := by unfold nuL; split; simp; split <;> simp
theorem nuL_len (k : Nat) : 1 ≤ (nuL k).length ∧ (nuL k).length ≤ 3 := by unfold nuL; split; simp; split <;> simp

/-- the pitch of a note, or r; the tie. -/
def hdL (n : Nt) : List UInt8 := if n.r then [114] else ltU n.s :: (alL n.a ++ [dgU n.o])
def tiS (y : Bool) : List UInt8 := if y then [126] else []
def nxL (n : Nt) : List UInt8 := hdL n ++ 47 :: (nuL n.t.toNat ++ tiS n.y)
/-- the text of a note. -/
def ntB (n : Nt) : ByteArray := if nvB n then ⟨(nxL n).toArray⟩ else ⟨#[]⟩
theorem ltU_in {x : Int} (h0 : 0 ≤ x) (h6 : x ≤ 6) : ltU x ≠ 47 ∧ ltU x ≠ 32 ∧ ltU x ≠ 114 := by
  rcases step7 h0 h6 with rfl | rfl | rfl | rfl | rfl | rfl | rfl <;> decide
theorem dgU_in {o : Int} (h0 : 0 ≤ o) (h8 : o ≤ 8) : dgU o ≠ 47 ∧ dgU o ≠ 32 := by
  rcases oct9 h0 h8 with rfl | rfl | rfl | rfl | rfl | rfl | rfl | rfl | rfl <;> decide
theorem alL_in (a : Int) : ∀ c ∈ alL a, c ≠ 47 ∧ c ≠ 32 := by
  intro c hc
  unfold alL at hc
  split at hc
  · rw [List.eq_of_mem_replicate hc]; decide
  · rw [List.eq_of_mem_replicate hc]; decide
/-- no slash and no space stands in the pitch. -/
theorem hdL_in {n : Nt} (h : nvB n = true) : ∀ c ∈ hdL n, c ≠ 47 ∧ c ≠ 32 := by
  intro c hc
  unfold hdL at hc
  cases hr : n.r
  · rw [hr] at hc
    simp only [Bool.false_eq_true, if_false, List.mem_cons, List.mem_append, List.not_mem_nil, or_false] at hc
    have hp := (nvB_iff.1 h).2.2
    obtain ⟨⟨h1, h2⟩, _, ⟨h5, h6⟩⟩ := pvB_iff.1 hp
    rcases hc with rfl | hc | rfl
    · exact ⟨(ltU_in h1 h2).1, (ltU_in h1 h2).2.1⟩
    · exact alL_in _ c hc
    · exact dgU_in h5 h6
  · rw [hr] at hc
    simp at hc
    subst hc
    decide
theorem isD_in {c : UInt8} (h : isD c = true) : c ≠ 47 ∧ c ≠ 32 ∧ c ≠ 126 := by
  unfold isD at h
  simp at h
  refine ⟨?_, ?_, ?_⟩ <;> (intro e; subst e; revert h; decide)
theorem cut47 : ∀ {A A' T T' : List UInt8}, (∀ c ∈ A, c ≠ 47) → (∀ c ∈ A', c ≠ 47) → A ++ 47 :: T = A' ++ 47 :: T' → A = A' ∧ T = T'
  | [], [], _, _, _, _, h => by simpa using h
  | [], c :: _, _, _, _, h2, h => by simp at h; exact absurd h.1.symm (h2 c (by simp))
  | c :: _, [], _, _, h1, _, h => by simp at h; exact absurd h.1 (h1 c (by simp))
  | c :: A, d :: A', T, T', h1, h2, h => by
    simp only [List.cons_append, List.cons.injEq] at h
    obtain ⟨e1, e2⟩ := cut47 (fun x hx => h1 x (by simp [hx])) (fun x hx => h2 x (by simp [hx])) h.2
    exact ⟨by rw [h.1, e1], e2⟩
theorem tail_dig {k : Nat} (h : k < 1000) (y : Bool) : (nuL k ++ tiS y).filter isD = nuL k := by
  rw [List.filter_append]
  have h1 : (nuL k).filter isD = nuL k := List.filter_eq_self.2 (nuL_dig h)
  have h2 : (tiS y).filter isD = [] := by cases y <;> rfl
  rw [h1, h2, List.append_nil]
theorem t_lt {n : Nt} (h : nvB n = true) : n.t.toNat < 1000 ∧ ((n.t.toNat : Nat) : Int) = n.t := by
  have := (nvB_iff.1 h).2.1
  omega
/-- a text has one note. -/
theorem nxL_inj {n m : Nt} (hn : nvB n = true) (hm : nvB m = true) (h : nxL n = nxL m) : n = m := by
  obtain ⟨e1, e2⟩ := cut47 (fun c hc => (hdL_in hn c hc).1) (fun c hc => (hdL_in hm c hc).1) h
  have e3 := congrArg (List.filter isD) e2
  rw [tail_dig (t_lt hn).1, tail_dig (t_lt hm).1] at e3
  have ht : n.t = m.t := by
    have := congrArg diV e3
    rw [diV_nu (t_lt hn).1, diV_nu (t_lt hm).1] at this
    have a := (t_lt hn).2
    have b := (t_lt hm).2
    omega
  rw [e3] at e2
  have hy : n.y = m.y := by
    have := List.append_cancel_left e2
    revert this
    cases n.y <;> cases m.y <;> simp [tiS]
  have hp1 := (nvB_iff.1 hn).2.2
  have hp2 := (nvB_iff.1 hm).2.2
  obtain ⟨⟨a1, a2⟩, _, _⟩ := pvB_iff.1 hp1
  obtain ⟨⟨b1, b2⟩, _, _⟩ := pvB_iff.1 hp2
  have hrs : n.r = m.r ∧ n.s = m.s ∧ n.a = m.a ∧ n.o = m.o := by
    cases hr : n.r <;> cases hr2 : m.r
    · unfold hdL at e1
      rw [hr, hr2] at e1
      simp only [Bool.false_eq_true, if_false] at e1
      have e4 : textB n.s n.a n.o = textB m.s m.a m.o := by
        rw [textB, if_pos hp1, text_mk a1 a2, textB, if_pos hp2, text_mk b1 b2, e1]
      obtain ⟨_, p1, p2, p3, _⟩ := read_text hp1
      obtain ⟨_, q1, q2, q3, _⟩ := read_text hp2
      rw [e4] at p1 p2 p3
      exact ⟨rfl, p1.symm.trans q1, p2.symm.trans q2, p3.symm.trans q3⟩
    · unfold hdL at e1
      rw [hr, hr2] at e1
      simp at e1
    · unfold hdL at e1
      rw [hr, hr2] at e1
      simp at e1
    · have z1 := (nvB_iff.1 hn).1 hr
      have z2 := (nvB_iff.1 hm).1 hr2
      exact ⟨rfl, by rw [z1.2.1, z2.2.1], by rw [z1.2.2.1, z2.2.2.1], by rw [z1.2.2.2, z2.2.2.2]⟩
  obtain ⟨c1, c2, c3, c4⟩ := hrs
  obtain ⟨n1, n2, n3, n4, n5, n6⟩ := n
  obtain ⟨m1, m2, m3, m4, m5, m6⟩ := m
  simp only at ht hy c1 c2 c3 c4
  subst ht hy c1 c2 c3 c4
  rfl
theorem mk_inj {a b : List UInt8} (h : (⟨a.toArray⟩ : ByteArray) = ⟨b.toArray⟩) : a = b := by
  have := congrArg (fun x : ByteArray => x.data.toList) h
  simpa using this
theorem nxL_ne (n : Nt) : nxL n ≠ [] := by unfold nxL; simp
theorem ntB_yes {n : Nt} (h : nvB n = true) : ntB n = ⟨(nxL n).toArray⟩ := by unfold ntB; rw [if_pos h]
theorem ntB_no {n : Nt} (h : nvB n = false) : ntB n = ⟨#[]⟩ := by unfold ntB; rw [h]; rfl
theorem ntB_inj {n m : Nt} (hn : nvB n = true) (hm : nvB m = true) (h : ntB n = ntB m) : n = m := by
  rw [ntB_yes hn, ntB_yes hm] at h
  exact nxL_inj hn hm (mk_inj h)
/-- the text is that of a valid note; that note. -/
noncomputable def rnB (s : ByteArray) : Bool := by classical exact decide (∃ n, nvB n = true ∧ ntB n = s)
noncomputable def rnN (s : ByteArray) : Nt := by classical exact if h : ∃ n, nvB n = true ∧ ntB n = s then Classical.choose h else ⟨false, 0, 0, 0, 0, false⟩
theorem rnB_iff {s : ByteArray} : rnB s = true ↔ ∃ n, nvB n = true ∧ ntB n = s := by unfold rnB; simp
theorem rnB_no {s : ByteArray} : rnB s = false ↔ ∀ n, nvB n = true → ntB n ≠ s := by
  rw [← Bool.not_eq_true, rnB_iff]
  constructor
  · intro h n hn e; exact h ⟨n, hn, e⟩
  · rintro h ⟨n, hn, e⟩; exact h n hn e
theorem rn_of {n : Nt} (h : nvB n = true) : rnB (ntB n) = true ∧ rnN (ntB n) = n := by
  have hx : ∃ m, nvB m = true ∧ ntB m = ntB n := ⟨n, h, rfl⟩
  refine ⟨rnB_iff.2 hx, ?_⟩
  unfold rnN
  rw [dif_pos hx]
  have := Classical.choose_spec hx
  exact ntB_inj this.1 h this.2
theorem rnN_no {s : ByteArray} (h : rnB s = false) : rnN s = ⟨false, 0, 0, 0, 0, false⟩ := by
  unfold rnN
  rw [dif_neg]
  intro hx
  rw [rnB_iff.2 hx] at h
  cases h
theorem rn_is {s : ByteArray} (h : rnB s = true) : nvB (rnN s) = true ∧ ntB (rnN s) = s := by
  obtain ⟨n, hn, e⟩ := rnB_iff.1 h
  subst e
  rw [(rn_of hn).2]
  exact ⟨hn, rfl⟩
/-- no space stands in the text of a note, and behind it no slash. -/
theorem nxL_in {n : Nt} (h : nvB n = true) : ∀ c ∈ nxL n, c ≠ 32 := by
  intro c hc
  unfold nxL at hc
  simp only [List.mem_append, List.mem_cons] at hc
  rcases hc with hc | rfl | hc | hc
  · exact (hdL_in h c hc).2
  · decide
  · exact (isD_in (nuL_dig (t_lt h).1 c hc)).2.1
  · unfold tiS at hc
    split at hc
    · simp at hc; subst hc; decide
    · cases hc
theorem nxL_last {n : Nt} (h : nvB n = true) : ∃ l c, nxL n = l ++ [c] ∧ c ≠ 47 := by
  unfold nxL
  cases hy : n.y
  · have hne := nuL_ne n.t.toNat
    refine ⟨hdL n ++ 47 :: (nuL n.t.toNat).dropLast, (nuL n.t.toNat).getLast hne, ?_, ?_⟩
    · simp only [tiS, Bool.false_eq_true, if_false, List.append_nil, List.append_assoc, List.cons_append, List.dropLast_concat_getLast]
    · exact (isD_in (nuL_dig (t_lt h).1 _ (List.getLast_mem hne))).1
  · exact ⟨hdL n ++ 47 :: nuL n.t.toNat, 126, by simp [tiS], by decide⟩
theorem slash_no {s : ByteArray} : rnB (s ++ (⟨#[47]⟩ : ByteArray)) = false := by
  rw [rnB_no]
  intro n hn e
  rw [ntB_yes hn] at e
  obtain ⟨l, c, e1, hc⟩ := nxL_last hn
  have := congrArg (fun x : ByteArray => x.data.toList) e
  simp [ByteArray.data_append, e1] at this
  exact hc this.2

/- Plain facts for chapter 8: the text of a voice; which voice a text is. -/

/-- the texts of notes, a space between two of them. -/
def vxL : List Nt → List UInt8
  | [] => []
  | [x] => nxL x
  | x :: z :: l => nxL x ++ 32 :: vxL (z :: l)
def vxB (v : List Nt) : ByteArray := if voB v then ⟨(vxL v).toArray⟩ else ⟨#[]⟩
theorem vxL_snoc (x : Nt) : ∀ l : List Nt, vxL (l ++ [x]) = if l = [] then nxL x else vxL l ++ 32 :: nxL x
  | [] => rfl
  | [z] => rfl
  | z :: y :: l => by
    have ih := vxL_snoc x (y :: l)
    rw [if_neg (by simp)] at ih ⊢
    simp only [List.cons_append, vxL] at ih ⊢
    rw [ih, List.append_assoc]
    rfl
theorem cut32 : ∀ {A A' T T' : List UInt8}, (∀ c ∈ A, c ≠ 32) → (∀ c ∈ A', c ≠ 32) → A ++ 32 :: T = A' ++ 32 :: T' → A = A' ∧ T = T'
  | [], [], _, _, _, _, h => by simpa using h
  | [], c :: _, _, _, _, h2, h => by simp at h; exact absurd h.1.symm (h2 c (by simp))
  | c :: _, [], _, _, h1, _, h => by simp at h; exact absurd h.1 (h1 c (by simp))
  | c :: A, d :: A', T, T', h1, h2, h => by
    simp only [List.cons_append, List.cons.injEq] at h
    obtain ⟨e1, e2⟩ := cut32 (fun x hx => h1 x (by simp [hx])) (fun x hx => h2 x (by simp [hx])) h.2
    exact ⟨by rw [h.1, e1], e2⟩
theorem no32 {A A' T : List UInt8} (h1 : ∀ c ∈ A, c ≠ 32) (h : A = A' ++ 32 :: T) : False := by
  exact h1 32 (by rw [h]; simp) rfl
theorem vxL_ne {x : Nt} {l : List Nt} : vxL (x :: l) ≠ [] := by
  cases l with
  | nil => exact nxL_ne x
  | cons z l => simp [vxL]
theorem vxL_inj : ∀ {v u : List Nt}, (∀ x ∈ v, nvB x = true) → (∀ x ∈ u, nvB x = true) → vxL v = vxL u → v = u
  | [], [], _, _, _ => rfl
  | [], x :: l, _, _, h => absurd h.symm vxL_ne
  | x :: l, [], _, _, h => absurd h vxL_ne
  | [x], [z], h1, h2, h => by
    have := nxL_inj (h1 x (by simp)) (h2 z (by simp)) h
    rw [this]
  | [x], z :: y :: l, h1, h2, h => (no32 (nxL_in (h1 x (by simp))) h).elim
  | x :: w :: k, [z], h1, h2, h => (no32 (nxL_in (h2 z (by simp))) h.symm).elim
  | x :: w :: k, z :: y :: l, h1, h2, h => by
    simp only [vxL] at h
    obtain ⟨e1, e2⟩ := cut32 (nxL_in (h1 x (by simp))) (nxL_in (h2 z (by simp))) h
    have i1 := nxL_inj (h1 x (by simp)) (h2 z (by simp)) e1
    have i2 := vxL_inj (fun q hq => h1 q (by simp at hq ⊢; exact Or.inr hq)) (fun q hq => h2 q (by simp at hq ⊢; exact Or.inr hq)) e2
    rw [i1, i2]
theorem vo_all {v : List Nt} (h : voB v = true) : ∀ x ∈ v, nvB x = true := fun x hx => by
  obtain ⟨k, hk⟩ := List.getElem?_of_mem hx
  exact (tieB_ix.1 (voB_iff.1 h).1 k x hk).1
theorem vxB_yes {v : List Nt} (h : voB v = true) : vxB v = ⟨(vxL v).toArray⟩ := by unfold vxB; rw [if_pos h]
theorem vxB_no {v : List Nt} (h : voB v = false) : vxB v = ⟨#[]⟩ := by unfold vxB; rw [h]; rfl
theorem vxB_inj {v u : List Nt} (hv : voB v = true) (hu : voB u = true) (h : vxB v = vxB u) : v = u := by
  rw [vxB_yes hv, vxB_yes hu] at h
  exact vxL_inj (vo_all hv) (vo_all hu) (mk_inj h)
noncomputable def rvB (s : ByteArray) : Bool := by classical exact decide (∃ v, voB v = true ∧ vxB v = s)
noncomputable def rvL (s : ByteArray) : List Nt := by classical exact if h : ∃ v, voB v = true ∧ vxB v = s then Classical.choose h else []
theorem rvB_iff {s : ByteArray} : rvB s = true ↔ ∃ v, voB v = true ∧ vxB v = s := by unfold rvB; simp
theorem rvB_no {s : ByteArray} : rvB s = false ↔ ∀ v, voB v = true → vxB v ≠ s := by
  rw [← Bool.not_eq_true, rvB_iff]
  constructor
  · intro h n hn e; exact h ⟨n, hn, e⟩
  · rintro h ⟨n, hn, e⟩; exact h n hn e
theorem rv_of {v : List Nt} (h : voB v = true) : rvB (vxB v) = true ∧ rvL (vxB v) = v := by
  have hx : ∃ u, voB u = true ∧ vxB u = vxB v := ⟨v, h, rfl⟩
  refine ⟨rvB_iff.2 hx, ?_⟩
  unfold rvL
  rw [dif_pos hx]
  have := Classical.choose_spec hx
  exact vxB_inj this.1 h this.2
theorem rvL_no {s : ByteArray} (h : rvB s = false) : rvL s = [] := by
  unfold rvL
  rw [dif_neg]
  intro hx
  rw [rvB_iff.2 hx] at h
  cases h
theorem rv_is {s : ByteArray} (h : rvB s = true) : voB (rvL s) = true ∧ vxB (rvL s) = s := by
  obtain ⟨n, hn, e⟩ := rvB_iff.1 h
  subst e
  rw [(rv_of hn).2]
  exact ⟨hn, rfl⟩
theorem nxL_first {n : Nt} (h : nvB n = true) : ∃ c l, nxL n = c :: l ∧ c ≠ 32 := by
  cases hl : nxL n with
  | nil => exact absurd hl (nxL_ne n)
  | cons c l => exact ⟨c, l, rfl, nxL_in h c (by rw [hl]; simp)⟩
theorem vxL_first {x : Nt} {l : List Nt} (h : nvB x = true) : ∃ c r, vxL (x :: l) = c :: r ∧ c ≠ 32 := by
  obtain ⟨c, r, e, hc⟩ := nxL_first h
  cases l with
  | nil => exact ⟨c, r, e, hc⟩
  | cons z l => exact ⟨c, r ++ 32 :: vxL (z :: l), by simp [vxL, e], hc⟩
/-- with a space before it a text is refused. -/
theorem space_no {s : ByteArray} : rvB ((⟨#[32]⟩ : ByteArray) ++ s) = false := by
  rw [rvB_no]
  intro v hv e
  rw [vxB_yes hv] at e
  have := congrArg (fun x : ByteArray => x.data.toList) e
  simp only [ByteArray.data_append, List.toList_toArray, Array.toList_append] at this
  cases v with
  | nil => simp [vxL] at this
  | cons x l =>
    obtain ⟨c, r, e2, hc⟩ := vxL_first (l := l) (vo_all hv x (by simp))
    rw [e2] at this
    simp at this
    exact hc this.1
/-- the text of a voice is short. -/
theorem nxL_len {n : Nt} (h : nvB n = true) : (nxL n).length ≤ 9 := by
  have h1 := (nuL_len n.t.toNat).2
  have h2 : (tiS n.y).length ≤ 1 := by cases n.y <;> simp [tiS]
  have h3 : (hdL n).length ≤ 4 := by
    unfold hdL
    split
    · simp
    · have hp := (pvB_iff.1 (nvB_iff.1 h).2.2).2.1
      have : (alL n.a).length ≤ 2 := by
        unfold alL
        split <;> simp <;> omega
      simp
      omega
  unfold nxL
  simp
  omega
theorem vxL_len : ∀ {v : List Nt}, (∀ x ∈ v, nvB x = true) → (vxL v).length ≤ 10 * v.length
  | [], _ => by simp [vxL]
  | [x], h => by have := nxL_len (h x (by simp)); simp only [vxL, List.length_singleton]; omega
  | x :: z :: l, h => by
    have h1 := nxL_len (h x (by simp))
    have h2 := vxL_len (v := z :: l) (fun q hq => h q (by simp at hq ⊢; exact Or.inr hq))
    simp only [vxL, List.length_append, List.length_cons] at h2 ⊢
    omega

/-! ### Words -/

/-- the notes of the words of a text, one behind the other: 'word' is what stands of a word; ends with 61 notes. None if a word has no note. -/
noncomputable def scV : List UInt8 → List UInt8 → List Nt → Option (List Nt)
  | [], word, out => if 60 < out.length then some out else if rnB ⟨word.toArray⟩ then some (out ++ [rnN ⟨word.toArray⟩]) else none
  | c :: s, word, out => if 60 < out.length then some out else if c = 32 then (if rnB ⟨word.toArray⟩ then scV s [] (out ++ [rnN ⟨word.toArray⟩]) else none) else scV s (word ++ [c]) out
theorem scV_word : ∀ (A : List UInt8) {s word : List UInt8} {out : List Nt}, (∀ c ∈ A, c ≠ 32) → out.length ≤ 60 → scV (A ++ s) word out = scV s (word ++ A) out
  | [], s, word, out, _, _ => by simp
  | c :: A, s, word, out, h, ho => by
    simp only [List.cons_append, scV]
    rw [if_neg (by omega), if_neg (h c (by simp)), scV_word A (fun x hx => h x (by simp [hx])) ho, List.append_assoc]
    rfl
/-- of the text of a voice the words are its notes. -/
theorem scV_text : ∀ {v : List Nt} {x : Nt} {out : List Nt}, (∀ z ∈ x :: v, nvB z = true) → out.length + v.length ≤ 59 → scV (vxL (x :: v)) [] out = some (out ++ x :: v)
  | [], x, out, h, hl => by
    have hx := h x (by simp)
    have hr := rn_of hx
    rw [ntB_yes hx] at hr
    have := scV_word (nxL x) (s := []) (word := []) (out := out) (nxL_in hx) (by simp at hl; omega)
    rw [List.append_nil] at this
    simp only [vxL]
    rw [this]
    simp only [scV, List.nil_append]
    simp only [List.length_nil] at hl
    rw [if_neg (by omega), if_pos hr.1, hr.2]
  | z :: v, x, out, h, hl => by
    have hx := h x (by simp)
    have hr := rn_of hx
    rw [ntB_yes hx] at hr
    simp only [List.length_cons] at hl
    simp only [vxL]
    rw [scV_word (nxL x) (nxL_in hx) (by omega)]
    simp only [scV, List.nil_append]
    rw [if_neg (by omega), if_pos trivial, if_pos hr.1, hr.2, scV_text (fun q hq => h q (by simp at hq ⊢; exact Or.inr hq)) (by rw [List.length_append]; simp; omega)]
    simp

/- Plain facts for chapter 8: what the model's scan finds in a text. -/

/-- the bytes ahead of the first slash; at most five bytes behind it; the number that their digits make; is a tie among them. -/
def hdT (l : List UInt8) : List UInt8 := l.takeWhile (fun c => !(c == 47))
def tlT (l : List UInt8) : List UInt8 := (l.drop ((hdT l).length + 1)).take 5
def tkF (l : List UInt8) : Int := l.foldl (fun a c => if isD c then 10 * a + ((c.toNat : Int) - 48) else a) 0
def tiF (l : List UInt8) : Bool := l.any (· == 126)
/-- the note that is found. -/
def scN (l : List UInt8) : Nt :=
  if hdT l = [114] then ⟨true, 0, 0, 0, tkF (tlT l), tiF (tlT l)⟩
  else if rdOk ⟨(hdT l).toArray⟩ then ⟨false, stI (byZ ⟨(hdT l).toArray⟩ 0), alZ (midB ⟨(hdT l).toArray⟩), byZ ⟨(hdT l).toArray⟩ ((⟨(hdT l).toArray⟩ : ByteArray).size - 1) - 48, tkF (tlT l), tiF (tlT l)⟩
  else ⟨false, 0, 0, 0, tkF (tlT l), tiF (tlT l)⟩
theorem hdT_cut : ∀ {A : List UInt8} (T : List UInt8), (∀ c ∈ A, c ≠ 47) → hdT (A ++ 47 :: T) = A
  | [], _, _ => by simp [hdT]
  | c :: A, T, h => by
    have hc : (!(c == 47)) = true := by simpa using h c (by simp)
    have ih := hdT_cut T (fun x hx => h x (by simp [hx]) : ∀ x ∈ A, x ≠ 47)
    unfold hdT at ih ⊢
    rw [List.cons_append, List.takeWhile_cons, if_pos hc, ih]
theorem tkF_go : ∀ (l : List UInt8) (n : Nat), l.foldl (fun a c => if isD c then 10 * a + ((c.toNat : Int) - 48) else a) (n : Int) = (((l.filter isD).foldl (fun a c => 10 * a + (c.toNat - 48)) n : Nat) : Int)
  | [], n => rfl
  | c :: l, n => by
    by_cases hc : isD c = true
    · have h48 : 48 ≤ c.toNat := by unfold isD at hc; simp at hc; exact hc.1
      rw [List.foldl_cons, if_pos hc, List.filter_cons, if_pos hc, List.foldl_cons]
      have : 10 * (n : Int) + ((c.toNat : Int) - 48) = ((10 * n + (c.toNat - 48) : Nat) : Int) := by omega
      rw [this]
      exact tkF_go l _
    · rw [List.foldl_cons, if_neg hc, List.filter_cons, if_neg hc]
      exact tkF_go l n
theorem tkF_eq (l : List UInt8) : tkF l = (diV (l.filter isD) : Int) := tkF_go l 0
theorem tiF_dig {k : Nat} (h : k < 1000) (y : Bool) : tiF (nuL k ++ tiS y) = y := by
  unfold tiF
  rw [List.any_append]
  have h1 : (nuL k).any (· == 126) = false := by
    rw [List.any_eq_false]
    intro c hc
    simpa using (isD_in (nuL_dig h c hc)).2.2
  rw [h1]
  cases y <;> rfl
/-- in the text of a note the scan finds the note. -/
theorem scN_text {m : Nt} (h : nvB m = true) : scN (nxL m) = m := by
  have hh : hdT (nxL m) = hdL m := hdT_cut _ (fun c hc => (hdL_in h c hc).1)
  have ht : tlT (nxL m) = nuL m.t.toNat ++ tiS m.y := by
    unfold tlT
    rw [hh]
    unfold nxL
    rw [List.drop_append, List.drop_eq_nil_of_le (by omega), show (hdL m).length + 1 - (hdL m).length = 1 by omega]
    have h1 := (nuL_len m.t.toNat).2
    have h2 : (tiS m.y).length ≤ 1 := by cases m.y <;> simp [tiS]
    rw [List.nil_append, List.drop_succ_cons, List.drop_zero, List.take_of_length_le (by rw [List.length_append]; omega)]
  have htk : tkF (tlT (nxL m)) = m.t := by rw [ht, tkF_eq, tail_dig (t_lt h).1, diV_nu (t_lt h).1, (t_lt h).2]
  have hti : tiF (tlT (nxL m)) = m.y := by rw [ht, tiF_dig (t_lt h).1]
  unfold scN
  rw [htk, hti, hh]
  obtain ⟨r, s, a, o, t, y⟩ := m
  cases r
  · have hp := (nvB_iff.1 h).2.2
    simp only at hp
    obtain ⟨⟨a1, a2⟩, _, _⟩ := pvB_iff.1 hp
    have e : (⟨(hdL ⟨false, s, a, o, t, y⟩).toArray⟩ : ByteArray) = textB s a o := by
      rw [textB, if_pos hp, text_mk a1 a2]; rfl
    obtain ⟨r1, r2, r3, r4, _⟩ := read_text hp
    rw [e, r2, r3, r4, if_pos r1]
    rw [if_neg (by simp [hdL])]
  · have hz := (nvB_iff.1 h).1 rfl
    simp only at hz
    obtain ⟨rfl, rfl, rfl, rfl⟩ := hz
    rw [if_pos (by simp [hdL])]
theorem scN_yes {l : List UInt8} (hl : l ≠ []) (h : ntB (scN l) = ⟨l.toArray⟩) : rnB ⟨l.toArray⟩ = true ∧ rnN ⟨l.toArray⟩ = scN l := by
  cases hn : nvB (scN l) with
  | false =>
    rw [ntB_no hn] at h
    exact absurd (mk_inj (a := []) (b := l) h).symm hl
  | true =>
    rw [← h]
    exact rn_of hn
theorem scN_no {l : List UInt8} (h : ntB (scN l) ≠ ⟨l.toArray⟩) : rnB ⟨l.toArray⟩ = false := by
  rw [rnB_no]
  intro m hm e
  rw [ntB_yes hm] at e
  have := mk_inj e
  subst this
  exact h (by rw [scN_text hm, ntB_yes hm])
theorem rn_nil : rnB ⟨#[]⟩ = false := by
  rw [rnB_no]
  intro m hm e
  rw [ntB_yes hm] at e
  exact nxL_ne m (mk_inj (b := []) e)

/- Plain facts for chapter 8: the model's scan, a byte at a time. -/

theorem byZ_at {s : ByteArray} {k : Nat} {c : UInt8} (h : s.data.toList[k]? = some c) : byZ s k = (c.toNat : Int) := by
  unfold byZ
  rw [List.getD_eq_getElem?_getD, h]; rfl
theorem u8_ne {c : UInt8} {k : Nat} (hk : k < 256) (h : c ≠ UInt8.ofNat k) : ((c.toNat : Nat) : Int) ≠ k := by
  intro e
  have e2 : c.toNat = k := by omega
  apply h
  apply UInt8.toNat_inj.1
  rw [e2, UInt8.toNat_ofNat']
  omega
theorem hd_pre (l : List UInt8) : hdT l <+: l := List.takeWhile_prefix _
theorem hd_len (l : List UInt8) : (hdT l).length ≤ l.length := (hd_pre l).length_le
theorem hd_lt : ∀ {l : List UInt8} {k : Nat}, k < (hdT l).length → ∃ c, l[k]? = some c ∧ c ≠ 47
  | [], k, h => by simp [hdT] at h
  | c :: l, k, h => by
    unfold hdT at h
    rw [List.takeWhile_cons] at h
    split at h
    · rename_i hc
      cases k with
      | zero => exact ⟨c, rfl, by simpa using hc⟩
      | succ k =>
        obtain ⟨d, h1, h2⟩ := hd_lt (l := l) (k := k) (by unfold hdT; simpa using h)
        exact ⟨d, by simpa using h1, h2⟩
    · simp at h
theorem hd_end : ∀ {l : List UInt8}, (hdT l).length < l.length → l[(hdT l).length]? = some 47
  | [], h => by simp at h
  | c :: l, h => by
    unfold hdT at h ⊢
    rw [List.takeWhile_cons] at h ⊢
    split at h
    · rename_i hc
      rw [if_pos hc]
      have := hd_end (l := l) (by unfold hdT; simpa using h)
      unfold hdT at this
      simpa using this
    · rename_i hc
      rw [if_neg hc]
      have : c = 47 := by simpa using hc
      rw [this]; rfl
theorem tl_len (l : List UInt8) : (tlT l).length = min 5 (l.length - ((hdT l).length + 1)) := by
  unfold tlT
  rw [List.length_take, List.length_drop]
theorem tl_at {l : List UInt8} {i : Nat} (h : i < 5) : (tlT l)[i]? = l[(hdT l).length + 1 + i]? := by
  unfold tlT
  rw [List.getElem?_take_of_lt h, List.getElem?_drop]
theorem tk_up {t : List UInt8} {i : Nat} {c : UInt8} (h : t[i]? = some c) : tkF (t.take (i + 1)) = if isD c then 10 * tkF (t.take i) + ((c.toNat : Int) - 48) else tkF (t.take i) := by
  rw [List.take_add_one, h]
  unfold tkF
  rw [List.foldl_append]
  rfl
theorem ti_up {t : List UInt8} {i : Nat} {c : UInt8} (h : t[i]? = some c) : tiF (t.take (i + 1)) = (tiF (t.take i) || c == 126) := by
  rw [List.take_add_one, h]
  unfold tiF
  rw [List.any_append]
  simp
theorem isD_iff {c : UInt8} : isD c = true ↔ (48 : Int) ≤ c.toNat ∧ (c.toNat : Int) ≤ 57 := by
  unfold isD
  simp
  omega
theorem tk_bd (t : List UInt8) : ∀ i : Nat, 0 ≤ tkF (t.take i) ∧ tkF (t.take i) < (10 : Int) ^ i
  | 0 => by simp [tkF]
  | i + 1 => by
    have ih := tk_bd t i
    cases hc : t[i]? with
    | none =>
      rw [List.take_add_one, hc]
      simp only [Option.toList_none, List.append_nil]
      rw [Int.pow_succ]
      omega
    | some c =>
      rw [tk_up hc, Int.pow_succ]
      split
      · rename_i h
        have := isD_iff.1 h
        omega
      · omega
theorem tk_small (t : List UInt8) {i : Nat} (h : i ≤ 5) : 0 ≤ tkF (t.take i) ∧ tkF (t.take i) < 100000 := by
  have := tk_bd t i
  refine ⟨this.1, Int.lt_of_lt_of_le this.2 ?_⟩
  rcases (by omega : i = 0 ∨ i = 1 ∨ i = 2 ∨ i = 3 ∨ i = 4 ∨ i = 5) with rfl | rfl | rfl | rfl | rfl | rfl <;> decide
/-- the note that the head tells, before ticks and tie. -/
def scH (l : List UInt8) : Nt :=
  if hdT l = [114] then ⟨true, 0, 0, 0, 0, false⟩
  else if rdOk ⟨(hdT l).toArray⟩ then ⟨false, stI (byZ ⟨(hdT l).toArray⟩ 0), alZ (midB ⟨(hdT l).toArray⟩), byZ ⟨(hdT l).toArray⟩ ((⟨(hdT l).toArray⟩ : ByteArray).size - 1) - 48, 0, false⟩
  else ⟨false, 0, 0, 0, 0, false⟩
theorem scN_eq (l : List UInt8) : scN l = ⟨(scH l).r, (scH l).s, (scH l).a, (scH l).o, tkF (tlT l), tiF (tlT l)⟩ := by
  unfold scN scH
  split
  · rfl
  · split <;> rfl
theorem ext_hd (s : ByteArray) : s.extract 0 (hdT s.data.toList).length = ⟨(hdT s.data.toList).toArray⟩ := by
  apply ByteArray.ext
  rw [ByteArray.data_extract]
  apply Array.toList_inj.1
  rw [Array.toList_extract]
  obtain ⟨t, ht⟩ := hd_pre s.data.toList
  rw [List.extract_eq_take_drop]
  simp only [List.drop_zero, Nat.sub_zero]
  conv => lhs; arg 2; rw [← ht]
  rw [List.take_left]
theorem scH_one {l : List UInt8} (h : hdT l = [114]) : scH l = ⟨true, 0, 0, 0, 0, false⟩ := by unfold scH; rw [if_pos h]
theorem scH_ok {l : List UInt8} {B : ByteArray} (hB : (⟨(hdT l).toArray⟩ : ByteArray) = B) (h : hdT l ≠ [114]) (hr : rdOk B = true) : scH l = ⟨false, stI (byZ B 0), alZ (midB B), byZ B (B.size - 1) - 48, 0, false⟩ := by
  subst hB
  unfold scH; rw [if_neg h, if_pos hr]
theorem scH_no {l : List UInt8} {B : ByteArray} (hB : (⟨(hdT l).toArray⟩ : ByteArray) = B) (h : hdT l ≠ [114]) (hr : rdOk B = false) : scH l = ⟨false, 0, 0, 0, 0, false⟩ := by
  subst hB
  unfold scH; rw [if_neg h, hr]; rfl
theorem scN_of {l : List UInt8} {r : Bool} {s a o t : Int} {y : Bool} (h : scH l = ⟨r, s, a, o, t, y⟩) : scN l = ⟨r, s, a, o, tkF (tlT l), tiF (tlT l)⟩ := by rw [scN_eq, h]
theorem tl_step {t : List UInt8} {i : Nat} {c : UInt8} {tk : Int} {ti : Bool} (h : t[i]? = some c) (h1 : tkF (t.take i) = tk) (h2 : tiF (t.take i) = ti) :
    ((48 : Int) ≤ c.toNat ∧ (c.toNat : Int) ≤ 57 ∧ tkF (t.take (i + 1)) = 10 * tk + ((c.toNat : Int) - 48) ∧ tiF (t.take (i + 1)) = ti) ∨ ((c.toNat : Int) < 48 ∧ tkF (t.take (i + 1)) = tk ∧ tiF (t.take (i + 1)) = ti)
      ∨ ((57 : Int) < c.toNat ∧ (c.toNat : Int) = 126 ∧ tkF (t.take (i + 1)) = tk ∧ tiF (t.take (i + 1)) = true) ∨ ((57 : Int) < c.toNat ∧ (c.toNat : Int) ≠ 126 ∧ tkF (t.take (i + 1)) = tk ∧ tiF (t.take (i + 1)) = ti) := by
  have a1 := tk_up h
  have a2 := ti_up h
  rw [h1] at a1
  rw [h2] at a2
  have hc : (c = 126) ↔ (c.toNat : Int) = 126 := by
    constructor
    · rintro rfl; rfl
    · intro e
      apply UInt8.toNat_inj.1
      show c.toNat = 126
      omega
  by_cases hd : isD c = true
  · rw [if_pos hd] at a1
    have hd2 := isD_iff.1 hd
    have hn : (c == 126) = false := beq_eq_false_iff_ne.2 (fun e => by have := hc.1 e; omega)
    rw [hn, Bool.or_false] at a2
    exact Or.inl ⟨hd2.1, hd2.2, a1, a2⟩
  · rw [if_neg hd] at a1
    have hd2 : ¬ ((48 : Int) ≤ c.toNat ∧ (c.toNat : Int) ≤ 57) := fun e => hd (isD_iff.2 e)
    by_cases h48 : (c.toNat : Int) < 48
    · have hn : (c == 126) = false := beq_eq_false_iff_ne.2 (fun e => by have := hc.1 e; omega)
      rw [hn, Bool.or_false] at a2
      exact Or.inr (Or.inl ⟨h48, a1, a2⟩)
    · by_cases h6 : (c.toNat : Int) = 126
      · have hn : (c == 126) = true := beq_iff_eq.2 (hc.2 h6)
        rw [hn, Bool.or_true] at a2
        exact Or.inr (Or.inr (Or.inl ⟨by omega, h6, a1, a2⟩))
      · have hn : (c == 126) = false := beq_eq_false_iff_ne.2 (fun e => h6 (hc.1 e))
        rw [hn, Bool.or_false] at a2
        exact Or.inr (Or.inr (Or.inr ⟨by omega, h6, a1, a2⟩))
theorem take_all {t : List UInt8} {i : Nat} (h : t.length ≤ i) : t.take i = t := List.take_of_length_le h
/-- what comes of the scan. -/
theorem rn_end {s : ByteArray} {l : List UInt8} (hl : s.data.toList = l) :
    (l = [] ∧ rnB s = false ∧ rnN s = ⟨false, 0, 0, 0, 0, false⟩) ∨ (l ≠ [] ∧ ntB (scN l) = s ∧ rnB s = true ∧ rnN s = scN l) ∨ (l ≠ [] ∧ ntB (scN l) ≠ s ∧ rnB s = false ∧ rnN s = ⟨false, 0, 0, 0, 0, false⟩) := by
  have e : s = ⟨l.toArray⟩ := by
    apply ByteArray.ext
    apply Array.toList_inj.1
    rw [hl]
  by_cases h0 : l = []
  · subst h0
    subst e
    exact Or.inl ⟨rfl, rn_nil, rnN_no rn_nil⟩
  · by_cases h : ntB (scN l) = ⟨l.toArray⟩
    · have := scN_yes h0 h
      rw [← e] at h this
      exact Or.inr (Or.inl ⟨h0, h, this⟩)
    · have h2 := scN_no h
      rw [← e] at h h2
      exact Or.inr (Or.inr ⟨h0, h, h2, rnN_no h2⟩)

/- Plain facts for chapter 8: the model's word loop, a byte at a time; what comes of it. -/

/-- what the loop will find, standing ahead of byte k. -/
noncomputable def scR (l : List UInt8) (k : Nat) (word : List UInt8) (out : List Nt) : Option (List Nt) := if k ≤ l.length then scV (l.drop k) word out else some out
theorem drop_b {l : List UInt8} {k : Nat} {c : UInt8} (h : l[k]? = some c) : l.drop k = c :: l.drop (k + 1) := by
  obtain ⟨hk, e⟩ := List.getElem?_eq_some_iff.1 h
  rw [List.drop_eq_getElem_cons hk, e]
theorem scR_char {l : List UInt8} {k : Nat} {word : List UInt8} {out : List Nt} {c : UInt8} (h : l[k]? = some c) (hc : c ≠ 32) (ho : out.length ≤ 60) : scR l (k + 1) (word ++ [c]) out = scR l k word out := by
  have hk := (List.getElem?_eq_some_iff.1 h).1
  unfold scR
  rw [if_pos (by omega), if_pos (by omega), drop_b h]
  simp only [scV]
  rw [if_neg (by omega), if_neg hc]
theorem scR_word {l : List UInt8} {k : Nat} {word : List UInt8} {out : List Nt} (hk : k ≤ l.length) (h : k = l.length ∨ l[k]? = some 32) (ho : out.length ≤ 60) (hr : rnB ⟨word.toArray⟩ = true) : scR l (k + 1) [] (out ++ [rnN ⟨word.toArray⟩]) = scR l k word out := by
  unfold scR
  rcases h with rfl | h
  · rw [if_neg (by omega), if_pos (by omega), List.drop_length]
    simp only [scV]
    rw [if_neg (by omega), if_pos hr]
  · have hk2 := (List.getElem?_eq_some_iff.1 h).1
    rw [if_pos (by omega), if_pos (by omega), drop_b h]
    simp only [scV]
    rw [if_neg (by omega), if_pos trivial, if_pos hr]
theorem scR_none {l : List UInt8} {k : Nat} {word : List UInt8} {out : List Nt} (hk : k ≤ l.length) (h : k = l.length ∨ l[k]? = some 32) (ho : out.length ≤ 60) (hr : rnB ⟨word.toArray⟩ = false) : scR l k word out = none := by
  unfold scR
  rcases h with rfl | h
  · rw [if_pos (by omega), List.drop_length]
    simp only [scV]
    rw [if_neg (by omega), hr]; rfl
  · have hk2 := (List.getElem?_eq_some_iff.1 h).1
    rw [if_pos (by omega), drop_b h]
    simp only [scV]
    rw [if_neg (by omega), if_pos trivial, hr]; rfl
theorem scR_full {l : List UInt8} {k : Nat} {word : List UInt8} {out : List Nt} (ho : 60 < out.length) : scR l k word out = some out := by
  unfold scR
  split
  · cases l.drop k with
    | nil => simp only [scV]; rw [if_pos ho]
    | cons c s => simp only [scV]; rw [if_pos ho]
  · rfl
theorem scR_done {l : List UInt8} {k : Nat} {word : List UInt8} {out : List Nt} (hk : l.length < k) : scR l k word out = some out := by
  unfold scR
  rw [if_neg (by omega)]
theorem scR_start (l : List UInt8) : scR l 0 [] [] = scV l [] [] := by
  unfold scR
  rw [if_pos (by omega), List.drop_zero]
theorem rv_nil : rvB ⟨#[]⟩ = true ∧ rvL ⟨#[]⟩ = [] := by
  have h : voB [] = true := by decide
  have := rv_of h
  rwa [vxB_yes h] at this
/-- what comes of the words. -/
theorem rv_scan {s : ByteArray} {l : List UInt8} (hl : s.data.toList = l) (h0 : l ≠ []) {v : List Nt} (hv : voB v = true) (e : vxB v = s) : scV l [] [] = some v := by
  rw [vxB_yes hv] at e
  have e2 : vxL v = l := by rw [← hl, ← e]
  cases v with
  | nil => exact absurd e2.symm h0
  | cons x v =>
    rw [← e2]
    have hlen := (voB_iff.1 hv).2
    have := scV_text (v := v) (x := x) (out := []) (vo_all hv) (by simp at hlen ⊢; omega)
    simpa using this
theorem rv_none {s : ByteArray} {l : List UInt8} (hl : s.data.toList = l) (h0 : l ≠ []) (h : scV l [] [] = none) : rvB s = false ∧ rvL s = [] := by
  have hb : rvB s = false := by
    rw [rvB_no]
    intro v hv e
    rw [rv_scan hl h0 hv e] at h
    cases h
  exact ⟨hb, rvL_no hb⟩
theorem rv_some {s : ByteArray} {l : List UInt8} {v : List Nt} (hl : s.data.toList = l) (h0 : l ≠ []) (h : scV l [] [] = some v) :
    (vxB v = s ∧ rvB s = true ∧ rvL s = v) ∨ (vxB v ≠ s ∧ rvB s = false ∧ rvL s = []) := by
  by_cases e : vxB v = s
  · cases hv : voB v with
    | false =>
      rw [vxB_no hv] at e
      subst e
      exact absurd hl.symm h0
    | true =>
      have := rv_of hv
      rw [e] at this
      exact Or.inl ⟨e, this⟩
  · have hb : rvB s = false := by
      rw [rvB_no]
      intro u hu e2
      rw [rv_scan hl h0 hu e2] at h
      cases h
      exact e e2
    exact Or.inr ⟨e, hb, rvL_no hb⟩
theorem scV_len : ∀ {l word : List UInt8} {out v : List Nt}, out.length ≤ 61 → scV l word out = some v → v.length ≤ 61
  | [], word, out, v, ho, h => by
    simp only [scV] at h
    split at h
    · cases h; exact ho
    · split at h
      · cases h; rw [List.length_append]; simp; omega
      · cases h
  | c :: l, word, out, v, ho, h => by
    simp only [scV] at h
    split at h
    · cases h; exact ho
    · split at h
      · split at h
        · exact scV_len (by rw [List.length_append]; simp; omega) h
        · cases h
      · exact scV_len ho h

/- Plain facts for chapter 8: which texts are those of a note, part by part; the words of a text make the text. -/

/-! ### Numbers -/

theorem fold_ge : ∀ (l : List UInt8) (a : Nat), a * 10 ^ l.length ≤ l.foldl (fun a c => 10 * a + (c.toNat - 48)) a
  | [], a => by simp
  | c :: l, a => by
    rw [List.foldl_cons, List.length_cons, Nat.pow_succ]
    refine Nat.le_trans ?_ (fold_ge l _)
    rw [Nat.mul_comm (10 ^ l.length) 10, ← Nat.mul_assoc]
    exact Nat.mul_le_mul_right _ (by omega)
theorem isD_to {c : UInt8} (h : isD c = true) : 48 ≤ c.toNat ∧ c.toNat ≤ 57 := by
  unfold isD at h
  simpa using h
theorem dig_of {c : UInt8} {k : Nat} (h : isD c = true) (hk : c.toNat - 48 = k) : dgN k = c := by
  have := isD_to h
  apply UInt8.toNat_inj.1
  rw [dgN_to (by omega)]
  omega
theorem not48 {c : UInt8} (h : isD c = true) (h0 : c ≠ 48) : 1 ≤ c.toNat - 48 := by
  have := isD_to h
  have : c.toNat ≠ 48 := fun e => h0 (UInt8.toNat_inj.1 e)
  omega
/-- digits that don't begin with a zero, up to 999: the text of their number. -/
theorem nu_of : ∀ {l : List UInt8}, l ≠ [] → (∀ c ∈ l, isD c = true) → l.head? ≠ some 48 → diV l ≤ 999 → l = nuL (diV l) ∧ 1 ≤ diV l
  | [], h, _, _, _ => absurd rfl h
  | [a], _, hd, h0, _ => by
    have ha := hd a (by simp)
    have h1 := not48 ha (by simpa using h0)
    have h2 := isD_to ha
    have hv : diV [a] = a.toNat - 48 := by simp [diV]
    rw [hv]
    refine ⟨?_, h1⟩
    unfold nuL
    rw [if_pos (by omega), dig_of ha rfl]
  | [a, b], _, hd, h0, _ => by
    have ha := hd a (by simp)
    have hb := hd b (by simp)
    have h1 := not48 ha (by simpa using h0)
    have h2 := isD_to ha
    have h3 := isD_to hb
    have hv : diV [a, b] = 10 * (a.toNat - 48) + (b.toNat - 48) := by simp [diV]
    rw [hv]
    refine ⟨?_, by omega⟩
    unfold nuL
    rw [if_neg (by omega), if_pos (by omega), show dgN ((10 * (a.toNat - 48) + (b.toNat - 48)) / 10) = a from dig_of ha (by omega), show dgN ((10 * (a.toNat - 48) + (b.toNat - 48)) % 10) = b from dig_of hb (by omega)]
  | [a, b, c], _, hd, h0, _ => by
    have ha := hd a (by simp)
    have hb := hd b (by simp)
    have hc := hd c (by simp)
    have h1 := not48 ha (by simpa using h0)
    have h2 := isD_to ha
    have h3 := isD_to hb
    have h4 := isD_to hc
    have hv : diV [a, b, c] = 10 * (10 * (a.toNat - 48) + (b.toNat - 48)) + (c.toNat - 48) := by simp [diV]
    rw [hv]
    refine ⟨?_, by omega⟩
    unfold nuL
    obtain ⟨v, hw⟩ : ∃ v, 10 * (10 * (a.toNat - 48) + (b.toNat - 48)) + (c.toNat - 48) = v := ⟨_, rfl⟩
    rw [hw, if_neg (by omega), if_neg (by omega), show dgN (v / 100) = a from dig_of ha (by omega), show dgN (v / 10 % 10) = b from dig_of hb (by omega), show dgN (v % 10) = c from dig_of hc (by omega)]
  | a :: b :: c :: d :: l, _, hd, h0, hm => by
    exfalso
    have ha := hd a (by simp)
    have h1 := not48 ha (by simpa using h0)
    have h := fold_ge (b :: c :: d :: l) (10 * 0 + (a.toNat - 48))
    have e : diV (a :: b :: c :: d :: l) = (b :: c :: d :: l).foldl (fun a c => 10 * a + (c.toNat - 48)) (10 * 0 + (a.toNat - 48)) := rfl
    rw [e] at hm
    have hp : 10 ^ (b :: c :: d :: l).length = 1000 * 10 ^ l.length := by
      simp only [List.length_cons, Nat.pow_succ]; omega
    have hp2 : 0 < 10 ^ l.length := Nat.pow_pos (by omega)
    have : 1 * (1000 * 10 ^ l.length) ≤ (10 * 0 + (a.toNat - 48)) * 10 ^ (b :: c :: d :: l).length := by
      rw [hp]; exact Nat.mul_le_mul_right _ (by omega)
    omega

/-! ### The text of a note, part by part -/

/-- a number as notes bear it: digits, no zero ahead, 1 to 768. -/
def numOk (l : List UInt8) : Prop := l ≠ [] ∧ (∀ c ∈ l, isD c = true) ∧ l.head? ≠ some 48 ∧ diV l ≤ 768
theorem num_of {l : List UInt8} (h : numOk l) : l = nuL (diV l) ∧ 1 ≤ diV l ∧ diV l ≤ 768 := by
  obtain ⟨h1, h2, h3, h4⟩ := h
  obtain ⟨e, h5⟩ := nu_of h1 h2 h3 (by omega)
  exact ⟨e, h5, h4⟩
theorem num_nu {k : Nat} (h1 : 1 ≤ k) (h2 : k ≤ 768) : numOk (nuL k) := by
  refine ⟨nuL_ne k, nuL_dig (by omega), ?_, by rw [diV_nu (by omega)]; exact h2⟩
  have hd : ∀ j, 1 ≤ j → j < 10 → dgN j ≠ 48 := fun j a b e => by
    have := congrArg UInt8.toNat e
    rw [dgN_to b] at this
    have e2 : (48 : UInt8).toNat = 48 := rfl
    omega
  unfold nuL
  split
  · simpa using hd k h1 (by omega)
  · split
    · simpa using hd (k / 10) (by omega) (by omega)
    · simpa using hd (k / 100) (by omega) (by omega)
/-- a rest's text; a tone's text, tied or not. -/
theorem rn_rest {t : List UInt8} (h : numOk t) : rnB ⟨([114] ++ 47 :: t).toArray⟩ = true ∧ rnN ⟨([114] ++ 47 :: t).toArray⟩ = ⟨true, 0, 0, 0, (diV t : Int), false⟩ := by
  obtain ⟨e, h1, h2⟩ := num_of h
  have hv : nvB ⟨true, 0, 0, 0, (diV t : Int), false⟩ = true := nvB_iff.2 ⟨fun _ => ⟨rfl, rfl, rfl, rfl⟩, ⟨by simp only; omega, by simp only; omega⟩, (by decide : pvB 0 0 0 = true)⟩
  have := rn_of hv
  rw [ntB_yes hv] at this
  have e2 : nxL ⟨true, 0, 0, 0, (diV t : Int), false⟩ = [114] ++ 47 :: t := by
    unfold nxL hdL
    simp only [if_true, Int.toNat_natCast, tiS, Bool.false_eq_true, if_false, List.append_nil]
    rw [← e]
  rw [e2] at this
  exact this
theorem rn_tone {s a o : Int} {t : List UInt8} (hp : pvB s a o = true) (h : numOk t) (y : Bool) :
    rnB ⟨((textB s a o).data.toList ++ 47 :: (t ++ tiS y)).toArray⟩ = true ∧ rnN ⟨((textB s a o).data.toList ++ 47 :: (t ++ tiS y)).toArray⟩ = ⟨false, s, a, o, (diV t : Int), y⟩ := by
  obtain ⟨e, h1, h2⟩ := num_of h
  have hv : nvB ⟨false, s, a, o, (diV t : Int), y⟩ = true := nvB_iff.2 ⟨fun h => by simp at h, ⟨by simp only; omega, by simp only; omega⟩, hp⟩
  have := rn_of hv
  rw [ntB_yes hv] at this
  obtain ⟨⟨a1, a2⟩, _, _⟩ := pvB_iff.1 hp
  have e2 : nxL ⟨false, s, a, o, (diV t : Int), y⟩ = (textB s a o).data.toList ++ 47 :: (t ++ tiS y) := by
    unfold nxL hdL
    rw [textB, if_pos hp, text_mk a1 a2]
    simp only [Bool.false_eq_true, if_false, Int.toNat_natCast]
    rw [← e]
  rw [e2] at this
  exact this
/-- of each text that is a note's: its parts. -/
theorem rn_parts {s : ByteArray} (h : rnB s = true) :
    ∃ t, numOk t ∧ (((rnN s).t = (diV t : Int)) ∧ (((rnN s).r = true ∧ s.data.toList = [114] ++ 47 :: t ∧ (rnN s).y = false)
      ∨ ((rnN s).r = false ∧ pvB (rnN s).s (rnN s).a (rnN s).o = true ∧ s.data.toList = (textB (rnN s).s (rnN s).a (rnN s).o).data.toList ++ 47 :: (t ++ tiS (rnN s).y)))) := by
  obtain ⟨hv, e⟩ := rn_is h
  obtain ⟨⟨r, st, al, oc, tk, y⟩, hn⟩ : ∃ x, rnN s = x := ⟨_, rfl⟩
  rw [hn] at hv e ⊢
  have ht := t_lt hv
  have hb := (nvB_iff.1 hv).2.1
  simp only at ht hb
  have hl : s.data.toList = nxL ⟨r, st, al, oc, tk, y⟩ := by rw [← e, ntB_yes hv]
  refine ⟨nuL tk.toNat, num_nu (by omega) (by omega), by simp only; rw [diV_nu ht.1, ht.2], ?_⟩
  cases r
  · have hp := (nvB_iff.1 hv).2.2
    simp only at hp
    obtain ⟨⟨a1, a2⟩, _, _⟩ := pvB_iff.1 hp
    refine Or.inr ⟨rfl, hp, ?_⟩
    rw [hl, textB, if_pos hp, text_mk a1 a2]
    rfl
  · have hy := ((nvB_iff.1 hv).1 rfl).1
    simp only at hy
    subst hy
    refine Or.inl ⟨rfl, ?_, rfl⟩
    rw [hl]
    simp [nxL, hdL, tiS]

/-! ### Words make the text -/

/-- the text of notes and a word that has begun. -/
def vxW (out : List Nt) (word : List UInt8) : List UInt8 := if out = [] then word else vxL out ++ 32 :: word
theorem vxW_snoc {x : Nt} (out : List Nt) (word : List UInt8) : vxW (out ++ [x]) word = vxW out (nxL x ++ 32 :: word) := by
  unfold vxW
  rw [if_neg (by simp), vxL_snoc]
  split
  · rfl
  · simp
theorem vxW_last {x : Nt} (out : List Nt) : vxL (out ++ [x]) = vxW out (nxL x) := by
  unfold vxW
  rw [vxL_snoc]
theorem vxW_app (out : List Nt) (a b : List UInt8) : vxW out (a ++ b) = vxW out a ++ b := by
  unfold vxW
  split
  · rfl
  · simp
theorem rn_word {w : List UInt8} (h : rnB ⟨w.toArray⟩ = true) : w = nxL (rnN ⟨w.toArray⟩) ∧ nvB (rnN ⟨w.toArray⟩) = true := by
  obtain ⟨hv, e⟩ := rn_is h
  rw [ntB_yes hv] at e
  exact ⟨(mk_inj e).symm, hv⟩
/-- where the word loop comes to its end with at most 60 notes, they are the text. -/
theorem scV_back : ∀ {l word : List UInt8} {out v : List Nt}, out.length ≤ 60 → v.length ≤ 60 → scV l word out = some v → vxL v = vxW out (word ++ l) ∧ ((∀ x ∈ out, nvB x = true) → ∀ x ∈ v, nvB x = true)
  | [], word, out, v, ho, hv, h => by
    simp only [scV] at h
    rw [if_neg (by omega)] at h
    split at h
    · rename_i hr
      obtain ⟨e, hn⟩ := rn_word hr
      cases h
      refine ⟨by rw [vxW_last, List.append_nil, ← e], fun ha x hx => ?_⟩
      rcases List.mem_append.1 hx with hx | hx
      · exact ha x hx
      · simp at hx; subst hx; exact hn
    · cases h
  | c :: l, word, out, v, ho, hv, h => by
    simp only [scV] at h
    rw [if_neg (by omega)] at h
    split at h
    · rename_i hc
      subst hc
      split at h
      · rename_i hr
        obtain ⟨e, hn⟩ := rn_word hr
        by_cases ho2 : (out ++ [rnN ⟨word.toArray⟩]).length ≤ 60
        · obtain ⟨h1, h2⟩ := scV_back ho2 hv h
          refine ⟨by rw [h1, vxW_snoc, ← e]; rfl, fun ha => h2 fun x hx => ?_⟩
          rcases List.mem_append.1 hx with hx | hx
          · exact ha x hx
          · simp at hx; subst hx; exact hn
        · exfalso
          have : scV l [] (out ++ [rnN ⟨word.toArray⟩]) = some (out ++ [rnN ⟨word.toArray⟩]) := by
            cases l with
            | nil => simp only [scV]; rw [if_pos (by omega)]
            | cons d l => simp only [scV]; rw [if_pos (by omega)]
          rw [this] at h
          cases h
          omega
      · cases h
    · obtain ⟨h1, h2⟩ := scV_back ho hv h
      exact ⟨by rw [h1, List.append_assoc]; rfl, h2⟩

/- Plain facts for chapter 8: a scanner that reads a note at the beginning of a text, and the voice that it reads note by note. No program in it. -/

/-- the digits at the beginning. -/
def dsT (l : List UInt8) : List UInt8 := l.takeWhile isD
theorem ds_cut (l : List UInt8) : l = dsT l ++ l.drop (dsT l).length := by
  obtain ⟨t, ht⟩ : dsT l <+: l := List.takeWhile_prefix _
  obtain ⟨d, hd⟩ : ∃ d, dsT l = d := ⟨_, rfl⟩
  rw [hd] at ht ⊢
  rw [← ht, List.drop_left]
theorem ds_dig : ∀ (l : List UInt8), ∀ c ∈ dsT l, isD c = true
  | [], c, h => by simp [dsT] at h
  | a :: l, c, h => by
    unfold dsT at h
    rw [List.takeWhile_cons] at h
    split at h
    · rename_i ha
      rcases List.mem_cons.1 h with rfl | h
      · exact ha
      · exact ds_dig l c h
    · cases h
theorem ds_app : ∀ {A B : List UInt8}, (∀ c ∈ A, isD c = true) → (∀ c, B.head? = some c → isD c = false) → dsT (A ++ B) = A
  | [], B, _, h => by
    cases B with
    | nil => rfl
    | cons b B =>
      show List.takeWhile isD (b :: B) = []
      rw [List.takeWhile_cons, h b rfl]; rfl
  | a :: A, B, ha, h => by
    show List.takeWhile isD (a :: (A ++ B)) = _
    rw [List.takeWhile_cons, ha a (by simp)]
    simp only [if_true]
    congr 1
    exact ds_app (fun c hc => ha c (by simp [hc])) h
/-- a text with a slash: what stands ahead of it, and behind it. -/
theorem hd_cut {l : List UInt8} (h : 47 ∈ l) : l = hdT l ++ 47 :: l.drop ((hdT l).length + 1) := by
  induction l with
  | nil => cases h
  | cons a l ih =>
    by_cases ha : a = 47
    · subst ha
      rfl
    · have hm : 47 ∈ l := by
        rcases List.mem_cons.1 h with e | e
        · exact absurd e.symm ha
        · exact e
      have e : hdT (a :: l) = a :: hdT l := by
        show List.takeWhile _ _ = _
        rw [List.takeWhile_cons, if_pos (by simpa using ha)]
        rfl
      rw [e]
      show a :: l = a :: (hdT l ++ 47 :: l.drop ((hdT l).length + 1))
      rw [← ih hm]

/-- what the scanner reads at the beginning: a valid note, and what is left; none if there is none. -/
noncomputable def noS (l : List UInt8) : Option (Nt × List UInt8) := by
  classical exact
  if 47 ∈ l ∧ (hdT l = [114] ∨ rdOk ⟨(hdT l).toArray⟩ = true) ∧ numOk (dsT (l.drop ((hdT l).length + 1))) then
    (let b := l.drop ((hdT l).length + 1)
     let r := b.drop (dsT b).length
     let y := decide (r.head? = some 126)
     let x : Nt := ⟨(scH l).r, (scH l).s, (scH l).a, (scH l).o, (diV (dsT b) : Int), y⟩
     if nvB x then some (x, if y then r.drop 1 else r) else none)
  else none
theorem no_slash {l : List UInt8} (h : 47 ∉ l) : noS l = none := by unfold noS; rw [if_neg (fun e => h e.1)]
theorem no_head {l : List UInt8} (h1 : hdT l ≠ [114]) (h2 : rdOk ⟨(hdT l).toArray⟩ = false) : noS l = none := by
  unfold noS; rw [if_neg]
  rintro ⟨_, e | e, _⟩
  · exact h1 e
  · rw [h2] at e; cases e
theorem no_num {l b : List UInt8} (hb : l.drop ((hdT l).length + 1) = b) (h : ¬ numOk (dsT b)) : noS l = none := by
  subst hb
  unfold noS; rw [if_neg (fun e => h e.2.2)]
theorem no_some {l b r : List UInt8} {x : Nt} (h : 47 ∈ l) (hh : hdT l = [114] ∨ rdOk ⟨(hdT l).toArray⟩ = true) (hb : l.drop ((hdT l).length + 1) = b) (hn : numOk (dsT b)) (hr : b.drop (dsT b).length = r)
    (hx : ⟨(scH l).r, (scH l).s, (scH l).a, (scH l).o, (diV (dsT b) : Int), decide (r.head? = some 126)⟩ = x) :
    (nvB x = true → noS l = some (x, if x.y then r.drop 1 else r)) ∧ (nvB x = false → noS l = none) := by
  subst hb hr hx
  unfold noS
  rw [if_pos ⟨h, hh, hn⟩]
  constructor
  · intro hv; simp only [hv, if_true]
  · intro hv; simp only [hv]; rfl
theorem nuL_diV {t : List UInt8} (h : numOk t) : nuL ((diV t : Int)).toNat = t := by
  rw [Int.toNat_natCast]; exact (num_of h).1.symm
theorem no_is {l r : List UInt8} {x : Nt} (h : noS l = some (x, r)) : nvB x = true ∧ l = nxL x ++ r := by
  unfold noS at h
  split at h
  · rename_i hc
    obtain ⟨h47, hh, hn⟩ := hc
    simp only at h
    obtain ⟨b, hb⟩ : ∃ b, l.drop ((hdT l).length + 1) = b := ⟨_, rfl⟩
    obtain ⟨q, hq⟩ : ∃ q, b.drop (dsT b).length = q := ⟨_, rfl⟩
    rw [hb] at h hn
    rw [hq] at h
    have hl := hd_cut h47
    rw [hb] at hl
    have hb2 := ds_cut b
    rw [hq] at hb2
    split at h
    · rename_i hv
      cases h
      refine ⟨hv, ?_⟩
      have hq2 : q = tiS (decide (q.head? = some 126)) ++ (if decide (q.head? = some 126) = true then q.drop 1 else q) := by
        by_cases e : q.head? = some 126
        · rw [decide_eq_true e]
          cases q with
          | nil => cases e
          | cons c q => simp at e; subst e; rfl
        · rw [decide_eq_false e]; rfl
      have hd : hdT l = hdL ⟨(scH l).r, (scH l).s, (scH l).a, (scH l).o, (diV (dsT b) : Int), decide (q.head? = some 126)⟩ := by
        unfold hdL
        by_cases h1 : hdT l = [114]
        · rw [scH_one h1, h1]; rfl
        · have hr := hh.resolve_left h1
          have hp := (nvB_iff.1 hv).2.2
          rw [scH_ok rfl h1 hr] at hp ⊢
          simp only at hp
          obtain ⟨⟨a1, a2⟩, _, _⟩ := pvB_iff.1 hp
          have e := text_read hr
          rw [textB, if_pos hp, text_mk a1 a2] at e
          exact (mk_inj e).symm
      unfold nxL
      rw [← hd, nuL_diV hn, List.append_assoc, List.cons_append, List.append_assoc, ← hq2, ← hb2]
      exact hl
    · cases h
  · cases h
theorem no_of {x : Nt} {r : List UInt8} (hx : nvB x = true) (hr : ∀ c, r.head? = some c → c = 32) : noS (nxL x ++ r) = some (x, r) := by
  have hin := fun c hc => (hdL_in hx c hc).1
  obtain ⟨l, hl⟩ : ∃ l, nxL x ++ r = l := ⟨_, rfl⟩
  have hl2 : hdL x ++ 47 :: (nuL x.t.toNat ++ (tiS x.y ++ r)) = l := by
    rw [← hl]; unfold nxL; rw [List.append_assoc, List.cons_append, List.append_assoc]
  rw [hl]
  have h47 : 47 ∈ l := by rw [← hl2]; simp
  have hh : hdT l = hdL x := by rw [← hl2]; exact hdT_cut _ hin
  have hb : l.drop ((hdT l).length + 1) = nuL x.t.toNat ++ (tiS x.y ++ r) := by
    rw [hh, ← hl2, List.drop_append, List.drop_eq_nil_of_le (by omega), show (hdL x).length + 1 - (hdL x).length = 1 by omega]
    rfl
  have hti : ∀ c, (tiS x.y ++ r).head? = some c → isD c = false := by
    intro c hc
    cases hy : x.y
    · rw [hy] at hc
      rw [hr c hc]; rfl
    · rw [hy] at hc
      cases hc; rfl
  have ht := t_lt hx
  have hds : dsT (nuL x.t.toNat ++ (tiS x.y ++ r)) = nuL x.t.toNat := ds_app (nuL_dig ht.1) hti
  obtain ⟨t2, t1⟩ := (nvB_iff.1 hx).2.1
  have hn : numOk (dsT (nuL x.t.toNat ++ (tiS x.y ++ r))) := by rw [hds]; exact num_nu (by omega) (by omega)
  have hq : (nuL x.t.toNat ++ (tiS x.y ++ r)).drop (dsT (nuL x.t.toNat ++ (tiS x.y ++ r))).length = tiS x.y ++ r := by rw [hds, List.drop_left]
  have hy : decide ((tiS x.y ++ r).head? = some 126) = x.y := by
    cases hy : x.y
    · show decide (r.head? = some 126) = false
      rw [decide_eq_false]
      intro e
      have := hr _ e
      cases this
    · rfl
  have hd : (hdT l = [114] ∨ rdOk ⟨(hdT l).toArray⟩ = true) ∧ (scH l).r = x.r ∧ (scH l).s = x.s ∧ (scH l).a = x.a ∧ (scH l).o = x.o := by
    obtain ⟨xr, s, a, o, t, y⟩ := x
    cases xr
    · have hp := (nvB_iff.1 hx).2.2
      simp only at hp
      obtain ⟨⟨a1, a2⟩, _, _⟩ := pvB_iff.1 hp
      have e : (⟨(hdT l).toArray⟩ : ByteArray) = textB s a o := by
        rw [hh, textB, if_pos hp, text_mk a1 a2]; rfl
      obtain ⟨r1, r2, r3, r4, _⟩ := read_text hp
      have hne : hdT l ≠ [114] := by rw [hh]; simp [hdL]
      refine ⟨Or.inr (by rw [e]; exact r1), ?_⟩
      rw [scH_ok e hne r1]
      exact ⟨rfl, r2, r3, r4⟩
    · have hz := (nvB_iff.1 hx).1 rfl
      simp only at hz
      obtain ⟨rfl, rfl, rfl, rfl⟩ := hz
      have h1 : hdT l = [114] := by rw [hh]; rfl
      refine ⟨Or.inl h1, ?_⟩
      rw [scH_one h1]
      exact ⟨rfl, rfl, rfl, rfl⟩
  have hxx : (⟨(scH l).r, (scH l).s, (scH l).a, (scH l).o, (diV (dsT (nuL x.t.toNat ++ (tiS x.y ++ r))) : Int), decide ((tiS x.y ++ r).head? = some 126)⟩ : Nt) = x := by
    rw [hd.2.1, hd.2.2.1, hd.2.2.2.1, hd.2.2.2.2, hy, hds, diV_nu ht.1, ht.2]
  rw [(no_some h47 hd.1 hb hn hq hxx).1 hx]
  cases hy2 : x.y
  · rfl
  · rfl

/-! ### The whole text -/

theorem rn_scan {s : ByteArray} {x : Nt} (h : noS s.data.toList = some (x, [])) : rnB s = true ∧ rnN s = x := by
  obtain ⟨hv, e⟩ := no_is h
  rw [List.append_nil] at e
  have hs : ntB x = s := by
    rw [ntB_yes hv, ← e]
  rw [← hs]
  exact rn_of hv
theorem rn_scan_no {s : ByteArray} (h : ∀ x, noS s.data.toList ≠ some (x, [])) : rnB s = false ∧ rnN s = ⟨false, 0, 0, 0, 0, false⟩ := by
  have hb : rnB s = false := by
    cases hb : rnB s with
    | false => rfl
    | true =>
      obtain ⟨hv, e⟩ := rn_is hb
      exfalso
      apply h (rnN s)
      rw [ntB_yes hv] at e
      have hl : s.data.toList = nxL (rnN s) ++ [] := by
        rw [List.append_nil]
        conv => lhs; rw [← e]
      rw [hl]
      exact no_of hv (fun c hc => by cases hc)
  exact ⟨hb, rnN_no hb⟩

/-- what begins like the notes read so far, and goes on, is a note more. -/
theorem vx_pre : ∀ {out v : List Nt} {l : List UInt8}, (∀ x ∈ out, nvB x = true) → (∀ x ∈ v, nvB x = true) → (out = [] → l ≠ []) → vxL v = vxW out l →
    ∃ x v' r, v = out ++ x :: v' ∧ l = nxL x ++ r ∧ (∀ c, r.head? = some c → c = 32) ∧ nvB x = true
  | [], [], l, _, _, hl, e => by
    exfalso
    unfold vxW at e
    rw [if_pos rfl] at e
    exact hl rfl e.symm
  | [], [x], l, _, hv, _, e => by
    unfold vxW at e
    rw [if_pos rfl] at e
    exact ⟨x, [], [], rfl, by rw [List.append_nil, ← e]; rfl, (fun c hc => by cases hc), hv x (by simp)⟩
  | [], x :: y :: t, l, _, hv, _, e => by
    unfold vxW at e
    rw [if_pos rfl] at e
    exact ⟨x, y :: t, 32 :: vxL (y :: t), rfl, by rw [← e]; rfl, (fun c hc => by cases hc; rfl), hv x (by simp)⟩
  | a :: o, [], l, _, _, _, e => by
    exfalso
    unfold vxW at e
    rw [if_neg (by simp)] at e
    have := congrArg List.length e
    simp [vxL] at this
  | a :: o, [x], l, _, hv, _, e => by
    exfalso
    unfold vxW at e
    rw [if_neg (by simp)] at e
    exact no32 (fun c hc => nxL_in (hv x (by simp)) c hc) e
  | [a], x :: y :: t, l, ho, hv, _, e => by
    unfold vxW at e
    rw [if_neg (by simp)] at e
    obtain ⟨e1, e2⟩ := cut32 (fun c hc => nxL_in (hv x (by simp)) c hc) (fun c hc => nxL_in (ho a (by simp)) c hc) e
    have hxa := nxL_inj (hv x (by simp)) (ho a (by simp)) e1
    subst hxa
    obtain ⟨z, v', r, h1, h2, h3, h4⟩ := vx_pre (out := []) (v := y :: t) (l := l) (fun _ h => by cases h) (fun z hz => hv z (by simp [List.mem_cons.1 hz])) (fun _ => by rw [← e2]; exact vxL_ne) (by unfold vxW; rw [if_pos rfl]; exact e2)
    exact ⟨z, v', r, by rw [h1]; rfl, h2, h3, h4⟩
  | a :: b :: o, x :: y :: t, l, ho, hv, hl, e => by
    unfold vxW at e
    rw [if_neg (by simp)] at e
    have e0 : nxL x ++ 32 :: vxL (y :: t) = nxL a ++ 32 :: (vxL (b :: o) ++ 32 :: l) := by
      rw [show vxL (x :: y :: t) = nxL x ++ 32 :: vxL (y :: t) from rfl, show vxL (a :: b :: o) = nxL a ++ 32 :: vxL (b :: o) from rfl] at e
      rw [e, List.append_assoc]; rfl
    obtain ⟨e1, e2⟩ := cut32 (fun c hc => nxL_in (hv x (by simp)) c hc) (fun c hc => nxL_in (ho a (by simp)) c hc) e0
    have hxa := nxL_inj (hv x (by simp)) (ho a (by simp)) e1
    subst hxa
    obtain ⟨z, v', r, h1, h2, h3, h4⟩ := vx_pre (out := b :: o) (v := y :: t) (l := l) (fun z hz => ho z (List.mem_cons_of_mem _ hz)) (fun z hz => hv z (List.mem_cons_of_mem _ hz)) (fun h => by cases h) (by unfold vxW; rw [if_neg (by simp)]; exact e2)
    exact ⟨z, v', r, by rw [h1]; rfl, h2, h3, h4⟩
/-- where no voice can be the text. -/
theorem rv_not {s : ByteArray} {out : List Nt} {l : List UInt8} (ho : ∀ x ∈ out, nvB x = true) (hl : out = [] → l ≠ []) (hs : s.data.toList = vxW out l)
    (h : ∀ x v' r, l = nxL x ++ r → (∀ c, r.head? = some c → c = 32) → nvB x = true → voB (out ++ x :: v') = true → False) : rvB s = false ∧ rvL s = [] := by
  have hb : rvB s = false := by
    cases hb : rvB s with
    | false => rfl
    | true =>
      exfalso
      obtain ⟨hv, e⟩ := rv_is hb
      rw [vxB_yes hv] at e
      have he : vxL (rvL s) = vxW out l := by
        rw [← hs]
        conv => rhs; rw [← e]
      obtain ⟨x, v', r, h1, h2, h3, h4⟩ := vx_pre ho (vo_all hv) hl he
      rw [h1] at hv
      exact h x v' r h2 h3 h4 hv
  exact ⟨hb, rvL_no hb⟩
theorem rv_stop {s : ByteArray} {out : List Nt} {l : List UInt8} (ho : ∀ x ∈ out, nvB x = true) (hl : out = [] → l ≠ []) (hs : s.data.toList = vxW out l) (h : noS l = none) : rvB s = false ∧ rvL s = [] :=
  rv_not ho hl hs fun x v' r e hr hx _ => by
    rw [e, no_of hx hr] at h
    cases h
theorem rv_many {s : ByteArray} {out : List Nt} {l : List UInt8} (ho : ∀ x ∈ out, nvB x = true) (hl : out = [] → l ≠ []) (hs : s.data.toList = vxW out l) (h : out.length = 60) : rvB s = false ∧ rvL s = [] :=
  rv_not ho hl hs fun x v' r e hr hx hv => by
    have := (voB_iff.1 hv).2
    rw [List.length_append, List.length_cons] at this
    omega
theorem rv_more {s : ByteArray} {out : List Nt} {l r : List UInt8} {x : Nt} (ho : ∀ x ∈ out, nvB x = true) (hl : out = [] → l ≠ []) (hs : s.data.toList = vxW out l) (h : noS l = some (x, r)) (h1 : r ≠ []) (h2 : r.head? ≠ some 32) : rvB s = false ∧ rvL s = [] :=
  rv_not ho hl hs fun z v' q e hr hx _ => by
    rw [e, no_of hx hr] at h
    cases h
    cases hc : r.head? with
    | none => exact h1 (List.head?_eq_none_iff.1 hc)
    | some c => exact h2 (by rw [hc, hr c hc])
theorem rv_next {s : ByteArray} {out : List Nt} {l r : List UInt8} {x : Nt} (hs : s.data.toList = vxW out l) (h : noS l = some (x, 32 :: r)) : s.data.toList = vxW (out ++ [x]) r := by
  rw [hs, (no_is h).2, vxW_snoc]
theorem rv_last {s : ByteArray} {out : List Nt} {l : List UInt8} {x : Nt} (hs : s.data.toList = vxW out l) (h : noS l = some (x, [])) : s.data.toList = vxL (out ++ [x]) := by
  rw [hs, (no_is h).2, List.append_nil, vxW_last]
theorem rv_end {s : ByteArray} {v : List Nt} (hv : ∀ x ∈ v, nvB x = true) (hs : s.data.toList = vxL v) : (voB v = true → rvB s = true ∧ rvL s = v) ∧ (voB v = false → rvB s = false ∧ rvL s = []) := by
  constructor
  · intro h
    have e : vxB v = s := by rw [vxB_yes h, ← hs]
    rw [← e]
    exact rv_of h
  · intro h
    have hb : rvB s = false := by
      cases hb : rvB s with
      | false => rfl
      | true =>
        exfalso
        obtain ⟨hw, e⟩ := rv_is hb
        rw [vxB_yes hw] at e
        have he : vxL (rvL s) = vxL v := by
          rw [← hs]
          conv => rhs; rw [← e]
        rw [vxL_inj (vo_all hw) hv he] at hw
        rw [hw] at h
        cases h
    exact ⟨hb, rvL_no hb⟩

/- Plain facts for chapter 8: the digits that a scanner reads one by one; where the first slash stands. No program in it. -/

theorem di_up {l : List UInt8} {i : Nat} {c : UInt8} (h : l[i]? = some c) : diV (l.take (i + 1)) = 10 * diV (l.take i) + (c.toNat - 48) := by
  unfold diV
  rw [List.take_add_one, h, Option.toList_some, List.foldl_append]
  rfl
theorem dig_up {l : List UInt8} {i : Nat} {c : UInt8} (h : l[i]? = some c) (hd : ∀ x ∈ l.take i, isD x = true) (hc : isD c = true) : ∀ x ∈ l.take (i + 1), isD x = true := by
  intro x hx
  rw [List.take_add_one, h, Option.toList_some] at hx
  rcases List.mem_append.1 hx with hx | hx
  · exact hd x hx
  · simp at hx; subst hx; exact hc
theorem ds_pre : ∀ {A B : List UInt8}, (∀ c ∈ A, isD c = true) → dsT (A ++ B) = A ++ dsT B
  | [], B, _ => rfl
  | a :: A, B, h => by
    show List.takeWhile isD (a :: (A ++ B)) = _
    rw [List.takeWhile_cons, h a (by simp)]
    simp only [if_true]
    show a :: dsT (A ++ B) = _
    rw [ds_pre (fun c hc => h c (by simp [hc]))]
    rfl
theorem ds_take {l : List UInt8} {i : Nat} (h : ∀ c ∈ l.take i, isD c = true) : dsT l = l.take i ++ dsT (l.drop i) := by
  conv => lhs; rw [← List.take_append_drop i l]
  exact ds_pre h
theorem ds_stop {l : List UInt8} {i : Nat} (h : ∀ c ∈ l.take i, isD c = true) (he : l.length ≤ i ∨ ∃ c, l[i]? = some c ∧ isD c = false) : dsT l = l.take i := by
  rw [ds_take h]
  have : dsT (l.drop i) = [] := by
    rcases he with he | ⟨c, hc, hd⟩
    · rw [List.drop_eq_nil_of_le he]; rfl
    · obtain ⟨hk, e⟩ := List.getElem?_eq_some_iff.1 hc
      rw [List.drop_eq_getElem_cons hk, e]
      show List.takeWhile isD (c :: _) = []
      rw [List.takeWhile_cons, hd]; rfl
  rw [this, List.append_nil]
theorem num_bad {l : List UInt8} {i : Nat} {c : UInt8} (hd : ∀ x ∈ l.take i, isD x = true) (hc : l[i]? = some c) (hcd : isD c = true) (h1 : i = 0 ∨ 1 ≤ diV (l.take i)) (hv : diV (l.take (i + 1)) < 1 ∨ 768 < diV (l.take (i + 1))) : ¬ numOk (dsT l) := by
  rintro ⟨_, _, h48, h768⟩
  have e := ds_take (dig_up hc hd hcd)
  rcases hv with hv | hv
  · rw [di_up hc] at hv
    have h0 : i = 0 := by omega
    subst h0
    have hc48 : c = 48 := by
      have := isD_to hcd
      apply UInt8.toNat_inj.1
      show c.toNat = 48
      omega
    rw [e, List.take_add_one, hc, hc48] at h48
    simp at h48
  · rw [e] at h768
    have := fold_ge (dsT (l.drop (i + 1))) (diV (l.take (i + 1)))
    have e2 : diV (l.take (i + 1) ++ dsT (l.drop (i + 1))) = (dsT (l.drop (i + 1))).foldl (fun a c => 10 * a + (c.toNat - 48)) (diV (l.take (i + 1))) := by
      unfold diV; rw [List.foldl_append]
    rw [e2] at h768
    have hp : 0 < 10 ^ (dsT (l.drop (i + 1))).length := Nat.pow_pos (by omega)
    have : diV (l.take (i + 1)) * 1 ≤ diV (l.take (i + 1)) * 10 ^ (dsT (l.drop (i + 1))).length := Nat.mul_le_mul_left _ hp
    omega
theorem num_good {l : List UInt8} {i : Nat} (hs : dsT l = l.take i) (hd : ∀ c ∈ l.take i, isD c = true) (h1 : 1 ≤ i) (hi : i ≤ l.length) (hh : l.head? ≠ some 48) (hv : diV (l.take i) ≤ 768) : numOk (dsT l) := by
  rw [hs]
  refine ⟨?_, hd, ?_, hv⟩
  · intro e
    have := congrArg List.length e
    rw [List.length_take] at this
    simp only [List.length_nil] at this
    omega
  · cases l with
    | nil => simp at hi; omega
    | cons a l =>
      obtain ⟨j, rfl⟩ : ∃ j, i = j + 1 := ⟨i - 1, by omega⟩
      simpa using hh
theorem num_none {l : List UInt8} (hs : dsT l = l.take 0) : ¬ numOk (dsT l) := by
  rw [hs]; rintro ⟨h, _⟩; exact h rfl
theorem ds_len {l : List UInt8} {i : Nat} (hs : dsT l = l.take i) (hi : i ≤ l.length) : (dsT l).length = i := by
  rw [hs, List.length_take]; omega

/-! ### Where the first slash stands -/

theorem ib_hit : ∀ {l : List UInt8}, 47 ∈ l → Lib.indexByte l 47 = ((hdT l).length : Int)
  | [], h => by cases h
  | a :: l, h => by
    simp only [Lib.indexByte]
    by_cases ha : a = 47
    · subst ha; rfl
    · have hm : 47 ∈ l := by
        rcases List.mem_cons.1 h with e | e
        · exact absurd e.symm ha
        · exact e
      have ih := ib_hit hm
      have e : hdT (a :: l) = a :: hdT l := by
        show List.takeWhile _ _ = _
        rw [List.takeWhile_cons, if_pos (by simpa using ha)]
        rfl
      rw [if_neg (by simpa using ha), ih, e, if_neg (by simp)]
      simp
theorem ib_miss : ∀ {l : List UInt8}, 47 ∉ l → Lib.indexByte l 47 = -1
  | [], _ => rfl
  | a :: l, h => by
    simp only [Lib.indexByte]
    simp only [List.mem_cons, not_or] at h
    rw [if_neg (by simpa using fun e => h.1 e.symm), ib_miss h.2]
    rfl
theorem hd_all {l : List UInt8} (h : 47 ∉ l) : hdT l = l := by
  induction l with
  | nil => rfl
  | cons a l ih =>
    simp only [List.mem_cons, not_or] at h
    show List.takeWhile _ _ = _
    rw [List.takeWhile_cons, if_pos (by simpa using fun e => h.1 e.symm)]
    congr 1
    exact ih h.2
/-- a mark at the beginning. -/
theorem pre_yes {c : UInt8} {l : List UInt8} : Lib.hasPrefix (c :: l) [c] = true ∧ Lib.trimPrefix (c :: l) [c] = l := by
  have h : Lib.hasPrefix (c :: l) [c] = true := by simp [Lib.hasPrefix]
  exact ⟨h, by unfold Lib.trimPrefix; rw [h]; rfl⟩
theorem pre_no {c : UInt8} {l : List UInt8} (h : l.head? ≠ some c) : Lib.hasPrefix l [c] = false ∧ Lib.trimPrefix l [c] = l := by
  have h : Lib.hasPrefix l [c] = false := by
    cases l with
    | nil => rfl
    | cons a l =>
      have : c ≠ a := fun e => h (by rw [e]; rfl)
      simpa [Lib.hasPrefix, List.isPrefixOf] using this
  exact ⟨h, by unfold Lib.trimPrefix; rw [h]; rfl⟩
end Go.Proofs.Ytefbphmlhghojaa
