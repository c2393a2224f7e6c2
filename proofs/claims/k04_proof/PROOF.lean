import PyProof.Rows.All
import Wide.All
import OpenK.AllK
import Wide.FinOn
import HandS.ForMost
import HandS.Walk
import HandS.Codes
import HandS.IsInst
import HandS.Style
import KE.DataAny
import PySem.Challenge.RW_stillspans_k04_together_and_crossing
set_option Elab.async false
set_option linter.all false
set_option maxRecDepth 100000
/-! Spans of rows by a prime, in plain Lean: low lists, the form, that each span has just one. -/
namespace My
abbrev Row := List Int
def ent (r : Row) (j : Nat) : Int := r.getD j 0
/-- congruent -/
def cg (p a b : Int) : Prop := ∃ k, a = b + p * k
section
variable {p a b c d x y : Int}
theorem cg.refl (p a : Int) : cg p a a := ⟨0, by grind⟩
theorem cg.of_eq (h : a = b) : cg p a b := h ▸ cg.refl p a
theorem cg.symm (h : cg p a b) : cg p b a := by
  obtain ⟨k, h⟩ := h
  exact ⟨-k, by grind⟩
theorem cg.trans (h : cg p a b) (h2 : cg p b c) : cg p a c := by
  obtain ⟨k, h⟩ := h
  obtain ⟨l, h2⟩ := h2
  exact ⟨k + l, by grind⟩
theorem cg.add (h : cg p a b) (h2 : cg p c d) : cg p (a + c) (b + d) := by
  obtain ⟨k, h⟩ := h
  obtain ⟨l, h2⟩ := h2
  exact ⟨k + l, by grind⟩
theorem cg.sub (h : cg p a b) (h2 : cg p c d) : cg p (a - c) (b - d) := by
  obtain ⟨k, h⟩ := h
  obtain ⟨l, h2⟩ := h2
  exact ⟨k - l, by grind⟩
theorem cg.mul (h : cg p a b) (h2 : cg p c d) : cg p (a * c) (b * d) := by
  obtain ⟨k, h⟩ := h
  obtain ⟨l, h2⟩ := h2
  exact ⟨k * d + b * l + p * k * l, by grind⟩
theorem cg.emod (p a : Int) : cg p (a % p) a := ⟨-(a / p), by have := Int.emod_def a p; grind⟩
theorem cg.iff : cg p a b ↔ a % p = b % p := by
  constructor
  · rintro ⟨k, rfl⟩
    exact Int.add_mul_emod_self_left b p k
  · intro h
    exact (cg.emod p a).symm.trans ((cg.of_eq h).trans (cg.emod p b))
theorem cg.eq (h : cg p a b) (ha : 0 ≤ a) (ha' : a < p) (hb : 0 ≤ b) (hb' : b < p) : a = b := by
  have e := cg.iff.mp h
  rw [Int.emod_eq_of_lt ha ha', Int.emod_eq_of_lt hb hb'] at e
  exact e
theorem one_ne (hp : 2 ≤ p) : ¬ cg p 1 0 := fun h => by
  have := h.eq (by omega) (by omega) (by omega) (by omega)
  omega
end
theorem getD_el {α : Type} (l : List α) (d : α) {j : Nat} (h : j < l.length) : l.getD j d = l[j] := by
  rw [List.getD_eq_getElem?_getD, List.getElem?_eq_getElem h]
  rfl
/-- a row of length n of rests -/
structure Wf (p : Int) (n : Nat) (r : Row) : Prop where
  len : r.length = n
  rng : ∀ x ∈ r, 0 ≤ x ∧ x < p
theorem ent_mem {r : Row} {j : Nat} (h : j < r.length) : ent r j ∈ r := by
  unfold ent
  rw [getD_el _ _ h]
  exact List.getElem_mem h
theorem ent_some {r : Row} {j : Nat} (h : j < r.length) : r[j]? = some (ent r j) := by
  unfold ent
  rw [getD_el _ _ h, List.getElem?_eq_getElem h]
theorem Wf.ent {p : Int} {n : Nat} {r : Row} (w : Wf p n r) {j : Nat} (h : j < n) : 0 ≤ ent r j ∧ My.ent r j < p := w.rng _ (ent_mem (w.len ▸ h))
theorem row_ext {p : Int} {n : Nat} {r s : Row} (a : Wf p n r) (b : Wf p n s) (h : ∀ j, j < n → cg p (ent r j) (ent s j)) : r = s := by
  refine List.ext_getElem? fun j => ?_
  by_cases hj : j < n
  · rw [ent_some (a.len ▸ hj), ent_some (b.len ▸ hj), (h j hj).eq (a.ent hj).1 (a.ent hj).2 (b.ent hj).1 (b.ent hj).2]
  · rw [List.getElem?_eq_none (by have := a.len; omega), List.getElem?_eq_none (by have := b.len; omega)]

/-! ### spans -/
def Z (p : Int) (n : Nat) (v : Nat → Int) : Prop := ∀ j, j < n → cg p (v j) 0
/-- in the span of R -/
inductive Spn (p : Int) (n : Nat) (R : List Row) : (Nat → Int) → Prop
  | zero {v} (h : Z p n v) : Spn p n R v
  | add {u v r} (c : Int) (hr : r ∈ R) (hu : Spn p n R u) (h : ∀ j, j < n → cg p (v j) (u j + c * ent r j)) : Spn p n R v
section
variable {p : Int} {n : Nat} {R S : List Row} {u v : Nat → Int}
theorem Spn.cong (h : Spn p n R u) (e : ∀ j, j < n → cg p (v j) (u j)) : Spn p n R v := by
  cases h with
  | zero h => exact .zero fun j hj => (e j hj).trans (h j hj)
  | add c hr hu h => exact .add c hr hu fun j hj => (e j hj).trans (h j hj)
theorem Spn.lin (c : Int) (hu : Spn p n R u) (hv : Spn p n R v) : Spn p n R (fun j => u j + c * v j) := by
  induction hv with
  | zero h =>
    refine hu.cong fun j hj => ?_
    have := (cg.refl p (u j)).add ((cg.refl p c).mul (h j hj))
    exact this.trans (cg.of_eq (by grind))
  | add d hr hw h ih =>
    refine .add (c * d) hr ih fun j hj => ?_
    have := (cg.refl p (u j)).add ((cg.refl p c).mul (h j hj))
    exact this.trans (cg.of_eq (by grind))
theorem Spn.mem {r : Row} (h : r ∈ R) : Spn p n R (ent r) := .add (u := fun _ => 0) 1 h (.zero fun _ _ => cg.refl _ _) fun j _ => cg.of_eq (by grind)
theorem Spn.mono (h : ∀ r ∈ R, Spn p n S (ent r)) (hv : Spn p n R v) : Spn p n S v := by
  induction hv with
  | zero h => exact .zero h
  | add c hr _ e ih => exact (ih.lin c (h _ hr)).cong e
theorem Spn.incl (h : ∀ r ∈ R, r ∈ S) (hv : Spn p n R v) : Spn p n S v := hv.mono fun r hr => .mem (h r hr)
end
/-! ### what the rows of a low list leave of a row -/
def red : List Row → List Nat → (Nat → Int) → Nat → Int
  | r :: F, l :: ls, v => red F ls (fun j => v j - v l * ent r j)
  | _, _, v => v
theorem red_nil (ls : List Nat) (v : Nat → Int) : red [] ls v = v := by
  cases ls <;> rfl
theorem red_lin (c : Int) : ∀ (F : List Row) (ls : List Nat) (u v : Nat → Int) (j : Nat), red F ls (fun j => u j + c * v j) j = red F ls u j + c * red F ls v j
  | [], ls, u, v, j => by rw [red_nil, red_nil, red_nil]
  | r :: F, [], u, v, j => rfl
  | r :: F, l :: ls, u, v, j => by
    have e : (fun j => (u j + c * v j) - (u l + c * v l) * ent r j) = fun j => (u j - u l * ent r j) + c * (v j - v l * ent r j) := by
      funext j
      grind
    show red F ls (fun j => (u j + c * v j) - (u l + c * v l) * ent r j) j = _
    rw [e, red_lin c F ls]
    rfl
/-- each row has 1 at its own lead, 0 at the others' -/
def Dl (p : Int) (F : List Row) (ls : List Nat) : Prop := ls.length = F.length ∧ ∀ (i k : Nat) r l, F[i]? = some r → ls[k]? = some l → ent r l = if i = k then 1 else 0
theorem Dl.tail {p : Int} {r : Row} {F : List Row} {l : Nat} {ls : List Nat} (h : Dl p (r :: F) (l :: ls)) : Dl p F ls := by
  refine ⟨by simpa using h.1, fun i k s m hi hk => ?_⟩
  have := h.2 (i + 1) (k + 1) s m hi hk
  rw [this]
  by_cases e : i = k
  · rw [if_pos e, if_pos (by omega)]
  · rw [if_neg e, if_neg (by omega)]
theorem red_zero {p : Int} {n : Nat} : ∀ {F : List Row} {ls : List Nat} {v : Nat → Int}, (∀ l ∈ ls, l < n) → Z p n v → Z p n (red F ls v)
  | [], ls, v, _, h => by rw [red_nil]; exact h
  | r :: F, [], v, _, h => h
  | r :: F, l :: ls, v, hl, h => by
    refine red_zero (F := F) (ls := ls) (fun m hm => hl m (List.mem_cons_of_mem _ hm)) fun j hj => ?_
    have := (h j hj).sub ((h l (hl l List.mem_cons_self)).mul (cg.refl p (ent r j)))
    exact this.trans (cg.of_eq (by grind))
theorem red_keep {p : Int} {n : Nat} : ∀ {F : List Row} {ls : List Nat} {v : Nat → Int}, (∀ l ∈ ls, l < n) → (∀ l ∈ ls, cg p (v l) 0) → ∀ j, j < n → cg p (red F ls v j) (v j)
  | [], ls, v, _, _, j, _ => by rw [red_nil]; exact cg.refl _ _
  | r :: F, [], v, _, _, j, _ => cg.refl _ _
  | r :: F, l :: ls, v, hn, hl, j, hj => by
    have a : ∀ j, cg p (v j - v l * ent r j) (v j) := fun j => by
      have := (cg.refl p (v j)).sub ((hl l List.mem_cons_self).mul (cg.refl p (ent r j)))
      exact this.trans (cg.of_eq (by grind))
    refine (red_keep (F := F) (ls := ls) (fun m hm => hn m (List.mem_cons_of_mem _ hm)) (fun m hm => ?_) j hj).trans (a j)
    exact (a m).trans (hl m (List.mem_cons_of_mem _ hm))
theorem red_row {p : Int} {n : Nat} : ∀ {F : List Row} {ls : List Nat} {r : Row}, Dl p F ls → (∀ l ∈ ls, l < n) → r ∈ F → Z p n (red F ls (ent r))
  | s :: F, [], r, h, _, _ => by simp [Dl] at h
  | s :: F, l :: ls, r, h, hl, hr => by
    have hl' : ∀ m ∈ ls, m < n := fun m hm => hl m (List.mem_cons_of_mem _ hm)
    rcases List.mem_cons.mp hr with rfl | hr
    · refine red_zero (F := F) (ls := ls) hl' fun j hj => ?_
      have e := h.2 0 0 r l rfl rfl
      rw [if_pos rfl] at e
      rw [e]
      exact cg.of_eq (by grind)
    · obtain ⟨i, hi⟩ := List.getElem?_of_mem hr
      have e := h.2 (i + 1) 0 r l hi rfl
      rw [if_neg (by omega)] at e
      have q := red_row h.tail hl' hr
      show Z p n (red F ls (fun j => ent r j - ent r l * ent s j))
      rw [e]
      have e2 : (fun j => ent r j - 0 * ent s j) = ent r := by
        funext j
        grind
      rw [e2]
      exact q
theorem spn_red {p : Int} {n : Nat} {F : List Row} {ls : List Nat} (h : Dl p F ls) (hl : ∀ l ∈ ls, l < n) {v : Nat → Int} (hv : Spn p n F v) : Z p n (red F ls v) := by
  induction hv with
  | zero h => exact red_zero hl h
  | @add u v r c hr hu e ih =>
    have q := red_row h hl hr
    have e1 : Z p n (red F ls (fun j => u j + c * ent r j)) := fun j hj => by
      rw [red_lin c F ls u (ent r) j]
      have := (ih j hj).add ((cg.refl p c).mul (q j hj))
      exact this.trans (cg.of_eq (by grind))
    have e2 : Z p n (red F ls (fun j => v j + (-1) * (u j + c * ent r j))) := red_zero hl fun j hj => by
      have := (e j hj).add (cg.refl p ((-1) * (u j + c * ent r j)))
      exact this.trans (cg.of_eq (by grind))
    intro j hj
    have a := e2 j hj
    rw [red_lin (-1) F ls v _ j] at a
    have := a.add (e1 j hj)
    exact (cg.of_eq (by grind)).trans this
theorem spn_sub {p : Int} {n : Nat} {R : List Row} : ∀ {F : List Row} {ls : List Nat} {v : Nat → Int}, (∀ r ∈ F, r ∈ R) → Spn p n R (fun j => v j - red F ls v j)
  | [], ls, v, _ => by
    rw [red_nil]
    exact .zero fun j _ => cg.of_eq (by grind)
  | r :: F, [], v, _ => .zero fun j _ => cg.of_eq (by show v j - v j = 0; grind)
  | r :: F, l :: ls, v, h => by
    have q := spn_sub (p := p) (n := n) (R := R) (F := F) (ls := ls) (v := fun j => v j - v l * ent r j) fun s hs => h s (List.mem_cons_of_mem _ hs)
    exact .add (v l) (h r List.mem_cons_self) q fun j _ => cg.of_eq (by
      show v j - red F ls (fun j => v j - v l * ent r j) j = (v j - v l * ent r j - red F ls (fun j => v j - v l * ent r j) j) + v l * ent r j
      grind)
theorem red_lead {p : Int} {n : Nat} : ∀ {F : List Row} {ls : List Nat} {v : Nat → Int} {j : Nat}, (∀ (i : Nat) r l, F[i]? = some r → ls[i]? = some l → ∀ m, m < l → ent r m = 0) → j < n → Z p n (red F ls v) → (∀ i, i < j → cg p (v i) 0) → ¬ cg p (v j) 0 → j ∈ ls
  | [], ls, v, j, _, hj, h, _, h2 => by
    rw [red_nil] at h
    exact absurd (h j hj) h2
  | r :: F, [], v, j, _, hj, h, _, h2 => absurd (h j hj) h2
  | r :: F, l :: ls, v, j, hb, hj, h, h1, h2 => by
    by_cases e : j = l
    · rw [e]
      exact List.mem_cons_self
    · refine List.mem_cons_of_mem _ (red_lead (F := F) (ls := ls) (v := fun j => v j - v l * ent r j) (fun i s m hi hm => hb (i + 1) s m hi hm) hj h (fun i hi => ?_) fun z => h2 ?_)
      · by_cases hl : l < j
        · have := (h1 i hi).sub ((h1 l hl).mul (cg.refl p (ent r i)))
          exact this.trans (cg.of_eq (by grind))
        · have e0 : ent r i = 0 := hb 0 r l rfl rfl i (by omega)
          show cg p (v i - v l * ent r i) 0
          rw [e0]
          exact (cg.of_eq (by grind)).trans (h1 i hi)
      · by_cases hl : l < j
        · have := (cg.refl p (v j)).sub ((h1 l hl).mul (cg.refl p (ent r j)))
          have q : cg p (v j - v l * ent r j) (v j) := this.trans (cg.of_eq (by grind))
          exact q.symm.trans z
        · have e0 : ent r j = 0 := hb 0 r l rfl rfl j (by omega)
          have z : cg p (v j - v l * ent r j) 0 := z
          rw [e0] at z
          exact (cg.of_eq (by grind)).trans z
/-! ### low lists -/
structure Low (p : Int) (n : Nat) (F : List Row) (ls : List Nat) : Prop where
  wf : ∀ r ∈ F, Wf p n r
  dl : Dl p F ls
  lt : ∀ l ∈ ls, l < n
  up : ls.Pairwise (· < ·)
  zb : ∀ (i : Nat) r l, F[i]? = some r → ls[i]? = some l → ∀ m, m < l → ent r m = 0
theorem sorted_eq : ∀ {a b : List Nat}, a.Pairwise (· < ·) → b.Pairwise (· < ·) → (∀ x, x ∈ a ↔ x ∈ b) → a = b
  | [], [], _, _, _ => rfl
  | [], y :: b, _, _, h => absurd ((h y).mpr List.mem_cons_self) (by simp)
  | x :: a, [], _, _, h => absurd ((h x).mp List.mem_cons_self) (by simp)
  | x :: a, y :: b, ha, hb, h => by
    have a1 := List.pairwise_cons.mp ha
    have b1 := List.pairwise_cons.mp hb
    have e : x = y := by
      rcases List.mem_cons.mp ((h x).mp List.mem_cons_self) with e | m
      · exact e
      · rcases List.mem_cons.mp ((h y).mpr List.mem_cons_self) with e | m2
        · exact e.symm
        · have := b1.1 x m
          have := a1.1 y m2
          omega
    subst e
    rw [sorted_eq a1.2 b1.2 fun z => ⟨fun hz => ?_, fun hz => ?_⟩]
    · rcases List.mem_cons.mp ((h z).mp (List.mem_cons_of_mem _ hz)) with e | m
      · subst e
        exact absurd (a1.1 z hz) (Nat.lt_irrefl _)
      · exact m
    · rcases List.mem_cons.mp ((h z).mpr (List.mem_cons_of_mem _ hz)) with e | m
      · subst e
        exact absurd (b1.1 z hz) (Nat.lt_irrefl _)
      · exact m
theorem lead_in {p : Int} {n : Nat} {F G : List Row} {ls ms : List Nat} (hp : 2 ≤ p) (hF : Low p n F ls) (hG : Low p n G ms) (h : ∀ r ∈ F, Spn p n G (ent r)) : ∀ l ∈ ls, l ∈ ms := by
  intro l hl
  obtain ⟨i, hi⟩ := List.getElem?_of_mem hl
  have hi' : i < F.length := by
    have := (List.getElem?_eq_some_iff.mp hi).1
    rw [hF.dl.1] at this
    exact this
  have hr : F[i]? = some F[i] := List.getElem?_eq_getElem hi'
  have q := spn_red hG.dl hG.lt (h _ (List.getElem_mem hi'))
  refine red_lead hG.zb (hF.lt l hl) q (fun j hj => cg.of_eq (hF.zb i _ l hr hi j hj)) ?_
  rw [hF.dl.2 i i _ l hr hi, if_pos rfl]
  exact one_ne hp
theorem low_unique {p : Int} {n : Nat} {F G : List Row} {ls ms : List Nat} (hp : 2 ≤ p) (hF : Low p n F ls) (hG : Low p n G ms) (h1 : ∀ r ∈ F, Spn p n G (ent r)) (h2 : ∀ r ∈ G, Spn p n F (ent r)) : F = G := by
  have e : ls = ms := sorted_eq hF.up hG.up fun l => ⟨lead_in hp hF hG h1 l, lead_in hp hG hF h2 l⟩
  subst e
  have len : F.length = G.length := hF.dl.1.symm.trans hG.dl.1
  refine List.ext_getElem len fun i hi hi' => ?_
  refine row_ext (hF.wf _ (List.getElem_mem hi)) (hG.wf _ (List.getElem_mem hi')) fun j hj => ?_
  have s : Spn p n F (fun j => ent F[i] j + (-1) * ent G[i] j) := (Spn.mem (List.getElem_mem hi)).lin (-1) (h2 _ (List.getElem_mem hi'))
  have z := spn_red hF.dl hF.lt s
  have k := red_keep (p := p) (F := F) hF.lt (v := fun j => ent F[i] j + (-1) * ent G[i] j) (fun l hl => by
    obtain ⟨k, hk⟩ := List.getElem?_of_mem hl
    rw [hF.dl.2 i k _ l (List.getElem?_eq_getElem hi) hk, hG.dl.2 i k _ l (List.getElem?_eq_getElem hi') hk]
    exact cg.of_eq (by grind)) j hj
  have q := (k.symm.trans (z j hj)).add (cg.refl p (ent G[i] j))
  exact (cg.of_eq (by grind)).trans (q.trans (cg.of_eq (by grind)))
/-! ### the form -/
def lessR (p : Int) (row : Row) (c : Int) (by_ : Row) : Row := List.zipWith (fun a b => (a - c * b) % p) row by_
def mulR (p c : Int) (row : Row) : Row := row.map fun x => c * x % p
def clearM (p : Int) (pl : Nat) (by_ : Row) (M : List Row) : List Row := M.map fun r => lessR p r (ent r pl) by_
def pick (pl : Nat) (left : List Row) : Option Nat := left.findIdx? fun r => decide (ent r pl ≠ 0)
def stepM (p : Int) (inv : Int → Int) (pl : Nat) (s : List Row × List Row) : List Row × List Row :=
  match pick pl s.2 with
  | none => s
  | some at_ => let r := s.2.getD at_ []; let row := mulR p (inv (ent r pl)) r
    (clearM p pl row s.1 ++ [row], clearM p pl row (s.2.eraseIdx at_))
def runM (p : Int) (inv : Int → Int) (rows : List Row) : Nat → List Row × List Row
  | 0 => ([], rows)
  | k + 1 => stepM p inv k (runM p inv rows k)
def lenM (rows : List Row) : Nat := match rows with | [] => 0 | r :: _ => r.length
def lowM (p : Int) (inv : Int → Int) (rows : List Row) : List Row := (runM p inv rows (lenM rows)).1
/-- what the contrary is for -/
def InvOk (p : Int) (inv : Int → Int) : Prop := ∀ x, 0 < x → x < p → inv x * x % p = 1
section
variable {p : Int} {n : Nat} {inv : Int → Int}
theorem lessR_len {row b : Row} {c : Int} (h : Wf p n row) (h2 : Wf p n b) : (lessR p row c b).length = n := by
  unfold lessR
  rw [List.length_zipWith, h.len, h2.len, Nat.min_self]
theorem lessR_ent {row b : Row} {c : Int} (h : Wf p n row) (h2 : Wf p n b) {j : Nat} (hj : j < n) : ent (lessR p row c b) j = (ent row j - c * ent b j) % p := by
  have a := ent_some (r := lessR p row c b) (j := j) (by rw [lessR_len h h2]; exact hj)
  unfold lessR at a
  rw [List.getElem?_zipWith, ent_some (by rw [h.len]; exact hj), ent_some (by rw [h2.len]; exact hj)] at a
  exact (Option.some.inj a).symm
theorem lessR_wf (hp : 0 < p) {row b : Row} {c : Int} (h : Wf p n row) (h2 : Wf p n b) : Wf p n (lessR p row c b) := by
  refine ⟨lessR_len h h2, fun x hx => ?_⟩
  obtain ⟨j, hj, rfl⟩ := List.getElem_of_mem hx
  have hj' : j < n := by rw [lessR_len h h2] at hj; exact hj
  have e := lessR_ent (c := c) h h2 hj'
  unfold ent at e
  rw [getD_el _ _ hj] at e
  rw [e]
  exact ⟨Int.emod_nonneg _ (by omega), Int.emod_lt_of_pos _ hp⟩
theorem lessR_zero {row b : Row} (h : Wf p n row) (h2 : Wf p n b) : lessR p row 0 b = row := by
  refine List.ext_getElem (by rw [lessR_len h h2, h.len]) fun j hj hj' => ?_
  have hj'' : j < n := by rw [h.len] at hj'; exact hj'
  have e := lessR_ent (c := 0) h h2 hj''
  unfold ent at e
  rw [getD_el _ _ hj, getD_el _ _ hj'] at e
  rw [e]
  have := h.rng _ (List.getElem_mem hj')
  rw [Int.zero_mul, Int.sub_zero]
  exact Int.emod_eq_of_lt this.1 this.2
theorem mulR_wf (hp : 0 < p) {row : Row} {c : Int} (h : Wf p n row) : Wf p n (mulR p c row) := by
  refine ⟨by unfold mulR; rw [List.length_map, h.len], fun x hx => ?_⟩
  obtain ⟨y, _, rfl⟩ := List.mem_map.mp hx
  exact ⟨Int.emod_nonneg _ (by omega), Int.emod_lt_of_pos _ hp⟩
theorem mulR_ent {row : Row} {c : Int} (h : Wf p n row) {j : Nat} (hj : j < n) : ent (mulR p c row) j = c * ent row j % p := by
  have a := ent_some (r := mulR p c row) (j := j) (by unfold mulR; rw [List.length_map, h.len]; exact hj)
  unfold mulR at a
  rw [List.getElem?_map, ent_some (by rw [h.len]; exact hj)] at a
  exact (Option.some.inj a).symm
/-- what holds ahead of the place pl -/
structure Run (p : Int) (n : Nat) (rows : List Row) (pl : Nat) (s : List Row × List Row) (ls : List Nat) : Prop where
  low : Low p n s.1 ls
  lt : ∀ l ∈ ls, l < pl
  wf : ∀ r ∈ s.2, Wf p n r
  zb : ∀ r ∈ s.2, ∀ j, j < pl → ent r j = 0
  to : ∀ r, r ∈ s.1 ∨ r ∈ s.2 → Spn p n rows (ent r)
  of : ∀ r ∈ rows, Spn p n (s.1 ++ s.2) (ent r)
theorem pick_none {pl : Nat} {left : List Row} (h : pick pl left = none) : ∀ r ∈ left, ent r pl = 0 := by
  intro r hr
  have := List.findIdx?_eq_none_iff.mp h r hr
  simpa using this
theorem pick_some {pl at_ : Nat} {left : List Row} (h : pick pl left = some at_) : ∃ hl : at_ < left.length, ent left[at_] pl ≠ 0 ∧ ∀ j (hj : j < at_), ent (left[j]'(by omega)) pl = 0 := by
  obtain ⟨h1, h2, h3⟩ := List.findIdx?_eq_some_iff_getElem.mp h
  refine ⟨h1, by simpa using h2, fun j hj => ?_⟩
  have := h3 j hj
  simpa using this
theorem run_step (hp : 2 ≤ p) (hv : InvOk p inv) {rows : List Row} {pl : Nat} {s : List Row × List Row} {ls : List Nat} (hpl : pl < n) (R : Run p n rows pl s ls) : ∃ ms, Run p n rows (pl + 1) (stepM p inv pl s) ms := by
  unfold stepM
  cases e : pick pl s.2 with
  | none =>
    refine ⟨ls, R.low, fun l hl => Nat.lt_succ_of_lt (R.lt l hl), R.wf, fun r hr j hj => ?_, R.to, R.of⟩
    by_cases ej : j = pl
    · rw [ej]
      exact pick_none e r hr
    · exact R.zb r hr j (by omega)
  | some at_ =>
    obtain ⟨hl, hne, _⟩ := pick_some e
    obtain ⟨form, left⟩ := s
    simp only at *
    have hr0 : left[at_] ∈ left := List.getElem_mem hl
    have e0 : left.getD at_ [] = left[at_] := getD_el _ _ hl
    rw [e0]
    have w0 := R.wf _ hr0
    generalize hr : left[at_] = r at *
    have r0 := w0.ent hpl
    have hi := hv (ent r pl) (by omega) r0.2
    generalize hc : inv (ent r pl) = c at *
    have pp : (0 : Int) < p := by omega
    have wrow : Wf p n (mulR p c r) := mulR_wf pp w0
    generalize hrow : mulR p c r = row at *
    have row1 : ent row pl = 1 := by
      rw [← hrow, mulR_ent w0 hpl]
      exact hi
    have rowz : ∀ j, j < pl → ent row j = 0 := fun j hj => by
      rw [← hrow, mulR_ent w0 (by omega), R.zb r hr0 j hj, Int.mul_zero, Int.zero_emod]
    have rowe : ∀ j, j < n → cg p (ent row j) (c * ent r j) := fun j hj => by
      rw [← hrow, mulR_ent w0 hj]
      exact cg.emod _ _
    have back : ∀ j, j < n → cg p (ent r j) (ent r pl * ent row j) := fun j hj => by
      have a : cg p (ent r pl * ent row j) (ent r pl * (c * ent r j)) := (cg.refl p _).mul (rowe j hj)
      have b : cg p (c * ent r pl * ent r j) (1 * ent r j) := ((cg.emod p _).symm.trans (cg.of_eq hi)).mul (cg.refl p _)
      exact ((a.trans (cg.of_eq (by grind))).trans (b.trans (cg.of_eq (by grind)))).symm
    have er : ∀ s, Wf p n s → ∀ j, j < n → cg p (ent (lessR p s (ent s pl) row) j) (ent s j - ent s pl * ent row j) := fun s hs j hj => by
      rw [lessR_ent hs wrow hj]
      exact cg.emod _ _
    have memE : ∀ s, s ∈ left.eraseIdx at_ → s ∈ left := fun s hs => List.mem_of_mem_eraseIdx hs
    have entz : ∀ s, Wf p n s → ∀ j, j < n → ent s pl * ent row j = 0 → ent (lessR p s (ent s pl) row) j = ent s j := fun s hs j hj h => by
      rw [lessR_ent hs wrow hj, h, Int.sub_zero]
      exact Int.emod_eq_of_lt (hs.ent hj).1 (hs.ent hj).2
    have entpl : ∀ s, Wf p n s → ent (lessR p s (ent s pl) row) pl = 0 := fun s hs => by
      rw [lessR_ent hs wrow hpl, row1, Int.mul_one, Int.sub_self, Int.zero_emod]
    have lenf : (clearM p pl row form).length = form.length := by unfold clearM; rw [List.length_map]
    have getf : ∀ (i : Nat) q, (clearM p pl row form ++ [row])[i]? = some q → (∃ s, form[i]? = some s ∧ q = lessR p s (ent s pl) row) ∨ (i = form.length ∧ q = row) := fun i q hq => by
      by_cases hi : i < form.length
      · rw [List.getElem?_append_left (by rw [lenf]; exact hi)] at hq
        unfold clearM at hq
        rw [List.getElem?_map, List.getElem?_eq_getElem hi] at hq
        exact .inl ⟨form[i], List.getElem?_eq_getElem hi, (Option.some.inj hq).symm⟩
      · have hi2 : i < form.length + 1 := by
          have := (List.getElem?_eq_some_iff.mp hq).1
          rw [List.length_append, lenf] at this
          exact this
        have e : i = form.length := by omega
        rw [List.getElem?_append_right (by rw [lenf]; omega), lenf, e, Nat.sub_self] at hq
        exact .inr ⟨e, (Option.some.inj hq).symm⟩
    have getl : ∀ (i : Nat) l, (ls ++ [pl])[i]? = some l → ls[i]? = some l ∨ (i = form.length ∧ l = pl) := fun i l hq => by
      have len := R.low.dl.1
      simp only at len
      by_cases hi : i < form.length
      · rw [List.getElem?_append_left (by rw [len]; exact hi)] at hq
        exact .inl hq
      · have hi2 : i < form.length + 1 := by
          have := (List.getElem?_eq_some_iff.mp hq).1
          rw [List.length_append, len] at this
          exact this
        have e : i = form.length := by omega
        rw [List.getElem?_append_right (by rw [len]; omega), len, e, Nat.sub_self] at hq
        exact .inr ⟨e, (Option.some.inj hq).symm⟩
    have wff : ∀ s ∈ form, Wf p n s := R.low.wf
    have meml : ∀ {i : Nat} {l}, ls[i]? = some l → i < form.length ∧ l < pl := fun {i l} h => by
      have z := (List.getElem?_eq_some_iff.mp h).1
      have len := R.low.dl.1
      simp only at len
      exact ⟨by omega, R.lt l (List.mem_of_getElem? h)⟩
    refine ⟨ls ++ [pl], ⟨fun q hq => ?_, ⟨?_, fun i k q l hi hk => ?_⟩, fun l hl => ?_, ?_, fun i q l hi hk m hm => ?_⟩, fun l hl => ?_, fun q hq => ?_, fun q hq j hj => ?_, fun q hq => ?_, fun q hq => ?_⟩
    · rcases List.mem_append.mp hq with h | h
      · obtain ⟨s, hs, rfl⟩ := List.mem_map.mp h
        exact lessR_wf pp (wff s hs) wrow
      · rw [List.mem_singleton.mp h]
        exact wrow
    · rw [List.length_append, List.length_append, lenf]
      have len := R.low.dl.1
      simp only at len
      rw [len]
      rfl
    · rcases getf i q hi with ⟨s, hs, rfl⟩ | ⟨ei, rfl⟩
      · have ws := wff s (List.mem_of_getElem? hs)
        have il : i < form.length := (List.getElem?_eq_some_iff.mp hs).1
        rcases getl k l hk with hk | ⟨ek, rfl⟩
        · rw [entz s ws l (by have := meml hk; omega) (by rw [rowz l (meml hk).2, Int.mul_zero])]
          exact R.low.dl.2 i k s l hs hk
        · rw [entpl s ws, if_neg (by omega)]
      · rcases getl k l hk with hk | ⟨ek, rfl⟩
        · rw [rowz l (meml hk).2, if_neg (by have := meml hk; omega)]
        · rw [row1, if_pos (by omega)]
    · rcases List.mem_append.mp hl with h | h
      · exact R.low.lt l h
      · rw [List.mem_singleton.mp h]
        exact hpl
    · exact List.pairwise_append.mpr ⟨R.low.up, List.pairwise_singleton _ _, fun a ha b hb => by rw [List.mem_singleton.mp hb]; exact R.lt a ha⟩
    · rcases getf i q hi with ⟨s, hs, rfl⟩ | ⟨ei, rfl⟩
      · have ws := wff s (List.mem_of_getElem? hs)
        have il : i < form.length := (List.getElem?_eq_some_iff.mp hs).1
        rcases getl i l hk with hk | ⟨ek, rfl⟩
        · have lp := (meml hk).2
          rw [entz s ws m (by omega) (by rw [rowz m (by omega), Int.mul_zero])]
          exact R.low.zb i s l hs hk m hm
        · omega
      · rcases getl i l hk with hk | ⟨ek, rfl⟩
        · have := (meml hk).1
          omega
        · exact rowz m hm
    · rcases List.mem_append.mp hl with h | h
      · exact Nat.lt_succ_of_lt (R.lt l h)
      · rw [List.mem_singleton.mp h]
        exact Nat.lt_succ_self _
    · obtain ⟨s, hs, rfl⟩ := List.mem_map.mp hq
      exact lessR_wf pp (R.wf s (memE s hs)) wrow
    · obtain ⟨s, hs, rfl⟩ := List.mem_map.mp hq
      have ws := R.wf s (memE s hs)
      by_cases ej : j = pl
      · rw [ej]
        exact entpl s ws
      · rw [entz s ws j (by omega) (by rw [rowz j (by omega), Int.mul_zero])]
        exact R.zb s (memE s hs) j (by omega)
    · have srow : Spn p n rows (ent row) := by
        have z : Spn p n rows (fun j => (fun _ => (0 : Int)) j + c * ent r j) := (Spn.zero fun _ _ => cg.refl _ _).lin c (R.to r (.inr hr0))
        exact z.cong fun j hj => (rowe j hj).trans (cg.of_eq (by grind))
      have sl : ∀ s, Wf p n s → Spn p n rows (ent s) → Spn p n rows (ent (lessR p s (ent s pl) row)) := fun s ws hs =>
        (hs.lin (-(ent s pl)) srow).cong fun j hj => (er s ws j hj).trans (cg.of_eq (by grind))
      rcases hq with h | h
      · rcases List.mem_append.mp h with h | h
        · obtain ⟨s, hs, rfl⟩ := List.mem_map.mp h
          exact sl s (wff s hs) (R.to s (.inl hs))
        · rw [List.mem_singleton.mp h]
          exact srow
      · obtain ⟨s, hs, rfl⟩ := List.mem_map.mp h
        exact sl s (R.wf s (memE s hs)) (R.to s (.inr (memE s hs)))
    · refine Spn.mono (fun s hs => ?_) (R.of q hq)
      have mrow : Spn p n (clearM p pl row form ++ [row] ++ clearM p pl row (left.eraseIdx at_)) (ent row) := Spn.mem (by simp)
      have sl : ∀ s, Wf p n s → lessR p s (ent s pl) row ∈ clearM p pl row form ++ [row] ++ clearM p pl row (left.eraseIdx at_) → Spn p n (clearM p pl row form ++ [row] ++ clearM p pl row (left.eraseIdx at_)) (ent s) := fun s ws hs =>
        ((Spn.mem hs).lin (ent s pl) mrow).cong fun j hj => by
          have := (er s ws j hj).symm.add (cg.refl p (ent s pl * ent row j))
          exact (cg.of_eq (by grind)).trans this
      rcases List.mem_append.mp hs with h | h
      · exact sl s (wff s h) (List.mem_append_left _ (List.mem_append_left _ (List.mem_map.mpr ⟨s, h, rfl⟩)))
      · obtain ⟨k, hk, rfl⟩ := List.getElem_of_mem h
        by_cases ek : k = at_
        · subst ek
          rw [hr]
          have z : Spn p n (clearM p pl row form ++ [row] ++ clearM p pl row (left.eraseIdx k)) (fun j => (fun _ => (0 : Int)) j + ent r pl * ent row j) := (Spn.zero fun _ _ => cg.refl _ _).lin _ mrow
          exact z.cong fun j hj => (back j hj).trans (cg.of_eq (by grind))
        · have hm : left[k] ∈ left.eraseIdx at_ := List.mem_eraseIdx_iff_getElem.mpr ⟨k, hk, ek, rfl⟩
          exact sl _ (R.wf _ h) (List.mem_append_right _ (List.mem_map.mpr ⟨_, hm, rfl⟩))
theorem run_all (hp : 2 ≤ p) (hv : InvOk p inv) {rows : List Row} (w : ∀ r ∈ rows, Wf p n r) : ∀ k, k ≤ n → ∃ ls, Run p n rows k (runM p inv rows k) ls
  | 0, _ => ⟨[], ⟨fun r hr => by simp [runM] at hr, ⟨rfl, fun i k r l hi _ => by simp [runM] at hi⟩, fun l hl => by simp at hl, List.Pairwise.nil, fun i r l hi _ => by simp [runM] at hi⟩, fun l hl => by simp at hl, w, fun r _ j hj => absurd hj (Nat.not_lt_zero _),
      fun r hr => .mem (by simpa [runM] using hr), fun r hr => .mem (by simpa [runM] using hr)⟩
  | k + 1, h => by
    obtain ⟨ls, R⟩ := run_all hp hv w k (by omega)
    exact run_step hp hv (by omega) R
theorem runM_nil : ∀ k, runM p inv [] k = ([], [])
  | 0 => rfl
  | k + 1 => by
    show stepM p inv k (runM p inv [] k) = _
    rw [runM_nil k]
    rfl
theorem lowM_len (rows : List Row) (w : ∀ r ∈ rows, Wf p n r) : lowM p inv rows = (runM p inv rows n).1 := by
  cases rows with
  | nil => unfold lowM; rw [runM_nil, runM_nil]
  | cons r R =>
    unfold lowM
    rw [show lenM (r :: R) = n from (w r List.mem_cons_self).len]
theorem lowM_ok (hp : 2 ≤ p) (hv : InvOk p inv) {rows : List Row} (w : ∀ r ∈ rows, Wf p n r) : ∃ ls, Low p n (lowM p inv rows) ls ∧ (∀ r ∈ lowM p inv rows, Spn p n rows (ent r)) ∧ ∀ r ∈ rows, Spn p n (lowM p inv rows) (ent r) := by
  obtain ⟨ls, R⟩ := run_all hp hv w n (Nat.le_refl _)
  rw [lowM_len rows w]
  refine ⟨ls, R.low, fun r hr => R.to r (.inl hr), fun r hr => ?_⟩
  refine (R.of r hr).mono fun s hs => ?_
  rcases List.mem_append.mp hs with h | h
  · exact .mem h
  · exact .zero fun j hj => cg.of_eq (R.zb s h j hj)
theorem lowM_same (hp : 2 ≤ p) (hv : InvOk p inv) {rows R2 : List Row} (w : ∀ r ∈ rows, Wf p n r) (w2 : ∀ r ∈ R2, Wf p n r) (a : ∀ r ∈ rows, Spn p n R2 (ent r)) (b : ∀ r ∈ R2, Spn p n rows (ent r)) : lowM p inv rows = lowM p inv R2 := by
  obtain ⟨l1, h1, t1, o1⟩ := lowM_ok hp hv w
  obtain ⟨l2, h2, t2, o2⟩ := lowM_ok hp hv w2
  exact low_unique hp h1 h2 (fun r hr => ((t1 r hr).mono a).mono o2) fun r hr => ((t2 r hr).mono b).mono o1
theorem lowM_low (hp : 2 ≤ p) (hv : InvOk p inv) {F : List Row} {ls : List Nat} (h : Low p n F ls) : lowM p inv F = F := by
  obtain ⟨l1, h1, t1, o1⟩ := lowM_ok hp hv h.wf
  exact low_unique hp h1 h t1 o1
theorem lowM_wf (hp : 2 ≤ p) (hv : InvOk p inv) {rows : List Row} (w : ∀ r ∈ rows, Wf p n r) : ∀ r ∈ lowM p inv rows, Wf p n r := by
  obtain ⟨l1, h1, _⟩ := lowM_ok hp hv w
  exact h1.wf
theorem lowM_again (hp : 2 ≤ p) (hv : InvOk p inv) {rows : List Row} (w : ∀ r ∈ rows, Wf p n r) : lowM p inv (lowM p inv rows) = lowM p inv rows := by
  obtain ⟨l1, h1, _⟩ := lowM_ok hp hv w
  exact lowM_low hp hv h1
theorem lowM_rev (hp : 2 ≤ p) (hv : InvOk p inv) {rows : List Row} (w : ∀ r ∈ rows, Wf p n r) : lowM p inv rows.reverse = lowM p inv rows :=
  lowM_same hp hv (fun r hr => w r (List.mem_reverse.mp hr)) w (fun r hr => .mem (List.mem_reverse.mp hr)) fun r hr => .mem (List.mem_reverse.mpr hr)
end
/-! ### the primes -/
def P5 (p : Int) : Prop := p = 2 ∨ p = 3 ∨ p = 5 ∨ p = 7 ∨ p = 11
theorem P5.two {p : Int} (h : P5 p) : 2 ≤ p := by
  rcases h with h | h | h | h | h <;> omega
theorem P5.le {p : Int} (h : P5 p) : p ≤ 11 := by
  rcases h with h | h | h | h | h <;> omega
def invM (p r : Int) : Int := ((List.range 11).map fun (k : Nat) => Int.ofNat k).find? (fun b => b * r % p == 1) |>.getD 0
theorem inv_all : ∀ p ∈ [2, 3, 5, 7, 11], ∀ r ∈ List.range 11, 0 < r → r < p → 0 < invM (p : Nat) (r : Nat) ∧ invM (p : Nat) (r : Nat) < (p : Nat) ∧ ∀ b ∈ List.range 11, b < p → ((b : Int) * (r : Nat) % (p : Nat) = 1 ↔ (b : Int) = invM (p : Nat) (r : Nat)) := by decide +kernel
theorem inv_ok {p r : Int} (hp : P5 p) (h0 : 0 < r) (h1 : r < p) : 0 < invM p r ∧ invM p r < p ∧ ∀ b, 0 ≤ b → b < p → (b * r % p = 1 ↔ b = invM p r) := by
  have two := hp.two
  have le := hp.le
  obtain ⟨P, rfl⟩ := Int.eq_ofNat_of_zero_le (a := p) (by omega)
  obtain ⟨R, rfl⟩ := Int.eq_ofNat_of_zero_le (a := r) (by omega)
  have hP : P ∈ [2, 3, 5, 7, 11] := by
    rcases hp with h | h | h | h | h <;> (have : P = _ := Int.ofNat.inj h; subst this; decide)
  obtain ⟨a, b, c⟩ := inv_all P hP R (List.mem_range.mpr (by omega)) (by omega) (by omega)
  refine ⟨a, b, fun x hx hx' => ?_⟩
  obtain ⟨B, rfl⟩ := Int.eq_ofNat_of_zero_le hx
  exact c B (List.mem_range.mpr (by omega)) (by omega)
theorem inv_is {p : Int} (hp : P5 p) : InvOk p (invM p) := fun x h0 h1 => by
  obtain ⟨a, b, c⟩ := inv_ok hp h0 h1
  exact (c _ (by omega) b).mpr rfl
end My

/-! Mixtures, what is left of a row. -/
namespace My
def dot : List Int → List Row → Nat → Int
  | c :: cs, r :: rows, j => c * ent r j + dot cs rows j
  | _, _, _ => 0
theorem dot_nil (cs : List Int) (j : Nat) : dot cs [] j = 0 := by cases cs <;> rfl
def mixM (p : Int) (cs : List Int) (rows : List Row) (n : Nat) : Row := (List.range n).map fun j => dot cs rows j % p
section
variable {p : Int} {n : Nat}
theorem mixM_len {cs : List Int} {rows : List Row} : (mixM p cs rows n).length = n := by
  unfold mixM
  rw [List.length_map, List.length_range]
theorem mixM_get {cs : List Int} {rows : List Row} {j : Nat} (h : j < n) : (mixM p cs rows n)[j]? = some (dot cs rows j % p) := by
  unfold mixM
  rw [List.getElem?_map, List.getElem?_range h]
  rfl
theorem mixM_ent {cs : List Int} {rows : List Row} {j : Nat} (h : j < n) : ent (mixM p cs rows n) j = dot cs rows j % p := by
  have a := ent_some (r := mixM p cs rows n) (j := j) (by rw [mixM_len]; exact h)
  rw [mixM_get h] at a
  exact (Option.some.inj a).symm
theorem mixM_wf (hp : 0 < p) {cs : List Int} {rows : List Row} : Wf p n (mixM p cs rows n) := by
  refine ⟨mixM_len, fun x hx => ?_⟩
  obtain ⟨j, _, rfl⟩ := List.mem_map.mp hx
  exact ⟨Int.emod_nonneg _ (by omega), Int.emod_lt_of_pos _ hp⟩
theorem zip_sum {j : Nat} : ∀ (cs : List Int) (rows : List Row), (List.zipWith (fun c r => c * ent r j) cs rows).sum = dot cs rows j
  | [], _ => rfl
  | _ :: _, [] => rfl
  | c :: cs, r :: rows => by
    show (c * ent r j :: List.zipWith (fun c r => c * ent r j) cs rows).sum = _
    rw [List.sum_cons, zip_sum cs rows]
    rfl
theorem dl_tail {r : Row} {F : List Row} {l : Nat} {ls : List Nat} (h : Dl p (r :: F) (l :: ls)) : ∀ m ∈ ls, ent r m = 0 := fun m hm => by
  obtain ⟨k, hk⟩ := List.getElem?_of_mem hm
  have := h.2 0 (k + 1) r m rfl hk
  rw [if_neg (by omega)] at this
  exact this
theorem red_dot : ∀ {F : List Row} {ls : List Nat} (v : Nat → Int) (j : Nat), Dl p F ls → red F ls v j = v j - dot (ls.map v) F j
  | [], ls, v, j, h => by
    rw [red_nil, dot_nil]
    omega
  | r :: F, [], v, j, h => by simp [Dl] at h
  | r :: F, l :: ls, v, j, h => by
    have ih := red_dot (F := F) (ls := ls) (fun j => v j - v l * ent r j) j h.tail
    have e : ls.map (fun j => v j - v l * ent r j) = ls.map v := by
      refine List.map_congr_left fun m hm => ?_
      rw [dl_tail h m hm]
      omega
    rw [e] at ih
    show red F ls (fun j => v j - v l * ent r j) j = v j - (v l * ent r j + dot (ls.map v) F j)
    rw [ih]
    omega
theorem red_cong {F : List Row} {ls : List Nat} {u v : Nat → Int} (hl : ∀ l ∈ ls, l < n) (h : ∀ j, j < n → cg p (u j) (v j)) : ∀ j, j < n → cg p (red F ls u j) (red F ls v j) := fun j hj => by
  have z : Z p n (red F ls (fun j => u j + (-1) * v j)) := red_zero hl fun j hj => by
    have := (h j hj).add (cg.refl p ((-1) * v j))
    exact this.trans (cg.of_eq (by grind))
  have a := z j hj
  rw [red_lin (-1) F ls u v j] at a
  have := a.add (cg.refl p (red F ls v j))
  exact (cg.of_eq (by grind)).trans (this.trans (cg.of_eq (by grind)))
def redR (p : Int) : List Row → List Nat → Row → Row
  | r :: F, l :: ls, m => redR p F ls (lessR p m (ent m l) r)
  | _, _, m => m
theorem redR_nil (ls : List Nat) (m : Row) : redR p [] ls m = m := by cases ls <;> rfl
theorem redR_wf (hp : 0 < p) : ∀ {F : List Row} {ls : List Nat} {m : Row}, (∀ r ∈ F, Wf p n r) → Wf p n m → Wf p n (redR p F ls m)
  | [], ls, m, _, h => by rw [redR_nil]; exact h
  | r :: F, [], m, _, h => h
  | r :: F, l :: ls, m, hF, h => redR_wf hp (F := F) (ls := ls) (fun s hs => hF s (List.mem_cons_of_mem _ hs)) (lessR_wf hp h (hF r List.mem_cons_self))
theorem redR_ent (hp : 0 < p) : ∀ {F : List Row} {ls : List Nat} {m : Row}, (∀ r ∈ F, Wf p n r) → (∀ l ∈ ls, l < n) → Wf p n m → ∀ j, j < n → cg p (ent (redR p F ls m) j) (red F ls (ent m) j)
  | [], ls, m, _, _, h, j, hj => by rw [redR_nil, red_nil]; exact cg.refl _ _
  | r :: F, [], m, _, _, h, j, hj => cg.refl _ _
  | r :: F, l :: ls, m, hF, hl, h, j, hj => by
    have hl' : ∀ k ∈ ls, k < n := fun k hk => hl k (List.mem_cons_of_mem _ hk)
    have ih := redR_ent hp (F := F) (ls := ls) (fun s hs => hF s (List.mem_cons_of_mem _ hs)) hl' (lessR_wf (c := ent m l) hp h (hF r List.mem_cons_self)) j hj
    refine ih.trans (red_cong hl' (fun i hi => ?_) j hj)
    rw [lessR_ent h (hF r List.mem_cons_self) hi]
    exact cg.emod _ _
def shr (ls : List Nat) (m : Row) : List Int := ls.map (ent m)
theorem mix_zero (hp : 2 ≤ p) {F : List Row} {ls : List Nat} (L : Low p n F ls) {m : Row} (w : Wf p n m) : mixM p (shr ls m) F n = m ↔ Z p n (red F ls (ent m)) := by
  constructor
  · intro h j hj
    rw [red_dot (ent m) j L.dl]
    have e := mixM_ent (p := p) (cs := shr ls m) (rows := F) hj
    rw [h] at e
    have c : cg p (ent m j) (dot (ls.map (ent m)) F j) := (cg.of_eq e).trans (cg.emod _ _)
    exact (c.sub (cg.refl p (dot (ls.map (ent m)) F j))).trans (cg.of_eq (by omega))
  · intro h
    refine row_ext (mixM_wf (by omega)) w fun j hj => ?_
    rw [mixM_ent hj]
    have a := h j hj
    rw [red_dot (ent m) j L.dl] at a
    have := a.add (cg.refl p (dot (ls.map (ent m)) F j))
    exact (cg.emod _ _).trans (((cg.of_eq (by unfold shr; omega)).trans this.symm).trans (cg.of_eq (by omega)))
theorem any_zero (hp : 0 < p) {m : Row} (w : Wf p n m) : m.any (fun x => x != 0) = false ↔ Z p n (ent m) := by
  constructor
  · intro h j hj
    have := List.any_eq_false.mp h _ (ent_mem (r := m) (j := j) (by rw [w.len]; exact hj))
    exact cg.of_eq (by simpa using this)
  · intro h
    refine List.any_eq_false.mpr fun x hx => ?_
    obtain ⟨j, hj, rfl⟩ := List.getElem_of_mem hx
    have e : m[j] = ent m j := by
      unfold ent
      rw [getD_el m 0 hj]
    have r := w.rng _ hx
    have := (h j (by rw [w.len] at hj; exact hj)).eq (by rw [← e]; exact r.1) (by rw [← e]; exact r.2) (Int.le_refl _) (by omega)
    rw [e, this]
    decide
theorem left_iff (hp : 2 ≤ p) {F : List Row} {ls : List Nat} (L : Low p n F ls) {m : Row} (w : Wf p n m) : (redR p F ls m).any (fun x => x != 0) = !decide (mixM p (shr ls m) F n = m) := by
  have pp : 0 < p := by omega
  have wr := redR_wf pp L.wf w (ls := ls)
  have key : (redR p F ls m).any (fun x => x != 0) = false ↔ mixM p (shr ls m) F n = m := by
    rw [mix_zero hp L w, any_zero pp wr]
    have e := redR_ent pp L.wf L.lt w
    exact ⟨fun h j hj => (e j hj).symm.trans (h j hj), fun h j hj => (e j hj).trans (h j hj)⟩
  by_cases h : mixM p (shr ls m) F n = m
  · rw [key.mpr h, decide_eq_true h]
    rfl
  · rw [decide_eq_false h]
    cases e : (redR p F ls m).any (fun x => x != 0) with
    | true => rfl
    | false => exact absurd (key.mp e) h
def mixR (p c : Int) (one other : Row) : Row := List.zipWith (fun a b => (a + c * b) % p) one other
theorem mixR_len {c : Int} {row b : Row} (h : Wf p n row) (h2 : Wf p n b) : (mixR p c row b).length = n := by
  unfold mixR
  rw [List.length_zipWith, h.len, h2.len, Nat.min_self]
theorem mixR_ent {row b : Row} {c : Int} (h : Wf p n row) (h2 : Wf p n b) {j : Nat} (hj : j < n) : ent (mixR p c row b) j = (ent row j + c * ent b j) % p := by
  have a := ent_some (r := mixR p c row b) (j := j) (by rw [mixR_len h h2]; exact hj)
  unfold mixR at a
  rw [List.getElem?_zipWith, ent_some (by rw [h.len]; exact hj), ent_some (by rw [h2.len]; exact hj)] at a
  exact (Option.some.inj a).symm
theorem mixR_wf0 (hp : 0 < p) {row b : Row} {c : Int} (h : Wf p n row) (h2 : Wf p n b) : Wf p n (mixR p c row b) := by
  refine ⟨mixR_len h h2, fun x hx => ?_⟩
  obtain ⟨j, hj, rfl⟩ := List.getElem_of_mem hx
  have hj' : j < n := by rw [mixR_len h h2] at hj; exact hj
  have e := mixR_ent (c := c) h h2 hj'
  unfold ent at e
  rw [getD_el _ _ hj] at e
  rw [e]
  exact ⟨Int.emod_nonneg _ (by omega), Int.emod_lt_of_pos _ hp⟩
def accM (p : Int) : Row → List Int → List Row → Row
  | acc, c :: cs, r :: rows => accM p (mixR p c acc r) cs rows
  | acc, _, _ => acc
theorem accM_nil (acc : Row) (cs : List Int) : accM p acc cs [] = acc := by cases cs <;> rfl
theorem accM_ok (hp : 0 < p) : ∀ {rows : List Row} {cs : List Int} {acc : Row}, (∀ r ∈ rows, Wf p n r) → Wf p n acc → Wf p n (accM p acc cs rows) ∧ ∀ j, j < n → cg p (ent (accM p acc cs rows) j) (ent acc j + dot cs rows j)
  | [], cs, acc, _, h => by
    rw [accM_nil]
    exact ⟨h, fun j _ => cg.of_eq (by rw [dot_nil]; omega)⟩
  | r :: rows, [], acc, _, h => ⟨h, fun j _ => cg.of_eq (by show _ = _ + (0 : Int); rw [Int.add_zero]; rfl)⟩
  | r :: rows, c :: cs, acc, hr, h => by
    have ih := accM_ok hp (rows := rows) (cs := cs) (fun s hs => hr s (List.mem_cons_of_mem _ hs)) (mixR_wf0 (c := c) hp h (hr r List.mem_cons_self))
    refine ⟨ih.1, fun j hj => (ih.2 j hj).trans ?_⟩
    rw [mixR_ent h (hr r List.mem_cons_self) hj]
    have := (cg.emod p (ent acc j + c * ent r j)).add (cg.refl p (dot cs rows j))
    exact this.trans (cg.of_eq (by show _ = _ + (c * ent r j + dot cs rows j); omega))
def zeros (n : Nat) : Row := List.replicate n 0
theorem zeros_wf (hp : 0 < p) : Wf p n (zeros n) := ⟨List.length_replicate, fun x hx => by
  rw [List.eq_of_mem_replicate hx]
  omega⟩
theorem zeros_ent {j : Nat} : ent (zeros n) j = 0 := by
  unfold ent zeros
  rw [List.getD_eq_getElem?_getD, List.getElem?_replicate]
  split <;> rfl
theorem accM_is (hp : 0 < p) {rows : List Row} {cs : List Int} (hr : ∀ r ∈ rows, Wf p n r) : accM p (zeros n) cs rows = mixM p cs rows n := by
  obtain ⟨w, e⟩ := accM_ok (cs := cs) hp hr (zeros_wf (n := n) hp)
  refine row_ext w (mixM_wf hp) fun j hj => ?_
  rw [mixM_ent hj]
  refine (e j hj).trans ?_
  rw [zeros_ent, Int.zero_add]
  exact (cg.emod _ _).symm
end
end My

/-! What lies across a low list. -/
namespace My
/-- a sum over the first n -/
def dsum : Nat → (Nat → Int) → Int
  | 0, _ => 0
  | n + 1, f => dsum n f + f n
theorem dsum_congr {f g : Nat → Int} : ∀ n, (∀ i, i < n → f i = g i) → dsum n f = dsum n g
  | 0, _ => rfl
  | n + 1, h => by
    show dsum n f + f n = dsum n g + g n
    rw [dsum_congr n fun i hi => h i (by omega), h n (by omega)]
theorem dsum_cg {p : Int} {f g : Nat → Int} : ∀ n, (∀ i, i < n → cg p (f i) (g i)) → cg p (dsum n f) (dsum n g)
  | 0, _ => cg.refl _ _
  | n + 1, h => (dsum_cg n fun i hi => h i (by omega)).add (h n (by omega))
theorem dsum_lin (c : Int) (f g : Nat → Int) : ∀ n, dsum n (fun i => f i + c * g i) = dsum n f + c * dsum n g
  | 0 => by show (0 : Int) = 0 + c * 0; omega
  | n + 1 => by
    show dsum n (fun i => f i + c * g i) + (f n + c * g n) = (dsum n f + f n) + c * (dsum n g + g n)
    rw [dsum_lin c f g n]
    grind
theorem dsum_zero : ∀ n, dsum n (fun _ => 0) = 0
  | 0 => rfl
  | n + 1 => by
    show dsum n (fun _ => 0) + 0 = 0
    rw [dsum_zero n]
    rfl
theorem dsum_one {j : Nat} (f : Nat → Int) : ∀ n, dsum n (fun i => if i = j then f i else 0) = if j < n then f j else 0
  | 0 => by rw [if_neg (by omega)]; rfl
  | n + 1 => by
    show dsum n (fun i => if i = j then f i else 0) + (if n = j then f n else 0) = _
    rw [dsum_one f n]
    by_cases h : n = j
    · rw [if_pos h, if_neg (by omega), if_pos (by omega), h]
      omega
    · rw [if_neg h]
      by_cases h2 : j < n
      · rw [if_pos h2, if_pos (by omega)]
        omega
      · rw [if_neg h2, if_neg (by omega)]
        rfl
theorem dsum_shift (f : Nat → Int) : ∀ n, dsum (n + 1) f = f 0 + dsum n (fun i => f (i + 1))
  | 0 => by show (0 : Int) + f 0 = f 0 + 0; omega
  | n + 1 => by
    show dsum (n + 1) f + f (n + 1) = f 0 + (dsum n (fun i => f (i + 1)) + f (n + 1))
    rw [dsum_shift f n]
    omega
theorem zip_dsum : ∀ {n : Nat} {u v : Row}, u.length = n → v.length = n → (List.zipWith (fun a b => a * b) u v).sum = dsum n (fun i => ent u i * ent v i)
  | 0, [], [], _, _ => rfl
  | n + 1, a :: u, b :: v, h1, h2 => by
    rw [dsum_shift]
    show (a * b :: List.zipWith (fun a b => a * b) u v).sum = a * b + dsum n (fun i => ent u i * ent v i)
    rw [List.sum_cons, zip_dsum (n := n) (by simpa using h1) (by simpa using h2)]
/-- u lies across v -/
def Orth (p : Int) (n : Nat) (u v : Nat → Int) : Prop := cg p (dsum n (fun i => u i * v i)) 0
section
variable {p : Int} {n : Nat}
theorem Orth.comm {u v : Nat → Int} (h : Orth p n u v) : Orth p n v u := (cg.of_eq (dsum_congr n fun i _ => Int.mul_comm _ _)).trans h
theorem Orth.spn {R : List Row} {v u : Nat → Int} (h : ∀ r ∈ R, Orth p n (ent r) v) (hu : Spn p n R u) : Orth p n u v := by
  induction hu with
  | zero hz =>
    refine (dsum_cg (g := fun _ => 0) n fun i hi => ?_).trans (cg.of_eq (dsum_zero n))
    exact ((hz i hi).mul (cg.refl p (v i))).trans (cg.of_eq (by omega))
  | @add u w r c hr hu e ih =>
    have e2 : cg p (dsum n (fun i => w i * v i)) (dsum n (fun i => u i * v i + c * (ent r i * v i))) := dsum_cg n fun i hi => ((e i hi).mul (cg.refl p (v i))).trans (cg.of_eq (by grind))
    refine e2.trans ?_
    rw [dsum_lin]
    have := ih.add ((cg.refl p c).mul (h r hr))
    exact this.trans (cg.of_eq (by omega))
/-- the places that are no lead, in order -/
def outs (n : Nat) (ls : List Nat) : List Nat := (List.range n).filter fun j => !ls.contains j
theorem outs_mem {ls : List Nat} {j : Nat} : j ∈ outs n ls ↔ j < n ∧ j ∉ ls := by
  unfold outs
  rw [List.mem_filter, List.mem_range]
  simp
theorem outs_up {ls : List Nat} : (outs n ls).Pairwise (· < ·) := List.Pairwise.filter _ List.pairwise_lt_range
theorem filter_split {α : Type} (f : α → Bool) : ∀ l : List α, (l.filter f).length + (l.filter fun x => !f x).length = l.length
  | [] => rfl
  | a :: l => by
    have ih := filter_split f l
    rw [List.filter_cons, List.filter_cons, List.length_cons]
    cases f a
    · show (l.filter f).length + ((a :: l.filter fun x => !f x)).length = _
      rw [List.length_cons]
      omega
    · show (a :: l.filter f).length + (l.filter fun x => !f x).length = _
      rw [List.length_cons]
      omega
theorem outs_len {ls : List Nat} (up : ls.Pairwise (· < ·)) (lt : ∀ l ∈ ls, l < n) : (outs n ls).length = n - ls.length := by
  have e : (List.range n).filter (fun j => ls.contains j) = ls := sorted_eq (List.Pairwise.filter _ List.pairwise_lt_range) up fun x => by
    rw [List.mem_filter, List.mem_range]
    constructor
    · intro h
      simpa using h.2
    · intro h
      exact ⟨lt x h, by simpa using h⟩
  have l := filter_split (fun j => ls.contains j) (List.range n)
  rw [e, List.length_range] at l
  unfold outs
  omega
def setAll (p : Int) (j : Nat) : Row → List Nat → List Row → Row
  | row, l :: ls, r :: F => setAll p j (row.set l (-(ent r j) % p)) ls F
  | row, _, _ => row
theorem setAll_nil (j : Nat) (row : Row) (ls : List Nat) : setAll p j row ls [] = row := by cases ls <;> rfl
theorem ent_set {row : Row} {l i : Nat} {x : Int} (h : l < row.length) : ent (row.set l x) i = if i = l then x else ent row i := by
  unfold ent
  rw [List.getD_eq_getElem?_getD, List.getElem?_set]
  by_cases e : l = i
  · rw [if_pos e, if_pos h, if_pos e.symm]
    rfl
  · rw [if_neg e, if_neg (fun z => e z.symm), List.getD_eq_getElem?_getD]
theorem wf_set {row : Row} {l : Nat} {x : Int} (w : Wf p n row) (h0 : 0 ≤ x) (h1 : x < p) : Wf p n (row.set l x) := ⟨by rw [List.length_set, w.len], fun y hy => by
  rcases List.mem_or_eq_of_mem_set hy with h | h
  · exact w.rng y h
  · rw [h]
    exact ⟨h0, h1⟩⟩
theorem setAll_wf (hp : 0 < p) (j : Nat) : ∀ {F : List Row} {ls : List Nat} {row : Row}, Wf p n row → Wf p n (setAll p j row ls F)
  | [], ls, row, w => by rw [setAll_nil]; exact w
  | r :: F, [], row, w => w
  | r :: F, l :: ls, row, w => setAll_wf hp j (F := F) (ls := ls) (wf_set w (Int.emod_nonneg _ (by omega)) (Int.emod_lt_of_pos _ hp))
theorem setAll_off (j : Nat) : ∀ {F : List Row} {ls : List Nat} {row : Row} {i : Nat}, (∀ l ∈ ls, l < row.length) → i ∉ ls → ent (setAll p j row ls F) i = ent row i
  | [], ls, row, i, _, _ => by rw [setAll_nil]
  | r :: F, [], row, i, _, _ => rfl
  | r :: F, l :: ls, row, i, hl, hi => by
    show ent (setAll p j (row.set l (-(ent r j) % p)) ls F) i = ent row i
    rw [setAll_off j (F := F) (ls := ls) (fun m hm => by rw [List.length_set]; exact hl m (List.mem_cons_of_mem _ hm)) (fun h => hi (List.mem_cons_of_mem _ h)), ent_set (hl l List.mem_cons_self), if_neg (fun h : i = l => hi (h ▸ List.mem_cons_self))]
theorem setAll_on (j : Nat) : ∀ {F : List Row} {ls : List Nat} {row : Row} {k l : Nat} {r : Row}, (∀ l ∈ ls, l < row.length) → ls.Pairwise (· < ·) → ls[k]? = some l → F[k]? = some r → ent (setAll p j row ls F) l = -(ent r j) % p
  | [], _, _, _, _, _, _, _, _, h => by simp at h
  | s :: F, [], _, _, _, _, _, _, h, _ => by simp at h
  | s :: F, m :: ls, row, 0, l, r, hl, up, h1, h2 => by
    cases Option.some.inj h1
    cases Option.some.inj h2
    show ent (setAll p j (row.set m (-(ent s j) % p)) ls F) m = _
    rw [setAll_off j (F := F) (ls := ls) (fun x hx => by rw [List.length_set]; exact hl x (List.mem_cons_of_mem _ hx)) (fun h => Nat.lt_irrefl _ ((List.pairwise_cons.mp up).1 m h)), ent_set (hl m List.mem_cons_self), if_pos rfl]
  | s :: F, m :: ls, row, k + 1, l, r, hl, up, h1, h2 =>
    setAll_on j (F := F) (ls := ls) (k := k) (fun x hx => by rw [List.length_set]; exact hl x (List.mem_cons_of_mem _ hx)) (List.pairwise_cons.mp up).2 h1 h2
def nullV (p : Int) (n : Nat) (F : List Row) (ls : List Nat) (j : Nat) : Row := setAll p j ((zeros n).set j 1) ls F
def found (p : Int) (n : Nat) (F : List Row) (ls : List Nat) : List Row := (outs n ls).map (nullV p n F ls)
theorem zeros_len : (zeros n).length = n := List.length_replicate
theorem nullV_wf (hp : 2 ≤ p) {F : List Row} {ls : List Nat} {j : Nat} : Wf p n (nullV p n F ls j) := setAll_wf (by omega) j (wf_set (zeros_wf (by omega)) (by omega) (by omega))
theorem found_wf (hp : 2 ≤ p) {F : List Row} {ls : List Nat} : ∀ r ∈ found p n F ls, Wf p n r := fun r hr => by
  obtain ⟨j, _, rfl⟩ := List.mem_map.mp hr
  exact nullV_wf hp
theorem nullV_out {F : List Row} {ls : List Nat} {i j : Nat} (lt : ∀ l ∈ ls, l < n) (hj : j < n) (hi : i ∉ ls) : ent (nullV p n F ls j) i = if i = j then 1 else 0 := by
  unfold nullV
  rw [setAll_off j (fun l hl => by rw [List.length_set, zeros_len]; exact lt l hl) hi, ent_set (by rw [zeros_len]; exact hj), zeros_ent]
theorem nullV_on {F : List Row} {ls : List Nat} {j k l : Nat} {r : Row} (L : Low p n F ls) (hl : ls[k]? = some l) (hr : F[k]? = some r) : ent (nullV p n F ls j) l = -(ent r j) % p :=
  setAll_on j (fun l hl => by rw [List.length_set, zeros_len]; exact L.lt l hl) L.up hl hr
/-- a row that is given at the leads by a row of the form: the products with it -/
theorem supp_sum {F : List Row} {ls : List Nat} (L : Low p n F ls) {w : Nat → Int} {k : Nat} {r : Row} {l : Nat} (hr : F[k]? = some r) (hl : ls[k]? = some l) {j : Nat} (hjn : j < n) (hjl : j ∉ ls) (h0 : ∀ i, i < n → i ∉ ls → i ≠ j → w i = 0) :
    dsum n (fun i => w i * ent r i) = w j * ent r j + w l := by
  have ne : l ≠ j := fun e => hjl (e ▸ List.mem_of_getElem? hl)
  have ln : l < n := L.lt l (List.mem_of_getElem? hl)
  have rl : ent r l = 1 := by rw [L.dl.2 k k r l hr hl, if_pos rfl]
  have e : dsum n (fun i => w i * ent r i) = dsum n (fun i => (if i = j then w i * ent r i else 0) + 1 * (if i = l then w i * ent r i else 0)) := dsum_congr n fun i hi => by
    by_cases h1 : i = j
    · rw [if_pos h1, if_neg (fun z : i = l => ne (z.symm.trans h1))]
      omega
    · rw [if_neg h1]
      by_cases h2 : i = l
      · rw [if_pos h2]
        omega
      · rw [if_neg h2]
        by_cases h3 : i ∈ ls
        · obtain ⟨k2, hk2⟩ := List.getElem?_of_mem h3
          have nk : k ≠ k2 := fun e => by
            rw [← e, hl] at hk2
            exact h2 (Option.some.inj hk2).symm
          rw [L.dl.2 k k2 r i hr hk2, if_neg nk]
          omega
        · rw [h0 i hi h3 h1]
          omega
  rw [e, dsum_lin, dsum_one (fun i => w i * ent r i), dsum_one (fun i => w i * ent r i), if_pos hjn, if_pos ln, rl]
  omega
theorem null_orth {F : List Row} {ls : List Nat} (L : Low p n F ls) {j : Nat} (hj : j < n) (hjl : j ∉ ls) : ∀ r ∈ F, Orth p n (ent (nullV p n F ls j)) (ent r) := fun r hr => by
  obtain ⟨k, hk⟩ := List.getElem?_of_mem hr
  obtain ⟨l, hl⟩ : ∃ l, ls[k]? = some l := ⟨ls[k]'(by have := (List.getElem?_eq_some_iff.mp hk).1; have := L.dl.1; omega), List.getElem?_eq_getElem _⟩
  unfold Orth
  rw [supp_sum L hk hl hj hjl fun i hi hn hne => by rw [nullV_out L.lt hj hn, if_neg hne], nullV_out L.lt hj hjl, if_pos rfl, nullV_on L hl hk]
  have := (cg.refl p (1 * ent r j)).add (cg.emod p (-(ent r j)))
  exact this.trans (cg.of_eq (by omega))
theorem found_orth {F : List Row} {ls : List Nat} (L : Low p n F ls) : ∀ u ∈ found p n F ls, ∀ r ∈ F, Orth p n (ent u) (ent r) := fun u hu r hr => by
  obtain ⟨j, hj, rfl⟩ := List.mem_map.mp hu
  have := outs_mem.mp hj
  exact null_orth L this.1 this.2 r hr
/-- what lies across all rows of the form is a mixture of those found -/
theorem found_all (hp : 2 ≤ p) {F : List Row} {ls : List Nat} (L : Low p n F ls) {u : Nat → Int} (h : ∀ r ∈ F, Orth p n u (ent r)) : Spn p n (found p n F ls) u := by
  have build : ∀ J : List Nat, J.Nodup → (∀ j ∈ J, j < n ∧ j ∉ ls) → ∃ s, Spn p n (found p n F ls) s ∧ (∀ i, i < n → i ∉ ls → s i = if i ∈ J then u i else 0) ∧ ∀ r ∈ F, Orth p n s (ent r) := fun J => by
    induction J with
    | nil =>
      intro _ _
      refine ⟨fun _ => 0, .zero fun _ _ => cg.refl _ _, fun i _ _ => by rw [if_neg (by simp)], fun r _ => ?_⟩
      exact (cg.of_eq (dsum_congr n fun i _ => Int.zero_mul _)).trans (cg.of_eq (dsum_zero n))
    | cons j J ih =>
      intro nd hJ
      obtain ⟨s, a, b, c⟩ := ih (List.nodup_cons.mp nd).2 fun x hx => hJ x (List.mem_cons_of_mem _ hx)
      have hj := hJ j List.mem_cons_self
      have mem : nullV p n F ls j ∈ found p n F ls := List.mem_map.mpr ⟨j, outs_mem.mpr hj, rfl⟩
      refine ⟨fun i => s i + u j * ent (nullV p n F ls j) i, a.lin (u j) (.mem mem), fun i hi hn => ?_, fun r hr => ?_⟩
      · show s i + u j * ent (nullV p n F ls j) i = _
        rw [b i hi hn, nullV_out L.lt hj.1 hn]
        by_cases e : i = j
        · subst e
          rw [if_neg (List.nodup_cons.mp nd).1, if_pos rfl, if_pos List.mem_cons_self]
          omega
        · rw [if_neg e]
          by_cases h2 : i ∈ J
          · rw [if_pos h2, if_pos (List.mem_cons_of_mem _ h2)]
            omega
          · rw [if_neg h2, if_neg (fun z => (List.mem_cons.mp z).elim e h2)]
            omega
      · have e : dsum n (fun i => (s i + u j * ent (nullV p n F ls j) i) * ent r i) = dsum n (fun i => s i * ent r i + u j * (ent (nullV p n F ls j) i * ent r i)) := dsum_congr n fun i _ => by grind
        unfold Orth
        rw [e, dsum_lin]
        have := (c r hr).add ((cg.refl p (u j)).mul (null_orth L hj.1 hj.2 r hr))
        exact this.trans (cg.of_eq (by omega))
  obtain ⟨s, a, b, c⟩ := build (outs n ls) (outs_up.imp fun h => Nat.ne_of_lt h) fun j hj => outs_mem.mp hj
  have same : ∀ i, i < n → i ∉ ls → s i = u i := fun i hi hn => by
    rw [b i hi hn, if_pos (outs_mem.mpr ⟨hi, hn⟩)]
  refine a.cong fun i hi => ?_
  by_cases hn : i ∈ ls
  · obtain ⟨k, hk⟩ := List.getElem?_of_mem hn
    obtain ⟨r, hr⟩ : ∃ r, F[k]? = some r := ⟨F[k]'(by have := (List.getElem?_eq_some_iff.mp hk).1; have := L.dl.1; omega), List.getElem?_eq_getElem _⟩
    have hrm := List.mem_of_getElem? hr
    have d : cg p (dsum n (fun i => (u i + (-1) * s i) * ent r i)) 0 := by
      have e : dsum n (fun i => (u i + (-1) * s i) * ent r i) = dsum n (fun i => u i * ent r i + (-1) * (s i * ent r i)) := dsum_congr n fun i _ => by grind
      rw [e, dsum_lin]
      have := (h r hrm).add ((cg.refl p (-1)).mul (c r hrm))
      exact this.trans (cg.of_eq (by omega))
    have e1 : dsum n (fun m => (u m + (-1) * s m) * ent r m) = dsum n (fun m => if m = i then (u m + (-1) * s m) * ent r m else 0) := dsum_congr n fun m hm => by
      by_cases e : m = i
      · rw [if_pos e]
      · rw [if_neg e]
        by_cases h3 : m ∈ ls
        · obtain ⟨k2, hk2⟩ := List.getElem?_of_mem h3
          have nk : k ≠ k2 := fun z => by
            rw [← z, hk] at hk2
            exact e (Option.some.inj hk2).symm
          rw [L.dl.2 k k2 r m hr hk2, if_neg nk]
          omega
        · rw [same m hm h3]
          grind
    rw [e1, dsum_one (fun m => (u m + (-1) * s m) * ent r m), if_pos hi, L.dl.2 k k r i hr hk, if_pos rfl] at d
    have := d.add (cg.refl p (s i))
    exact (cg.of_eq (by omega)).trans (this.trans (cg.of_eq (by omega)))
  · exact cg.of_eq (same i hi hn).symm
theorem runM_sum {inv : Int → Int} {rows : List Row} : ∀ k, (runM p inv rows k).1.length + (runM p inv rows k).2.length ≤ rows.length
  | 0 => by show 0 + rows.length ≤ rows.length; omega
  | k + 1 => by
    have ih := runM_sum (inv := inv) (rows := rows) k
    show (stepM p inv k (runM p inv rows k)).1.length + (stepM p inv k (runM p inv rows k)).2.length ≤ _
    unfold stepM
    split
    · exact ih
    · rename_i at_ h
      obtain ⟨hl, _⟩ := pick_some h
      show (clearM _ _ _ _ ++ [_]).length + (clearM _ _ _ _).length ≤ _
      unfold clearM
      rw [List.length_append, List.length_map, List.length_map, List.length_singleton, List.length_eraseIdx, if_pos hl]
      omega
theorem lowM_le {inv : Int → Int} (rows : List Row) : (lowM p inv rows).length ≤ rows.length := by
  have := runM_sum (p := p) (inv := inv) (rows := rows) (lenM rows)
  unfold lowM
  omega
/-- rows that are told apart at as many places are no more than a low list whose span has them -/
theorem dual_le {inv : Int → Int} (hp : 2 ≤ p) (hv : InvOk p inv) {G : List Row} {ms : List Nat} (L : Low p n G ms) {J : List Nat} {U : List Row} (hlen : U.length = J.length) (hU : ∀ u ∈ U, Spn p n G (ent u)) (hd : ∀ (a b : Nat) u j, U[a]? = some u → J[b]? = some j → ent u j = if b = a then 1 else 0) (hJ : ∀ j ∈ J, j < n) : J.length ≤ G.length := by
  refine Classical.byContradiction fun c => ?_
  let proj : Row → Row := fun r => J.map (ent r)
  have pw : ∀ r ∈ G.map proj, Wf p J.length r := fun r hr => by
    obtain ⟨g, hg, rfl⟩ := List.mem_map.mp hr
    refine ⟨List.length_map _, fun x hx => ?_⟩
    obtain ⟨j, hj, rfl⟩ := List.mem_map.mp hx
    exact (L.wf g hg).ent (hJ j hj)
  obtain ⟨hs, LH, _, o⟩ := lowM_ok (n := J.length) hp hv pw
  have few : (lowM p inv (G.map proj)).length ≤ G.length := by
    have := lowM_le (p := p) (inv := inv) (G.map proj)
    rw [List.length_map] at this
    exact this
  have out : (outs J.length hs).length ≠ 0 := by
    rw [outs_len LH.up LH.lt, LH.dl.1]
    omega
  obtain ⟨b0, hb0⟩ := List.exists_mem_of_ne_nil (outs J.length hs) (fun e => out (by rw [e]; rfl))
  have hb := outs_mem.mp hb0
  have or1 := null_orth LH hb.1 hb.2
  have x1 : ent (nullV p J.length (lowM p inv (G.map proj)) hs b0) b0 = 1 := by rw [nullV_out LH.lt hb.1 hb.2, if_pos rfl]
  generalize nullV p J.length (lowM p inv (G.map proj)) hs b0 = x at *
  have or2 : ∀ g ∈ G, Orth p J.length (ent (proj g)) (ent x) := fun g hg => Orth.spn (R := lowM p inv (G.map proj)) (fun r hr => (or1 r hr).comm) (o _ (List.mem_map.mpr ⟨g, hg, rfl⟩))
  have pe : ∀ (v : Row) (b : Nat) j, J[b]? = some j → ent (proj v) b = ent v j := fun v b j hb => by
    show (J.map (ent v)).getD b 0 = _
    rw [List.getD_eq_getElem?_getD, List.getElem?_map, hb]
    rfl
  -- the sum over J of v at j times x at its number comes to 0 for all of the span
  have phi : ∀ v, Spn p n G v → cg p (dsum J.length (fun b => v (J.getD b 0) * ent x b)) 0 := fun v hv => by
    induction hv with
    | zero hz =>
      refine (dsum_cg (g := fun _ => 0) J.length fun b hb => ?_).trans (cg.of_eq (dsum_zero _))
      have hjn : J.getD b 0 < n := hJ _ (by rw [getD_el J 0 hb]; exact List.getElem_mem hb)
      exact ((hz _ hjn).mul (cg.refl p (ent x b))).trans (cg.of_eq (by omega))
    | @add u w r cc hr hu e ih =>
      have e2 : cg p (dsum J.length (fun b => w (J.getD b 0) * ent x b)) (dsum J.length (fun b => u (J.getD b 0) * ent x b + cc * (ent r (J.getD b 0) * ent x b))) := dsum_cg _ fun b hb => by
        have hjn : J.getD b 0 < n := hJ _ (by rw [getD_el J 0 hb]; exact List.getElem_mem hb)
        exact ((e _ hjn).mul (cg.refl p (ent x b))).trans (cg.of_eq (by grind))
      refine e2.trans ?_
      rw [dsum_lin]
      have o2 := or2 r hr
      have e3 : dsum J.length (fun b => ent r (J.getD b 0) * ent x b) = dsum J.length (fun b => ent (proj r) b * ent x b) := dsum_congr _ fun b hb => by
        rw [pe r b _ (List.getElem?_eq_getElem hb), getD_el J 0 hb]
      rw [e3]
      have := ih.add ((cg.refl p cc).mul o2)
      exact this.trans (cg.of_eq (by omega))
  obtain ⟨u, hu⟩ : ∃ u, U[b0]? = some u := ⟨U[b0]'(by rw [hlen]; exact hb.1), List.getElem?_eq_getElem _⟩
  have z := phi (ent u) (hU u (List.mem_of_getElem? hu))
  have e : dsum J.length (fun b => ent u (J.getD b 0) * ent x b) = dsum J.length (fun b => if b = b0 then ent x b else 0) := dsum_congr _ fun b hb2 => by
    rw [getD_el J 0 hb2, hd b0 b u _ hu (List.getElem?_eq_getElem hb2)]
    by_cases e : b = b0
    · rw [if_pos e, if_pos e]; omega
    · rw [if_neg e, if_neg e]; omega
  rw [e, dsum_one (fun b => ent x b), if_pos hb.1, x1] at z
  exact one_ne hp z
def acM (p : Int) (inv : Int → Int) (n : Nat) (F : List Row) (ls : List Nat) : List Row := lowM p inv (found p n F ls)
theorem found_len {F : List Row} {ls : List Nat} (L : Low p n F ls) : (found p n F ls).length = n - F.length := by
  unfold found
  rw [List.length_map, outs_len L.up L.lt, L.dl.1]
theorem acM_ok {inv : Int → Int} (hp : 2 ≤ p) (hv : InvOk p inv) {F : List Row} {ls : List Nat} (L : Low p n F ls) :
    ∃ ms, Low p n (acM p inv n F ls) ms ∧ (acM p inv n F ls).length = n - F.length ∧ (∀ r ∈ F, ∀ u ∈ acM p inv n F ls, Orth p n (ent u) (ent r)) ∧ ∀ u, (∀ r ∈ F, Orth p n u (ent r)) → Spn p n (acM p inv n F ls) u := by
  obtain ⟨ms, LG, t, o⟩ := lowM_ok (n := n) hp hv (found_wf (n := n) hp (F := F) (ls := ls))
  refine ⟨ms, LG, ?_, fun r hr u hu => ?_, fun u hu => ?_⟩
  · have le := lowM_le (p := p) (inv := inv) (found p n F ls)
    have ge := dual_le hp hv LG (J := outs n ls) (U := found p n F ls) (by unfold found; rw [List.length_map]) o (fun a b u j hu hj => by
      unfold found at hu
      rw [List.getElem?_map] at hu
      cases ha : (outs n ls)[a]? with
      | none => rw [ha] at hu; cases hu
      | some ja =>
        rw [ha] at hu
        cases Option.some.inj hu
        have m1 := outs_mem.mp (List.mem_of_getElem? ha)
        have m2 := outs_mem.mp (List.mem_of_getElem? hj)
        rw [nullV_out L.lt m1.1 m2.2]
        by_cases e : b = a
        · rw [if_pos e, if_pos (by rw [e, ha] at hj; exact (Option.some.inj hj).symm)]
        · rw [if_neg e, if_neg fun z => ?_]
          subst z
          have nd : (outs n ls).Nodup := outs_up.imp fun h => Nat.ne_of_lt h
          obtain ⟨h1, e1⟩ := List.getElem?_eq_some_iff.mp ha
          obtain ⟨h2, e2⟩ := List.getElem?_eq_some_iff.mp hj
          exact e ((List.getElem_inj nd).mp (e2.trans e1.symm))) (fun j hj => (outs_mem.mp hj).1)
    have fl := found_len L
    rw [outs_len L.up L.lt, L.dl.1] at ge
    show (lowM p inv (found p n F ls)).length = _
    omega
  · exact Orth.spn (fun w hw => found_orth L w hw r hr) (t u hu)
  · exact (found_all hp L hu).mono o
theorem low_same_leads {F G : List Row} {ls : List Nat} (hF : Low p n F ls) (hG : Low p n G ls) (h1 : ∀ r ∈ F, Spn p n G (ent r)) : F = G := by
  have len : F.length = G.length := hF.dl.1.symm.trans hG.dl.1
  refine List.ext_getElem len fun i hi hi' => ?_
  refine row_ext (hF.wf _ (List.getElem_mem hi)) (hG.wf _ (List.getElem_mem hi')) fun j hj => ?_
  have s : Spn p n G (fun j => ent F[i] j + (-1) * ent G[i] j) := (h1 _ (List.getElem_mem hi)).lin (-1) (Spn.mem (List.getElem_mem hi'))
  have z := spn_red hG.dl hG.lt s
  have k := red_keep (p := p) (F := G) hG.lt (v := fun j => ent F[i] j + (-1) * ent G[i] j) (fun l hl => by
    obtain ⟨k, hk⟩ := List.getElem?_of_mem hl
    rw [hF.dl.2 i k _ l (List.getElem?_eq_getElem hi) hk, hG.dl.2 i k _ l (List.getElem?_eq_getElem hi') hk]
    exact cg.of_eq (by grind)) j hj
  have q := (k.symm.trans (z j hj)).add (cg.refl p (ent G[i] j))
  exact (cg.of_eq (by grind)).trans (q.trans (cg.of_eq (by grind)))
theorem up_sub_eq {a b : List Nat} (ha : a.Pairwise (· < ·)) (hb : b.Pairwise (· < ·)) (h : ∀ x ∈ a, x ∈ b) (l : a.length = b.length) : a = b := by
  have e : b.filter (fun x => a.contains x) = a := sorted_eq (List.Pairwise.filter _ hb) ha fun x => by
    rw [List.mem_filter]
    constructor
    · intro h
      simpa using h.2
    · intro hx
      exact ⟨h x hx, by simpa using hx⟩
  have e2 : (b.filter (fun x => a.contains x)).length = b.length := by rw [e, l]
  have all := List.length_filter_eq_length_iff.mp e2
  have e3 := List.filter_eq_self.mpr all
  rw [e] at e3
  exact e3
theorem low_as_many {F G : List Row} {ls ms : List Nat} (hp : 2 ≤ p) (hF : Low p n F ls) (hG : Low p n G ms) (h1 : ∀ r ∈ F, Spn p n G (ent r)) (l : F.length = G.length) : F = G := by
  have e : ls = ms := up_sub_eq hF.up hG.up (lead_in hp hF hG h1) (by rw [hF.dl.1, hG.dl.1, l])
  subst e
  exact low_same_leads hF hG h1
theorem low_few {F : List Row} {ls : List Nat} (L : Low p n F ls) : F.length ≤ n := by
  have e : (List.range n).filter (fun j => ls.contains j) = ls := sorted_eq (List.Pairwise.filter _ List.pairwise_lt_range) L.up fun x => by
    rw [List.mem_filter, List.mem_range]
    constructor
    · intro h
      simpa using h.2
    · intro h
      exact ⟨L.lt x h, by simpa using h⟩
  have := List.length_filter_le (fun j => ls.contains j) (List.range n)
  rw [e, List.length_range] at this
  rw [← L.dl.1]
  exact this
theorem acM_twice {inv : Int → Int} (hp : 2 ≤ p) (hv : InvOk p inv) {F : List Row} {ls ms : List Nat} (L : Low p n F ls) (LG : Low p n (acM p inv n F ls) ms) : acM p inv n (acM p inv n F ls) ms = F := by
  obtain ⟨_, _, l1, o1, _⟩ := acM_ok hp hv L
  obtain ⟨ms2, L2, l2, o2, a2⟩ := acM_ok hp hv LG
  refine (low_as_many hp L L2 (fun r hr => a2 _ fun u hu => (o1 r hr u hu).comm) ?_).symm
  have := low_few L
  omega
end
end My

/-! The crossing of two spans, and how many rows its form has. -/
namespace My
theorem dot_spn {p : Int} {n : Nat} {R : List Row} : ∀ (cs : List Int) (F : List Row), (∀ r ∈ F, r ∈ R) → Spn p n R (dot cs F)
  | [], F, _ => .zero fun j _ => cg.of_eq rfl
  | c :: cs, [], _ => .zero fun j _ => cg.of_eq rfl
  | c :: cs, r :: F, h => by
    have ih := dot_spn (p := p) (n := n) cs F fun s hs => h s (List.mem_cons_of_mem _ hs)
    exact .add c (h r List.mem_cons_self) ih fun j _ => cg.of_eq (by
      show c * ent r j + dot cs F j = dot cs F j + c * ent r j
      omega)
theorem dot_app (j : Nat) : ∀ (F G : List Row) (x : List Int), F.length ≤ x.length → dot x (F ++ G) j = dot (x.take F.length) F j + dot (x.drop F.length) G j
  | [], G, x, _ => by
    show dot x G j = dot [] [] j + dot x G j
    show _ = (0 : Int) + _
    omega
  | r :: F, G, [], h => by simp at h
  | r :: F, G, c :: x, h => by
    have ih := dot_app j F G x (by simpa using h)
    show c * ent r j + dot x (F ++ G) j = (c * ent r j + dot (x.take F.length) F j) + dot (x.drop F.length) G j
    omega
theorem dot_none {j : Nat} : ∀ (cs : List Int) (F : List Row), (∀ r ∈ F, ent r j = 0) → dot cs F j = 0
  | [], _, _ => rfl
  | _ :: _, [], _ => rfl
  | c :: cs, r :: F, h => by
    show c * ent r j + dot cs F j = 0
    rw [h r List.mem_cons_self, dot_none cs F fun s hs => h s (List.mem_cons_of_mem _ hs), Int.mul_zero]
    rfl
theorem dot_lead {p : Int} : ∀ {F : List Row} {ls : List Nat} {cs : List Int} {i l : Nat} {c : Int}, Dl p F ls → ls[i]? = some l → cs[i]? = some c → dot cs F l = c
  | [], ls, cs, i, l, c, h, hl, _ => by
    have := h.1
    have h2 := (List.getElem?_eq_some_iff.mp hl).1
    rw [this] at h2
    simp at h2
  | r :: F, [], cs, i, l, c, h, hl, _ => by simp at hl
  | r :: F, m :: ls, [], i, l, c, h, _, hc => by simp at hc
  | r :: F, m :: ls, d :: cs, 0, l, c, h, hl, hc => by
    cases Option.some.inj hl
    cases Option.some.inj hc
    show d * ent r m + dot cs F m = d
    have e := h.2 0 0 r m rfl rfl
    rw [if_pos rfl] at e
    rw [e, dot_none cs F fun s hs => ?_]
    · omega
    · obtain ⟨k, hk⟩ := List.getElem?_of_mem hs
      have := h.2 (k + 1) 0 s m hk rfl
      rw [if_neg (by omega)] at this
      exact this
  | r :: F, m :: ls, d :: cs, i + 1, l, c, h, hl, hc => by
    show d * ent r l + dot cs F l = c
    have e := h.2 0 (i + 1) r l rfl hl
    rw [if_neg (by omega)] at e
    rw [e, dot_lead h.tail hl hc]
    omega
theorem dot_dsum (j : Nat) : ∀ {R : List Row} {x : Row}, x.length = R.length → dot x R j = dsum R.length (fun i => ent x i * ent (R.map fun r => ent r j) i)
  | [], [], _ => rfl
  | r :: R, c :: x, h => by
    rw [List.length_cons, dsum_shift]
    show c * ent r j + dot x R j = c * ent r j + dsum R.length (fun i => ent x i * ent (R.map fun r => ent r j) i)
    rw [dot_dsum j (R := R) (x := x) (by simpa using h)]
def crM (p : Int) (inv : Int → Int) (n : Nat) (F G : List Row) (ls ms hs : List Nat) : List Row := acM p inv n (lowM p inv (acM p inv n F ls ++ acM p inv n G ms)) hs
section
variable {p : Int} {n : Nat} {inv : Int → Int}
/-- what is known of the crossing's form -/
structure Crs (p : Int) (inv : Int → Int) (n : Nat) (F G C : List Row) (cs : List Nat) : Prop where
  low : Low p n C cs
  one : ∀ r ∈ C, Spn p n F (ent r)
  two : ∀ r ∈ C, Spn p n G (ent r)
  all : ∀ u, Spn p n F u → Spn p n G u → Spn p n C u
theorem lowM_app_wf {F G : List Row} {ls ms : List Nat} (L : Low p n F ls) (L2 : Low p n G ms) : ∀ r ∈ F ++ G, Wf p n r := fun r hr => by
  rcases List.mem_append.mp hr with h | h
  · exact L.wf r h
  · exact L2.wf r h
theorem crs_ok (hp : 2 ≤ p) (hv : InvOk p inv) {F G : List Row} {ls ms : List Nat} (LF : Low p n F ls) (LG : Low p n G ms) {as bs : List Nat} (LA : Low p n (acM p inv n F ls) as) (LB : Low p n (acM p inv n G ms) bs)
    {hs : List Nat} (LO : Low p n (lowM p inv (acM p inv n F ls ++ acM p inv n G ms)) hs) : ∃ cs, Crs p inv n F G (crM p inv n F G ls ms hs) cs ∧ (crM p inv n F G ls ms hs).length = n - (lowM p inv (acM p inv n F ls ++ acM p inv n G ms)).length := by
  obtain ⟨cs, LC, len, o, a⟩ := acM_ok hp hv LO
  obtain ⟨_, _, _, oF, aF⟩ := acM_ok hp hv LF
  obtain ⟨_, _, _, oG, aG⟩ := acM_ok hp hv LG
  obtain ⟨_, _, t, op⟩ := lowM_ok (n := n) hp hv (lowM_app_wf LA LB)
  have twF := acM_twice hp hv LF LA
  have twG := acM_twice hp hv LG LB
  obtain ⟨_, _, _, _, aFF⟩ := acM_ok hp hv LA
  obtain ⟨_, _, _, _, aGG⟩ := acM_ok hp hv LB
  rw [twF] at aFF
  rw [twG] at aGG
  -- what lies across outside lies across each of the two
  have sub : ∀ r ∈ crM p inv n F G ls ms hs, ∀ u, u ∈ acM p inv n F ls ++ acM p inv n G ms → Orth p n (ent r) (ent u) := fun r hr u hu =>
    (Orth.spn (R := lowM p inv (acM p inv n F ls ++ acM p inv n G ms)) (fun w hw => (o w hw r hr).comm) (op u hu)).comm
  refine ⟨cs, ⟨LC, fun r hr => aFF _ fun u hu => sub r hr u (List.mem_append_left _ hu), fun r hr => aGG _ fun u hu => sub r hr u (List.mem_append_right _ hu), fun u h1 h2 => a u fun r hr => ?_⟩, len⟩
  refine (Orth.spn (R := acM p inv n F ls ++ acM p inv n G ms) (fun w hw => ?_) (t r hr)).comm
  rcases List.mem_append.mp hw with h | h
  · exact (Orth.spn (R := F) (fun x hx => (oF x hx w h).comm) h1).comm
  · exact (Orth.spn (R := G) (fun x hx => (oG x hx w h).comm) h2).comm
/-- at least so many -/
theorem crs_ge (hp : 2 ≤ p) (hv : InvOk p inv) {F G C : List Row} {ls ms cs : List Nat} (LF : Low p n F ls) (LG : Low p n G ms) (X : Crs p inv n F G C cs) : F.length + G.length ≤ C.length + (lowM p inv (F ++ G)).length := by
  obtain ⟨ts, LT, _, oT⟩ := lowM_ok (n := n) hp hv (lowM_app_wf LF LG)
  generalize lowM p inv (F ++ G) = T at *
  let N := (F ++ G).length
  let cols : List Row := ts.map fun l => (F ++ G).map fun r => ent r l
  have wc : ∀ r ∈ cols, Wf p N r := fun r hr => by
    obtain ⟨l, hl, rfl⟩ := List.mem_map.mp hr
    refine ⟨List.length_map _, fun x hx => ?_⟩
    obtain ⟨r, hr, rfl⟩ := List.mem_map.mp hx
    exact (lowM_app_wf LF LG r hr).ent (LT.lt l hl)
  obtain ⟨qs, LQ, tq, oq⟩ := lowM_ok (n := N) hp hv wc
  obtain ⟨ks, LK, lenK, oK, _⟩ := acM_ok hp hv LQ
  have few : (lowM p inv cols).length ≤ T.length := by
    have := lowM_le (p := p) (inv := inv) cols
    rw [show cols.length = ts.length from List.length_map _, LT.dl.1] at this
    exact this
  generalize hKd : acM p inv N (lowM p inv cols) qs = Kd at *
  -- each row of K brings the rows to nought
  have null : ∀ x ∈ Kd, ∀ j, j < n → cg p (dot x (F ++ G) j) 0 := fun x hx => by
    have wx := LK.wf x hx
    have sp : Spn p n T (dot x (F ++ G)) := (dot_spn (R := F ++ G) x (F ++ G) fun r h => h).mono oT
    have z := spn_red LT.dl LT.lt sp
    have k := red_keep (p := p) (F := T) (v := dot x (F ++ G)) LT.lt fun l hl => by
      rw [dot_dsum l (R := F ++ G) (x := x) wx.len]
      have mem : ((F ++ G).map fun r => ent r l) ∈ cols := List.mem_map.mpr ⟨l, hl, rfl⟩
      exact (Orth.spn (R := lowM p inv cols) (fun w hw => (oK w hw x hx).comm) (oq _ mem)).comm
    exact fun j hj => (k j hj).symm.trans (z j hj)
  have part : ∀ x ∈ Kd, ∀ j, j < n → cg p (dot (x.take F.length) F j + dot (x.drop F.length) G j) 0 := fun x hx j hj => by
    have h := null x hx j hj
    rw [dot_app j F G x (by rw [(LK.wf x hx).len]; show F.length ≤ (F ++ G).length; rw [List.length_append]; omega)] at h
    exact h
  -- its leads stand ahead of F's number
  have small : ∀ (k : Nat) h, ks[k]? = some h → h < F.length := fun k h hk => by
    refine Classical.byContradiction fun c => ?_
    obtain ⟨x, hx⟩ : ∃ x, Kd[k]? = some x := ⟨Kd[k]'(by have := (List.getElem?_eq_some_iff.mp hk).1; have := LK.dl.1; omega), List.getElem?_eq_getElem _⟩
    have xm := List.mem_of_getElem? hx
    have wx := LK.wf x xm
    have hN := LK.lt h (List.mem_of_getElem? hk)
    have x1 : ent x h = 1 := by rw [LK.dl.2 k k x h hx hk, if_pos rfl]
    have hNl : h < (F ++ G).length := hN
    rw [List.length_append] at hNl
    have hml : h - F.length < ms.length := by
      have := LG.dl.1
      omega
    obtain ⟨l, hl⟩ : ∃ l, ms[h - F.length]? = some l := ⟨ms[h - F.length]'hml, List.getElem?_eq_getElem hml⟩
    have ln := LG.lt l (List.mem_of_getElem? hl)
    have p1 := part x xm l ln
    have z1 : dot (x.take F.length) F l = 0 := by
      have zz : ∀ (cs : List Int) (R : List Row), (∀ y ∈ cs, y = 0) → dot cs R l = 0 := fun cs => by
        induction cs with
        | nil => intro R _; rfl
        | cons y cs ih =>
          intro R hy
          cases R with
          | nil => rfl
          | cons r R =>
            show y * ent r l + dot cs R l = 0
            rw [hy y List.mem_cons_self, ih R fun w hw => hy w (List.mem_cons_of_mem _ hw), Int.zero_mul]
            rfl
      refine zz _ F fun y hy => ?_
      obtain ⟨i, hi⟩ := List.getElem?_of_mem hy
      have il := (List.getElem?_eq_some_iff.mp hi).1
      rw [List.length_take] at il
      rw [List.getElem?_take, if_pos (by omega)] at hi
      have ei := LK.zb k x h hx hk i (by omega)
      rw [ent_some (by omega)] at hi
      rw [← Option.some.inj hi, ei]
    have z2 : dot (x.drop F.length) G l = 1 := by
      refine dot_lead LG.dl hl ?_
      rw [List.getElem?_drop, show F.length + (h - F.length) = h by omega, ent_some (by rw [wx.len]; exact hN), x1]
    rw [z1, z2] at p1
    exact one_ne hp p1
  have key := dual_le hp hv X.low (J := ks.map fun h => ls.getD h 0) (U := Kd.map fun x => mixM p (x.take F.length) F n) (by rw [List.length_map, List.length_map, LK.dl.1]) (fun u hu => by
    obtain ⟨x, hx, rfl⟩ := List.mem_map.mp hu
    have e : ∀ j, j < n → cg p (ent (mixM p (x.take F.length) F n) j) (dot (x.take F.length) F j) := fun j hj => by
      rw [mixM_ent hj]
      exact cg.emod _ _
    refine X.all _ ((dot_spn (R := F) _ F fun r h => h).cong e) ?_
    have sg : Spn p n G (fun j => (fun _ => (0 : Int)) j + (-1) * dot (x.drop F.length) G j) := (Spn.zero fun _ _ => cg.refl _ _).lin (-1) (dot_spn (R := G) _ G fun r h => h)
    refine sg.cong fun j hj => (e j hj).trans ?_
    have := (part x hx j hj).sub (cg.refl p (dot (x.drop F.length) G j))
    exact (cg.of_eq (by omega)).trans (this.trans (cg.of_eq (by
      show _ = (0 : Int) + (-1) * dot (x.drop F.length) G j
      omega)))) (fun a b u j hu hj => by
    rw [List.getElem?_map] at hu hj
    cases ha : Kd[a]? with
    | none => rw [ha] at hu; cases hu
    | some x =>
      cases hb : ks[b]? with
      | none => rw [hb] at hj; cases hj
      | some h =>
        rw [ha] at hu
        rw [hb] at hj
        cases Option.some.inj hu
        cases Option.some.inj hj
        have hF := small b h hb
        have hl : ls[h]? = some (ls.getD h 0) := by
          rw [getD_el ls 0 (by have := LF.dl.1; omega), List.getElem?_eq_getElem]
        have wx := LK.wf x (List.mem_of_getElem? ha)
        have hN := LK.lt h (List.mem_of_getElem? hb)
        rw [mixM_ent (LF.lt _ (List.mem_of_getElem? hl)), dot_lead LF.dl hl (c := ent x h) (by rw [List.getElem?_take, if_pos hF, ent_some (by rw [wx.len]; exact hN)]), LK.dl.2 a b x h ha hb]
        by_cases e : a = b
        · rw [if_pos e, if_pos e.symm]
          exact Int.emod_eq_of_lt (by omega) (by omega)
        · rw [if_neg e, if_neg (fun z => e z.symm)]
          exact Int.zero_emod _) (fun j hj => by
    obtain ⟨h, hh, rfl⟩ := List.mem_map.mp hj
    obtain ⟨b, hb⟩ := List.getElem?_of_mem hh
    have hF := small b h hb
    exact LF.lt _ (by rw [getD_el ls 0 (by have := LF.dl.1; omega)]; exact List.getElem_mem _))
  rw [List.length_map, LK.dl.1] at key
  have Nl : N = F.length + G.length := List.length_append
  omega
theorem crs_len (hp : 2 ≤ p) (hv : InvOk p inv) {F G : List Row} {ls ms : List Nat} (LF : Low p n F ls) (LG : Low p n G ms) {as bs : List Nat} (LA : Low p n (acM p inv n F ls) as) (LB : Low p n (acM p inv n G ms) bs)
    {hs : List Nat} (LO : Low p n (lowM p inv (acM p inv n F ls ++ acM p inv n G ms)) hs) : (crM p inv n F G ls ms hs).length + (lowM p inv (F ++ G)).length = F.length + G.length := by
  obtain ⟨cs, X, len⟩ := crs_ok hp hv LF LG LA LB LO
  have ge := crs_ge hp hv LF LG X
  -- the same of what lies across
  obtain ⟨_, _, lA, oA, aA⟩ := acM_ok hp hv LF
  obtain ⟨_, _, lB, oB, aB⟩ := acM_ok hp hv LG
  obtain ⟨ts, LT, tT, oT⟩ := lowM_ok (n := n) hp hv (lowM_app_wf LF LG)
  obtain ⟨us, LU, lU, oU, aU⟩ := acM_ok hp hv LT
  have Y : Crs p inv n (acM p inv n F ls) (acM p inv n G ms) (acM p inv n (lowM p inv (F ++ G)) ts) us := ⟨LU,
    fun r hr => aA _ fun u hu => (Orth.spn (R := lowM p inv (F ++ G)) (fun w hw => (oU w hw r hr).comm) (oT u (List.mem_append_left _ hu))).comm,
    fun r hr => aB _ fun u hu => (Orth.spn (R := lowM p inv (F ++ G)) (fun w hw => (oU w hw r hr).comm) (oT u (List.mem_append_right _ hu))).comm,
    fun u h1 h2 => aU u fun r hr => (Orth.spn (R := F ++ G) (fun w hw => by
      rcases List.mem_append.mp hw with h | h
      · exact (Orth.spn (R := acM p inv n F ls) (fun x hx => oA w h x hx) h1).comm
      · exact (Orth.spn (R := acM p inv n G ms) (fun x hx => oB w h x hx) h2).comm) (tT r hr)).comm⟩
  have ge2 := crs_ge hp hv LA LB Y
  have f1 := low_few LF
  have f2 := low_few LG
  have f3 := low_few LT
  have f4 := low_few LO
  omega
end
end My

namespace My
open PySem PySem.Spec PyProof.Rows L2
section
variable {P : Program} {w : World} {K : PySem.W.Frag} {mg : Str → Option Value} {base : Heap}
abbrev iv (m : List Int) : List V := m.map V.int

abbrev rf (rs : List Addr) : List V := rs.map V.ref

theorem same_new {H : Hp} {q : Addr} {o : HO} (h : H q = none) : Same H (upd H q o) := fun b x e => by
  rw [upd_ne (ne_of_none e h)]
  exact e

theorem same_upd {H H' : Hp} {q : Addr} {o : HO} (h : H q = none) (s : Same H H') : Same H (upd H' q o) := fun b x e => by
  rw [upd_ne (ne_of_none e h)]
  exact s b x e

theorem same_none {H H' : Hp} {q : Addr} (s : Same H H') (h : H' q = none) : H q = none := s.free h

/-- a list at its own place in the heap -/
abbrev IL (H : Hp) (a : Addr) (m : List Int) : Prop := H a = some (.lst (iv m))

theorem IL.sq {K : PySem.W.Frag} {H : Hp} {a : Addr} {m : List Int} (h : IL H a m) : SqL K H a (iv m) := SqL.of h

/-- a list of rows -/
structure Tab (H : Hp) (a : Addr) (rs : List Addr) (M : List Row) : Prop where
  at_ : H a = some (.lst (rf rs))
  len : rs.length = M.length
  row : ∀ (i : Nat) r m, rs[i]? = some r → M[i]? = some m → IL H r m

theorem Tab.same {H H' : Hp} {a : Addr} {rs : List Addr} {M : List Row} (t : Tab H a rs M) (s : Same H H') : Tab H' a rs M := ⟨s _ _ t.at_, t.len, fun i r m hr hm => s _ _ (t.row i r m hr hm)⟩

theorem iv_get {m : List Int} {i : Nat} {x : Int} (h : m[i]? = some x) : (iv m)[i]? = some (V.int x) := by
  rw [List.getElem?_map, h]
  rfl

theorem iv_ent {m : List Int} {i : Nat} (h : i < m.length) : (iv m)[i]? = some (V.int (ent m i)) := iv_get (ent_some h)

theorem rf_get {rs : List Addr} {i : Nat} {r : Addr} (h : rs[i]? = some r) : (rf rs)[i]? = some (V.ref r) := by
  rw [List.getElem?_map, h]
  rfl

theorem rf_inv {rs : List Addr} {i : Nat} {v : V} (h : (rf rs)[i]? = some v) : ∃ r, rs[i]? = some r ∧ v = .ref r := by
  rw [List.getElem?_map] at h
  cases e : rs[i]? with
  | none => rw [e] at h; cases h
  | some r => rw [e] at h; exact ⟨r, rfl, (Option.some.inj h).symm⟩

theorem iv_inv {m : List Int} {i : Nat} {v : V} (h : (iv m)[i]? = some v) : ∃ x, m[i]? = some x ∧ v = .int x := by
  rw [List.getElem?_map] at h
  cases e : m[i]? with
  | none => rw [e] at h; cases h
  | some r => rw [e] at h; exact ⟨r, rfl, (Option.some.inj h).symm⟩

theorem get_lt {α : Type} {l : List α} {i : Nat} {x : α} (h : l[i]? = some x) : i < l.length := (List.getElem?_eq_some_iff.mp h).1

theorem get_of {α : Type} {l : List α} {i : Nat} (h : i < l.length) : ∃ x, l[i]? = some x := ⟨l[i], List.getElem?_eq_getElem h⟩

/-- a list of ints that is being made at D -/
structure Mk (H : Hp) (D : Addr) (g : List Int) (i : Nat) (H' : Hp) : Prop where
  same : Same H H'
  at_ : H' D = some (.lst (iv (g.take i)))

theorem Mk.start {H : Hp} {D : Addr} {g : List Int} (h : H D = none) : Mk H D g 0 (upd H D (.lst [])) := ⟨same_new h, upd_same⟩

theorem Mk.step {H H' H2 : Hp} {D : Addr} {g : List Int} {i : Nat} {y : Int} (m : Mk H D g i H') (hD : H D = none) (s : Same H' H2) (e : g[i]? = some y) (hl : g.length ≤ 1000) :
    ∃ acc, H2 D = some (.lst acc) ∧ acc.length < sizeLine ∧ Mk H D g (i + 1) (upd H2 D (.lst (acc ++ [.int y]))) := by
  refine ⟨_, s _ _ m.at_, ?_, same_upd hD (m.same.trans s), ?_⟩
  · rw [List.length_map, List.length_take]
    exact small1000 (by omega)
  · rw [upd_same, List.take_add_one, e]
    simp

theorem Mk.done {H H' : Hp} {D : Addr} {g : List Int} {n : Nat} (m : Mk H D g n H') (h : n = g.length) : IL H' D g := by
  have := m.at_
  rw [h, List.take_length] at this
  exact this

/-- a list of rows that is being made at D: each row is new, or stands at the same place of rs -/
structure Mt (H : Hp) (D : Addr) (rs : List Addr) (G : List Row) (i : Nat) (H' : Hp) (qs : List Addr) : Prop where
  same : Same H H'
  at_ : H' D = some (.lst (rf qs))
  len : qs.length = i
  row : ∀ (j : Nat) q g, qs[j]? = some q → G[j]? = some g → IL H' q g
  src : ∀ (j : Nat) q, qs[j]? = some q → rs[j]? = some q ∨ H q = none
  nD : D ∉ qs
  nd : rs.Nodup → qs.Nodup

theorem Mt.start {H : Hp} {D : Addr} {rs : List Addr} {G : List Row} (h : H D = none) : Mt H D rs G 0 (upd H D (.lst [])) [] := ⟨same_new h, upd_same, rfl, fun j q g hq => by simp at hq, fun j q hq => by simp at hq, by simp, fun _ => List.nodup_nil⟩

theorem nodup_snoc {α : Type} {l : List α} {x : α} (h : l.Nodup) (hx : x ∉ l) : (l ++ [x]).Nodup := by
  refine List.nodup_append.mpr ⟨h, by simp, fun a ha b hb e => ?_⟩
  rw [List.mem_singleton.mp hb] at e
  exact hx (e ▸ ha)

theorem Mt.step {H H' H2 : Hp} {D : Addr} {rs : List Addr} {G : List Row} {i : Nat} {qs : List Addr} {q : Addr} {g : Row} (m : Mt H D rs G i H' qs) (hD : H D = none) (tr : ∀ r ∈ rs, ∃ o, H r = some o) (s : Same H' H2) (e : G[i]? = some g) (hq : IL H2 q g) (sr : rs[i]? = some q ∨ H' q = none) (hl : G.length ≤ 1000) :
    ∃ acc, H2 D = some (.lst acc) ∧ acc.length < sizeLine ∧ Mt H D rs G (i + 1) (upd H2 D (.lst (acc ++ [.ref q]))) (qs ++ [q]) := by
  have hi := get_lt e
  have ne : q ≠ D := by
    rcases sr with h | h
    · obtain ⟨o, ho⟩ := tr q (List.mem_of_getElem? h)
      exact ne_of_none ho hD
    · exact fun z => by
        rw [z, m.at_] at h
        cases h
  refine ⟨_, s _ _ m.at_, ?_, same_upd hD (m.same.trans s), ?_, ?_, fun j r h hr hh => ?_, fun j r hr => ?_, ?_, fun nd => ?_⟩
  · rw [List.length_map, m.len]
    exact small1000 (by omega)
  · rw [upd_same]
    simp
  · rw [List.length_append, m.len]
    rfl
  · by_cases hj : j < i
    · rw [List.getElem?_append_left (by rw [m.len]; exact hj)] at hr
      have z := m.row j r h hr hh
      have nr : r ≠ D := fun z => m.nD (z ▸ List.mem_of_getElem? hr)
      show (upd H2 D _) r = _
      rw [upd_ne nr]
      exact s _ _ z
    · have hj2 := get_lt hr
      rw [List.length_append, m.len] at hj2
      have ej : j = i := by simp at hj2; omega
      subst ej
      rw [List.getElem?_append_right (by rw [m.len]; omega), m.len, Nat.sub_self] at hr
      cases Option.some.inj hr
      rw [e] at hh
      cases hh
      show (upd H2 D _) q = _
      rw [upd_ne ne]
      exact hq
  · by_cases hj : j < i
    · rw [List.getElem?_append_left (by rw [m.len]; exact hj)] at hr
      exact m.src j r hr
    · have hj2 := get_lt hr
      rw [List.length_append, m.len] at hj2
      have ej : j = i := by simp at hj2; omega
      subst ej
      rw [List.getElem?_append_right (by rw [m.len]; omega), m.len, Nat.sub_self] at hr
      cases Option.some.inj hr
      rcases sr with h | h
      · exact .inl h
      · exact .inr (same_none m.same h)
  · intro h
    rcases List.mem_append.mp h with h | h
    · exact m.nD h
    · exact ne (List.mem_singleton.mp h).symm
  · refine nodup_snoc (m.nd nd) fun hm => ?_
    obtain ⟨j, hj⟩ := List.getElem?_of_mem hm
    have jl := get_lt hj
    rw [m.len] at jl
    rcases sr with h | h
    · rcases m.src j q hj with h2 | h2
      · have := nd_ix nd h h2
        omega
      · obtain ⟨o, ho⟩ := tr q (List.mem_of_getElem? h)
        rw [ho] at h2
        cases h2
    · obtain ⟨w, hw⟩ := get_of (l := G) (i := j) (by omega)
      have z : H' q = _ := m.row j q w hj hw
      rw [h] at z
      cases z

theorem Mt.tab {H H' : Hp} {D : Addr} {rs : List Addr} {G : List Row} {n : Nat} {qs : List Addr} (m : Mt H D rs G n H' qs) (h : n = G.length) : Tab H' D qs G := ⟨m.at_, m.len.trans h, m.row⟩

/-- a while by a word over a number that falls -/
theorem wh {c : TT} {tb : TS} {D : Ends} {σ : L2.St} {H : Hp} (Pv : Nat → L2.St → Hp → Prop) (m0 : Nat) (h0 : Pv m0 σ H)
    (hs : ∀ m σ H, Pv m σ H → c σ H fun b H1 => if b = true then ∃ N : L2.St → Hp → Prop, (∀ σ' H', N σ' H' → ∃ m', m' < m ∧ Pv m' σ' H') ∧ tb { D with nx := N, ct := N, bk := D.nx } σ H1 else D.nx σ H1) : tWhile c tb D σ H := ⟨Pv, ⟨m0, h0⟩, hs⟩

/-- a comprehension's turn without a test -/
theorem t_yes {te : TE} {σ : L2.St} {H : Hp} {Y : V → Hp → Prop} {N : Hp → Prop} (h : te σ H Y) : tYes σ H (fun b H3 => if b = true then te σ H3 Y else N H3) := iteT (B := N H) h

theorem ixL {X : Cx} (K : PySem.W.Frag) (h : X.K = K := by rfl) : IxR X (rIxL K) := h ▸ ix_list

theorem piZ {X : Cx} (K : PySem.W.Frag) {e e2 : Expr} {ta : TA} {p pos tpos : Pos} {elts : List Expr} {kk : Nat} (h : X.K = K) (hg : Gl X "zip") (hm : X.mg "zip" = none) (ha : PA X [e, e2] ta)
    (hs : starEach [e, e2] X.env = (false, eval e X.env) :: starEach [e2] X.env := by rfl) (hpl : (backTo pos (starEach [e2] X.env)).any (·.1) = false := by rfl) :
    PI X (.Tuple elts kk tpos) (.Call (.Name "zip" p) [e, e2] [] pos) (iZip K ta) := h ▸ pi_zip hg hm ha hs hpl

theorem piL {X : Cx} (K : PySem.W.Frag) {tg l : Expr} {tl : TE} (h : X.K = K) (hl : PE X l tl) : PI X tg l (iList K tl) := h ▸ pi_list hl

/-- the scope of a comprehension, and the expression that a statement hands back or stores -/
def lcScope : Expr → Scope
  | .ListComp _ _ sc _ => sc
  | _ => { kind := .function, names := [], isGenerator := false, isCoroutine := false }

def stE : Stmt → Expr
  | .Return (some e) _ => e
  | .Assign _ e _ => e
  | _ => .Name "" ⟨0, 0, 0, 0⟩

def stN (b : List Stmt) (i : Nat) : Stmt := b.getD i (.Pass ⟨0, 0, 0, 0⟩)

theorem tab_tracked {H : Hp} {a : Addr} {rs : List Addr} {M : List Row} (t : Tab H a rs M) : ∀ r ∈ rs, ∃ o, H r = some o := fun r hr => by
  obtain ⟨i, hi⟩ := List.getElem?_of_mem hr
  obtain ⟨m, hm⟩ := get_of (l := M) (i := i) (by have := get_lt hi; have := t.len; omega)
  exact ⟨_, t.row i r m hi hm⟩

/-- rests of one length -/
abbrev Wfs (p : Int) (n : Nat) (M : List Row) : Prop := ∀ m ∈ M, Wf p n m

theorem clearM_get {p : Int} {pl : Nat} {bm : Row} {M : List Row} {i : Nat} {m : Row} (h : M[i]? = some m) : (clearM p pl bm M)[i]? = some (lessR p m (ent m pl) bm) := by
  unfold clearM
  rw [List.getElem?_map, h]
  rfl

theorem lessR_get {p c x y : Int} {m bm : Row} {i : Nat} (h : m[i]? = some x) (h2 : bm[i]? = some y) : (lessR p m c bm)[i]? = some ((x - c * y) % p) := by
  unfold lessR
  rw [List.getElem?_zipWith, h, h2]

theorem clearM_len {p : Int} {pl : Nat} {b : Row} {M : List Row} : (clearM p pl b M).length = M.length := by
  unfold clearM
  rw [List.length_map]

theorem runM_len {p : Int} {inv : Int → Int} {rows : List Row} : ∀ k, (runM p inv rows k).1.length ≤ k ∧ (runM p inv rows k).2.length ≤ rows.length
  | 0 => ⟨Nat.le_refl _, Nat.le_refl _⟩
  | k + 1 => by
    have ih := runM_len (p := p) (inv := inv) (rows := rows) k
    show (stepM p inv k (runM p inv rows k)).1.length ≤ k + 1 ∧ (stepM p inv k (runM p inv rows k)).2.length ≤ rows.length
    unfold stepM
    split
    · exact ⟨by omega, ih.2⟩
    · refine ⟨?_, ?_⟩
      · show (clearM _ _ _ _ ++ [_]).length ≤ k + 1
        rw [List.length_append, clearM_len, List.length_singleton]
        omega
      · show (clearM _ _ _ _).length ≤ _
        rw [clearM_len]
        have := List.length_eraseIdx_le (runM p inv rows k).2 (by assumption)
        omega

theorem pick_is {pl j : Nat} {L : List Row} (hj : j < L.length) (h : ∀ i, i < j → ent (L.getD i []) pl = 0) (h2 : ent (L.getD j []) pl ≠ 0) : pick pl L = some j := by
  unfold pick
  refine List.findIdx?_eq_some_iff_getElem.mpr ⟨hj, ?_, fun i hi => ?_⟩
  · rw [getD_el L [] hj] at h2
    simpa using h2
  · have := h i hi
    rw [getD_el L [] (by omega)] at this
    simpa using this

theorem pick_non {pl : Nat} {L : List Row} (h : ∀ i, i < L.length → ent (L.getD i []) pl = 0) : pick pl L = none := by
  unfold pick
  refine List.findIdx?_eq_none_iff.mpr fun r hr => ?_
  obtain ⟨i, hi, rfl⟩ := List.getElem_of_mem hr
  have := h i hi
  rw [getD_el L [] hi] at this
  simpa using this

theorem getD_of {α : Type} {l : List α} {d x : α} {i : Nat} (h : l[i]? = some x) : l.getD i d = x := by
  rw [List.getD_eq_getElem?_getD, h]
  rfl

theorem rf_ne {H : Hp} {a r x : Addr} {rs : List Addr} {m : List Int} (h : H a = some (.lst (rf (x :: rs)))) (h2 : IL H r m) : r ≠ a := fun e => by
  rw [e, IL, h] at h2
  have z : rf (x :: rs) = iv m := HO.lst.inj (Option.some.inj h2)
  cases m with
  | nil => cases z
  | cons y m => exact V.noConfusion (List.cons.inj z).1

theorem Tab.upd {H : Hp} {a q : Addr} {o : HO} {rs : List Addr} {M : List Row} (t : Tab H a rs M) (h : a ≠ q) (h2 : ∀ r ∈ rs, r ≠ q) : Tab (upd H q o) a rs M :=
  ⟨by rw [upd_ne h]; exact t.at_, t.len, fun i r m hr hm => by
    show (L2.upd H q o) r = _
    rw [upd_ne (h2 r (List.mem_of_getElem? hr))]
    exact t.row i r m hr hm⟩

theorem seqIx {j n : Nat} (h : j < n) : seqIndex? (j : Int) n = some j := by
  unfold seqIndex?
  simp
  omega

theorem map_erase {α β : Type} {f : α → β} : ∀ (l : List α) (j : Nat), (l.map f).eraseIdx j = (l.eraseIdx j).map f
  | [], j => by simp
  | a :: l, 0 => rfl
  | a :: l, j + 1 => by
    show f a :: (l.map f).eraseIdx j = f a :: (l.eraseIdx j).map f
    rw [map_erase l j]

theorem Tab.erase {H : Hp} {a : Addr} {rs : List Addr} {M : List Row} {j : Nat} (t : Tab H a rs M) (hj : j < rs.length) : Tab (L2.upd H a (.lst ((rf rs).eraseIdx j))) a (rs.eraseIdx j) (M.eraseIdx j) := by
  have hne : ∀ r ∈ rs, r ≠ a := fun r hr => by
    obtain ⟨i, hi⟩ := List.getElem?_of_mem hr
    obtain ⟨m, hm⟩ := get_of (l := M) (i := i) (by have := get_lt hi; have := t.len; omega)
    have z := t.at_
    cases rs with
    | nil => simp at hr
    | cons x rs => exact rf_ne z (t.row i r m hi hm)
  refine ⟨?_, ?_, fun i r m hr hm => ?_⟩
  · rw [upd_same]
    show some (HO.lst ((rs.map V.ref).eraseIdx j)) = some (HO.lst ((rs.eraseIdx j).map V.ref))
    rw [map_erase]
  · rw [List.length_eraseIdx, List.length_eraseIdx, t.len]
  · show (L2.upd H a _) r = _
    rw [upd_ne (hne r (List.mem_of_mem_eraseIdx (List.mem_of_getElem? hr)))]
    rw [List.getElem?_eraseIdx] at hr hm
    by_cases h : i < j
    · rw [if_pos h] at hr hm
      exact t.row i r m hr hm
    · rw [if_neg h] at hr hm
      exact t.row (i + 1) r m hr hm

structure LowI (H H' : Hp) (fa la : Addr) (fs ls : List Addr) (F L : List Row) : Prop where
  same : Same H H'
  tf : Tab H' fa fs F
  tl : Tab H' la ls L
  nf : H fa = none
  nl : H la = none
  ne : fa ≠ la
  fresh : ∀ r ∈ fs, H r = none
  nd : fs.Nodup

theorem IL.ref {H : Hp} {a : Addr} {rs : List Addr} {M : List Row} (t : Tab H a rs M) {r : Addr} (h : r ∈ rs) : ∃ m, m ∈ M ∧ IL H r m := by
  obtain ⟨i, hi⟩ := List.getElem?_of_mem h
  obtain ⟨m, hm⟩ := get_of (l := M) (i := i) (by have := get_lt hi; have := t.len; omega)
  exact ⟨m, List.mem_of_getElem? hm, t.row i r m hi hm⟩

theorem step_name {i : Nat} {v : V} {σ : L2.St} {H : Hp} {Q : L2.St → Hp → Prop} (h : Q (σ.set i (some v)) H) : gName i v σ H Q := h

theorem step_seq {t u : TS} {D : Ends} {σ : L2.St} {H : Hp} (h : t { D with nx := u D } σ H) : tSeq t u D σ H := h

theorem step_asgC {v : V} {i : Nat} {D : Ends} {σ : L2.St} {H : Hp} (h : D.nx (σ.set i (some v)) H) : tAsg (tC v) (gName i) D σ H := h

/-- a rule's reading by a stronger one -/
theorem pe_imp {X : Cx} {e : Expr} {t : TE} (t' : TE) (h : PE X e t) (imp : ∀ σ H Q, t' σ H Q → t σ H Q) : PE X e t' := ⟨fun pins s σ H Q I q => h.run pins s σ H Q I (imp σ H Q q)⟩

theorem pt_imp {X : Cx} {e : Expr} {t : TT} (t' : TT) (h : PT X e t) (imp : ∀ σ H Q, t' σ H Q → t σ H Q) : PT X e t' := ⟨fun pins s σ H Q I q => h.run pins s σ H Q I (imp σ H Q q)⟩

theorem cLst {X : Cx} (K : PySem.W.Frag) (h : X.K = K) : CallR X (.type "list") (fun xs H Q => ∃ p ys, xs = [.ref p] ∧ (SqL K H p ys ∨ SqT K H p ys) ∧ ∀ l, H l = none → Q (.ref l) (L2.upd H l (.lst ys))) := h ▸ call_list_of

theorem cLen {X : Cx} (K : PySem.W.Frag) (h : X.K = K) : CallR X (.builtin "len") (fun xs H Q => ∃ p ys, xs = [.ref p] ∧ (SqL K H p ys ∨ SqT K H p ys) ∧ Q (.int ys.length) H) := h ▸ call_len_seq

/-- a drawer's bag, asked so often at most -/
def Bg (H : Hp) (a : Addr) (c : Nat) : Prop := ∃ x y : Int, H a = some (.lst [.int x, .int y]) ∧ 0 ≤ x ∧ 0 ≤ y ∧ y ≤ c ∧ (y = 0 ∨ x < 2147483647)

theorem Bg.mono {H : Hp} {a : Addr} {c d : Nat} (b : Bg H a c) (h : c ≤ d) : Bg H a d := by
  obtain ⟨x, y, h1, h2, h3, h4, h5⟩ := b
  exact ⟨x, y, h1, h2, h3, by omega, h5⟩

theorem Bg.same {H H' : Hp} {a : Addr} {c : Nat} (b : Bg H a c) (s : H' a = H a) : Bg H' a c := by
  obtain ⟨x, y, h1, h2⟩ := b
  exact ⟨x, y, s.trans h1, h2⟩

theorem Bg.ne {H : Hp} {a q : Addr} {c : Nat} (b : Bg H a c) (h : H q = none) : q ≠ a := by
  obtain ⟨x, y, h1, _⟩ := b
  exact fun e => by rw [e, h1] at h; cases h

/-- all but what stands at b is as it was -/
def Off (b : Addr) (H H' : Hp) : Prop := ∀ q o, q ≠ b → H q = some o → H' q = some o

theorem Off.refl (b : Addr) (H : Hp) : Off b H H := fun _ _ _ h => h

theorem Off.trans {b : Addr} {H H1 H2 : Hp} (x : Off b H H1) (y : Off b H1 H2) : Off b H H2 := fun q o n h => y q o n (x q o n h)

theorem Off.of {b : Addr} {H H' : Hp} (s : Same H H') : Off b H H' := fun q o _ h => s q o h

theorem Off.free {b q : Addr} {H H' : Hp} (x : Off b H H') (h : H' q = none) (n : q ≠ b) : H q = none := by
  cases e : H q with
  | none => rfl
  | some o =>
    rw [x q o n e] at h
    cases h

theorem Off.new {b q : Addr} {o : HO} {H H' : Hp} (x : Off b H H') (h : H q = none) : Off b H (upd H' q o) := fun r u n e => by
  rw [upd_ne (ne_of_none e h)]
  exact x r u n e

theorem Tab.push {H : Hp} {l q : Addr} {rs : List Addr} {M : List Row} {m : Row} (t : Tab H l rs M) (h : IL H q m) (n : q ≠ l) : Tab (L2.upd H l (.lst (rf rs ++ [.ref q]))) l (rs ++ [q]) (M ++ [m]) := by
  have hne : ∀ r ∈ rs, r ≠ l := fun r hr => by
    obtain ⟨m, _, hm⟩ := IL.ref t hr
    have z := t.at_
    cases rs with
    | nil => simp at hr
    | cons x rs => exact rf_ne z hm
  refine ⟨by rw [upd_same]; simp, by rw [List.length_append, List.length_append, t.len]; rfl, fun i r u hr hu => ?_⟩
  show (L2.upd H l _) r = _
  by_cases hi : i < rs.length
  · rw [List.getElem?_append_left hi] at hr
    rw [List.getElem?_append_left (by have := t.len; omega)] at hu
    rw [upd_ne (hne r (List.mem_of_getElem? hr))]
    exact t.row i r u hr hu
  · have h2 := get_lt hr
    rw [List.length_append, List.length_singleton] at h2
    have e : i = rs.length := by omega
    rw [List.getElem?_append_right (by omega), e, Nat.sub_self] at hr
    rw [List.getElem?_append_right (by have := t.len; omega), e, t.len, Nat.sub_self] at hu
    cases Option.some.inj hr
    cases Option.some.inj hu
    rw [upd_ne n]
    exact h

theorem Tab.off {b : Addr} {H H' : Hp} {a : Addr} {rs : List Addr} {M : List Row} (t : Tab H a rs M) (o : Off b H H') (n : a ≠ b) (n2 : ∀ r ∈ rs, r ≠ b) : Tab H' a rs M := ⟨o _ _ n t.at_, t.len, fun i r m hr hm => o _ _ (n2 r (List.mem_of_getElem? hr)) (t.row i r m hr hm)⟩

theorem mixR_get {p c x y : Int} {m bm : Row} {i : Nat} (h : m[i]? = some x) (h2 : bm[i]? = some y) : (mixR p c m bm)[i]? = some ((x + c * y) % p) := by
  unfold mixR
  rw [List.getElem?_zipWith, h, h2]

theorem mixR_wf {p c : Int} {n : Nat} {one other : Row} (hp : 0 < p) (h : Wf p n one) (h2 : Wf p n other) : Wf p n (mixR p c one other) := by
  have len : (mixR p c one other).length = n := by
    unfold mixR
    rw [List.length_zipWith, h.len, h2.len, Nat.min_self]
  refine ⟨len, fun x hx => ?_⟩
  obtain ⟨j, hj⟩ := List.getElem?_of_mem hx
  obtain ⟨a, ha⟩ := get_of (l := one) (i := j) (by have := get_lt hj; have := h.len; omega)
  obtain ⟨b, hb⟩ := get_of (l := other) (i := j) (by have := get_lt hj; have := h2.len; omega)
  rw [mixR_get ha hb] at hj
  rw [← Option.some.inj hj]
  exact ⟨Int.emod_nonneg _ (by omega), Int.emod_lt_of_pos _ hp⟩

theorem upd_upd {H : Hp} {a : Addr} {o u : HO} : upd (upd H a o) a u = upd H a u := by
  funext q
  by_cases h : q = a
  · rw [h, upd_same, upd_same]
  · rw [upd_ne h, upd_ne h, upd_ne h]

structure RowI (p : Int) (n : Nat) (b : Addr) (c : Nat) (H : Hp) (l : Addr) (rs : List Addr) (M : List Row) (H' : Hp) : Prop where
  off : Off b H H'
  tab : Tab H' l rs M
  wf : Wfs p n M
  fresh : ∀ r ∈ rs, H r = none
  bag : Bg H' b c

theorem runM_stop {p : Int} {inv : Int → Int} {rows : List Row} {k : Nat} (h : (runM p inv rows k).2 = []) : ∀ d, runM p inv rows (k + d) = runM p inv rows k
  | 0 => rfl
  | d + 1 => by
    show stepM p inv (k + d) (runM p inv rows (k + d)) = _
    rw [runM_stop h d]
    unfold stepM
    rw [h]
    rfl

def nzs (pl : Nat) (L : List Row) (i : Nat) : List Nat := (List.range i).filter fun k => decide (ent (L.getD k []) pl ≠ 0)

theorem nzs_succ {pl i : Nat} {L : List Row} : nzs pl L (i + 1) = nzs pl L i ++ (if ent (L.getD i []) pl ≠ 0 then [i] else []) := by
  unfold nzs
  rw [List.range_succ, List.filter_append]
  congr 1
  by_cases h : ent (L.getD i []) pl ≠ 0
  · rw [if_pos h, List.filter_cons_of_pos (by simpa using h)]
    rfl
  · rw [if_neg h, List.filter_cons_of_neg (by simpa using h)]
    rfl

theorem nzs_len {pl i : Nat} {L : List Row} : (nzs pl L i).length ≤ i := by
  have := List.length_filter_le (fun k => decide (ent (L.getD k []) pl ≠ 0)) (List.range i)
  rw [List.length_range] at this
  exact this

theorem pick_nil {pl : Nat} {L : List Row} (h : nzs pl L L.length = []) : pick pl L = none := pick_non fun i hi => by
  have := (List.filter_eq_nil_iff.mp h) i (List.mem_range.mpr hi)
  simpa using this

theorem pick_cons {pl j : Nat} {t : List Nat} {L : List Row} (h : nzs pl L L.length = j :: t) : j < L.length ∧ ent (L.getD j []) pl ≠ 0 ∧ pick pl L = some j := by
  have mj : j ∈ nzs pl L L.length := by rw [h]; exact List.mem_cons_self
  have mj2 := List.mem_filter.mp mj
  have hj := List.mem_range.mp mj2.1
  have nj : ent (L.getD j []) pl ≠ 0 := by simpa using mj2.2
  refine ⟨hj, nj, pick_is hj (fun i hi => ?_) nj⟩
  refine Classical.byContradiction fun c => ?_
  have mi : i ∈ nzs pl L L.length := List.mem_filter.mpr ⟨List.mem_range.mpr (by omega), by simpa using c⟩
  have pw : (nzs pl L L.length).Pairwise (· < ·) := List.Pairwise.filter _ List.pairwise_lt_range
  rw [h] at mi pw
  rcases List.mem_cons.mp mi with e | e
  · omega
  · have := (List.pairwise_cons.mp pw).1 i e
    omega

structure FormI (H H' : Hp) (fa la : Addr) (fs ls : List Addr) (F L : List Row) : Prop where
  same : Same H H'
  tf : Tab H' fa fs F
  tl : Tab H' la ls L
  nf : H fa = none
  nl : H la = none
  ne : fa ≠ la
  fresh : ∀ r ∈ fs, H r = none

def dRow (m : Row) : PyData := .list (m.map PyData.int)

def dTab (M : List Row) : PyData := .list (M.map dRow)

theorem dInts_lay : ∀ m : List Int, PyData.canLayAll0 (m.map PyData.int) = true
  | [] => rfl
  | x :: m => by
    show (PyData.canLay0 (.int x) && PyData.canLayAll0 (m.map PyData.int)) = true
    rw [dInts_lay m]
    rfl

theorem dInts_depth : ∀ m : List Int, PyData.depthAll (m.map PyData.int) = 0
  | [] => rfl
  | x :: m => by
    show max (PyData.depth (.int x)) (PyData.depthAll (m.map PyData.int)) = 0
    rw [dInts_depth m]
    rfl

theorem dRow_lay (m : Row) : (dRow m).canLay0 = true := dInts_lay m

theorem dRows_lay : ∀ M : List Row, PyData.canLayAll0 (M.map dRow) = true
  | [] => rfl
  | m :: M => by
    show (PyData.canLay0 (dRow m) && PyData.canLayAll0 (M.map dRow)) = true
    rw [dRows_lay M, dRow_lay m]
    rfl

theorem dRow_depth (m : Row) : (dRow m).depth = 1 := by
  show PyData.depthAll (m.map PyData.int) + 1 = 1
  rw [dInts_depth]

theorem dRows_depth : ∀ M : List Row, PyData.depthAll (M.map dRow) ≤ 1
  | [] => Nat.zero_le _
  | m :: M => by
    show max (PyData.depth (dRow m)) (PyData.depthAll (M.map dRow)) ≤ 1
    have := dRows_depth M
    have := dRow_depth m
    omega

theorem dRow_shaped (m : Row) : SeqAt.shaped (dRow m) = true := by
  show ((dRow m).canLay0 && decide ((dRow m).depth ≤ 64)) = true
  rw [dRow_lay, dRow_depth]
  rfl

theorem dTab_shaped (M : List Row) : SeqAt.shaped (dTab M) = true := by
  have h : (dTab M).depth ≤ 64 := by
    show PyData.depthAll (M.map dRow) + 1 ≤ 64
    have := dRows_depth M
    omega
  show ((dTab M).canLay0 && decide ((dTab M).depth ≤ 64)) = true
  rw [decide_eq_true h, show (dTab M).canLay0 = true from dRows_lay M]
  rfl

theorem dTab_eq (M : List Row) : PyData.eqv (dTab M) (dTab M) = true := SeqAt.eqv_refl _ (dRows_lay M)

theorem dRow_eq (m : Row) : PyData.eqv (dRow m) (dRow m) = true := SeqAt.eqv_refl _ (dRow_lay m)

theorem dpInts {K : PySem.W.Frag} {H : Hp} : ∀ m : List Int, DpAll K H (iv m) (m.map PyData.int)
  | [] => .nil
  | x :: m => .cons (.int x) (dpInts m)

theorem IL.dp {K : PySem.W.Frag} {H : Hp} {a : Addr} {m : Row} (h : IL H a m) : Dp K H (.ref a) (dRow m) := .lst (IL.sq h) (dpInts m)

theorem dpRows {K : PySem.W.Frag} {H : Hp} : ∀ (rs : List Addr) (M : List Row), rs.length = M.length → (∀ (i : Nat) r m, rs[i]? = some r → M[i]? = some m → IL H r m) → DpAll K H (rf rs) (M.map dRow)
  | [], [], _, _ => .nil
  | [], _ :: _, h, _ => by simp at h
  | _ :: _, [], h, _ => by simp at h
  | r :: rs, m :: M, h, hr => .cons (IL.dp (hr 0 r m rfl rfl)) (dpRows rs M (by simpa using h) fun i x y hx hy => hr (i + 1) x y hx hy)

theorem Tab.dp {K : PySem.W.Frag} {H : Hp} {a : Addr} {rs : List Addr} {M : List Row} (t : Tab H a rs M) : Dp K H (.ref a) (dTab M) := .lst (SqL.of t.at_) (dpRows rs M t.len t.row)

theorem Tab.rev {H : Hp} {a q : Addr} {rs : List Addr} {M : List Row} (t : Tab H a rs M) (h : H q = some (.lst (rf rs).reverse)) : Tab H q rs.reverse M.reverse := by
  refine ⟨by rw [h]; simp, by rw [List.length_reverse, List.length_reverse, t.len], fun i r m hr hm => ?_⟩
  have i1 := get_lt hr
  rw [List.length_reverse] at i1
  rw [List.getElem?_reverse i1] at hr
  rw [List.getElem?_reverse (by have := t.len; omega)] at hm
  rw [t.len] at hr
  exact t.row _ r m hr hm

/-- all but what stands at these places is as it was -/
def OffS (S : List Addr) (H H' : Hp) : Prop := ∀ b o, b ∉ S → H b = some o → H' b = some o

theorem Tab.offS {S : List Addr} {H H' : Hp} {a : Addr} {rs : List Addr} {M : List Row} (t : Tab H a rs M) (o : OffS S H H') (h : a ∉ S) (h2 : ∀ r ∈ rs, r ∉ S) : Tab H' a rs M :=
  ⟨o _ _ h t.at_, t.len, fun i r m hr hm => o _ _ (h2 r (List.mem_of_getElem? hr)) (t.row i r m hr hm)⟩

theorem cIsi {X : Cx} (K : PySem.W.Frag) (h : X.K = K) : CallR X (.builtin "isinstance") (rIsi K) := h ▸ call_isi

theorem cAll {X : Cx} (K : PySem.W.Frag) (h : X.K = K) (hc : X.calm = true) : CallR X (.builtin "all") (rAll K) := h ▸ cr_all hc

theorem Tab.fresh_off {H : Hp} {a b : Addr} {rs qs : List Addr} {M : List Row} (t : Tab H a rs M) (h : H b = none) (h2 : ∀ q ∈ qs, H q = none) : a ∉ b :: qs ∧ ∀ r ∈ rs, r ∉ b :: qs := by
  have key : ∀ r o, H r = some o → r ∉ b :: qs := fun r o e m => by
    rcases List.mem_cons.mp m with z | z
    · rw [z, h] at e
      cases e
    · rw [h2 r z] at e
      cases e
  refine ⟨key a _ t.at_, fun r hr => ?_⟩
  obtain ⟨m, _, hm⟩ := IL.ref t hr
  exact key r _ hm
end

section
variable {P : Program} {w : World} {K : PySem.W.Frag} {mg : Str → Option Value} {base : Heap}
theorem cSum {X : Cx} (K : PySem.W.Frag) (h : X.K = K) (hc : X.calm = true) : CallR X (.builtin "sum") (rSum K) := h ▸ cr_sum hc
theorem plain_ints : ∀ m : List Int, PyData.plainAll (m.map PyData.int) = true
  | [] => rfl
  | x :: m => by
    show (PyData.plain (.int x) && PyData.plainAll (m.map PyData.int)) = true
    rw [plain_ints m]
    rfl
/-- any(list of ints) -/
theorem cAnyI {X : Cx} (hc : X.calm = true) : CallR X (.builtin "any") (fun xs H Q => ∃ (a : Addr) (m : List Int), xs = [.ref a] ∧ IL H a m ∧ Q (.bl (m.any fun x => x != 0)) H) := by
  intro pins s σ H vs us Q I r h
  obtain ⟨a, m, rfl, hm, q⟩ := h
  obtain ⟨its, rv, hl, _⟩ := I.list (IL.sq (K := X.K) hm)
  obtain ⟨as, hr⟩ := Dp.readsAll I _ _ its (dpInts m) rv
  rw [Vals.ref1 r]
  refine PySem.W.any_list_data (I.ok.hd hc) hl.isList (by simpa using hr) (plain_ints m) (fun x hx => ?_) fun h' tk hk => ⟨.bl _, H, I.kept fun b o eo => hk b o eo, ?_, q⟩
  · obtain ⟨y, _, rfl⟩ := List.mem_map.mp hx
    trivial
  · show Value.bool _ = Value.bool _
    rw [List.any_map]
    rfl
theorem eqvAll_ints : ∀ a b : List Int, PyData.eqvAll (a.map PyData.int) (b.map PyData.int) = decide (a = b)
  | [], [] => rfl
  | [], y :: b => by
    rw [decide_eq_false (by simp)]
    rfl
  | x :: a, [] => by
    rw [decide_eq_false (by simp)]
    rfl
  | x :: a, y :: b => by
    show (PyData.eqv (.int x) (.int y) && PyData.eqvAll (a.map PyData.int) (b.map PyData.int)) = _
    rw [eqvAll_ints a b, show PyData.eqv (.int x) (.int y) = decide (x = y) from by simp [PyData.eqv]; rfl]
    by_cases h : x = y
    · by_cases h2 : a = b
      · simp [h, h2]
      · simp [h, h2]
    · simp [h]
theorem dRow_eqv (a b : Row) : PyData.eqv (dRow a) (dRow b) = decide (a = b) := by
  show PyData.eqv (.list _) (.list _) = _
  rw [PyData.eqv]
  exact eqvAll_ints a b
theorem rep_zeros (n : Nat) : (List.replicate (n : Int).toNat [V.int 0]).flatten = iv (zeros n) := by
  rw [Int.toNat_natCast]
  unfold zeros
  induction n with
  | zero => rfl
  | succ n ih =>
    rw [List.replicate_succ, List.flatten_cons, ih, List.replicate_succ]
    rfl
theorem all_flat (m : List Int) : (iv m).all flatV = true := List.all_eq_true.mpr fun v hv => by
  obtain ⟨x, _, rfl⟩ := List.mem_map.mp hv
  rfl
theorem low_ne {p : Int} {n : Nat} {F : List Row} {ls : List Nat} (L : Low p n F ls) {i : Nat} {r : Row} (h : F[i]? = some r) : ∃ l, ls[i]? = some l ∧ l < n ∧ (∀ j, j < l → ent r j = 0) ∧ ent r l = 1 := by
  obtain ⟨l, hl⟩ := get_of (l := ls) (i := i) (by have := get_lt h; have := L.dl.1; omega)
  refine ⟨l, hl, L.lt l (List.mem_of_getElem? hl), L.zb i r l h hl, ?_⟩
  rw [L.dl.2 i i r l h hl, if_pos rfl]
end

def lsI (ls : List Nat) : List Int := ls.map fun (l : Nat) => Int.ofNat l
theorem lsI_get {ls : List Nat} {i l : Nat} (h : ls[i]? = some l) : (lsI ls)[i]? = some (l : Int) := by
  unfold lsI
  rw [List.getElem?_map, h]
  rfl
theorem lsI_len (ls : List Nat) : (lsI ls).length = ls.length := List.length_map _
theorem inV_int (x : Int) : ∀ m : List Int, inV (.int x) (iv m) = decide (x ∈ m)
  | [] => rfl
  | y :: m => by
    show (eqV (.int y) (.int x) || inV (.int x) (iv m)) = _
    rw [inV_int x m, show eqV (.int y) (.int x) = (y == x) from rfl]
    by_cases h : x = y
    · subst h
      simp
    · have h2 : (y == x) = false := by simpa using fun e => h e.symm
      rw [h2]
      simp [h]
theorem lsI_mem {ls : List Nat} {i : Nat} : (i : Int) ∈ lsI ls ↔ i ∈ ls := by
  unfold lsI
  rw [List.mem_map]
  constructor
  · rintro ⟨l, hl, e⟩
    have : l = i := Int.ofNat.inj e
    exact this ▸ hl
  · intro h
    exact ⟨i, h, rfl⟩
theorem outs_succ {ls : List Nat} {i : Nat} : outs (i + 1) ls = outs i ls ++ (if i ∈ ls then [] else [i]) := by
  unfold outs
  rw [List.range_succ, List.filter_append]
  congr 1
  by_cases h : i ∈ ls
  · rw [if_pos h, List.filter_cons_of_neg (by simpa using h)]
    rfl
  · rw [if_neg h, List.filter_cons_of_pos (by simpa using h)]
    rfl
theorem drop_get {α : Type} {l : List α} {i : Nat} {x : α} (h : l[i]? = some x) : l.drop i = x :: l.drop (i + 1) := by
  rw [List.drop_eq_getElem_cons (get_lt h), show l[i]'(get_lt h) = x from Option.some.inj ((List.getElem?_eq_getElem (get_lt h)).symm.trans h)]
theorem ix_set {n : Nat} {i : Nat} (h : i < n) : ixN n (i : Int) = some i := by
  unfold ixN
  rw [if_pos (by omega), if_pos (by omega)]
  rfl
theorem IL.set {H : Hp} {z : Addr} {m : Row} {i : Nat} {x : Int} : IL (L2.upd H z (.lst ((iv m).set i (.int x)))) z (m.set i x) := by
  show (L2.upd H z _) z = _
  rw [upd_same]
  show some (HO.lst ((m.map V.int).set i (V.int x))) = some (HO.lst ((m.set i x).map V.int))
  rw [List.map_set]
def unitR (n i : Nat) : Row := (List.range n).map fun j => if i = j then 1 else 0
def idM (n : Nat) : List Row := (List.range n).map (unitR n)
theorem unitR_len {n i : Nat} : (unitR n i).length = n := by
  unfold unitR
  rw [List.length_map, List.length_range]
theorem unitR_get {n i j : Nat} (h : j < n) : (unitR n i)[j]? = some (if i = j then 1 else 0) := by
  unfold unitR
  rw [List.getElem?_map, List.getElem?_range h]
  rfl
theorem unitR_ent {n i j : Nat} (h : j < n) : ent (unitR n i) j = if i = j then 1 else 0 := by
  have a := ent_some (r := unitR n i) (j := j) (by rw [unitR_len]; exact h)
  rw [unitR_get h] at a
  exact (Option.some.inj a).symm
theorem unitR_wf {p : Int} (hp : 2 ≤ p) {n i : Nat} : Wf p n (unitR n i) := ⟨unitR_len, fun x hx => by
  obtain ⟨j, _, rfl⟩ := List.mem_map.mp hx
  split <;> omega⟩
theorem idM_get {n i : Nat} (h : i < n) : (idM n)[i]? = some (unitR n i) := by
  unfold idM
  rw [List.getElem?_map, List.getElem?_range h]
  rfl
theorem idM_len {n : Nat} : (idM n).length = n := by
  unfold idM
  rw [List.length_map, List.length_range]
theorem range_get {n i l : Nat} (h : (List.range n)[i]? = some l) : i < n ∧ l = i := by
  have h1 := get_lt h
  rw [List.length_range] at h1
  rw [List.getElem?_range h1] at h
  exact ⟨h1, (Option.some.inj h).symm⟩
theorem idM_low {p : Int} (hp : 2 ≤ p) {n : Nat} : Low p n (idM n) (List.range n) := by
  refine ⟨fun r hr => ?_, ⟨by rw [List.length_range, idM_len], fun i k r l hi hk => ?_⟩, fun l hl => List.mem_range.mp hl, List.pairwise_lt_range, fun i r l hi hl m hm => ?_⟩
  · obtain ⟨i, _, rfl⟩ := List.mem_map.mp hr
    exact unitR_wf hp
  · obtain ⟨h1, rfl⟩ := range_get hk
    have h2 := get_lt hi
    rw [idM_len] at h2
    rw [idM_get h2] at hi
    rw [← Option.some.inj hi]
    exact unitR_ent h1
  · obtain ⟨h1, rfl⟩ := range_get hl
    rw [idM_get h1] at hi
    rw [← Option.some.inj hi, unitR_ent (by omega), if_neg (by omega)]
theorem nil_low {p : Int} {n : Nat} : Low p n [] [] := ⟨fun r hr => by simp at hr, ⟨rfl, fun i k r l hi _ => by simp at hi⟩, fun l hl => by simp at hl, List.Pairwise.nil, fun i r l hi _ => by simp at hi⟩
theorem cInt {X : Cx} : CallR X (.type "int") (fun xs H Q => ∃ k, xs = [.bl k] ∧ Q (.int (if k = true then 1 else 0)) H) := by
  intro pins s σ H xs us Q I r h
  exact call_int1 pins s σ H xs us Q I r (.inr h)
theorem top_bound (z : Int) (hz : 0 ≤ z) (t : Int) (ht : 3 ≤ t) : 0 ≤ (if (if t < z then t else z) > 3 then (if t < z then t else z) else 3) ∧ (if (if t < z then t else z) > 3 then (if t < z then t else z) else 3) ≤ t := by
  by_cases h : t < z
  · rw [if_pos h]
    by_cases h2 : t > 3
    · rw [if_pos h2]; omega
    · rw [if_neg h2]; omega
  · rw [if_neg h]
    by_cases h2 : z > 3
    · rw [if_pos h2]; omega
    · rw [if_neg h2]; omega

theorem Tab.self_off {H : Hp} {a : Addr} {rs : List Addr} {M : List Row} (t : Tab H a rs M) : a ∉ rs := fun hm => by
  obtain ⟨mm, _, hmm⟩ := IL.ref t hm
  cases hq : rs with
  | nil => rw [hq] at hm; simp at hm
  | cons x xs =>
    have z := t.at_
    rw [hq] at z
    exact rf_ne z hmm rfl
theorem Tab.cat {H : Hp} {a b q : Addr} {rs ss : List Addr} {M N : List Row} (t : Tab H a rs M) (u : Tab H b ss N) (h : H q = some (.lst (rf rs ++ rf ss))) : Tab H q (rs ++ ss) (M ++ N) := by
  refine ⟨by rw [h]; simp, by rw [List.length_append, List.length_append, t.len, u.len], fun i r m hr hm => ?_⟩
  by_cases hi : i < rs.length
  · rw [List.getElem?_append_left hi] at hr
    rw [List.getElem?_append_left (by have := t.len; omega)] at hm
    exact t.row i r m hr hm
  · rw [List.getElem?_append_right (by omega)] at hr
    rw [List.getElem?_append_right (by have := t.len; omega), ← t.len] at hm
    exact u.row _ r m hr hm
def dTwo (F G : List Row) : PyData := .list [dTab F, dTab G]
theorem dTwo_lay (F G : List Row) : (dTwo F G).canLay0 = true := by
  show ((dTab F).canLay0 && ((dTab G).canLay0 && true)) = true
  rw [show (dTab F).canLay0 = true from dRows_lay F, show (dTab G).canLay0 = true from dRows_lay G]
  rfl
theorem dTwo_shaped (F G : List Row) : SeqAt.shaped (dTwo F G) = true := by
  have d : ∀ F : List Row, (dTab F).depth ≤ 2 := fun F => by
    show PyData.depthAll (F.map dRow) + 1 ≤ 2
    have := dRows_depth F
    omega
  have h : (dTwo F G).depth ≤ 64 := by
    show max (dTab F).depth (max (dTab G).depth 0) + 1 ≤ 64
    have h1 := d F
    have h2 := d G
    omega
  show ((dTwo F G).canLay0 && decide ((dTwo F G).depth ≤ 64)) = true
  rw [decide_eq_true h, dTwo_lay]
  rfl
theorem dTwo_eq (F G : List Row) : PyData.eqv (dTwo F G) (dTwo F G) = true := SeqAt.eqv_refl _ (dTwo_lay F G)
theorem dp_two {K : PySem.W.Frag} {H : Hp} {q a b : Addr} {rs ss : List Addr} {F G : List Row} (h : H q = some (.lst [.ref a, .ref b])) (t : Tab H a rs F) (u : Tab H b ss G) : Dp K H (.ref q) (dTwo F G) := .lst (SqL.of h) (.cons t.dp (.cons u.dp .nil))
theorem in_true {p : Int} {n : Nat} (hp : 2 ≤ p) {F : List Row} {ls : List Nat} (L : Low p n F ls) {m : Row} (w : Wf p n m) (h : Spn p n F (ent m)) : mixM p (shr ls m) F n = m := (mix_zero hp L w).mpr (spn_red L.dl L.lt h)

def topS (i : Nat) : Stmt := PySem.Challenge.pw_stillspans_k04_together_and_crossing.main.body.getD i (.Pass ⟨0, 0, 0, 0⟩)
/-! ### inverse -/
section
variable {P : Program} {w : World} {K : PySem.W.Frag} {mg : Str → Option Value} {base : Heap}
abbrev sInv : Stmt := topS 1

theorem scInv : FnScope ["p", "rest", "back"] ["p", "rest"] (defScope sInv) := ⟨rfl, rfl, rfl, by decide +kernel, rfl, by decide +kernel, by decide +kernel⟩

def spInv : Sp := fun vs H Q _ => ∃ (p r : Int), vs = [.int p, .int r] ∧ P5 p ∧ 0 < r ∧ r < p ∧ Q (.int (invM p r)) H

theorem ok_inv {f : Addr} {fd : FuncData} {k : Nat} (F : Fun K "inverse" "inverse" sInv f fd) : FnOk P w K mg base CX0 (k + 1) f fd ["p", "rest"] spInv := by
  refine F.ok scInv (fun vs H Q E h => ?_) (fun cdv A outer s H vs Q E hr h => ?_)
  · obtain ⟨p, r, rfl, _⟩ := h
    rfl
  · obtain ⟨p, r, rfl, hp, h0, h1, q⟩ := h
    refine ⟨_, pss_cons (ps_set (i := 2) scInv.nd rfl (.inl rfl) pe_int)
      (pss_cons (ps_while PassesOwn.never (pt_cmpR op_ne (pe_op op_mod (pe_op op_mul (pv 2) (pv 1)) (pv 0)) pe_int (nomark _)) (pss_one (ps_aug (i := 2) scInv.nd rfl (.inl rfl) pe_int ip_add)))
      (pss_one (ps_ret (pv 2)))), ?_⟩
    obtain ⟨i1, i2, i3⟩ := inv_ok hp h0 h1
    have le := hp.le
    have two := hp.two
    refine wh (fun (m : Nat) (σ : L2.St) (H' : Hp) => ∃ b : Int, σ = [some (.int p), some (.int r), some (.int b)] ∧ H' = H ∧ 1 ≤ b ∧ b ≤ invM p r ∧ m = (p - b).toNat) _ ⟨1, rfl, rfl, by omega, by omega, rfl⟩ fun m σ H' hW => ?_
    obtain ⟨b, rfl, rfl, b1, b2, rfl⟩ := hW
    refine ⟨_, rfl, _, rfl, _, _, rfl, rfl, .inl ⟨by omega, by omega⟩, _, rfl, _, _, rfl, rfl, (by show (0 : Int) < p; omega), rfl, _, rfl, ?_⟩
    rw [← decide_not]
    refine ite2 (fun c => ?_) (fun c => ?_)
    · have c' := of_decide_eq_true c
      have nb : b ≠ invM p r := fun e => c' (congrArg V.int ((i3 b (by omega) (by omega)).mpr e))
      refine ⟨_, fun σ' H' h => h, _, rfl, _, _, rfl, rfl, (p - (b + 1)).toNat, by omega, b + 1, rfl, rfl, by omega, by omega, rfl⟩
    · have c' : b * r % p = 1 := by
        have z := of_decide_eq_false (Bool.eq_false_iff.mpr c)
        exact V.int.inj (Classical.not_not.mp z)
      have e := (i3 b (by omega) (by omega)).mp c'
      refine ⟨_, rfl, ?_⟩
      rw [e]
      exact q
end

/-! ### multiplied_by -/
section
variable {P : Program} {w : World} {K : PySem.W.Frag} {mg : Str → Option Value} {base : Heap}
abbrev sMul : Stmt := topS 2

theorem scMul : FnScope ["p", "rest", "rests", "number"] ["p", "rest", "rests"] (defScope sMul) := ⟨rfl, rfl, rfl, by decide +kernel, rfl, by decide +kernel, by decide +kernel⟩

def spMul : Sp := fun vs H Q _ => ∃ (p r : Int) (a : Addr) (m : List Int), vs = [.int p, .int r, .ref a] ∧ 0 < p ∧ 0 ≤ r ∧ r < 1000 ∧ IL H a m ∧ m.length ≤ 1000 ∧ ∀ H' q, Same H H' → H q = none → IL H' q (mulR p r m) → Q (.ref q) H'

theorem ok_mul {f : Addr} {fd : FuncData} {k : Nat} (F : Fun K "multiplied_by" "multiplied_by" sMul f fd) : FnOk P w K mg base CX0 (k + 1) f fd ["p", "rest", "rests"] spMul := by
  refine F.ok scMul (fun vs H Q E h => ?_) (fun cdv A outer s H vs Q E hr h => ?_)
  · obtain ⟨p, r, a, m, rfl, _⟩ := h
    rfl
  · obtain ⟨p, r, a, m, rfl, hp, h0, h1, hm, hl, q⟩ := h
    refine ⟨_, pss_one (ps_ret (pe_lc (own := [("number", 3)]) (g := gName 3) (tt := tYes) (by rfl) scMul.nd (pi_list (pv 2)) (blkOk_by (own := [("number", 3)]) (N := ["p", "rest", "rests", "number"]) (sc := defScope sMul) (by decide +kernel))
      (fun _ _ _ _ _ => pg_name (i := 3) scMul.nd rfl (Or.inl rfl)) (fun _ _ _ _ _ => pts_nil) (fun _ _ _ _ _ => pe_op op_mod (pe_op op_mul (pv 1) (pv 3)) (pv 0)))), ?_⟩
    refine ⟨_, rfl, a, rfl, ⟨_, IL.sq hm⟩, fun D hD => lc_it (walk_list (K := K) (a := a) (xs := iv m)) (fun i H' => Mk H D (mulR p r m) i H') (Mk.start hD) (fun i H' _ mk => (mk.same.seq (IL.sq hm))) (fun i x H1 H2 hi mk y => ?_) (fun H' mk => ?_)⟩
    · obtain ⟨rfl, hx⟩ := y
      obtain ⟨z, hz, rfl⟩ := iv_inv hx
      refine ⟨rfl, ?_⟩
      refine t_yes ?_
      refine ⟨_, rfl, _, rfl, _, _, rfl, rfl, .inl ⟨by omega, by omega⟩, _, rfl, _, _, rfl, rfl, hp, ?_⟩
      exact mk.step hD (Same.refl _) (by unfold mulR; rw [List.getElem?_map, hz]; rfl) (by unfold mulR; rw [List.length_map]; exact hl)
    · exact q H' D mk.same hD (mk.done (by unfold mulR; rw [List.length_map, List.length_map]))
end

/-! ### cleared -/
section
variable {P : Program} {w : World} {K : PySem.W.Frag} {mg : Str → Option Value} {base : Heap}
abbrev sClr : Stmt := topS 5

theorem scClr : FnScope ["p", "rows", "place", "by", "row", "number", "taken"] ["p", "rows", "place", "by"] (defScope sClr) := ⟨rfl, rfl, rfl, by decide +kernel, rfl, by decide +kernel, by decide +kernel⟩

def spClr : Sp := fun vs H Q _ => ∃ (p : Int) (n pl : Nat) (a b : Addr) (rs : List Addr) (M : List Row) (bm : Row), vs = [.int p, .ref a, .int (pl : Int), .ref b] ∧ 2 ≤ p ∧ p ≤ 11 ∧ n ≤ 1000 ∧ pl < n ∧ Tab H a rs M ∧ Wfs p n M ∧ M.length ≤ 1000 ∧ IL H b bm ∧ Wf p n bm ∧
  ∀ H' q qs, Same H H' → H q = none → Tab H' q qs (clearM p pl bm M) → (∀ (j : Nat) r, qs[j]? = some r → rs[j]? = some r ∨ H r = none) → (rs.Nodup → qs.Nodup) → q ∉ qs → Q (.ref q) H'

theorem ok_clr {f : Addr} {fd : FuncData} {k : Nat} (F : Fun K "cleared" "cleared" sClr f fd) (mz : mg "zip" = none) : FnOk P w K mg base CX0 (k + 1) f fd ["p", "rows", "place", "by"] spClr := by
  refine F.ok scClr (fun vs H Q E h => ?_) (fun cdv A outer s H vs Q E hr h => ?_)
  · obtain ⟨p, n, pl, a, b, rs, M, bm, rfl, _⟩ := h
    rfl
  · obtain ⟨p, n, pl, a, b, rs, M, bm, rfl, hp, hp2, hn, hpl, hT, hM, hML, hb, wb, q⟩ := h
    refine ⟨_, pss_one (ps_ret (pe_lc (own := [("row", 4)]) (g := gName 4) (tt := tYes) (by rfl) scClr.nd (pi_list (pv 1)) (blkOk_by (own := [("row", 4)]) (N := ["p", "rows", "place", "by", "row", "number", "taken"]) (sc := defScope sClr) (by decide +kernel))
      (fun _ _ _ _ _ => pg_name (i := 4) scClr.nd rfl (Or.inr rfl)) (fun _ _ _ _ _ => pts_nil)
      (fun s1 H1 C1 cl1 fp1 => pe_ifExp (pt_cmpR op_eq (pe_ix (ixL K) (pv 4) (pv 2) (fun _ _ => rfl)) pe_int (nomark _)) (pv 4)
        (pe_lc (own := [("number", 5), ("taken", 6)]) (g := gTup K 2 (gCons (gName 5) (gCons (gName 6) gNil))) (tt := tYes) (by rfl) scClr.nd (piZ K rfl (by rfl) mz (pa_cons (pv 4) (pa_cons (pv 3) pa_nil))) (blkOk_by (own := [("number", 5), ("taken", 6)]) (N := ["p", "rows", "place", "by", "row", "number", "taken"]) (sc := relS (lcScope (stE (stN (defBody sClr) 0))) (defScope sClr)) (by decide +kernel))
          (fun _ _ _ _ _ => pg_tup rfl (pgs_cons (pg_name (i := 5) scClr.nd rfl (Or.inl rfl)) (pgs_cons (pg_name (i := 6) scClr.nd rfl (Or.inl rfl)) pgs_nil))) (fun _ _ _ _ _ => pts_nil)
          (fun _ _ _ _ _ => pe_op op_mod (pe_op op_sub (pv 5) (pe_op op_mul (pe_ix (ixL K) (pv 4) (pv 2) (fun _ _ => rfl)) (pv 6))) (pv 0)))))), ?_⟩
    refine ⟨_, rfl, a, rfl, ⟨_, SqL.of hT.at_⟩, fun D hD => lc_it (walk_list (K := K) (a := a) (xs := rf rs)) (fun i H' => ∃ qs, Mt H D rs (clearM p pl bm M) i H' qs) ⟨[], Mt.start hD⟩ (fun i H' _ ⟨qs, mt⟩ => (mt.same.seq (SqL.of hT.at_))) (fun i x H1 H2 hi ⟨qs, mt⟩ y => ?_) (fun H' ⟨qs, mt⟩ => ?_)⟩
    · obtain ⟨rfl, hx⟩ := y
      obtain ⟨r, hr, rfl⟩ := rf_inv hx
      obtain ⟨m, hm⟩ := get_of (l := M) (i := i) (by have := get_lt hr; have := hT.len; omega)
      have hrow : IL H2 r m := mt.same _ _ (hT.row i r m hr hm)
      have wm := hM m (List.mem_of_getElem? hm)
      have hlm := wm.len
      have hlb := wb.len
      have gi := clearM_get (p := p) (pl := pl) (bm := bm) hm
      have em := wm.ent hpl
      refine ⟨rfl, ?_⟩
      refine t_yes ?_
      refine ⟨_, rfl, _, rfl, r, _, _, _, rfl, rfl, IL.sq hrow, atI_nat (iv_ent (by omega)), rfl, _, rfl, ?_⟩
      refine ite2 (fun c => ?_) (fun c => ?_)
      · have c0 : ent m pl = 0 := V.int.inj (of_decide_eq_true c)
        rw [c0, lessR_zero wm wb] at gi
        refine ⟨_, rfl, ?_⟩
        obtain ⟨acc, e1, e2, e3⟩ := mt.step hD (tab_tracked hT) (Same.refl _) gi hrow (.inl hr) (by unfold clearM; rw [List.length_map]; exact hML)
        exact ⟨acc, e1, e2, _, e3⟩
      · refine ⟨_, rfl, _, rfl, r, b, _, _, rfl, IL.sq hrow, IL.sq (mt.same _ _ hb), fun D2 hD2 => ?_⟩
        refine lc_it (walk_zip (K := K) (a := r) (b := b) (xs := iv m) (ys := iv bm) (n := n) (by rw [List.length_map, List.length_map, hlm, hlb, Nat.min_self])) (fun j H' => Mk H2 D2 (lessR p m (ent m pl) bm) j H') (Mk.start hD2) (fun j H' _ mk => ⟨mk.same.seq (IL.sq hrow), mk.same.seq (IL.sq (mt.same _ _ hb))⟩) (fun j x H3 H4 hj mk y => ?_) (fun H' mk => ?_)
        · obtain ⟨T, x1, x2, rfl, nT, rfl, g1, g2⟩ := y
          obtain ⟨z1, hz1, rfl⟩ := iv_inv g1
          obtain ⟨z2, hz2, rfl⟩ := iv_inv g2
          have r1 := wm.rng z1 (List.mem_of_getElem? hz1)
          have r2 := wb.rng z2 (List.mem_of_getElem? hz2)
          refine ⟨T, _, rfl, .inl (.inl upd_same), rfl, _, _, rfl, _, _, rfl, rfl, rfl, ?_⟩
          refine t_yes ?_
          have sT : Same H3 (upd H3 T (.tup [.int z1, .int z2])) := same_new nT
          refine ⟨_, rfl, _, rfl, _, rfl, r, _, _, _, rfl, rfl, IL.sq (sT _ _ (mk.same _ _ hrow)), atI_nat (iv_ent (by omega)), _, rfl, _, _, rfl, rfl, .inl ⟨by omega, by omega⟩, _, _, rfl, rfl, _, rfl, _, _, rfl, rfl, (by show 0 < p; omega), ?_⟩
          exact mk.step hD2 sT (lessR_get hz1 hz2) (by rw [lessR_len wm wb]; exact hn)
        · have fin := mk.done (by rw [lessR_len wm wb])
          obtain ⟨acc, e1, e2, e3⟩ := mt.step hD (tab_tracked hT) mk.same gi fin (.inr hD2) (by unfold clearM; rw [List.length_map]; exact hML)
          exact ⟨acc, e1, e2, _, e3⟩
    · exact q H' D qs mt.same hD (mt.tab (by unfold clearM; rw [List.length_map, List.length_map]; exact hT.len)) mt.src mt.nd mt.nD
end

/-! ### low -/
section
variable {P : Program} {w : World} {K : PySem.W.Frag} {mg : Str → Option Value} {base : Heap}
abbrev sLow : Stmt := topS 6

theorem scLow : FnScope ["p", "rows", "form", "row", "left", "place", "at"] ["p", "rows"] (defScope sLow) := ⟨rfl, rfl, rfl, by decide +kernel, rfl, by decide +kernel, by decide +kernel⟩

def spLow : Sp := fun vs H Q _ => ∃ (p : Int) (n : Nat) (a : Addr) (rs : List Addr) (M : List Row), vs = [.int p, .ref a] ∧ P5 p ∧ n ≤ 100 ∧ Tab H a rs M ∧ Wfs p n M ∧ M.length ≤ 100 ∧
  ∀ H' q qs, Same H H' → H q = none → Tab H' q qs (lowM p (invM p) M) → (∀ r ∈ qs, H r = none) → qs.Nodup → Q (.ref q) H'

theorem ok_low {f fI fM fC : Addr} {fd fdI fdM fdC : FuncData} {k : Nat} (F : Fun K "low" "low" sLow f fd)
    (GI : FnOk P w K mg base CX0 (k + 1) fI fdI ["p", "rest"] spInv) (bI : Binds K fdI ["p", "rest"] []) (kI : PySem.W.keepIn K (.ref fI) = true) (mI : mg "inverse" = some (.ref fI))
    (GM : FnOk P w K mg base CX0 (k + 1) fM fdM ["p", "rest", "rests"] spMul) (bM : Binds K fdM ["p", "rest", "rests"] []) (kM : PySem.W.keepIn K (.ref fM) = true) (mM : mg "multiplied_by" = some (.ref fM))
    (GC : FnOk P w K mg base CX0 (k + 1) fC fdC ["p", "rows", "place", "by"] spClr) (bC : Binds K fdC ["p", "rows", "place", "by"] []) (kC : PySem.W.keepIn K (.ref fC) = true) (mC : mg "cleared" = some (.ref fC))
    (ml : mg "len" = none) (mr : mg "range" = none) (mt : mg "list" = none) : FnOk P w K mg base CX0 (k + 2) f fd ["p", "rows"] spLow := by
  refine F.ok scLow (fun vs H Q E h => ?_) (fun cdv A outer s H vs Q E hr h => ?_)
  · obtain ⟨p, n, a, rs, M, rfl, _⟩ := h
    rfl
  · obtain ⟨p, n, a, rs, M, rfl, hp, hn, hT, hM, hML, q⟩ := h
    refine ⟨_, pss_cons (ps_set (i := 2) scLow.nd rfl (.inl rfl) (pe_lst pa_nil))
      (pss_cons (ps_setLc (i := 4) (own := [("row", 3)]) (g := gName 3) (tt := tYes) (by rfl) scLow.nd rfl rfl (sw_true rfl rfl rfl (by decide +kernel)) (pi_list (pv 1)) (blkOk_by (own := [("row", 3)]) (N := ["p", "rows", "form", "row", "left", "place", "at"]) (sc := defScope sLow) (by decide +kernel))
        (fun _ _ _ _ _ => pg_name (i := 3) scLow.nd rfl (Or.inl rfl)) (fun _ _ _ _ _ => pts_nil) (fun _ _ _ _ _ => pe_callTy (cLst K rfl) (by rfl) mt (by decide +kernel) (pa_cons (pv 3) pa_nil)))
      (pss_cons (ps_for PassesOwn.never rfl (pi_range1 rfl mr (pa_cons (pe_imp (fun σ H Q => ∃ a rs M, σ[1]? = some (some (V.ref a)) ∧ Tab H a rs M ∧ Q (.int (lenM M : Nat)) H) (pe_ifExp (pt_truth (pv 1) (by intro _; rfl)) (pe_callB call_len_seq (by rfl) ml PySem.boot_len (pa_cons (pe_ix ix_list (pv 1) pe_int (fun _ _ => rfl)) pa_nil)) pe_int)
          (fun σ H Q h => by
            obtain ⟨a, rs, M, e, t, q⟩ := h
            refine ⟨_, e, !(rf rs).isEmpty, .inl ⟨_, SqL.of t.at_, rfl⟩, ?_⟩
            cases rs with
            | nil =>
              cases M with
              | nil => exact q
              | cons m M => have := t.len; simp at this
            | cons x xs =>
              cases M with
              | nil => have := t.len; simp at this
              | cons m M =>
                have hm : IL H x m := t.row 0 x m rfl rfl
                refine ⟨_, e, a, _, _, _, rfl, rfl, SqL.of t.at_, atI_nat (j := 0) rfl, x, _, rfl, .inl (IL.sq hm), ?_⟩
                rw [List.length_map]
                exact q)) pa_nil)) (pg_name (i := 5) scLow.nd rfl (Or.inl rfl))
        (pss_cons (ps_set (i := 6) scLow.nd rfl (.inl rfl) pe_int)
        (pss_cons (ps_while PassesOwn.never (pt_imp (fun σ H Q => ∃ (la : Addr) (ls : List Addr) (L : List Row) (j i : Nat), σ[4]? = some (some (V.ref la)) ∧ σ[6]? = some (some (V.int (j : Int))) ∧ σ[5]? = some (some (V.int (i : Int))) ∧ Tab H la ls L ∧ (∀ m ∈ L, i < m.length) ∧ Q (decide (j < L.length ∧ ent (L.getD j []) i = 0)) H) (PW.pt (pw_and (pt_cmpR op_lt (pv 6) (pe_callB call_len_seq (by rfl) ml PySem.boot_len (pa_cons (pv 4) pa_nil)) (nomark _)) (pw_and1 (pt_cmpR op_eq (pe_ix ix_list (pe_ix ix_list (pv 4) (pv 6) (fun _ _ => rfl)) (pv 5) (fun _ _ => rfl)) pe_int (nomark _)))))
          (fun σ H Q h => by
            obtain ⟨la, ls, L, j, i, e4, e6, e5, t, hw, q⟩ := h
            refine ⟨_, e6, _, e4, la, _, rfl, .inl (SqL.of t.at_), _, _, rfl, rfl, _, rfl, ?_⟩
            have lenl : (rf ls).length = L.length := by rw [List.length_map, t.len]
            rw [lenl]
            by_cases hj : j < L.length
            · rw [decide_eq_true (show (j : Int) < (L.length : Int) by omega)]
              refine iteT ?_
              obtain ⟨m, hm⟩ := get_of hj
              obtain ⟨r, hr⟩ := get_of (l := ls) (i := j) (by have := t.len; omega)
              have gm : L.getD j [] = m := getD_of hm
              rw [gm] at q
              have hrow := t.row j r m hr hm
              refine ⟨_, e4, _, e6, la, _, _, _, rfl, rfl, SqL.of t.at_, atI_nat (rf_get hr), _, e5, r, _, _, _, rfl, rfl, IL.sq hrow, atI_nat (iv_ent (hw m (List.mem_of_getElem? hm))), rfl, _, rfl, ?_⟩
              rw [show decide (V.int (ent m i) = V.int 0) = decide (j < L.length ∧ ent m i = 0) from decide_eq_decide.mpr ⟨fun e => ⟨hj, V.int.inj e⟩, fun e => congrArg V.int e.2⟩]
              exact q
            · rw [decide_eq_false (show ¬ (j : Int) < (L.length : Int) by omega)]
              refine iteF ?_
              rw [decide_eq_false (fun e => hj e.1)] at q
              exact q))
          (pss_one (ps_aug (i := 6) scLow.nd rfl (.inl rfl) pe_int ip_add)))
        (pss_one (ps_if (pt_cmpR op_lt (pv 6) (pe_callB call_len_seq (by rfl) ml PySem.boot_len (pa_cons (pv 4) pa_nil)) (nomark _))
          (pss_cons (ps_set (i := 3) scLow.nd rfl (.inl rfl) (pe_bm PySem.F.plainAttrs_list PySem.F.slot_list_pop PySem.F.type_list_pop mt_popAt (pv 4) (pa_cons (pv 6) pa_nil)))
          (pss_cons (ps_set (i := 3) scLow.nd rfl (.inl rfl) (pe_call GM hr (by rfl) mM kM bM .nil pass0 (pa_cons (pv 0) (pa_cons (pe_call GI hr (by rfl) mI kI bI .nil pass0 (pa_cons (pv 0) (pa_cons (pe_ix ix_list (pv 3) (pv 5) (fun _ _ => rfl)) pa_nil))) (pa_cons (pv 3) pa_nil)))))
          (pss_cons (ps_set (i := 4) scLow.nd rfl (.inl rfl) (pe_call GC hr (by rfl) mC kC bC .nil pass0 (pa_cons (pv 0) (pa_cons (pv 4) (pa_cons (pv 5) (pa_cons (pv 3) pa_nil))))))
          (pss_cons (ps_set (i := 2) scLow.nd rfl (.inl rfl) (pe_call GC hr (by rfl) mC kC bC .nil pass0 (pa_cons (pv 0) (pa_cons (pv 2) (pa_cons (pv 5) (pa_cons (pv 3) pa_nil))))))
          (pss_one (ps_expr (pe_bm PySem.F.plainAttrs_list PySem.F.slot_list_append PySem.F.type_list_append mt_append (pv 2) (pa_cons (pv 3) pa_nil))))))))
          pss_nil)))))
      (pss_one (ps_ret (pv 2))))), ?_⟩
    have two := hp.two
    have le := hp.le
    have hv := inv_is hp
    -- form = []
    refine ⟨Nat.zero_le _, fun fa nfa => ?_⟩
    have s1 : Same H (L2.upd H fa (.lst [])) := same_new nfa
    -- left
    refine ⟨_, rfl, a, rfl, ⟨_, s1.seq (SqL.of hT.at_)⟩, fun la nla => ?_⟩
    have hT1 := hT.same s1
    refine lc_it (walk_list (K := K) (a := a) (xs := rf rs)) (fun i H' => ∃ qs, Mt (L2.upd H fa (.lst [])) la [] M i H' qs) ⟨[], Mt.start nla⟩ (fun i H' _ ⟨qs, m⟩ => (m.same.seq (SqL.of hT1.at_))) (fun i x H1 H2 hi ⟨qs, m⟩ y => ?_) (fun H2 ⟨ls, m⟩ => ?_)
    · obtain ⟨rfl, hx⟩ := y
      obtain ⟨r, hrr, rfl⟩ := rf_inv hx
      obtain ⟨mm, hm⟩ := get_of (l := M) (i := i) (by have := get_lt hrr; have := hT.len; omega)
      have hrow : IL H2 r mm := m.same _ _ (hT1.row i r mm hrr hm)
      refine ⟨rfl, ?_⟩
      refine t_yes ?_
      refine ⟨_, rfl, r, _, rfl, .inl (IL.sq hrow), fun l nl => ?_⟩
      obtain ⟨acc, e1, e2, e3⟩ := m.step nla (fun r hr => by simp at hr) (same_new nl) hm upd_same (.inr nl) (by omega)
      exact ⟨acc, e1, e2, _, e3⟩
    -- the loop over the places
    have hlen : (rf rs).length = M.length := by rw [List.length_map, hT.len]
    have tl := m.tab hlen
    have start : LowI H H2 fa la [] ls [] M := ⟨s1.trans m.same, ⟨m.same _ _ upd_same, rfl, fun i r mm hr => by simp at hr⟩, tl, nfa, same_none s1 nla, (fun e => by rw [← e, upd_same] at nla; cases nla), fun r hr => by simp at hr, List.nodup_nil⟩
    have hT2 := hT1.same m.same
    have hmax : lenM M ≤ 100 := by
      cases M with
      | nil => exact Nat.zero_le _
      | cons r M =>
        show r.length ≤ 100
        rw [(hM r List.mem_cons_self).len]
        exact hn
    have hnM : lenM M ≤ n := by
      cases M with
      | nil => exact Nat.zero_le _
      | cons r M => exact Nat.le_of_eq (hM r List.mem_cons_self).len
    refine ⟨a, rs, M, rfl, hT2, _, rfl, by omega, by omega, ?_⟩
    refine for_range (lo := 0) (n := lenM M) (fun i σ H' => ∃ fa la fs ls y3 y5 y6, σ = [some (.int p), some (.ref a), some (.ref fa), y3, some (.ref la), y5, y6] ∧ LowI H H' fa la fs ls (runM p (invM p) M i).1 (runM p (invM p) M i).2) ⟨fa, la, [], ls, none, none, none, rfl, start⟩ (fun i σ H' hi hW => ?_) (fun σ H' hW => ?_)
    · obtain ⟨fa, la, fs, ls, y3, y5, y6, rfl, inv⟩ := hW
      obtain ⟨lsR, R⟩ := run_all two hv hM i (by omega)
      have lens := runM_len (p := p) (inv := invM p) (rows := M) i
      have est : runM p (invM p) M (i + 1) = stepM p (invM p) i (runM p (invM p) M i) := rfl
      generalize runM p (invM p) M i = S at *
      obtain ⟨Fm, L⟩ := S
      dsimp only at *
      have iz : V.int (0 + (i : Int)) = V.int (i : Int) := by rw [Int.zero_add]
      rw [iz]
      -- at = 0; while
      refine step_name ?_
      refine step_seq ?_
      refine step_asgC ?_
      dsimp only
      refine step_seq ?_
      show tWhile _ _ _ [some (.int p), some (.ref a), some (.ref fa), y3, some (.ref la), some (.int (i : Int)), some (.int ((0 : Nat) : Int))] H'
      refine wh (fun m σ H2 => H2 = H' ∧ ∃ j : Nat, σ = [some (.int p), some (.ref a), some (.ref fa), y3, some (.ref la), some (.int (i : Int)), some (.int (j : Int))] ∧ m = L.length - j ∧ j ≤ L.length ∧ ∀ k, k < j → ent (L.getD k []) i = 0) _ ⟨rfl, 0, rfl, rfl, Nat.zero_le _, fun k hk => absurd hk (Nat.not_lt_zero _)⟩ fun mm σ H2 hW => ?_
      obtain ⟨rfl, j, rfl, rfl, hj, hz⟩ := hW
      have tl := inv.tl
      have lenl := tl.len
      have wfL := R.wf
      dsimp only at wfL
      refine ⟨la, ls, L, j, i, rfl, rfl, rfl, tl, fun m hm => (by rw [(wfL m hm).len]; omega), ite2 (fun c => ?_) (fun c => ?_)⟩
      · have c' := of_decide_eq_true c
        refine ⟨_, fun σ' H' h => h, _, rfl, _, _, rfl, rfl, L.length - (j + 1), by omega, rfl, j + 1, rfl, rfl, by omega, fun k hk => ?_⟩
        by_cases ek : k = j
        · rw [ek]
          exact c'.2
        · exact hz k (by omega)
      · have c' : ¬ (j < L.length ∧ ent (L.getD j []) i = 0) := of_decide_eq_false (Bool.eq_false_iff.mpr c)
        refine ⟨_, rfl, _, rfl, la, _, rfl, .inl (SqL.of tl.at_), _, _, rfl, rfl, _, rfl, ?_⟩
        rw [show (rf ls).length = L.length by rw [List.length_map, lenl]]
        refine ite2 (fun c2 => ?_) (fun c2 => ?_)
        · have hjl : j < L.length := by have := of_decide_eq_true c2; omega
          have hne : ent (L.getD j []) i ≠ 0 := fun e => c' ⟨hjl, e⟩
          have hpick := pick_is hjl hz hne
          obtain ⟨m0, hm0⟩ := get_of hjl
          obtain ⟨r0, hr0⟩ := get_of (l := ls) (i := j) (by omega)
          have gm : L.getD j [] = m0 := getD_of hm0
          rw [gm] at hne
          have hrow := tl.row j r0 m0 hr0 hm0
          have wm0 := wfL m0 (List.mem_of_getElem? hm0)
          have est2 : runM p (invM p) M (i + 1) = (clearM p i (mulR p (invM p (ent m0 i)) m0) Fm ++ [mulR p (invM p (ent m0 i)) m0], clearM p i (mulR p (invM p (ent m0 i)) m0) (L.eraseIdx j)) := by
            rw [est]
            unfold stepM
            dsimp only
            rw [hpick]
            dsimp only
            rw [gm]
          rw [est2]
          dsimp only
          -- row = left.pop(at)
          refine ⟨_, rfl, .inl ⟨rfl, _, SqL.of tl.at_⟩, _, rfl, la, _, (j : Int), j, _, rfl, rfl, tl.at_, by omega, by omega, seqIx (by rw [List.length_map]; omega), rf_get hr0, ?_⟩
          have er := tl.erase (j := j) (by omega)
          have hr0m : r0 ∈ ls := List.mem_of_getElem? hr0
          have cls : ∃ x xs, ls = x :: xs := by
            cases ls with
            | nil => simp at hr0m
            | cons x xs => exact ⟨x, xs, rfl⟩
          have neR : ∀ (r : Addr) (m : List Int), IL H2 r m → r ≠ la := fun r m h => by
            obtain ⟨x, xs, rfl⟩ := cls
            exact rf_ne tl.at_ h
          have sH1 : Same H (L2.upd H2 la (.lst ((rf ls).eraseIdx j))) := same_upd inv.nl inv.same
          have tf1 : Tab (L2.upd H2 la (.lst ((rf ls).eraseIdx j))) fa fs Fm := inv.tf.upd inv.ne fun r hr => by
            obtain ⟨m, _, hm⟩ := IL.ref inv.tf hr
            exact neR r m hm
          have row1 : IL (L2.upd H2 la (.lst ((rf ls).eraseIdx j))) r0 m0 := by
            show (L2.upd H2 la _) r0 = _
            rw [upd_ne (neR r0 m0 hrow)]
            exact hrow
          generalize L2.upd H2 la (.lst ((rf ls).eraseIdx j)) = H3 at *
          have em := wm0.ent (show i < n by omega)
          obtain ⟨v1, v2, _⟩ := inv_ok hp (show 0 < ent m0 i by omega) em.2
          -- row = multiplied_by(p, inverse(p, row[place]), row)
          refine ⟨_, rfl, _, rfl, _, rfl, _, rfl, r0, _, _, _, rfl, rfl, IL.sq row1, atI_nat (iv_ent (by rw [wm0.len]; omega)), ⟨p, ent m0 i, rfl, hp, by omega, em.2, ?_⟩⟩
          refine ⟨_, rfl, ⟨p, invM p (ent m0 i), r0, m0, rfl, by omega, by omega, by omega, row1, by rw [wm0.len]; omega, fun H4 q1 s4 n4 i4 => ?_⟩⟩
          have wrow : Wf p n (mulR p (invM p (ent m0 i)) m0) := mulR_wf (by omega) wm0
          generalize hrowe : mulR p (invM p (ent m0 i)) m0 = row at *
          have lenE : (L.eraseIdx j).length ≤ L.length := List.length_eraseIdx_le _ _
          -- left = cleared(..)
          refine ⟨_, rfl, _, rfl, _, rfl, _, rfl, ⟨p, n, i, la, q1, ls.eraseIdx j, L.eraseIdx j, row, rfl, two, le, by omega, by omega, er.same s4, fun m hm => wfL m (List.mem_of_mem_eraseIdx hm), by omega, i4, wrow, fun H5 la2 ls2 s5 n5 t5 _ _ _ => ?_⟩⟩
          -- form = cleared(..)
          refine ⟨_, rfl, _, rfl, _, rfl, _, rfl, ⟨p, n, i, fa, q1, fs, Fm, row, rfl, two, le, by omega, by omega, tf1.same (s4.trans s5), R.low.wf, by omega, s5 _ _ i4, wrow, fun H6 fa2 fs2 s6 n6 t6 src6 nd6 nD6 => ?_⟩⟩
          -- form.append(row)
          have i5 := s5 _ _ i4
          have i6 := s6 _ _ i5
          have lf : fs2.length = Fm.length := by rw [t6.len, clearM_len]
          have nq : q1 ≠ fa2 := ne_of_none i5 n6
          refine ⟨_, rfl, .inl ⟨rfl, _, SqL.of t6.at_⟩, _, rfl, fa2, _, _, rfl, rfl, t6.at_, by rw [List.length_map]; exact small1000 (by omega), ?_⟩
          refine ⟨fa2, la2, fs2 ++ [q1], ls2, _, _, _, rfl, ?_⟩
          have s35 : Same H H5 := sH1.trans (s4.trans s5)
          refine ⟨same_upd (same_none s35 n6) (s35.trans s6), ⟨?_, ?_, fun t r m hr hm => ?_⟩, ?_, same_none s35 n6, same_none (sH1.trans s4) n5, fun e => ?_, fun r hr => ?_, nodup_snoc (nd6 inv.nd) fun hm => ?_⟩
          · rw [upd_same]
            simp
          · rw [List.length_append, List.length_append, lf, clearM_len]
            rfl
          · by_cases ht : t < fs2.length
            · rw [List.getElem?_append_left ht] at hr
              rw [List.getElem?_append_left (by rw [clearM_len]; omega)] at hm
              show (L2.upd H6 fa2 _) r = _
              rw [upd_ne (fun z : r = fa2 => nD6 (z ▸ List.mem_of_getElem? hr))]
              exact t6.row t r m hr hm
            · have ht2 := get_lt hr
              rw [List.length_append, List.length_singleton] at ht2
              have et : t = fs2.length := by omega
              rw [List.getElem?_append_right (by omega), et, Nat.sub_self] at hr
              rw [List.getElem?_append_right (by rw [clearM_len]; omega), et, lf, clearM_len, Nat.sub_self] at hm
              cases Option.some.inj hr
              cases Option.some.inj hm
              show (L2.upd H6 fa2 _) q1 = _
              rw [upd_ne nq]
              exact i6
          · refine (t5.same s6).upd (ne_of_none t5.at_ n6) fun r hr => ?_
            obtain ⟨m, _, hm⟩ := IL.ref t5 hr
            exact ne_of_none hm n6
          · rw [← e] at n5
            have z := same_none s5 n6
            rw [e] at n6
            rw [t5.at_] at n6
            cases n6
          · rcases List.mem_append.mp hr with h | h
            · obtain ⟨t, ht⟩ := List.getElem?_of_mem h
              rcases src6 t r ht with h2 | h2
              · exact inv.fresh r (List.mem_of_getElem? h2)
              · exact same_none s35 h2
            · rw [List.mem_singleton.mp h]
              exact same_none sH1 n4
          · obtain ⟨t, ht⟩ := List.getElem?_of_mem hm
            rcases src6 t q1 ht with h2 | h2
            · obtain ⟨m, _, hm⟩ := IL.ref tf1 (List.mem_of_getElem? h2)
              rw [IL, n4] at hm
              cases hm
            · rw [i5] at h2
              cases h2
        · have hpick : pick i L = none := pick_non fun k hk => hz k (by
            have : ¬ (j : Int) < (L.length : Int) := fun z => c2 (decide_eq_true z)
            omega)
          have est2 : runM p (invM p) M (i + 1) = (Fm, L) := by
            rw [est]
            unfold stepM
            dsimp only
            rw [hpick]
          rw [est2]
          exact ⟨fa, la, fs, ls, _, _, _, rfl, inv⟩
    · obtain ⟨fa, la, fs, ls, y3, y5, y6, rfl, inv⟩ := hW
      exact ⟨_, rfl, q H' fa fs inv.same inv.nf inv.tf inv.fresh inv.nd⟩
end

/-! ### lead -/
section
variable {P : Program} {w : World} {K : PySem.W.Frag} {mg : Str → Option Value} {base : Heap}
abbrev sLead : Stmt := topS 4
theorem scLead : FnScope ["row", "place", "number"] ["row"] (defScope sLead) := ⟨rfl, rfl, rfl, by decide +kernel, rfl, by decide +kernel, by decide +kernel⟩
def spLead : Sp := fun vs H Q _ => ∃ (a : Addr) (m : Row) (l : Nat), vs = [.ref a] ∧ IL H a m ∧ l < m.length ∧ (∀ j, j < l → ent m j = 0) ∧ ent m l ≠ 0 ∧ ∀ H', Same H H' → Q (.int (l : Int)) H'
theorem ok_lead {f : Addr} {fd : FuncData} {k : Nat} (F : Fun K "lead" "lead" sLead f fd) (me : mg "enumerate" = none) : FnOk P w K mg base CX0 (k + 1) f fd ["row"] spLead := by
  refine F.ok scLead (fun vs H Q E h => ?_) (fun cdv A outer s H vs Q E hr h => ?_)
  · obtain ⟨a, m, l, rfl, _⟩ := h
    rfl
  · obtain ⟨a, m, l, rfl, hm, hl, hz, hn, q⟩ := h
    refine ⟨_, pss_cons (ps_for PassesOwn.never rfl (pi_enum (by rfl) me (pa_cons (pv 0) pa_nil)) (pg_tup rfl (pgs_cons (pg_name (i := 1) scLead.nd rfl (Or.inl rfl)) (pgs_cons (pg_name (i := 2) scLead.nd rfl (Or.inl rfl)) pgs_nil)))
        (pss_one (ps_if (pt_cmpR op_ne (pv 2) pe_int (nomark _)) (pss_one (ps_ret (pv 1))) pss_nil)))
      (pss_one (ps_ret pe_non)), ?_⟩
    refine ⟨_, rfl, a, _, rfl, IL.sq hm, ?_⟩
    refine for_it (walk_enum (K := K) (a := a) (xs := iv m)) (fun i σ H' => i ≤ l ∧ Same H H' ∧ ∃ y1 y2, σ = [some (.ref a), y1, y2]) ⟨Nat.zero_le _, Same.refl H, none, none, rfl⟩ (fun i σ H' _ h => h.2.1.seq (IL.sq hm)) (fun i x σ H1 H2 hi hW y => ?_) (fun σ H' hW => ?_)
    · obtain ⟨il, sm, y1, y2, rfl⟩ := hW
      obtain ⟨T, x1, x2, rfl, nT, rfl, g1, g2⟩ := y
      cases Option.some.inj g1
      obtain ⟨z, hzz, rfl⟩ := iv_inv g2
      have sT : Same H1 (L2.upd H1 T (.tup [.int (i : Int), .int z])) := same_new nT
      have hil : i < m.length := by rw [List.length_map] at hi; exact hi
      have ez : z = ent m i := by
        rw [ent_some hil] at hzz
        exact (Option.some.inj hzz).symm
      refine ⟨T, _, rfl, .inl (.inl upd_same), rfl, _, _, rfl, _, _, rfl, rfl, ?_⟩
      refine ⟨_, rfl, rfl, _, rfl, ?_⟩
      rw [← decide_not]
      refine ite2 (fun c => ?_) (fun c => ?_)
      · have c1 : z ≠ 0 := fun e => of_decide_eq_true c (congrArg V.int e)
        have e : i = l := by
          by_cases h : i < l
          · exact absurd (ez.trans (hz i h)) c1
          · omega
        rw [← e] at q
        exact ⟨_, rfl, q _ (sm.trans sT)⟩
      · have c1 : z = 0 := Classical.byContradiction fun e => c (decide_eq_true fun w => e (V.int.inj w))
        have ne : i ≠ l := fun e => hn (by rw [← e, ← ez, c1])
        exact ⟨by omega, sm.trans sT, _, _, rfl⟩
    · rw [List.length_map] at hW
      have := hW.1
      omega
end

/-! ### _law_cell -/
section
variable {P : Program} {w : World} {K : PySem.W.Frag} {mg : Str → Option Value} {base : Heap}
abbrev sCell : Stmt := topS 11

theorem scCell : FnScope ["_law_script", "_law_k", "_law_seed"] ["_law_script", "_law_k"] (defScope sCell) := ⟨rfl, rfl, rfl, by decide +kernel, rfl, by decide +kernel, by decide +kernel⟩

def spCell (K : PySem.W.Frag) : Sp := fun vs H Q _ => ∃ (a : Addr) (ns : List Int) (k : Nat), vs = [.ref a, .int (k : Int)] ∧ SqL K H a (iv ns) ∧ k ≤ 1000 ∧ ∀ c : Int, Q (.int c) H

theorem ok_cell {f : Addr} {fd : FuncData} {k : Nat} (F : Fun K "_law_cell" "_law_cell" sCell f fd) (ml : mg "len" = none) : FnOk P w K mg base CX0 (k + 1) f fd ["_law_script", "_law_k"] (spCell K) := by
  refine F.ok scCell (fun vs H Q E h => ?_) (fun cdv A outer s H vs Q E hr h => ?_)
  · obtain ⟨a, ns, k, rfl, _⟩ := h
    rfl
  · obtain ⟨a, ns, k, rfl, hS, hk, q⟩ := h
    refine ⟨_, pss_cons (ps_if (pt_cmpR op_lt (pv 1) (pe_callB call_len_seq (by rfl) ml PySem.boot_len (pa_cons (pv 0) pa_nil)) (nomark _)) (pss_one (ps_ret (pe_ix ix_list (pv 0) (pv 1) (fun _ _ => rfl)))) pss_nil)
      (pss_cons (ps_set (i := 2) scCell.nd rfl (.inl rfl) (pe_op op_add (pe_op op_mul pe_int (pv 1)) pe_int))
      (C8.pss_cut (ps_if (pt_cmpR op_gt (pe_callB call_len_seq (by rfl) ml PySem.boot_len (pa_cons (pv 0) pa_nil)) pe_int (nomark _))
        (pss_one (ps_set (i := 2) scCell.nd rfl (.inl rfl) (pe_op op_add (pv 2) (pe_op op_mod (pe_ix ix_list (pv 0) (pe_op op_mod (pv 1) (pe_callB call_len_seq (by rfl) ml PySem.boot_len (pa_cons (pv 0) pa_nil))) (fun _ _ => rfl)) pe_int)))) pss_nil)
      (pss_one (ps_ret (pe_op op_mod (pe_op op_mul (pe_op op_mod (pe_op op_mul (pv 2) pe_int) pe_int) (pe_op op_add (pv 1) pe_int)) pe_int))))), ?_⟩
    have hl : (iv ns).length = ns.length := List.length_map _
    refine ⟨_, rfl, _, rfl, a, _, rfl, .inl hS, _, _, rfl, rfl, _, rfl, ?_⟩
    rw [hl]
    refine ite2 (fun c => ?_) (fun c => ?_)
    · have c' := of_decide_eq_true c
      exact ⟨_, rfl, _, rfl, a, _, _, _, rfl, rfl, hS, atI_nat (iv_ent (by omega)), q _⟩
    · refine ⟨_, rfl, _, _, rfl, rfl, .inl ⟨by omega, by omega⟩, _, _, rfl, rfl, ?_⟩
      refine ⟨fun σ' H' => ∃ sd : Int, σ' = [some (.ref a), some (.int (k : Int)), some (.int sd)] ∧ H' = H ∧ 0 ≤ sd ∧ sd < 100000000, ?_, fun σ' H' hW => ?_⟩
      · refine ⟨_, rfl, a, _, rfl, .inl hS, _, _, rfl, rfl, _, rfl, ?_⟩
        rw [hl]
        refine ite2 (fun c => ?_) (fun c => ?_)
        · have c' := of_decide_eq_true c
          have b1 := Int.emod_nonneg (k : Int) (show (ns.length : Int) ≠ 0 by omega)
          have b2 := Int.emod_lt_of_pos (k : Int) (show (0 : Int) < ns.length by omega)
          obtain ⟨j, hj⟩ := Int.eq_ofNat_of_zero_le b1
          have hjl : j < ns.length := by omega
          refine ⟨_, rfl, _, rfl, _, rfl, _, rfl, a, _, rfl, .inl hS, _, _, rfl, rfl, (by show (0 : Int) < ((iv ns).length : Int); rw [hl]; omega), a, _, _, _, rfl, rfl, hS, at_of (j := j) (by rw [← hj, hl]) (iv_ent hjl), _, _, rfl, rfl, (by show (0 : Int) < 65519; decide), _, _, rfl, rfl, ?_⟩
          have b3 := Int.emod_nonneg (ent ns j) (show (65519 : Int) ≠ 0 by decide)
          have b4 := Int.emod_lt_of_pos (ent ns j) (show (0 : Int) < 65519 by decide)
          exact ⟨_, rfl, rfl, by omega, by omega⟩
        · exact ⟨_, rfl, rfl, by omega, by omega⟩
      · obtain ⟨sd, rfl, rfl, h0, h1⟩ := hW
        refine ⟨_, rfl, _, _, rfl, rfl, .inl ⟨by omega, by omega⟩, _, _, rfl, rfl, (by show (0 : Int) < 65537; decide), _, rfl, _, _, rfl, rfl, _, _, rfl, rfl, .inr ⟨by omega, by omega⟩, _, _, rfl, rfl, (by show (0 : Int) < 65521; decide), q _⟩
end

/-! ### _law_bag -/
section
variable {P : Program} {w : World} {K : PySem.W.Frag} {mg : Str → Option Value} {base : Heap}
abbrev sBag : Stmt := topS 12

theorem scBag : FnScope ["_law_script", "_law_at", "_law_cell_here"] ["_law_script", "_law_at"] (defScope sBag) := ⟨rfl, rfl, rfl, by decide +kernel, rfl, by decide +kernel, by decide +kernel⟩

def spBag (K : PySem.W.Frag) : Sp := fun vs H Q _ => ∃ (a : Addr) (ns : List Int) (k : Nat), vs = [.ref a, .int (k : Int)] ∧ SqL K H a (iv ns) ∧ k ≤ 1000 ∧ ∀ q H', H q = none → Same H H' → Bg H' q 1001 → Q (.ref q) H'

theorem ok_bag {f fC : Addr} {fd fdC : FuncData} {k : Nat} (F : Fun K "_law_bag" "_law_bag" sBag f fd)
    (GC : FnOk P w K mg base CX0 (k + 1) fC fdC ["_law_script", "_law_k"] (spCell K)) (bC : Binds K fdC ["_law_script", "_law_k"] []) (kC : PySem.W.keepIn K (.ref fC) = true) (mC : mg "_law_cell" = some (.ref fC)) (ma : mg "abs" = none) :
    FnOk P w K mg base CX0 (k + 2) f fd ["_law_script", "_law_at"] (spBag K) := by
  refine F.ok scBag (fun vs H Q E h => ?_) (fun cdv A outer s H vs Q E hr h => ?_)
  · obtain ⟨a, ns, k, rfl, _⟩ := h
    rfl
  · obtain ⟨a, ns, k, rfl, hS, hk, q⟩ := h
    refine ⟨_, pss_cons (ps_set (i := 2) scBag.nd rfl (.inl rfl) (pe_call GC hr (by rfl) mC kC bC .nil pass0 (pa_cons (pv 0) (pa_cons (pv 1) pa_nil))))
      (pss_cons (ps_if (pt_cmpR op_ge (pe_callB call_abs (by rfl) ma (by decide +kernel) (pa_cons (pv 2) pa_nil)) (pe_op op_pow pe_int pe_int) (nomark _))
        (pss_one (ps_ret (pe_lst (pa_cons (pe_callB call_abs (by rfl) ma (by decide +kernel) (pa_cons (pv 2) pa_nil)) (pa_cons pe_int pa_nil))))) pss_nil)
      (pss_one (ps_ret (pe_lst (pa_cons (pe_op op_mod (pv 2) pe_int) (pa_cons (pe_op op_add (pv 1) pe_int) pa_nil)))))), ?_⟩
    refine ⟨_, rfl, _, rfl, ⟨a, ns, k, rfl, hS, hk, fun c => ?_⟩⟩
    refine ⟨_, rfl, _, rfl, _, _, rfl, rfl, ⟨by decide, by decide, by decide⟩, _, _, rfl, rfl, _, rfl, ?_⟩
    refine ite2 (fun _ => ?_) (fun _ => ?_)
    · refine ⟨_, rfl, _, rfl, (by show 2 ≤ sizeLine; decide), fun l nl => q l _ nl (same_new nl) ⟨_, 0, upd_same, ?_, by omega, by omega, .inl rfl⟩⟩
      split <;> omega
    · refine ⟨_, rfl, _, _, rfl, rfl, (by show (0 : Int) < 2147483647; decide), _, rfl, _, _, rfl, rfl, (by show 2 ≤ sizeLine; decide), fun l nl => q l _ nl (same_new nl) ⟨_, _, upd_same, Int.emod_nonneg _ (by decide), by omega, by omega, .inr (Int.emod_lt_of_pos _ (by decide))⟩⟩
end

/-! ### _law_take -/
section
variable {P : Program} {w : World} {K : PySem.W.Frag} {mg : Str → Option Value} {base : Heap}
abbrev sTake : Stmt := topS 13

theorem scTake : FnScope ["_law_bag_here", "_law_many", "_law_digit"] ["_law_bag_here", "_law_many"] (defScope sTake) := ⟨rfl, rfl, rfl, by decide +kernel, rfl, by decide +kernel, by decide +kernel⟩

def spTake : Sp := fun vs H Q _ => ∃ (b : Addr) (m : Int) (c : Nat), vs = [.ref b, .int m] ∧ 0 < m ∧ m < 1073741824 ∧ Bg H b c ∧ c < 2 ^ 40 ∧ ∀ (d : Int) H', 0 ≤ d → d < m → Off b H H' → (∀ q, q ≠ b → H' q = H q) → Bg H' b (c + 1) → Q (.int d) H'

theorem ok_take {f : Addr} {fd : FuncData} {k : Nat} (F : Fun K "_law_take" "_law_take" sTake f fd) : FnOk P w K mg base CX0 (k + 1) f fd ["_law_bag_here", "_law_many"] spTake := by
  refine F.ok scTake (fun vs H Q E h => ?_) (fun cdv A outer s H vs Q E hr h => ?_)
  · obtain ⟨a, m, c, rfl, _⟩ := h
    rfl
  · obtain ⟨b, m, c, rfl, h0, h1, ⟨x, y, hb, hx, hy, hyc, hxy⟩, hc, q⟩ := h
    refine ⟨_, pss_cons (ps_if (pt_cmpR op_eq (pe_ix ix_list (pv 0) pe_int (fun _ _ => rfl)) pe_int (nomark _))
        (pss_cons (ps_set (i := 2) scTake.nd rfl (.inl rfl) (pe_op op_mod (pe_ix ix_list (pv 0) pe_int (fun _ _ => rfl)) (pv 1)))
        (pss_cons (ps_asg (pe_op op_fdiv (pe_ix ix_list (pv 0) pe_int (fun _ _ => rfl)) (pv 1)) (pg_sub (pv 0) pe_int set_list (fun _ => rfl)))
        (pss_one (ps_ret (pv 2))))) pss_nil)
      (pss_cons (ps_asg (pe_op op_mod (pe_op op_add (pe_op op_add (pe_op op_mul (pe_ix ix_list (pv 0) pe_int (fun _ _ => rfl)) pe_int) (pe_op op_mul (pe_op op_mul pe_int (pe_ix ix_list (pv 0) pe_int (fun _ _ => rfl))) (pe_ix ix_list (pv 0) pe_int (fun _ _ => rfl)))) pe_int) pe_int) (pg_sub (pv 0) pe_int set_list (fun _ => rfl)))
      (pss_cons (ps_asg (pe_op op_add (pe_ix ix_list (pv 0) pe_int (fun _ _ => rfl)) pe_int) (pg_sub (pv 0) pe_int set_list (fun _ => rfl)))
      (pss_one (ps_ret (pe_op op_mod (pe_op op_fdiv (pe_op op_mod (pe_op op_mul (pe_ix ix_list (pv 0) pe_int (fun _ _ => rfl)) pe_int) pe_int) pe_int) (pv 1)))))), ?_⟩
    refine ⟨_, rfl, b, _, _, _, rfl, rfl, SqL.of hb, atI_nat (j := 1) rfl, rfl, _, rfl, ite2 (fun e => ?_) (fun e => ?_)⟩
    · refine ⟨_, rfl, b, _, _, _, rfl, rfl, SqL.of hb, atI_nat (j := 0) rfl, _, rfl, _, _, rfl, rfl, h0, ?_⟩
      refine ⟨_, rfl, b, _, _, _, rfl, rfl, SqL.of hb, atI_nat (j := 0) rfl, _, rfl, _, _, rfl, rfl, ⟨h0, h1⟩, _, rfl, b, _, _, 0, rfl, rfl, hb, rfl, ?_⟩
      have ey : y = 0 := V.int.inj (of_decide_eq_true e)
      refine ⟨_, rfl, q _ _ (Int.emod_nonneg _ (by omega)) (Int.emod_lt_of_pos _ h0) (fun r o n h => by rw [upd_ne n]; exact h) (fun r n => upd_ne n) ⟨_, y, upd_same, Int.ediv_nonneg hx (by omega), hy, by omega, .inl ey⟩⟩
    · have ny : y ≠ 0 := fun z => e (decide_eq_true (congrArg V.int z))
      have hx2 : x < 2147483647 := hxy.resolve_left ny
      refine ⟨_, rfl, b, _, _, _, rfl, rfl, SqL.of hb, atI_nat (j := 0) rfl, _, _, rfl, rfl, .inl ⟨by omega, by omega⟩, _, rfl, b, _, _, _, rfl, rfl, SqL.of hb, atI_nat (j := 1) rfl, _, _, rfl, rfl, .inl ⟨by omega, by omega⟩, _, rfl, b, _, _, _, rfl, rfl, SqL.of hb, atI_nat (j := 1) rfl, _, _, rfl, rfl, .inr ⟨by omega, by omega⟩, _, _, rfl, rfl, _, _, rfl, rfl, _, _, rfl, rfl, (by show (0 : Int) < 2147483647; decide), _, rfl, b, _, _, 0, rfl, rfl, hb, rfl, ?_⟩
      have m0 : ∀ z : Int, 0 ≤ z % 2147483647 := fun z => Int.emod_nonneg _ (by decide)
      have m1 : ∀ z : Int, z % 2147483647 < 2147483647 := fun z => Int.emod_lt_of_pos _ (by decide)
      dsimp only
      generalize hz : (x * 48271 + 7919 * y * y + 17) % 2147483647 = z at *
      have z0 : 0 ≤ z := hz ▸ m0 _
      have z1 : z < 2147483647 := hz ▸ m1 _
      have hb2 : (upd H b (.lst ([V.int x, V.int y].set 0 (.int z)))) b = some (.lst [.int z, .int y]) := upd_same
      refine ⟨_, rfl, b, _, _, _, rfl, rfl, SqL.of hb2, atI_nat (j := 1) rfl, _, _, rfl, rfl, _, rfl, b, _, _, 1, rfl, rfl, hb2, rfl, ?_⟩
      refine ⟨_, rfl, b, [.int z, .int (y + 1)], _, _, rfl, rfl, SqL.of upd_same, atI_nat (j := 0) rfl, _, _, rfl, rfl, .inl ⟨by omega, by omega⟩, _, _, rfl, rfl, (by show (0 : Int) < 2147483629; decide), _, _, rfl, rfl, ⟨by decide, by decide⟩, _, rfl, _, _, rfl, rfl, h0, ?_⟩
      exact q _ _ (Int.emod_nonneg _ (by omega)) (Int.emod_lt_of_pos _ h0) (fun r o n h => by rw [upd_ne n, upd_ne n]; exact h) (fun r n => by rw [upd_ne n, upd_ne n]) ⟨z, y + 1, upd_same, z0, by omega, by omega, .inr z1⟩
end

/-! ### _law_prime -/
section
variable {P : Program} {w : World} {K : PySem.W.Frag} {mg : Str → Option Value} {base : Heap}
abbrev sPrime : Stmt := topS 14

theorem scPrime : FnScope ["_law_bag_here"] ["_law_bag_here"] (defScope sPrime) := ⟨rfl, rfl, rfl, by decide +kernel, rfl, by decide +kernel, by decide +kernel⟩

def spPrime : Sp := fun vs H Q _ => ∃ (b : Addr) (c : Nat), vs = [.ref b] ∧ Bg H b c ∧ c < 2 ^ 40 ∧ ∀ p H', P5 p → Off b H H' → Bg H' b (c + 1) → Q (.int p) H'

theorem ok_prime {f fT : Addr} {fd fdT : FuncData} {k : Nat} (F : Fun K "_law_prime" "_law_prime" sPrime f fd)
    (GT : FnOk P w K mg base CX0 (k + 1) fT fdT ["_law_bag_here", "_law_many"] spTake) (bT : Binds K fdT ["_law_bag_here", "_law_many"] []) (kT : PySem.W.keepIn K (.ref fT) = true) (mT : mg "_law_take" = some (.ref fT)) :
    FnOk P w K mg base CX0 (k + 2) f fd ["_law_bag_here"] spPrime := by
  refine F.ok scPrime (fun vs H Q E h => ?_) (fun cdv A outer s H vs Q E hr h => ?_)
  · obtain ⟨a, c, rfl, _⟩ := h
    rfl
  · obtain ⟨b, c, rfl, hb, hc, q⟩ := h
    refine ⟨_, pss_one (ps_ret (pe_ix ix_list (pe_lst (pa_cons pe_int (pa_cons pe_int (pa_cons pe_int (pa_cons pe_int (pa_cons pe_int pa_nil)))))) (pe_call GT hr (by rfl) mT kT bT .nil pass0 (pa_cons (pv 0) (pa_cons pe_int pa_nil))) (fun _ _ => rfl))), ?_⟩
    refine ⟨(by show 5 ≤ sizeLine; decide), fun l nl => ?_⟩
    have nb := hb.ne nl
    refine ⟨_, rfl, ⟨b, 5, c, rfl, by decide, by decide, hb.same (upd_ne nb.symm), hc, fun d H' d0 d5 off hq hb' => ?_⟩⟩
    have hl : H' l = some (.lst [.int 2, .int 3, .int 5, .int 7, .int 11]) := off _ _ nb upd_same
    have off2 : Off b H H' := fun r o n e => off r o n (by rw [upd_ne (ne_of_none e nl)]; exact e)
    have cs : d = 0 ∨ d = 1 ∨ d = 2 ∨ d = 3 ∨ d = 4 := by omega
    rcases cs with rfl | rfl | rfl | rfl | rfl
    · exact ⟨l, _, _, _, rfl, rfl, SqL.of hl, atI_nat (j := 0) rfl, q _ _ (.inl rfl) off2 hb'⟩
    · exact ⟨l, _, _, _, rfl, rfl, SqL.of hl, atI_nat (j := 1) rfl, q _ _ (.inr (.inl rfl)) off2 hb'⟩
    · exact ⟨l, _, _, _, rfl, rfl, SqL.of hl, atI_nat (j := 2) rfl, q _ _ (.inr (.inr (.inl rfl))) off2 hb'⟩
    · exact ⟨l, _, _, _, rfl, rfl, SqL.of hl, atI_nat (j := 3) rfl, q _ _ (.inr (.inr (.inr (.inl rfl)))) off2 hb'⟩
    · exact ⟨l, _, _, _, rfl, rfl, SqL.of hl, atI_nat (j := 4) rfl, q _ _ (.inr (.inr (.inr (.inr rfl)))) off2 hb'⟩
end

/-! ### _law_sparse -/
section
variable {P : Program} {w : World} {K : PySem.W.Frag} {mg : Str → Option Value} {base : Heap}
abbrev sSparse : Stmt := topS 15

theorem scSparse : FnScope ["_law_p", "_law_length", "_law_bag_here", "_law_row", "_law_some", "_law_k", "_law_number"] ["_law_p", "_law_length", "_law_bag_here"] (defScope sSparse) := ⟨rfl, rfl, rfl, by decide +kernel, rfl, by decide +kernel, by decide +kernel⟩

def spSparse : Sp := fun vs H Q _ => ∃ (p : Int) (n : Nat) (b : Addr) (c : Nat), vs = [.int p, .int (n : Int), .ref b] ∧ 0 < p ∧ p ≤ 11 ∧ n ≤ 100 ∧ Bg H b c ∧ c < 2 ^ 30 ∧ ∀ q row H', Wf p n row → Off b H H' → H q = none → IL H' q row → Bg H' b (c + 1 + 2 * n) → Q (.ref q) H'

theorem ok_sparse {f fT : Addr} {fd fdT : FuncData} {k : Nat} (F : Fun K "_law_sparse" "_law_sparse" sSparse f fd)
    (GT : FnOk P w K mg base CX0 (k + 1) fT fdT ["_law_bag_here", "_law_many"] spTake) (bT : Binds K fdT ["_law_bag_here", "_law_many"] []) (kT : PySem.W.keepIn K (.ref fT) = true) (mT : mg "_law_take" = some (.ref fT))
    (mr : mg "range" = none) (mi : mg "int" = none) : FnOk P w K mg base CX0 (k + 2) f fd ["_law_p", "_law_length", "_law_bag_here"] spSparse := by
  refine F.ok scSparse (fun vs H Q E h => ?_) (fun cdv A outer s H vs Q E hr h => ?_)
  · obtain ⟨p, n, b, c, rfl, _⟩ := h
    rfl
  · obtain ⟨p, n, b, c, rfl, hp, hp2, hn, hb, hc, q⟩ := h
    refine ⟨_, pss_cons (ps_set (i := 3) scSparse.nd rfl (.inl rfl) (pe_lst pa_nil))
      (pss_cons (ps_set (i := 4) scSparse.nd rfl (.inl rfl) (pe_op op_add pe_int (pe_call GT hr (by rfl) mT kT bT .nil pass0 (pa_cons (pv 2) (pa_cons pe_int pa_nil)))))
      (pss_cons (ps_for PassesOwn.never rfl (pi_range1 rfl mr (pa_cons (pv 1) pa_nil)) (pg_name (i := 5) scSparse.nd rfl (Or.inl rfl))
        (pss_cons (ps_set (i := 6) scSparse.nd rfl (.inl rfl) (pe_call GT hr (by rfl) mT kT bT .nil pass0 (pa_cons (pv 2) (pa_cons (pv 0) pa_nil))))
        (pss_one (ps_expr (pe_bm PySem.F.plainAttrs_list PySem.F.slot_list_append PySem.F.type_list_append mt_append (pv 3) (pa_cons (pe_op op_mul (pv 6) (pe_callTy call_int1 (by rfl) mi (by decide +kernel) (pa_cons (pe_cmpR op_lt (pe_call GT hr (by rfl) mT kT bT .nil pass0 (pa_cons (pv 2) (pa_cons pe_int pa_nil))) (pv 4) (nomark _)) pa_nil))) pa_nil))))))
      (pss_one (ps_ret (pv 3))))), ?_⟩
    refine ⟨Nat.zero_le _, fun l nl => ?_⟩
    have nb := hb.ne nl
    refine ⟨_, rfl, ⟨b, 4, c, rfl, by decide, by decide, hb.same (upd_ne nb.symm), by omega, fun d H' d0 d1 off hq hb' => ?_⟩⟩
    have il0 : IL H' l [] := off _ _ nb upd_same
    have off0 : Off b H H' := fun r o n e => off r o n (by rw [upd_ne (ne_of_none e nl)]; exact e)
    refine ⟨_, _, rfl, rfl, _, rfl, (n : Int), rfl, by omega, by omega, ?_⟩
    refine for_range (lo := 0) (n := n) (fun i σ H2 => ∃ (row : List Int) (y5 y6 : Option V), σ = [some (.int p), some (.int (n : Int)), some (.ref b), some (.ref l), some (.int (1 + d)), y5, y6] ∧ Wf p i row ∧ Off b H H2 ∧ IL H2 l row ∧ Bg H2 b (c + 1 + 2 * i)) ⟨[], none, none, rfl, ⟨rfl, fun x hx => by simp at hx⟩, off0, il0, hb'⟩ (fun i σ H2 hi hW => ?_) (fun σ H2 hW => ?_)
    · obtain ⟨row, y5, y6, rfl, wr, off1, il1, hb1⟩ := hW
      refine ⟨_, rfl, _, rfl, ⟨b, p, c + 1 + 2 * i, rfl, hp, by omega, hb1, by omega, fun x H3 x0 x1 off2 hq2 hb2 => ?_⟩⟩
      have il2 : IL H3 l row := off2 _ _ nb il1
      refine ⟨_, rfl, .inl ⟨rfl, _, SqL.of il2⟩, _, rfl, _, rfl, ⟨b, 4, c + 1 + 2 * i + 1, rfl, by decide, by decide, hb2, by omega, fun y H4 y0 y1 off3 hq3 hb3 => ?_⟩⟩
      have il3 : IL H4 l row := off3 _ _ nb il2
      refine ⟨_, rfl, _, _, rfl, rfl, .inr ⟨_, rfl, ?_⟩⟩
      have bit : ∀ k : Bool, (0 : Int) ≤ (if k = true then 1 else 0) ∧ (if k = true then (1 : Int) else 0) ≤ 1 := fun k => by cases k <;> decide
      have bb := bit (decide (y < 1 + d))
      generalize (if decide (y < 1 + d) = true then (1 : Int) else 0) = z at *
      refine ⟨_, _, rfl, rfl, .inl ⟨by omega, by omega⟩, l, _, _, rfl, rfl, il3, by rw [List.length_map, wr.len]; exact small1000 (by omega), ?_⟩
      have zz : 0 ≤ x * z ∧ x * z < p := by
        have cs : z = 0 ∨ z = 1 := by omega
        rcases cs with rfl | rfl
        · rw [Int.mul_zero]; omega
        · rw [Int.mul_one]; omega
      refine ⟨row ++ [x * z], _, _, rfl, ⟨by rw [List.length_append, wr.len]; rfl, fun u hu => ?_⟩, ?_, ?_, ?_⟩
      · rcases List.mem_append.mp hu with h | h
        · exact wr.rng u h
        · rw [List.mem_singleton.mp h]
          exact zz
      · exact ((off1.trans off2).trans off3).new nl
      · show (upd H4 l _) l = _
        rw [upd_same]
        simp
      · have e : c + 1 + 2 * (i + 1) = c + 1 + 2 * i + 1 + 1 := by omega
        rw [e]
        exact hb3.same (upd_ne nb.symm)
    · obtain ⟨row, y5, y6, rfl, wr, off1, il1, hb1⟩ := hW
      exact ⟨_, rfl, q l row H2 wr off1 nl il1 hb1⟩
end

/-! ### _law_rows -/
section
variable {P : Program} {w : World} {K : PySem.W.Frag} {mg : Str → Option Value} {base : Heap}
abbrev sRows : Stmt := topS 16

abbrev nRows : List Str := ["_law_p", "_law_length", "_law_many", "_law_bag_here", "_law_rows_here", "_law_k", "_law_row", "_law_one", "_law_other", "_law_rest", "_law_a", "_law_b"]

theorem scRows : FnScope nRows ["_law_p", "_law_length", "_law_many", "_law_bag_here"] (defScope sRows) := ⟨rfl, rfl, rfl, by decide +kernel, rfl, by decide +kernel, by decide +kernel⟩

def spRows : Sp := fun vs H Q _ => ∃ (p : Int) (n many : Nat) (b : Addr) (c : Nat), vs = [.int p, .int (n : Int), .int (many : Int), .ref b] ∧ 0 < p ∧ p ≤ 11 ∧ n ≤ 100 ∧ many ≤ 100 ∧ Bg H b c ∧ c < 2 ^ 20 ∧
  ∀ q rs M H', Wfs p n M → M.length = many → Off b H H' → H q = none → Tab H' q rs M → (∀ r ∈ rs, H r = none) → Bg H' b (c + many * (2 * n + 5)) → Q (.ref q) H'

theorem ok_rows {f fT fS : Addr} {fd fdT fdS : FuncData} {k : Nat} (F : Fun K "_law_rows" "_law_rows" sRows f fd)
    (GT : FnOk P w K mg base CX0 (k + 2) fT fdT ["_law_bag_here", "_law_many"] spTake) (bT : Binds K fdT ["_law_bag_here", "_law_many"] []) (kT : PySem.W.keepIn K (.ref fT) = true) (mT : mg "_law_take" = some (.ref fT))
    (GS : FnOk P w K mg base CX0 (k + 2) fS fdS ["_law_p", "_law_length", "_law_bag_here"] spSparse) (bS : Binds K fdS ["_law_p", "_law_length", "_law_bag_here"] []) (kS : PySem.W.keepIn K (.ref fS) = true) (mS : mg "_law_sparse" = some (.ref fS))
    (mr : mg "range" = none) (ml : mg "len" = none) (mz : mg "zip" = none) : FnOk P w K mg base CX0 (k + 3) f fd ["_law_p", "_law_length", "_law_many", "_law_bag_here"] spRows := by
  refine F.ok scRows (fun vs H Q E h => ?_) (fun cdv A outer s H vs Q E hr h => ?_)
  · obtain ⟨p, n, many, b, c, rfl, _⟩ := h
    rfl
  · obtain ⟨p, n, many, b, c, rfl, hp, hp2, hn, hmany, hb, hc, q⟩ := h
    refine ⟨_, pss_cons (ps_set (i := 4) scRows.nd rfl (.inl rfl) (pe_lst pa_nil))
      (pss_cons (ps_for PassesOwn.never rfl (pi_range1 rfl mr (pa_cons (pv 2) pa_nil)) (pg_name (i := 5) scRows.nd rfl (Or.inl rfl))
        (pss_cons (ps_set (i := 6) scRows.nd rfl (.inl rfl) (pe_call GS hr (by rfl) mS kS bS .nil pass0 (pa_cons (pv 0) (pa_cons (pv 1) (pa_cons (pv 3) pa_nil)))))
        (C8.pss_cut (ps_if (PW.pt (pw_and (pt_cmpR op_gt (pe_callB call_len_seq (by rfl) ml PySem.boot_len (pa_cons (pv 4) pa_nil)) pe_int (nomark _)) (pw_and1 (pt_cmpR op_eq (pe_call GT hr (by rfl) mT kT bT .nil pass0 (pa_cons (pv 3) (pa_cons pe_int pa_nil))) pe_int (nomark _)))))
          (pss_cons (ps_set (i := 7) scRows.nd rfl (.inl rfl) (pe_ix ix_list (pv 4) (pe_call GT hr (by rfl) mT kT bT .nil pass0 (pa_cons (pv 3) (pa_cons (pe_callB call_len_seq (by rfl) ml PySem.boot_len (pa_cons (pv 4) pa_nil)) pa_nil))) (fun _ _ => rfl)))
          (pss_cons (ps_set (i := 8) scRows.nd rfl (.inl rfl) (pe_ix ix_list (pv 4) (pe_call GT hr (by rfl) mT kT bT .nil pass0 (pa_cons (pv 3) (pa_cons (pe_callB call_len_seq (by rfl) ml PySem.boot_len (pa_cons (pv 4) pa_nil)) pa_nil))) (fun _ _ => rfl)))
          (pss_cons (ps_set (i := 9) scRows.nd rfl (.inr rfl) (pe_call GT hr (by rfl) mT kT bT .nil pass0 (pa_cons (pv 3) (pa_cons (pv 0) pa_nil))))
          (pss_one (ps_setLc (i := 6) (own := [("_law_a", 10), ("_law_b", 11)]) (g := gTup K 2 (gCons (gName 10) (gCons (gName 11) gNil))) (tt := tYes) (by rfl) scRows.nd rfl rfl (sw_true rfl rfl rfl (by decide +kernel)) (pi_zip (by rfl) mz (pa_cons (pv 7) (pa_cons (pv 8) pa_nil))) (blkOk_by (own := [("_law_a", 10), ("_law_b", 11)]) (N := nRows) (sc := defScope sRows) (by decide +kernel))
            (fun _ _ _ _ _ => pg_tup rfl (pgs_cons (pg_name (i := 10) scRows.nd rfl (Or.inl rfl)) (pgs_cons (pg_name (i := 11) scRows.nd rfl (Or.inl rfl)) pgs_nil))) (fun _ _ _ _ _ => pts_nil)
            (fun _ _ _ _ _ => pe_op op_mod (pe_op op_add (pv 10) (pe_op op_mul (pv 9) (pv 11))) (pv 0)))))))
          pss_nil)
        (pss_one (ps_expr (pe_bm PySem.F.plainAttrs_list PySem.F.slot_list_append PySem.F.type_list_append mt_append (pv 4) (pa_cons (pv 6) pa_nil)))))))
      (pss_one (ps_ret (pv 4)))), ?_⟩
    refine ⟨Nat.zero_le _, fun l nl => ?_⟩
    have nb := hb.ne nl
    refine ⟨_, rfl, (many : Int), rfl, by omega, by omega, ?_⟩
    refine for_range (lo := 0) (n := many) (fun i σ H' => ∃ rs M y5 y6 y7 y8 y9 y10 y11, σ = [some (.int p), some (.int (n : Int)), some (.int (many : Int)), some (.ref b), some (.ref l), y5, y6, y7, y8, y9, y10, y11] ∧ M.length = i ∧ RowI p n b (c + i * (2 * n + 5)) H l rs M H')
      ⟨[], [], none, none, none, none, none, none, none, rfl, rfl, (Off.refl b H).new nl, ⟨upd_same, rfl, fun i r m hr => by simp at hr⟩, fun m hm => by simp at hm, fun r hr => by simp at hr, by rw [Nat.zero_mul, Nat.add_zero]; exact hb.same (upd_ne nb.symm)⟩ (fun i σ H' hi hW => ?_) (fun σ H' hW => ?_)
    · obtain ⟨rs, M, y5, y6, y7, y8, y9, y10, y11, rfl, hM, I⟩ := hW
      have bound : i * (2 * n + 5) ≤ 100 * 205 := Nat.mul_le_mul (by omega) (by omega)
      have es : c + (i + 1) * (2 * n + 5) = c + i * (2 * n + 5) + (2 * n + 5) := by rw [Nat.add_mul, Nat.one_mul]; omega
      generalize hci : c + i * (2 * n + 5) = ci at *
      refine ⟨_, rfl, _, rfl, _, rfl, ⟨p, n, b, ci, rfl, hp, hp2, hn, I.bag, by omega, fun r0 row0 H1 w0 off1 n0 il0 bag1 => ?_⟩⟩
      have nbr : ∀ r ∈ rs, r ≠ b := fun r hr e => by
        obtain ⟨m, _, hm⟩ := IL.ref I.tab hr
        have z := I.fresh r hr
        rw [e] at z
        obtain ⟨x, y, h1, _⟩ := hb
        rw [h1] at z
        cases z
      have T1 : Tab H1 l rs M := I.tab.off off1 nb nbr
      have n00 : r0 ≠ b := I.bag.ne n0
      refine ⟨fun σ' H2 => ∃ r row y7 y8 y9 y10 y11, σ' = [some (.int p), some (.int (n : Int)), some (.int (many : Int)), some (.ref b), some (.ref l), some (.int (0 + (i : Int))), some (.ref r), y7, y8, y9, y10, y11] ∧ Off b H' H2 ∧ Wf p n row ∧ IL H2 r row ∧ H' r = none ∧ Tab H2 l rs M ∧ Bg H2 b (ci + (2 * n + 5)), ?_, fun σ' H2 hW => ?_⟩
      · refine ⟨_, rfl, l, _, rfl, .inl (SqL.of T1.at_), _, _, rfl, rfl, _, rfl, ite2 (fun c1 => ?_) (fun c1 => iteF ?_)⟩
        · refine ⟨_, rfl, ⟨b, 3, _, rfl, by decide, by decide, bag1, by omega, fun d H2 d0 d1 off2 hq2 bag2 => ?_⟩⟩
          have T2 : Tab H2 l rs M := T1.off off2 nb nbr
          have il2 := off2 _ _ n00 il0
          refine ⟨rfl, _, rfl, ite2 (fun c2 => ?_) (fun c2 => ?_)⟩
          · have lenM : (rf rs).length = M.length := by rw [List.length_map, T1.len]
            have posM : 0 < M.length := by
              have := of_decide_eq_true c1
              rw [lenM] at this
              omega
            refine ⟨_, rfl, _, rfl, _, rfl, l, _, rfl, .inl (SqL.of T2.at_), ⟨b, _, _, rfl, by rw [lenM]; omega, by rw [lenM]; omega, bag2, by omega, fun d3 H3 e0 e1 off3 hq3 bag3 => ?_⟩⟩
            rw [lenM] at e1
            obtain ⟨j1, rfl⟩ := Int.eq_ofNat_of_zero_le e0
            obtain ⟨m1, hm1⟩ := get_of (l := M) (i := j1) (by omega)
            obtain ⟨r1, hr1⟩ := get_of (l := rs) (i := j1) (by have := T1.len; omega)
            have T3 : Tab H3 l rs M := T2.off off3 nb nbr
            refine ⟨l, _, _, _, rfl, rfl, SqL.of T3.at_, atI_nat (rf_get hr1), ?_⟩
            refine ⟨_, rfl, _, rfl, _, rfl, l, _, rfl, .inl (SqL.of T3.at_), ⟨b, _, _, rfl, by rw [lenM]; omega, by rw [lenM]; omega, bag3, by omega, fun d4 H4 e2 e3 off4 hq4 bag4 => ?_⟩⟩
            rw [lenM] at e3
            obtain ⟨j2, rfl⟩ := Int.eq_ofNat_of_zero_le e2
            obtain ⟨m2, hm2⟩ := get_of (l := M) (i := j2) (by omega)
            obtain ⟨r2, hr2⟩ := get_of (l := rs) (i := j2) (by have := T1.len; omega)
            have T4 : Tab H4 l rs M := T3.off off4 nb nbr
            refine ⟨l, _, _, _, rfl, rfl, SqL.of T4.at_, atI_nat (rf_get hr2), ?_⟩
            refine ⟨_, rfl, _, rfl, ⟨b, _, _, rfl, hp, by omega, bag4, by omega, fun d5 H5 e4 e5 off5 hq5 bag5 => ?_⟩⟩
            have T5 : Tab H5 l rs M := T4.off off5 nb nbr
            have w1 := I.wf m1 (List.mem_of_getElem? hm1)
            have w2 := I.wf m2 (List.mem_of_getElem? hm2)
            have il1 := T5.row j1 r1 m1 hr1 hm1
            have il22 := T5.row j2 r2 m2 hr2 hm2
            have off05 : Off b H' H5 := (((off1.trans off2).trans off3).trans off4).trans off5
            have wmix := mixR_wf (c := d5) hp w1 w2
            refine ⟨_, rfl, _, rfl, r1, r2, _, _, rfl, IL.sq il1, IL.sq il22, fun D hD => ?_⟩
            refine lc_it (walk_zip (K := K) (a := r1) (b := r2) (xs := iv m1) (ys := iv m2) (n := n) (by rw [List.length_map, List.length_map, w1.len, w2.len, Nat.min_self])) (fun j H6 => Mk H5 D (mixR p d5 m1 m2) j H6) (Mk.start hD) (fun j H6 _ mk => ⟨mk.same.seq (IL.sq il1), mk.same.seq (IL.sq il22)⟩) (fun j x H6 H7 hj mk y => ?_) (fun H6 mk => ?_)
            · obtain ⟨T, x1, x2, rfl, nT, rfl, g1, g2⟩ := y
              obtain ⟨z1, hz1, rfl⟩ := iv_inv g1
              obtain ⟨z2, hz2, rfl⟩ := iv_inv g2
              refine ⟨T, _, rfl, .inl (.inl upd_same), rfl, _, _, rfl, _, _, rfl, rfl, rfl, ?_⟩
              refine t_yes ?_
              refine ⟨_, rfl, _, rfl, _, rfl, _, _, rfl, rfl, .inl ⟨by omega, by omega⟩, _, _, rfl, rfl, _, rfl, _, _, rfl, rfl, hp, ?_⟩
              exact mk.step hD (same_new nT) (mixR_get hz1 hz2) (by rw [wmix.len]; omega)
            · refine ⟨D, _, _, _, _, _, _, rfl, off05.trans (Off.of mk.same), wmix, mk.done (by rw [wmix.len]), off05.free hD (bag5.ne hD), T5.same mk.same, ?_⟩
              have z := bag5.mono (d := ci + (2 * n + 5)) (by omega)
              obtain ⟨x, y, h1, h2⟩ := z
              exact ⟨x, y, mk.same _ _ h1, h2⟩
          · exact ⟨r0, row0, _, _, _, _, _, rfl, off1.trans off2, w0, il2, n0, T2, bag2.mono (by omega)⟩
        · exact ⟨r0, row0, _, _, _, _, _, rfl, off1, w0, il0, n0, T1, bag1.mono (by omega)⟩
      · obtain ⟨r, row, z7, z8, z9, z10, z11, rfl, off2, wr, il, nr, T2, bag2⟩ := hW
        have lenM : (rf rs).length = M.length := by rw [List.length_map, T1.len]
        refine ⟨_, rfl, .inl ⟨rfl, _, SqL.of T2.at_⟩, _, rfl, l, _, _, rfl, rfl, T2.at_, by rw [lenM]; exact small1000 (by omega), ?_⟩
        have nrl : r ≠ l := fun e => by
          rw [e, I.tab.at_] at nr
          cases nr
        have nrb : r ≠ b := fun e => by
          obtain ⟨x, y, h1, _⟩ := I.bag
          rw [e, h1] at nr
          cases nr
        refine ⟨rs ++ [r], M ++ [row], _, _, _, _, _, _, _, rfl, by rw [List.length_append, hM]; rfl, (I.off.trans off2).new nl, T2.push il nrl, fun m hm => ?_, fun x hx => ?_, ?_⟩
        · rcases List.mem_append.mp hm with h | h
          · exact I.wf m h
          · rw [List.mem_singleton.mp h]
            exact wr
        · rcases List.mem_append.mp hx with h | h
          · exact I.fresh x h
          · rw [List.mem_singleton.mp h]
            exact I.off.free nr nrb
        · rw [es]
          exact bag2.same (upd_ne nb.symm)
    · obtain ⟨rs, M, y5, y6, y7, y8, y9, y10, y11, rfl, hM, I⟩ := hW
      exact ⟨_, rfl, q l rs M H' I.wf hM I.off nl I.tab I.fresh I.bag⟩
end

/-! ### _law_back -/
section
variable {P : Program} {w : World} {K : PySem.W.Frag} {mg : Str → Option Value} {base : Heap}
abbrev sBack : Stmt := topS 17

theorem scBack : FnScope ["_law_p", "_law_rest", "_law_other"] ["_law_p", "_law_rest"] (defScope sBack) := ⟨rfl, rfl, rfl, by decide +kernel, rfl, by decide +kernel, by decide +kernel⟩

def spBack : Sp := fun vs H Q _ => ∃ (p r : Int), vs = [.int p, .int r] ∧ P5 p ∧ 0 < r ∧ r < p ∧ ∀ H', Same H H' → Q (.int (invM p r)) H'

theorem ok_back {f : Addr} {fd : FuncData} {k : Nat} (F : Fun K "_law_back" "_law_back" sBack f fd) (mr : mg "range" = none) : FnOk P w K mg base CX0 (k + 1) f fd ["_law_p", "_law_rest"] spBack := by
  refine F.ok scBack (fun vs H Q E h => ?_) (fun cdv A outer s H vs Q E hr h => ?_)
  · obtain ⟨p, r, rfl, _⟩ := h
    rfl
  · obtain ⟨p, r, rfl, hp, h0, h1, q⟩ := h
    have le := hp.le
    have two := hp.two
    obtain ⟨i1, i2, i3⟩ := inv_ok hp h0 h1
    refine ⟨_, pss_one (ps_ret (pe_ix ix_list (pe_lc (own := [("_law_other", 2)]) (g := gName 2) (by rfl) scBack.nd (pi_range1 rfl mr (pa_cons (pv 0) pa_nil)) (blkOk_by (own := [("_law_other", 2)]) (N := ["_law_p", "_law_rest", "_law_other"]) (sc := defScope sBack) (by decide +kernel))
      (fun _ _ _ _ _ => pg_name (i := 2) scBack.nd rfl (Or.inl rfl)) (fun _ _ _ _ _ => pts_one (pt_cmpR op_eq (pe_op op_mod (pe_op op_mul (pv 2) (pv 1)) (pv 0)) pe_int (nomark _)))
      (fun _ _ _ _ _ => pv 2)) pe_int (fun _ _ => rfl))), ?_⟩
    refine ⟨_, rfl, p, rfl, by omega, by omega, fun D hD => ?_⟩
    refine lc_range (lo := 0) (n := p.toNat) (fun i H' => Same H H' ∧ H' D = some (.lst (if invM p r < i then [.int (invM p r)] else []))) ⟨same_new hD, by rw [if_neg (by omega), upd_same]⟩ (fun i H' hi hW => ?_) (fun H' hW => ?_)
    · obtain ⟨sm, e⟩ := hW
      refine ⟨rfl, ?_⟩
      have iz : (0 : Int) + (i : Int) = (i : Int) := Int.zero_add _
      rw [iz]
      refine ⟨_, rfl, _, rfl, _, _, rfl, rfl, .inl ⟨by omega, by omega⟩, _, rfl, _, _, rfl, rfl, (by show 0 < p; omega), rfl, _, rfl, ?_⟩
      have i4 := i3 (i : Int) (by omega) (by omega)
      refine ite2 (fun c => ?_) (fun c => ?_)
      · have ei : (i : Int) = invM p r := i4.mp (V.int.inj (of_decide_eq_true c))
        rw [if_neg (by omega)] at e
        refine ⟨_, rfl, _, e, by decide, same_upd hD sm, ?_⟩
        rw [upd_same, if_pos (by omega), ei]
        rfl
      · have ei : (i : Int) ≠ invM p r := fun z => c (decide_eq_true (congrArg V.int (i4.mpr z)))
        refine ⟨sm, ?_⟩
        rw [e]
        by_cases h : invM p r < (i : Int)
        · rw [if_pos h, if_pos (by omega)]
        · rw [if_neg h, if_neg (by omega)]
    · obtain ⟨sm, e⟩ := hW
      rw [if_pos (by omega)] at e
      exact ⟨D, _, _, _, rfl, rfl, SqL.of e, atI_nat (j := 0) rfl, q H' sm⟩
end

/-! ### _law_less -/
section
variable {P : Program} {w : World} {K : PySem.W.Frag} {mg : Str → Option Value} {base : Heap}
abbrev sLess : Stmt := topS 18

abbrev nLess : List Str := ["_law_p", "_law_row", "_law_rest", "_law_other", "_law_a", "_law_b"]

theorem scLess : FnScope nLess ["_law_p", "_law_row", "_law_rest", "_law_other"] (defScope sLess) := ⟨rfl, rfl, rfl, by decide +kernel, rfl, by decide +kernel, by decide +kernel⟩

def spLess : Sp := fun vs H Q _ => ∃ (p c : Int) (n : Nat) (a b : Addr) (m bm : Row), vs = [.int p, .ref a, .int c, .ref b] ∧ 0 < p ∧ p ≤ 11 ∧ n ≤ 1000 ∧ 0 ≤ c ∧ c < 1000 ∧ IL H a m ∧ Wf p n m ∧ IL H b bm ∧ Wf p n bm ∧ ∀ H' q, Same H H' → H q = none → IL H' q (lessR p m c bm) → Q (.ref q) H'

theorem ok_less {f : Addr} {fd : FuncData} {k : Nat} (F : Fun K "_law_less" "_law_less" sLess f fd) (mz : mg "zip" = none) : FnOk P w K mg base CX0 (k + 1) f fd ["_law_p", "_law_row", "_law_rest", "_law_other"] spLess := by
  refine F.ok scLess (fun vs H Q E h => ?_) (fun cdv A outer s H vs Q E hr h => ?_)
  · obtain ⟨p, c, n, a, b, m, bm, rfl, _⟩ := h
    rfl
  · obtain ⟨p, c, n, a, b, m, bm, rfl, hp, hp2, hn, hc0, hc1, ha, wm, hb, wb, q⟩ := h
    refine ⟨_, pss_one (ps_ret (pe_lc (own := [("_law_a", 4), ("_law_b", 5)]) (g := gTup K 2 (gCons (gName 4) (gCons (gName 5) gNil))) (tt := tYes) (by rfl) scLess.nd (pi_zip (by rfl) mz (pa_cons (pv 1) (pa_cons (pv 3) pa_nil))) (blkOk_by (own := [("_law_a", 4), ("_law_b", 5)]) (N := nLess) (sc := defScope sLess) (by decide +kernel))
      (fun _ _ _ _ _ => pg_tup rfl (pgs_cons (pg_name (i := 4) scLess.nd rfl (Or.inl rfl)) (pgs_cons (pg_name (i := 5) scLess.nd rfl (Or.inl rfl)) pgs_nil))) (fun _ _ _ _ _ => pts_nil)
      (fun _ _ _ _ _ => pe_op op_mod (pe_op op_sub (pv 4) (pe_op op_mul (pv 2) (pv 5))) (pv 0)))), ?_⟩
    have hlm := wm.len
    have hlb := wb.len
    refine ⟨_, rfl, _, rfl, a, b, _, _, rfl, IL.sq ha, IL.sq hb, fun D hD => ?_⟩
    refine lc_it (walk_zip (K := K) (a := a) (b := b) (xs := iv m) (ys := iv bm) (n := n) (by rw [List.length_map, List.length_map, hlm, hlb, Nat.min_self])) (fun j H' => Mk H D (lessR p m c bm) j H') (Mk.start hD) (fun j H' _ mk => ⟨mk.same.seq (IL.sq ha), mk.same.seq (IL.sq hb)⟩) (fun j x H3 H4 hj mk y => ?_) (fun H' mk => ?_)
    · obtain ⟨T, x1, x2, rfl, nT, rfl, g1, g2⟩ := y
      obtain ⟨z1, hz1, rfl⟩ := iv_inv g1
      obtain ⟨z2, hz2, rfl⟩ := iv_inv g2
      refine ⟨T, _, rfl, .inl (.inl upd_same), rfl, _, _, rfl, _, _, rfl, rfl, rfl, ?_⟩
      refine t_yes ?_
      refine ⟨_, rfl, _, rfl, _, rfl, _, _, rfl, rfl, .inl ⟨by omega, by omega⟩, _, _, rfl, rfl, _, rfl, _, _, rfl, rfl, hp, ?_⟩
      exact mk.step hD (same_new nT) (lessR_get hz1 hz2) (by rw [lessR_len wm wb]; exact hn)
    · exact q H' D mk.same hD (mk.done (by rw [lessR_len wm wb]))
end

/-! ### _law_form -/
section
variable {P : Program} {w : World} {K : PySem.W.Frag} {mg : Str → Option Value} {base : Heap}
abbrev sForm : Stmt := topS 19

abbrev nForm : List Str := ["_law_p", "_law_rows_here", "_law_row", "_law_left", "_law_found", "_law_place", "_law_some", "_law_back_here", "_law_k", "_law_number", "_law_other"]

theorem scForm : FnScope nForm ["_law_p", "_law_rows_here"] (defScope sForm) := ⟨rfl, rfl, rfl, by decide +kernel, rfl, by decide +kernel, by decide +kernel⟩

def spForm : Sp := fun vs H Q _ => ∃ (p : Int) (n : Nat) (a : Addr) (rs : List Addr) (M : List Row), vs = [.int p, .ref a] ∧ P5 p ∧ n ≤ 100 ∧ Tab H a rs M ∧ Wfs p n M ∧ M.length ≤ 200 ∧
  ∀ H' q qs, Same H H' → H q = none → Tab H' q qs (lowM p (invM p) M) → (∀ r ∈ qs, H r = none) → Q (.ref q) H'

theorem ok_form {f fB fL : Addr} {fd fdB fdL : FuncData} {k : Nat} (F : Fun K "_law_form" "_law_form" sForm f fd)
    (GB : FnOk P w K mg base CX0 (k + 1) fB fdB ["_law_p", "_law_rest"] spBack) (bB : Binds K fdB ["_law_p", "_law_rest"] []) (kB : PySem.W.keepIn K (.ref fB) = true) (mB : mg "_law_back" = some (.ref fB))
    (GL : FnOk P w K mg base CX0 (k + 1) fL fdL ["_law_p", "_law_row", "_law_rest", "_law_other"] spLess) (bL : Binds K fdL ["_law_p", "_law_row", "_law_rest", "_law_other"] []) (kL : PySem.W.keepIn K (.ref fL) = true) (mL : mg "_law_less" = some (.ref fL))
    (ml : mg "len" = none) (mr : mg "range" = none) (mt : mg "list" = none) : FnOk P w K mg base CX0 (k + 2) f fd ["_law_p", "_law_rows_here"] spForm := by
  refine F.ok scForm (fun vs H Q E h => ?_) (fun cdv A outer s H vs Q E hr h => ?_)
  · obtain ⟨p, n, a, rs, M, rfl, _⟩ := h
    rfl
  · obtain ⟨p, n, a, rs, M, rfl, hp, hn, hT, hM, hML, q⟩ := h
    refine ⟨_, pss_cons (ps_set (i := 3) scForm.nd rfl (.inr rfl) (pe_lc (own := [("_law_row", 2)]) (g := gName 2) (tt := tYes) (by rfl) scForm.nd (pi_list (pv 1)) (blkOk_by (own := [("_law_row", 2)]) (N := nForm) (sc := defScope sForm) (by decide +kernel))
        (fun _ _ _ _ _ => pg_name (i := 2) scForm.nd rfl (Or.inl rfl)) (fun _ _ _ _ _ => pts_nil) (fun _ _ _ _ _ => pe_callTy (cLst K rfl) (by rfl) mt (by decide +kernel) (pa_cons (pv 2) pa_nil))))
      (pss_cons (ps_set (i := 4) scForm.nd rfl (.inl rfl) (pe_lst pa_nil))
      (pss_cons (ps_set (i := 5) scForm.nd rfl (.inr rfl) pe_int)
      (pss_cons (ps_while PassesOwn.never (pt_imp (fun σ H Q => ∃ (la : Addr) (ls : List Addr) (L : List Row) (pl n : Nat), σ[3]? = some (some (V.ref la)) ∧ σ[5]? = some (some (V.int (pl : Int))) ∧ Tab H la ls L ∧ (∀ m ∈ L, m.length = n) ∧ Q (decide (0 < L.length ∧ pl < n)) H)
          (PW.pt (pw_and (pt_cmpR op_gt (pe_callB call_len_seq (by rfl) ml PySem.boot_len (pa_cons (pv 3) pa_nil)) pe_int (nomark _)) (pw_and1 (pt_cmpR op_lt (pv 5) (pe_callB call_len_seq (by rfl) ml PySem.boot_len (pa_cons (pe_ix ix_list (pv 3) pe_int (fun _ _ => rfl)) pa_nil)) (nomark _)))))
          (fun σ H Q h => by
            obtain ⟨la, ls, L, pl, n, e3, e5, t, hw, q⟩ := h
            refine ⟨_, e3, la, _, rfl, .inl (SqL.of t.at_), _, _, rfl, rfl, _, rfl, ?_⟩
            have lenl : (rf ls).length = L.length := by rw [List.length_map, t.len]
            rw [lenl]
            by_cases hj : 0 < L.length
            · rw [decide_eq_true (show (0 : Int) < (L.length : Int) by omega)]
              refine iteT ?_
              obtain ⟨m, hm⟩ := get_of hj
              obtain ⟨r, hr⟩ := get_of (l := ls) (i := 0) (by have := t.len; omega)
              have hrow := t.row 0 r m hr hm
              have lm := hw m (List.mem_of_getElem? hm)
              refine ⟨_, e5, _, e3, la, _, _, _, rfl, rfl, SqL.of t.at_, atI_nat (j := 0) (rf_get hr), r, _, rfl, .inl (IL.sq hrow), _, _, rfl, rfl, _, rfl, ?_⟩
              rw [List.length_map, lm]
              rw [show decide ((pl : Int) < (n : Int)) = decide (0 < L.length ∧ pl < n) from decide_eq_decide.mpr ⟨fun e => ⟨hj, by omega⟩, fun e => by omega⟩]
              exact q
            · rw [decide_eq_false (show ¬ (0 : Int) < (L.length : Int) by omega)]
              refine iteF ?_
              rw [decide_eq_false (fun e => hj e.1)] at q
              exact q))
        (pss_cons (ps_setLc (i := 6) (own := [("_law_k", 8)]) (g := gName 8) (by rfl) scForm.nd rfl rfl (sw_true rfl rfl rfl (by decide +kernel)) (pi_range1 rfl mr (pa_cons (pe_callB call_len_seq (by rfl) ml PySem.boot_len (pa_cons (pv 3) pa_nil)) pa_nil)) (blkOk_by (own := [("_law_k", 8)]) (N := nForm) (sc := defScope sForm) (by decide +kernel))
            (fun _ _ _ _ _ => pg_name (i := 8) scForm.nd rfl (Or.inl rfl)) (fun _ _ _ _ _ => pts_one (pt_cmpR op_ne (pe_ix (ixL K) (pe_ix (ixL K) (pv 3) (pv 8) (fun _ _ => rfl)) (pv 5) (fun _ _ => rfl)) pe_int (nomark _))) (fun _ _ _ _ _ => pv 8))
        (C8.pss_cut (ps_if (pt_cmpR op_gt (pe_callB call_len_seq (by rfl) ml PySem.boot_len (pa_cons (pv 6) pa_nil)) pe_int (nomark _))
            (pss_cons (ps_set (i := 2) scForm.nd rfl (.inr rfl) (pe_bm PySem.F.plainAttrs_list PySem.F.slot_list_pop PySem.F.type_list_pop mt_popAt (pv 3) (pa_cons (pe_ix ix_list (pv 6) pe_int (fun _ _ => rfl)) pa_nil)))
            (pss_cons (ps_set (i := 7) scForm.nd rfl (.inr rfl) (pe_call GB hr (by rfl) mB kB bB .nil pass0 (pa_cons (pv 0) (pa_cons (pe_ix ix_list (pv 2) (pv 5) (fun _ _ => rfl)) pa_nil))))
            (pss_cons (ps_set (i := 2) scForm.nd rfl (.inr rfl) (pe_lc (own := [("_law_number", 9)]) (g := gName 9) (tt := tYes) (by rfl) scForm.nd (pi_list (pv 2)) (blkOk_by (own := [("_law_number", 9)]) (N := nForm) (sc := defScope sForm) (by decide +kernel))
              (fun _ _ _ _ _ => pg_name (i := 9) scForm.nd rfl (Or.inl rfl)) (fun _ _ _ _ _ => pts_nil) (fun _ _ _ _ _ => pe_op op_mod (pe_op op_mul (pv 7) (pv 9)) (pv 0))))
            (pss_cons (ps_set (i := 3) scForm.nd rfl (.inr rfl) (pe_lc (own := [("_law_other", 10)]) (g := gName 10) (tt := tYes) (by rfl) scForm.nd (pi_list (pv 3)) (blkOk_by (own := [("_law_other", 10)]) (N := nForm) (sc := defScope sForm) (by decide +kernel))
              (fun _ _ _ _ _ => pg_name (i := 10) scForm.nd rfl (Or.inl rfl)) (fun _ _ _ _ _ => pts_nil) (fun _ _ _ _ _ => pe_call GL hr (by rfl) mL kL bL .nil pass0 (pa_cons (pv 0) (pa_cons (pv 10) (pa_cons (pe_ix (ixL K) (pv 10) (pv 5) (fun _ _ => rfl)) (pa_cons (pv 2) pa_nil)))))))
            (pss_one (ps_set (i := 4) scForm.nd rfl (.inl rfl) (pe_op op_cat (pe_lc (own := [("_law_other", 10)]) (g := gName 10) (tt := tYes) (by rfl) scForm.nd (pi_list (pv 4)) (blkOk_by (own := [("_law_other", 10)]) (N := nForm) (sc := defScope sForm) (by decide +kernel))
              (fun _ _ _ _ _ => pg_name (i := 10) scForm.nd rfl (Or.inl rfl)) (fun _ _ _ _ _ => pts_nil) (fun _ _ _ _ _ => pe_call GL hr (by rfl) mL kL bL .nil pass0 (pa_cons (pv 0) (pa_cons (pv 10) (pa_cons (pe_ix (ixL K) (pv 10) (pv 5) (fun _ _ => rfl)) (pa_cons (pv 2) pa_nil)))))) (pe_lst (pa_cons (pv 2) pa_nil)))))))))
            pss_nil)
        (pss_one (ps_set (i := 5) scForm.nd rfl (.inr rfl) (pe_op op_add (pv 5) pe_int))))))
      (pss_one (ps_ret (pv 4)))))), ?_⟩
    have two := hp.two
    have le := hp.le
    have hv := inv_is hp
    -- left
    refine ⟨_, rfl, a, rfl, ⟨_, SqL.of hT.at_⟩, fun la nla => ?_⟩
    refine lc_it (walk_list (K := K) (a := a) (xs := rf rs)) (fun i H' => ∃ qs, Mt H la [] M i H' qs) ⟨[], Mt.start nla⟩ (fun i H' _ ⟨qs, m⟩ => (m.same.seq (SqL.of hT.at_))) (fun i x H1 H2 hi ⟨qs, m⟩ y => ?_) (fun H2 ⟨ls, m⟩ => ?_)
    · obtain ⟨rfl, hx⟩ := y
      obtain ⟨r, hrr, rfl⟩ := rf_inv hx
      obtain ⟨mm, hm⟩ := get_of (l := M) (i := i) (by have := get_lt hrr; have := hT.len; omega)
      have hrow : IL H2 r mm := m.same _ _ (hT.row i r mm hrr hm)
      refine ⟨rfl, ?_⟩
      refine t_yes ?_
      refine ⟨_, rfl, r, _, rfl, .inl (IL.sq hrow), fun l nl => ?_⟩
      obtain ⟨acc, e1, e2, e3⟩ := m.step nla (fun r hr => by simp at hr) (same_new nl) hm upd_same (.inr nl) (by omega)
      exact ⟨acc, e1, e2, _, e3⟩
    have hlen : (rf rs).length = M.length := by rw [List.length_map, hT.len]
    have tl := m.tab hlen
    have sm2 := m.same
    -- found = []
    refine ⟨Nat.zero_le _, fun fa nfa => ?_⟩
    have start : FormI H (L2.upd H2 fa (.lst [])) fa la [] ls [] M := ⟨same_upd (same_none sm2 nfa) sm2, ⟨upd_same, rfl, fun i r mm hr => by simp at hr⟩, tl.same (same_new nfa), same_none sm2 nfa, nla, (fun e => by rw [e, tl.at_] at nfa; cases nfa), fun r hr => by simp at hr⟩
    refine step_name ?_
    dsimp only
    refine step_seq ?_
    refine step_asgC ?_
    dsimp only
    refine step_seq ?_
    show tWhile _ _ _ [some (.int p), some (.ref a), none, some (.ref la), some (.ref fa), some (.int ((0 : Nat) : Int)), none, none, none, none, none] _
    refine wh (fun m σ H' => ∃ fa la fs ls, ∃ pl : Nat, ∃ y2 y6 y7 y8 y9 y10, σ = [some (.int p), some (.ref a), y2, some (.ref la), some (.ref fa), some (.int (pl : Int)), y6, y7, y8, y9, y10] ∧ pl ≤ n ∧ m = n - pl ∧ FormI H H' fa la fs ls (runM p (invM p) M pl).1 (runM p (invM p) M pl).2)
      _ ⟨fa, la, [], ls, 0, none, none, none, none, none, none, rfl, Nat.zero_le _, rfl, start⟩ fun mm σ H' hW => ?_
    obtain ⟨fa, la, fs, ls, pl, y2, y6, y7, y8, y9, y10, rfl, hpl, rfl, inv⟩ := hW
    obtain ⟨lsR, R⟩ := run_all two hv hM pl hpl
    have lens := runM_len (p := p) (inv := invM p) (rows := M) pl
    have est : runM p (invM p) M (pl + 1) = stepM p (invM p) pl (runM p (invM p) M pl) := rfl
    have stop := fun h d => runM_stop (p := p) (inv := invM p) (rows := M) (k := pl) h d
    have lowe := lowM_len (p := p) (n := n) (inv := invM p) M hM
    have wfL := R.wf
    have tl2 := inv.tl
    generalize hS : runM p (invM p) M pl = S at *
    obtain ⟨Fm, L⟩ := S
    dsimp only at *
    have lenL : (rf ls).length = L.length := by rw [List.length_map, tl2.len]
    have lenl := tl2.len
    refine ⟨la, ls, L, pl, n, rfl, rfl, tl2, fun m hm => (wfL m hm).len, ite2 (fun c => ?_) (fun c => ?_)⟩
    · have c' := of_decide_eq_true c
      refine ⟨_, fun σ' H' h => h, ?_⟩
      -- some
      refine ⟨_, rfl, la, _, rfl, .inl (SqL.of tl2.at_), _, rfl, by omega, by rw [lenL]; omega, fun D hD => ?_⟩
      refine lc_range (lo := 0) (n := _) (fun i H1 => Same H' H1 ∧ H1 D = some (.lst ((nzs pl L i).map fun (k : Nat) => V.int (k : Int)))) ⟨same_new hD, upd_same⟩ (fun i H1 hi hW => ?_) (fun H1 hW => ?_)
      · obtain ⟨sm, e⟩ := hW
        rw [Int.toNat_natCast, lenL] at hi
        obtain ⟨m, hm⟩ := get_of (l := L) (i := i) hi
        obtain ⟨r, hrr⟩ := get_of (l := ls) (i := i) (by omega)
        have tl1 := tl2.same sm
        have hrow := tl1.row i r m hrr hm
        have iz : (0 : Int) + (i : Int) = (i : Int) := Int.zero_add _
        rw [iz]
        refine ⟨rfl, ?_⟩
        refine ⟨_, rfl, _, rfl, la, _, _, _, rfl, rfl, SqL.of tl1.at_, atI_nat (rf_get hrr), _, rfl, r, _, _, _, rfl, rfl, IL.sq hrow, atI_nat (iv_ent (by rw [(wfL m (List.mem_of_getElem? hm)).len]; omega)), rfl, _, rfl, ?_⟩
        have gm : L.getD i [] = m := getD_of hm
        have ns := nzs_succ (pl := pl) (i := i) (L := L)
        rw [gm] at ns
        rw [← decide_not]
        refine ite2 (fun c => ?_) (fun c => ?_)
        · have c1 : ent m pl ≠ 0 := fun z => of_decide_eq_true c (congrArg V.int z)
          rw [if_pos c1] at ns
          refine ⟨_, rfl, _, e, by rw [List.length_map]; exact small1000 (by have := nzs_len (pl := pl) (i := i) (L := L); omega), same_upd hD sm, ?_⟩
          rw [upd_same, ns, List.map_append]
          rfl
        · have c1 : ¬ ent m pl ≠ 0 := fun z => c (decide_eq_true fun e => z (V.int.inj e))
          rw [if_neg c1, List.append_nil] at ns
          exact ⟨sm, by rw [ns]; exact e⟩
      · obtain ⟨sm, e⟩ := hW
        rw [Int.toNat_natCast, lenL] at e
        refine ⟨fun σ' H2 => ∃ fa la fs ls y2 y6 y7 y8 y9 y10, σ' = [some (.int p), some (.ref a), y2, some (.ref la), some (.ref fa), some (.int (pl : Int)), y6, y7, y8, y9, y10] ∧ FormI H H2 fa la fs ls (runM p (invM p) M (pl + 1)).1 (runM p (invM p) M (pl + 1)).2, ?_, fun σ' H2 hW => ?_⟩
        · refine ⟨_, rfl, D, _, rfl, .inl (SqL.of e), _, _, rfl, rfl, _, rfl, ?_⟩
          rw [List.length_map]
          cases hnz : nzs pl L L.length with
          | nil =>
            refine ite2 (fun c2 => ?_) (fun c2 => ?_)
            · have := of_decide_eq_true c2
              simp at this
            · have est2 : runM p (invM p) M (pl + 1) = (Fm, L) := by
                rw [est]
                unfold stepM
                dsimp only
                rw [pick_nil hnz]
              rw [est2]
              exact ⟨fa, la, fs, ls, _, _, _, _, _, _, rfl, inv.same.trans sm, inv.tf.same sm, inv.tl.same sm, inv.nf, inv.nl, inv.ne, inv.fresh⟩
          | cons j t =>
            obtain ⟨hjl, hne, hpick⟩ := pick_cons hnz
            rw [hnz] at e
            refine ite2 (fun c2 => ?_) (fun c2 => absurd (decide_eq_true (by rw [List.length_cons]; omega)) c2)
            obtain ⟨m0, hm0⟩ := get_of hjl
            obtain ⟨r0, hr0⟩ := get_of (l := ls) (i := j) (by omega)
            have gm : L.getD j [] = m0 := getD_of hm0
            rw [gm] at hne
            have tl1 := tl2.same sm
            have hrow := tl1.row j r0 m0 hr0 hm0
            have wm0 := wfL m0 (List.mem_of_getElem? hm0)
            have est2 : runM p (invM p) M (pl + 1) = (clearM p pl (mulR p (invM p (ent m0 pl)) m0) Fm ++ [mulR p (invM p (ent m0 pl)) m0], clearM p pl (mulR p (invM p (ent m0 pl)) m0) (L.eraseIdx j)) := by
              rw [est]
              unfold stepM
              dsimp only
              rw [hpick]
              dsimp only
              rw [gm]
            rw [est2]
            dsimp only
            refine ⟨_, rfl, .inl ⟨rfl, _, SqL.of tl1.at_⟩, _, rfl, D, _, _, _, rfl, rfl, SqL.of e, atI_nat (j := 0) rfl, la, _, (j : Int), j, _, rfl, rfl, tl1.at_, by omega, by omega, seqIx (by rw [lenL]; exact hjl), rf_get hr0, ?_⟩
            have er := tl1.erase (j := j) (by omega)
            have hr0m : r0 ∈ ls := List.mem_of_getElem? hr0
            have cls : ∃ x xs, ls = x :: xs := by
              cases ls with
              | nil => simp at hr0m
              | cons x xs => exact ⟨x, xs, rfl⟩
            have neR : ∀ (r : Addr) (m : List Int), IL H1 r m → r ≠ la := fun r m h => by
              obtain ⟨x, xs, rfl⟩ := cls
              exact rf_ne tl1.at_ h
            have tf0 := inv.tf.same sm
            have sH1 : Same H (L2.upd H1 la (.lst ((rf ls).eraseIdx j))) := same_upd inv.nl (inv.same.trans sm)
            have tf1 : Tab (L2.upd H1 la (.lst ((rf ls).eraseIdx j))) fa fs Fm := tf0.upd inv.ne fun r hr => by
              obtain ⟨m, _, hm⟩ := IL.ref tf0 hr
              exact neR r m hm
            have row1 : IL (L2.upd H1 la (.lst ((rf ls).eraseIdx j))) r0 m0 := by
              show (L2.upd H1 la _) r0 = _
              rw [upd_ne (neR r0 m0 hrow)]
              exact hrow
            generalize L2.upd H1 la (.lst ((rf ls).eraseIdx j)) = H3 at *
            have em := wm0.ent (show pl < n by omega)
            obtain ⟨v1, v2, _⟩ := inv_ok hp (show 0 < ent m0 pl by omega) em.2
            -- back
            refine ⟨_, rfl, _, rfl, _, rfl, r0, _, _, _, rfl, rfl, IL.sq row1, atI_nat (iv_ent (by rw [wm0.len]; omega)), ⟨p, ent m0 pl, rfl, hp, by omega, em.2, fun H4 s4 => ?_⟩⟩
            have wrow : Wf p n (mulR p (invM p (ent m0 pl)) m0) := mulR_wf (by omega) wm0
            have row4 := s4 _ _ row1
            -- row
            refine ⟨_, rfl, r0, rfl, ⟨_, IL.sq row4⟩, fun D2 hD2 => lc_it (walk_list (K := K) (a := r0) (xs := iv m0)) (fun i H' => Mk H4 D2 (mulR p (invM p (ent m0 pl)) m0) i H') (Mk.start hD2) (fun i H' _ mk => (mk.same.seq (IL.sq row4))) (fun i x H5 H6 hi mk y => ?_) (fun H5 mk => ?_)⟩
            · obtain ⟨rfl, hx⟩ := y
              obtain ⟨z, hz, rfl⟩ := iv_inv hx
              refine ⟨rfl, ?_⟩
              refine t_yes ?_
              refine ⟨_, rfl, _, rfl, _, _, rfl, rfl, .inl ⟨by omega, by omega⟩, _, rfl, _, _, rfl, rfl, (by show 0 < p; omega), ?_⟩
              exact mk.step hD2 (Same.refl _) (by unfold mulR; rw [List.getElem?_map, hz]; rfl) (by rw [wrow.len]; omega)
            have i5 := mk.done (by unfold mulR; rw [List.length_map, List.length_map])
            have s35 := s4.trans mk.same
            generalize hrowe : mulR p (invM p (ent m0 pl)) m0 = row at *
            have lenE : (L.eraseIdx j).length ≤ L.length := List.length_eraseIdx_le _ _
            have te := er.same s35
            have tf5 := tf1.same s35
            have wE : Wfs p n (L.eraseIdx j) := fun m hm => wfL m (List.mem_of_mem_eraseIdx hm)
            have wF : Wfs p n Fm := R.low.wf
            -- left
            refine ⟨_, rfl, la, rfl, ⟨_, SqL.of te.at_⟩, fun la2 nla2 => ?_⟩
            refine lc_it (walk_list (K := K) (a := la) (xs := rf (ls.eraseIdx j))) (fun i H' => ∃ qs, Mt H5 la2 [] (clearM p pl row (L.eraseIdx j)) i H' qs) ⟨[], Mt.start nla2⟩ (fun i H' _ ⟨qs, m⟩ => (m.same.seq (SqL.of te.at_))) (fun i x H6 H7 hi ⟨qs, m⟩ y => ?_) (fun H6 ⟨ls2, m6⟩ => ?_)
            · obtain ⟨rfl, hx⟩ := y
              obtain ⟨r, hrr, rfl⟩ := rf_inv hx
              obtain ⟨mm, hm⟩ := get_of (l := L.eraseIdx j) (i := i) (by have := get_lt hrr; have := te.len; omega)
              have hrow := m.same _ _ (te.row i r mm hrr hm)
              have wmm := wE mm (List.mem_of_getElem? hm)
              have ee := wmm.ent (show pl < n by omega)
              refine ⟨rfl, ?_⟩
              refine t_yes ?_
              refine ⟨_, rfl, _, rfl, _, rfl, _, rfl, r, _, _, _, rfl, rfl, IL.sq hrow, atI_nat (iv_ent (by rw [wmm.len]; omega)), _, rfl, ⟨p, ent mm pl, n, r, D2, mm, row, rfl, by omega, by omega, by omega, ee.1, by omega, hrow, wmm, m.same _ _ i5, wrow, fun H8 q8 s8 n8 i8 => ?_⟩⟩
              obtain ⟨acc, e1, e2, e3⟩ := m.step nla2 (fun r hr => by simp at hr) s8 (clearM_get hm) i8 (.inr n8) (by rw [clearM_len]; omega)
              exact ⟨acc, e1, e2, _, e3⟩
            have tl6 := m6.tab (by rw [List.length_map, clearM_len]; exact te.len)
            have i6 := m6.same _ _ i5
            have tf6 := tf5.same m6.same
            -- found
            refine ⟨_, rfl, fa, rfl, ⟨_, SqL.of tf6.at_⟩, fun f2 nf2 => ?_⟩
            refine lc_it (walk_list (K := K) (a := fa) (xs := rf fs)) (fun i H' => ∃ qs, Mt H6 f2 [] (clearM p pl row Fm) i H' qs) ⟨[], Mt.start nf2⟩ (fun i H' _ ⟨qs, m⟩ => (m.same.seq (SqL.of tf6.at_))) (fun i x H7 H8 hi ⟨qs, m⟩ y => ?_) (fun H7 ⟨fs2, m7⟩ => ?_)
            · obtain ⟨rfl, hx⟩ := y
              obtain ⟨r, hrr, rfl⟩ := rf_inv hx
              obtain ⟨mm, hm⟩ := get_of (l := Fm) (i := i) (by have := get_lt hrr; have := tf6.len; omega)
              have hrow := m.same _ _ (tf6.row i r mm hrr hm)
              have wmm := wF mm (List.mem_of_getElem? hm)
              have ee := wmm.ent (show pl < n by omega)
              refine ⟨rfl, ?_⟩
              refine t_yes ?_
              refine ⟨_, rfl, _, rfl, _, rfl, _, rfl, r, _, _, _, rfl, rfl, IL.sq hrow, atI_nat (iv_ent (by rw [wmm.len]; omega)), _, rfl, ⟨p, ent mm pl, n, r, D2, mm, row, rfl, by omega, by omega, by omega, ee.1, by omega, hrow, wmm, m.same _ _ i6, wrow, fun H9 q9 s9 n9 i9 => ?_⟩⟩
              obtain ⟨acc, e1, e2, e3⟩ := m.step nf2 (fun r hr => by simp at hr) s9 (clearM_get hm) i9 (.inr n9) (by rw [clearM_len]; omega)
              exact ⟨acc, e1, e2, _, e3⟩
            have tf7 := m7.tab (by rw [List.length_map, clearM_len]; exact tf6.len)
            have i7 := m7.same _ _ i6
            have tl7 := tl6.same m7.same
            refine ⟨_, rfl, (by show 1 ≤ sizeLine; decide), fun l1 nl1 => ?_⟩
            have s8 : Same H7 (L2.upd H7 l1 (.lst [.ref D2])) := same_new nl1
            have tf8 := tf7.same s8
            have tl8 := tl7.same s8
            have i8 := s8 _ _ i7
            have lf : fs2.length = Fm.length := by rw [tf7.len, clearM_len]
            refine ⟨f2, l1, _, _, rfl, rfl, tf8.at_, upd_same, by rw [List.length_map, lf]; exact Nat.le_of_lt (small1000 (by simp; omega)), fun f3 nf3 => ?_⟩
            generalize L2.upd H7 l1 (.lst [.ref D2]) = H8 at *
            have sAll : Same H H8 := ((sH1.trans s35).trans m6.same).trans (m7.same.trans s8)
            refine ⟨f3, la2, fs2 ++ [D2], ls2, _, _, _, _, _, _, rfl, same_upd (same_none sAll nf3) sAll, ⟨?_, ?_, fun t r m hr hm => ?_⟩, tl8.same (same_new nf3), same_none sAll nf3, same_none (sH1.trans s35) nla2, fun e => ?_, fun r hr => ?_⟩
            · rw [upd_same]
              simp
            · rw [List.length_append, List.length_append, lf, clearM_len]
              rfl
            · have s9 : Same H8 (L2.upd H8 f3 (.lst (rf fs2 ++ [.ref D2]))) := same_new nf3
              by_cases ht : t < fs2.length
              · rw [List.getElem?_append_left ht] at hr
                rw [List.getElem?_append_left (by rw [clearM_len]; omega)] at hm
                exact s9 _ _ (tf8.row t r m hr hm)
              · have ht2 := get_lt hr
                rw [List.length_append, List.length_singleton] at ht2
                have et : t = fs2.length := by omega
                rw [List.getElem?_append_right (by omega), et, Nat.sub_self] at hr
                rw [List.getElem?_append_right (by rw [clearM_len]; omega), et, lf, clearM_len, Nat.sub_self] at hm
                cases Option.some.inj hr
                cases Option.some.inj hm
                exact s9 _ _ i8
            · rw [e, tl8.at_] at nf3
              cases nf3
            · rcases List.mem_append.mp hr with h | h
              · obtain ⟨t, ht⟩ := List.getElem?_of_mem h
                rcases m7.src t r ht with h2 | h2
                · simp at h2
                · exact same_none ((sH1.trans s35).trans m6.same) h2
              · rw [List.mem_singleton.mp h]
                exact same_none (sH1.trans s4) hD2
        · obtain ⟨fa, la, fs, ls, y2, y6, y7, y8, y9, y10, rfl, inv2⟩ := hW
          exact ⟨_, rfl, _, _, rfl, rfl, n - (pl + 1), by omega, fa, la, fs, ls, pl + 1, y2, y6, y7, y8, y9, y10, rfl, by omega, rfl, inv2⟩
    · have c' : ¬ (0 < L.length ∧ pl < n) := of_decide_eq_false (Bool.eq_false_iff.mpr c)
      have fin : lowM p (invM p) M = Fm := by
        rw [lowe]
        by_cases h0 : pl < n
        · have hL : L = [] := by
            cases L with
            | nil => rfl
            | cons x xs => exact absurd ⟨by rw [List.length_cons]; omega, h0⟩ c'
          have z := stop hL (n - pl)
          rw [show pl + (n - pl) = n by omega] at z
          rw [z]
        · have : pl = n := by omega
          rw [← this, hS]
      refine ⟨_, rfl, q H' fa fs inv.same inv.nf ?_ inv.fresh⟩
      rw [fin]
      exact inv.tf
end

/-! ### _law_in -/
section
variable {P : Program} {w : World} {K : PySem.W.Frag} {mg : Str → Option Value} {base : Heap}
abbrev sIn : Stmt := topS 20
abbrev nIn : List Str := ["_law_p", "_law_form_here", "_law_row", "_law_other"]
theorem scIn : FnScope nIn ["_law_p", "_law_form_here", "_law_row"] (defScope sIn) := ⟨rfl, rfl, rfl, by decide +kernel, rfl, by decide +kernel, by decide +kernel⟩
/-- a form and a row, once more -/
structure FQ (H : Hp) (p : Int) (n : Nat) (a b : Addr) (rs : List Addr) (F : List Row) (ls : List Nat) (m : Row) : Prop where
  hp : 2 ≤ p
  hp2 : p ≤ 11
  hn : n ≤ 100
  tab : Tab H a rs F
  low : Low p n F ls
  row : IL H b m
  wf : Wf p n m
def spIn : Sp := fun vs H Q _ => ∃ (p : Int) (n : Nat) (a b : Addr) (rs : List Addr) (F : List Row) (ls : List Nat) (m : Row), vs = [.int p, .ref a, .ref b] ∧ FQ H p n a b rs F ls m ∧ ∀ H', Same H H' → Q (.bl (decide (mixM p (shr ls m) F n = m))) H'
theorem ok_in {f fL : Addr} {fd fdL : FuncData} {k : Nat} (F : Fun K "_law_in" "_law_in" sIn f fd)
    (GL : FnOk P w K mg base CX0 (k + 1) fL fdL ["_law_p", "_law_row", "_law_rest", "_law_other"] spLess) (bL : Binds K fdL ["_law_p", "_law_row", "_law_rest", "_law_other"] []) (kL : PySem.W.keepIn K (.ref fL) = true) (mL : mg "_law_less" = some (.ref fL))
    (ma : mg "any" = none) : FnOk P w K mg base CX0 (k + 2) f fd ["_law_p", "_law_form_here", "_law_row"] spIn := by
  refine F.ok scIn (fun vs H Q E h => ?_) (fun cdv A outer s H vs Q E hr h => ?_)
  · obtain ⟨p, n, a, b, rs, F, ls, m, rfl, _⟩ := h
    rfl
  · obtain ⟨p, n, a, b, rs, F, ls, m, rfl, I, q⟩ := h
    obtain ⟨hp, hp2, hn, tab, L, hm, wm⟩ := I
    refine ⟨_, pss_cons (ps_for PassesOwn.never rfl (pi_list (pv 1)) (pg_name (i := 3) scIn.nd rfl (Or.inl rfl))
        (pss_one (ps_set (i := 2) scIn.nd rfl (.inl rfl) (pe_call GL hr (by rfl) mL kL bL .nil pass0 (pa_cons (pv 0) (pa_cons (pv 2) (pa_cons (pe_ix ix_list (pv 2) (pe_bm PySem.F.plainAttrs_list PySem.F.slot_list_index PySem.F.type_list_index mt_index (pv 3) (pa_cons pe_int pa_nil)) (fun _ _ => rfl)) (pa_cons (pv 3) pa_nil))))))))
      (pss_one (ps_ret (pe_not (pe_callB (cAnyI rfl) (by rfl) ma (by decide +kernel) (pa_cons (pv 2) pa_nil))))), ?_⟩
    refine ⟨_, rfl, a, rfl, ⟨_, SqL.of tab.at_⟩, for_list (K := K) (a := a) (xs := rf rs) (fun i σ H' => ∃ c mi y3, σ = [some (.int p), some (.ref a), some (.ref c), y3] ∧ Same H H' ∧ IL H' c mi ∧ Wf p n mi ∧ redR p (F.drop i) (ls.drop i) mi = redR p F ls m) ⟨b, m, none, rfl, Same.refl H, hm, wm, rfl⟩ (fun i σ H' _ hW => ?_) (fun i x σ H' hx hW => ?_) (fun σ H' hW => ?_)⟩
    · obtain ⟨_, _, _, _, sm, _⟩ := hW
      exact sm.seq (SqL.of tab.at_)
    · obtain ⟨c, mi, y3, rfl, sm, ci, wi, e⟩ := hW
      obtain ⟨r, hrr, rfl⟩ := rf_inv hx
      obtain ⟨mm, hmm⟩ := get_of (l := F) (i := i) (by have := get_lt hrr; have := tab.len; omega)
      have hrow := sm _ _ (tab.row i r mm hrr hmm)
      obtain ⟨l, hl, ln, lz, l1⟩ := low_ne L hmm
      have wmm := L.wf mm (List.mem_of_getElem? hmm)
      have en := wi.ent ln
      refine ⟨_, rfl, _, rfl, _, rfl, _, rfl, .inl ⟨rfl, _, IL.sq hrow⟩, r, _, .int 1, l, .int (ent mm l), rfl, rfl, IL.sq hrow, rfl, all_flat mm, iv_ent (by rw [wmm.len]; exact ln), by rw [l1]; rfl, fun j z' hj hz' => ?_, ?_⟩
      · obtain ⟨x, hx', rfl⟩ := iv_inv hz'
        have jl : j < mm.length := by rw [wmm.len]; omega
        rw [ent_some jl] at hx'
        rw [← Option.some.inj hx', lz j hj]
        rfl
      · refine ⟨c, _, _, _, rfl, rfl, IL.sq ci, atI_nat (iv_ent (by rw [wi.len]; exact ln)), _, rfl, ⟨p, ent mi l, n, c, r, mi, mm, rfl, by omega, hp2, by omega, en.1, by omega, ci, wi, hrow, wmm, fun H2 d2 s2 n2 i2 => ?_⟩⟩
        refine ⟨d2, _, _, rfl, sm.trans s2, i2, lessR_wf (by omega) wi wmm, ?_⟩
        rw [List.drop_eq_getElem_cons (get_lt hmm), List.drop_eq_getElem_cons (get_lt hl)] at e
        rw [← e, show F[i]'(get_lt hmm) = mm from Option.some.inj ((List.getElem?_eq_getElem (get_lt hmm)).symm.trans hmm), show ls[i]'(get_lt hl) = l from Option.some.inj ((List.getElem?_eq_getElem (get_lt hl)).symm.trans hl)]
        rfl
    · obtain ⟨c, mi, y3, rfl, sm, ci, wi, e⟩ := hW
      rw [List.length_map, tab.len, List.drop_eq_nil_of_le (Nat.le_refl _), redR_nil] at e
      refine ⟨_, rfl, c, mi, rfl, ci, _, rfl, ?_⟩
      rw [e, left_iff hp L wm, Bool.not_not]
      exact q H' sm
end

/-! ### _law_whole -/
section
variable {P : Program} {w : World} {K : PySem.W.Frag} {mg : Str → Option Value} {base : Heap}
abbrev sWhole : Stmt := topS 21

theorem scWhole : FnScope ["_law_thing", "_law_end"] ["_law_thing", "_law_end"] (defScope sWhole) := ⟨rfl, rfl, rfl, by decide +kernel, rfl, by decide +kernel, by decide +kernel⟩

def spWhole : Sp := fun vs H Q _ => ∃ (x e : Int), vs = [.int x, .int e] ∧ 0 ≤ x ∧ x < e ∧ Q (.bl true) H

theorem ok_whole {f : Addr} {fd : FuncData} {k : Nat} (F : Fun K "_law_whole" "_law_whole" sWhole f fd) (mi : mg "isinstance" = none) (mn : mg "int" = none) (mb : mg "bool" = none) : FnOk P w K mg base CX0 (k + 1) f fd ["_law_thing", "_law_end"] spWhole := by
  refine F.ok scWhole (fun vs H Q E h => ?_) (fun cdv A outer s H vs Q E hr h => ?_)
  · obtain ⟨x, e, rfl, _⟩ := h
    rfl
  · obtain ⟨x, e, rfl, h0, h1, q⟩ := h
    refine ⟨_, pss_one (ps_ret (pe_and (pe_callB call_isi (by rfl) mi (by decide +kernel) (pa_cons (pv 0) (pa_cons (pe_bltn (v := .ty "int") (by rfl) mn (by decide +kernel) rfl) pa_nil)))
      (pe_and (pe_not (pe_callB call_isi (by rfl) mi (by decide +kernel) (pa_cons (pv 0) (pa_cons (pe_bltn (v := .ty "bool") (by rfl) mb (by decide +kernel) rfl) pa_nil))))
        (pe_one (pe_chain op_le op_lt pe_int (pv 0) (pv 1)))))), ?_⟩
    refine ⟨_, rfl, _, _, _, _, true, rfl, .ty "int", .base (.int x), kit_ty (by decide +kernel), true, rfl, iteT ?_⟩
    refine ⟨_, rfl, _, _, _, _, false, rfl, .ty "bool", .base (.int x), kit_ty (by decide +kernel), false, rfl, true, rfl, iteT ?_⟩
    refine ⟨_, rfl, _, _, rfl, rfl, true, congrArg V.bl (decide_eq_true h0), iteT ?_⟩
    refine ⟨_, rfl, _, _, rfl, rfl, ?_⟩
    show Q (.bl (decide (x < e))) H
    rw [decide_eq_true h1]
    exact q
end

/-! ### _law_rows_like -/
section
variable {P : Program} {w : World} {K : PySem.W.Frag} {mg : Str → Option Value} {base : Heap}
abbrev sLike : Stmt := topS 22

abbrev nLike : List Str := ["_law_p", "_law_length", "_law_thing", "_law_row", "_law_number"]

theorem scLike : FnScope nLike ["_law_p", "_law_length", "_law_thing"] (defScope sLike) := ⟨rfl, rfl, rfl, by decide +kernel, rfl, by decide +kernel, by decide +kernel⟩

def spLike : Sp := fun vs H Q _ => ∃ (p : Int) (n : Nat) (a : Addr) (rs : List Addr) (M : List Row), vs = [.int p, .int (n : Int), .ref a] ∧ n ≤ 1000 ∧ Tab H a rs M ∧ Wfs p n M ∧ ∀ H', Same H H' → Q (.bl true) H'

theorem ok_like {f fW : Addr} {fd fdW : FuncData} {k : Nat} (F : Fun K "_law_rows_like" "_law_rows_like" sLike f fd)
    (GW : FnOk P w K mg base CX0 (k + 1) fW fdW ["_law_thing", "_law_end"] spWhole) (bW : Binds K fdW ["_law_thing", "_law_end"] []) (kW : PySem.W.keepIn K (.ref fW) = true) (mW : mg "_law_whole" = some (.ref fW))
    (mi : mg "isinstance" = none) (mt : mg "list" = none) (ml : mg "len" = none) (ma : mg "all" = none) : FnOk P w K mg base CX0 (k + 2) f fd ["_law_p", "_law_length", "_law_thing"] spLike := by
  refine F.ok scLike (fun vs H Q E h => ?_) (fun cdv A outer s H vs Q E hr h => ?_)
  · obtain ⟨p, n, a, rs, M, rfl, _⟩ := h
    rfl
  · obtain ⟨p, n, a, rs, M, rfl, hn, hT, hM, q⟩ := h
    refine ⟨_, pss_cons (ps_if (pt_not (pt_val (pe_callB call_isi (by rfl) mi (by decide +kernel) (pa_cons (pv 2) (pa_cons (pe_bltn (v := .ty "list") (by rfl) mt (by decide +kernel) rfl) pa_nil))))) (pss_one (ps_ret pe_bl)) pss_nil)
      (pss_cons (ps_for PassesOwn.never rfl (pi_list (pv 2)) (pg_name (i := 3) scLike.nd rfl (Or.inl rfl))
        (pss_cons (ps_if (PW.pt (pw_or (pt_not (pt_val (pe_callB call_isi (by rfl) mi (by decide +kernel) (pa_cons (pv 3) (pa_cons (pe_bltn (v := .ty "list") (by rfl) mt (by decide +kernel) rfl) pa_nil))))) (pw_or1 (pt_cmpR op_ne (pe_callB call_len_seq (by rfl) ml PySem.boot_len (pa_cons (pv 3) pa_nil)) (pv 1) (nomark _))))) (pss_one (ps_ret pe_bl)) pss_nil)
        (pss_one (ps_if (pt_not (pt_val (pe_callB (cr_all rfl) (by rfl) ma (by decide +kernel) (pa_cons (pe_lc (own := [("_law_number", 4)]) (g := gName 4) (tt := tYes) (by rfl) scLike.nd (pi_list (pv 3)) (blkOk_by (own := [("_law_number", 4)]) (N := nLike) (sc := defScope sLike) (by decide +kernel))
          (fun _ _ _ _ _ => pg_name (i := 4) scLike.nd rfl (Or.inl rfl)) (fun _ _ _ _ _ => pts_nil) (fun _ _ _ _ _ => pe_call GW hr (by rfl) mW kW bW .nil pass0 (pa_cons (pv 4) (pa_cons (pv 0) pa_nil)))) pa_nil)))) (pss_one (ps_ret pe_bl)) pss_nil))))
      (pss_one (ps_ret pe_bl))), ?_⟩
    refine ⟨_, rfl, _, _, _, _, true, rfl, .ty "list", .base (.lst hT.at_), kit_ty (by decide +kernel), true, rfl, iteF ?_⟩
    refine ⟨_, rfl, a, rfl, ⟨_, SqL.of hT.at_⟩, for_list (K := K) (a := a) (xs := rf rs) (fun i σ H' => ∃ y3 y4, σ = [some (.int p), some (.int (n : Int)), some (.ref a), y3, y4] ∧ Same H H') ⟨none, none, rfl, Same.refl H⟩ (fun i σ H' _ hW => ?_) (fun i x σ H' hx hW => ?_) (fun σ H' hW => ?_)⟩
    · obtain ⟨_, _, _, sm⟩ := hW
      exact sm.seq (SqL.of hT.at_)
    · obtain ⟨y3, y4, rfl, sm⟩ := hW
      obtain ⟨r, hrr, rfl⟩ := rf_inv hx
      obtain ⟨m, hm⟩ := get_of (l := M) (i := i) (by have := get_lt hrr; have := hT.len; omega)
      have hrow := sm _ _ (hT.row i r m hrr hm)
      have wm := hM m (List.mem_of_getElem? hm)
      refine ⟨_, rfl, _, _, _, _, true, rfl, .ty "list", .base (.lst hrow), kit_ty (by decide +kernel), true, rfl, iteF ?_⟩
      refine ⟨_, rfl, r, _, rfl, .inl (IL.sq hrow), _, rfl, rfl, false, ?_, iteF ?_⟩
      · rw [List.length_map, wm.len, decide_eq_true rfl]
        rfl
      refine ⟨_, rfl, r, rfl, ⟨_, IL.sq hrow⟩, fun D hD => lc_it (walk_list (K := K) (a := r) (xs := iv m)) (fun i H1 => Same H' H1 ∧ H1 D = some (.lst (List.replicate i (.bl true)))) ⟨same_new hD, upd_same⟩ (fun i H1 _ h => h.1.seq (IL.sq hrow)) (fun i x H1 H2 hi hW y => ?_) (fun H1 hW => ?_)⟩
      · obtain ⟨rfl, hx⟩ := y
        obtain ⟨z, hz, rfl⟩ := iv_inv hx
        obtain ⟨sm1, e1⟩ := hW
        have rz := wm.rng z (List.mem_of_getElem? hz)
        refine ⟨rfl, ?_⟩
        refine t_yes ?_
        refine ⟨_, rfl, _, rfl, ⟨z, p, rfl, rz.1, rz.2, ?_⟩⟩
        refine ⟨_, e1, by rw [List.length_replicate]; exact small1000 (by have := get_lt hz; have := wm.len; omega), same_upd hD sm1, ?_⟩
        rw [upd_same, List.replicate_succ']
      · obtain ⟨sm1, e1⟩ := hW
        refine ⟨D, List.replicate (iv m).length true, rfl, SqL.of (by rw [e1, List.map_replicate]), true, ?_, iteF ?_⟩
        · rw [List.all_replicate]
          simp
        · exact ⟨_, _, rfl, sm.trans sm1⟩
    · obtain ⟨y3, y4, rfl, sm⟩ := hW
      exact q H' sm
end

/-! ### across -/
section
variable {P : Program} {w : World} {K : PySem.W.Frag} {mg : Str → Option Value} {base : Heap}
abbrev sAcr : Stmt := topS 9
abbrev nAcr : List Str := ["p", "length", "form", "row", "leads", "found", "place", "at", "leading"]
theorem scAcr : FnScope nAcr ["p", "length", "form"] (defScope sAcr) := ⟨rfl, rfl, rfl, by decide +kernel, rfl, by decide +kernel, by decide +kernel⟩
def spAcr : Sp := fun vs H Q _ => ∃ (p : Int) (n : Nat) (a : Addr) (rs : List Addr) (F : List Row) (ls : List Nat), vs = [.int p, .int (n : Int), .ref a] ∧ P5 p ∧ n ≤ 100 ∧ Tab H a rs F ∧ Low p n F ls ∧
  ∀ H' q qs, Same H H' → H q = none → Tab H' q qs (acM p (invM p) n F ls) → (∀ r ∈ qs, H r = none) → qs.Nodup → Q (.ref q) H'
theorem ok_acr {f fD fL : Addr} {fd fdD fdL : FuncData} {k : Nat} (F : Fun K "across" "across" sAcr f fd)
    (GD : FnOk P w K mg base CX0 (k + 2) fD fdD ["row"] spLead) (bD : Binds K fdD ["row"] []) (kD : PySem.W.keepIn K (.ref fD) = true) (mD : mg "lead" = some (.ref fD))
    (GL : FnOk P w K mg base CX0 (k + 2) fL fdL ["p", "rows"] spLow) (bL : Binds K fdL ["p", "rows"] []) (kL : PySem.W.keepIn K (.ref fL) = true) (mL : mg "low" = some (.ref fL))
    (mr : mg "range" = none) (mz : mg "zip" = none) : FnOk P w K mg base CX0 (k + 3) f fd ["p", "length", "form"] spAcr := by
  refine F.ok scAcr (fun vs H Q E h => ?_) (fun cdv A outer s H vs Q E hr h => ?_)
  · obtain ⟨p, n, a, rs, F, ls, rfl, _⟩ := h
    rfl
  · obtain ⟨p, n, a, rs, F, ls, rfl, hp, hn, tab, L, q⟩ := h
    refine ⟨_, pss_cons (ps_setLc (i := 4) (own := [("row", 3)]) (g := gName 3) (tt := tYes) (by rfl) scAcr.nd rfl rfl (sw_true rfl rfl rfl (by decide +kernel)) (pi_list (pv 2)) (blkOk_by (own := [("row", 3)]) (N := nAcr) (sc := defScope sAcr) (by decide +kernel))
        (fun _ _ _ _ _ => pg_name (i := 3) scAcr.nd rfl (Or.inl rfl)) (fun _ _ _ _ _ => pts_nil) (fun _ _ _ _ _ => pe_call GD hr (by rfl) mD kD bD .nil pass0 (pa_cons (pv 3) pa_nil)))
      (pss_cons (ps_set (i := 5) scAcr.nd rfl (.inl rfl) (pe_lst pa_nil))
      (pss_cons (ps_for PassesOwn.never rfl (pi_range1 rfl mr (pa_cons (pv 1) pa_nil)) (pg_name (i := 6) scAcr.nd rfl (Or.inl rfl))
        (pss_one (ps_if (pt_cmpR op_notIn_seq (pv 6) (pv 4) (by rfl))
          (pss_cons (ps_set (i := 3) scAcr.nd rfl (.inl rfl) (pe_op op_rep (pe_lst (pa_cons pe_int pa_nil)) (pv 1)))
          (pss_cons (ps_asg pe_int (pg_sub (pv 3) (pv 6) set_list (fun _ => rfl)))
          (pss_cons (ps_for PassesOwn.never rfl (pi_zip (by rfl) mz (pa_cons (pv 4) (pa_cons (pv 2) pa_nil))) (pg_tup rfl (pgs_cons (pg_name (i := 7) scAcr.nd rfl (Or.inl rfl)) (pgs_cons (pg_name (i := 8) scAcr.nd rfl (Or.inl rfl)) pgs_nil)))
            (pss_one (ps_asg (pe_op op_mod (pe_un un_neg (pe_ix ix_list (pv 8) (pv 6) (fun _ _ => rfl))) (pv 0)) (pg_sub (pv 3) (pv 7) set_list (fun _ => rfl)))))
          (pss_one (ps_expr (pe_bm PySem.F.plainAttrs_list PySem.F.slot_list_append PySem.F.type_list_append mt_append (pv 5) (pa_cons (pv 3) pa_nil)))))))
          pss_nil)))
      (pss_one (ps_ret (pe_call GL hr (by rfl) mL kL bL .nil pass0 (pa_cons (pv 0) (pa_cons (pv 5) pa_nil))))))), ?_⟩
    have two := hp.two
    have few := low_few L
    have ll := L.dl.1
    -- leads
    refine ⟨_, rfl, a, rfl, ⟨_, SqL.of tab.at_⟩, fun ld nld => ?_⟩
    refine lc_it (walk_list (K := K) (a := a) (xs := rf rs)) (fun i H' => Mk H ld (lsI ls) i H') (Mk.start nld) (fun i H' _ mk => mk.same.seq (SqL.of tab.at_)) (fun i x H1 H2 hi mk y => ?_) (fun H1 mk => ?_)
    · obtain ⟨rfl, hx⟩ := y
      obtain ⟨r, hrr, rfl⟩ := rf_inv hx
      obtain ⟨mm, hmm⟩ := get_of (l := F) (i := i) (by have := get_lt hrr; have := tab.len; omega)
      have hrow := mk.same _ _ (tab.row i r mm hrr hmm)
      obtain ⟨l, hl, ln, lz, l1⟩ := low_ne L hmm
      have wmm := L.wf mm (List.mem_of_getElem? hmm)
      refine ⟨rfl, ?_⟩
      refine t_yes ?_
      refine ⟨_, rfl, ⟨r, mm, l, rfl, hrow, by rw [wmm.len]; exact ln, lz, by rw [l1]; decide, fun H3 s3 => ?_⟩⟩
      exact mk.step nld s3 (lsI_get hl) (by rw [lsI_len]; omega)
    have il := mk.done (by rw [List.length_map, tab.len, lsI_len, ll])
    have s1 := mk.same
    -- found
    refine ⟨Nat.zero_le _, fun fd0 nfd => ?_⟩
    have nfd0 : H fd0 = none := same_none s1 nfd
    have ne0 : ld ≠ fd0 := ne_of_none il nfd
    refine ⟨_, rfl, (n : Int), rfl, by omega, by omega, ?_⟩
    refine for_range (lo := 0) (n := _) (fun i σ H' => ∃ fs y3 y6 y7 y8, σ = [some (.int p), some (.int (n : Int)), some (.ref a), y3, some (.ref ld), some (.ref fd0), y6, y7, y8] ∧ Same H H' ∧ IL H' ld (lsI ls) ∧ Tab H' fd0 fs ((outs i ls).map (nullV p n F ls)))
      ⟨[], none, none, none, none, rfl, s1.trans (same_new nfd), (same_new nfd) _ _ il, ⟨upd_same, rfl, fun i r m hr => by simp at hr⟩⟩ (fun i σ H' hi hW => ?_) (fun σ H' hW => ?_)
    · rw [Int.toNat_natCast] at hi
      obtain ⟨fs, y3, y6, y7, y8, rfl, sm, ild, T⟩ := hW
      have iz : (0 : Int) + (i : Int) = (i : Int) := Int.zero_add _
      rw [iz]
      refine ⟨_, rfl, _, rfl, ld, _, rfl, .inl (IL.sq ild), rfl, all_flat _, !inV (.int (i : Int)) (iv (lsI ls)), rfl, ?_⟩
      rw [inV_int]
      by_cases hin : i ∈ ls
      · rw [decide_eq_true (lsI_mem.mpr hin)]
        refine iteF ?_
        refine ⟨fs, _, _, _, _, rfl, sm, ild, ?_⟩
        rw [outs_succ, if_pos hin, List.append_nil]
        exact T
      · rw [decide_eq_false (fun h => hin (lsI_mem.mp h))]
        refine iteT ?_
        -- row
        refine ⟨(by show 1 ≤ sizeLine; decide), fun l1 nl1 => ?_⟩
        refine ⟨_, rfl, l1, (n : Int), _, rfl, rfl, upd_same, by omega, by omega, ?_, fun z nz => ?_⟩
        · rw [Int.toNat_natCast, List.length_singleton, Nat.one_mul]
          exact Nat.le_of_lt (small1000 (by omega))
        have s2 : Same H' (L2.upd (L2.upd H' l1 (.lst [.int 0])) z (.lst (List.replicate (n : Int).toNat [V.int 0]).flatten)) := (same_new nl1).trans (same_new nz)
        have zz : IL (L2.upd (L2.upd H' l1 (.lst [.int 0])) z (.lst (List.replicate (n : Int).toNat [V.int 0]).flatten)) z (zeros n) := by
          show (L2.upd _ z _) z = _
          rw [upd_same, rep_zeros]
        have nz0 : H' z = none := same_none (same_new nl1) nz
        generalize L2.upd (L2.upd H' l1 (.lst [.int 0])) z (.lst (List.replicate (n : Int).toNat [V.int 0]).flatten) = H2 at *
        have lz : (iv (zeros n)).length = n := by rw [List.length_map, zeros_len]
        refine ⟨_, rfl, _, rfl, z, _, (i : Int), i, rfl, rfl, zz, ix_set (by rw [lz]; exact hi), ?_⟩
        have i2 : IL (L2.upd H2 z (.lst ((iv (zeros n)).set i (.int 1)))) z ((zeros n).set i 1) := IL.set
        have o2 : Off z H' (L2.upd H2 z (.lst ((iv (zeros n)).set i (.int 1)))) := fun u o nu e => by
          rw [upd_ne nu]
          exact s2 _ _ e
        generalize L2.upd H2 z (.lst ((iv (zeros n)).set i (.int 1))) = H3 at *
        have nld : ld ≠ z := ne_of_none ild nz0
        have ilo : ∀ {H4}, Off z H3 H4 → IL H4 ld (lsI ls) := fun {H4} o => o _ _ nld (o2 _ _ nld ild)
        have tabo : ∀ {H4}, Off z H3 H4 → Tab H4 a rs F := fun {H4} o => ((tab.same sm).off o2 (ne_of_none (sm _ _ tab.at_) nz0) fun r hr => by
          obtain ⟨m, _, hm⟩ := IL.ref tab hr
          exact ne_of_none (sm _ _ hm) nz0).off o (ne_of_none (sm _ _ tab.at_) nz0) fun r hr => by
          obtain ⟨m, _, hm⟩ := IL.ref tab hr
          exact ne_of_none (sm _ _ hm) nz0
        refine ⟨_, rfl, _, rfl, ld, a, _, _, rfl, IL.sq (ilo (Off.refl z H3)), SqL.of (tabo (Off.refl z H3)).at_, ?_⟩
        refine for_it (walk_zip (K := K) (a := ld) (b := a) (xs := iv (lsI ls)) (ys := rf rs) (n := F.length) (by rw [List.length_map, List.length_map, lsI_len, ll, tab.len, Nat.min_self])) (fun k σ H4 => ∃ ri y7 y8, σ = [some (.int p), some (.int (n : Int)), some (.ref a), some (.ref z), some (.ref ld), some (.ref fd0), some (.int (i : Int)), y7, y8] ∧ Off z H3 H4 ∧ IL H4 z ri ∧ ri.length = n ∧ setAll p i ri (ls.drop k) (F.drop k) = nullV p n F ls i)
          ⟨_, _, _, rfl, Off.refl z H3, i2, by rw [List.length_set, zeros_len], rfl⟩ (fun k σ H4 _ h => ?_) (fun k x σ H4 H5 hk hW y => ?_) (fun σ H4 hW => ?_)
        · obtain ⟨_, _, _, _, o, _⟩ := h
          exact ⟨IL.sq (ilo o), SqL.of (tabo o).at_⟩
        · obtain ⟨ri, y7, y8, rfl, o, iz4, lri, e⟩ := hW
          obtain ⟨T2, x1, x2, rfl, nT, rfl, g1, g2⟩ := y
          obtain ⟨r, hrr, rfl⟩ := rf_inv g2
          obtain ⟨m, hm⟩ := get_of (l := F) (i := k) hk
          obtain ⟨l, hl⟩ := get_of (l := ls) (i := k) (by omega)
          obtain ⟨zi, hzi, rfl⟩ := iv_inv g1
          rw [lsI_get hl] at hzi
          cases Option.some.inj hzi
          have ln := L.lt l (List.mem_of_getElem? hl)
          have sT : Same H4 (L2.upd H4 T2 (.tup [.int (l : Int), .ref r])) := same_new nT
          have hrow := sT _ _ ((tabo o).row k r m hrr hm)
          have wm := L.wf m (List.mem_of_getElem? hm)
          have iz5 := sT _ _ iz4
          have o5 : Off z H3 (L2.upd H4 T2 (.tup [.int (l : Int), .ref r])) := o.trans (Off.of sT)
          refine ⟨T2, _, rfl, .inl (.inl upd_same), rfl, _, _, rfl, _, _, rfl, rfl, ?_⟩
          generalize L2.upd H4 T2 (.tup [.int (l : Int), .ref r]) = H6 at *
          have hrow : IL H6 r m := hrow
          have iz5 : IL H6 z ri := iz5
          refine ⟨_, rfl, _, rfl, r, _, _, _, rfl, rfl, IL.sq hrow, atI_nat (iv_ent (by rw [wm.len]; exact hi)), _, rfl, _, rfl, _, _, rfl, rfl, (by show 0 < p; omega), _, rfl, _, rfl, z, _, (l : Int), l, rfl, rfl, iz5, ix_set (by rw [List.length_map, lri]; exact ln), ?_⟩
          refine ⟨ri.set l (-(ent m i) % p), _, _, rfl, fun u o' nu e => ?_, IL.set, by rw [List.length_set, lri], ?_⟩
          · rw [upd_ne nu]
            exact o5 _ _ nu e
          · rw [drop_get hl, drop_get hm] at e
            exact e
        · obtain ⟨ri, z7, z8, rfl, o, iz4, lri, e⟩ := hW
          rw [List.drop_eq_nil_of_le (Nat.le_refl _), setAll_nil] at e
          rw [e] at iz4
          have nfz : fd0 ≠ z := ne_of_none T.at_ nz0
          have nfr : ∀ r ∈ fs, r ≠ z := fun r hr => by
            obtain ⟨m, _, hm⟩ := IL.ref T hr
            exact ne_of_none hm nz0
          have T4 : Tab H4 fd0 fs ((outs i ls).map (nullV p n F ls)) := (T.off o2 nfz nfr).off o nfz nfr
          have lo : (rf fs).length ≤ i := by
            rw [List.length_map, T.len, List.length_map]
            have := List.length_filter_le (fun j => !ls.contains j) (List.range i)
            rw [List.length_range] at this
            exact this
          refine ⟨_, rfl, .inl ⟨rfl, _, SqL.of T4.at_⟩, _, rfl, fd0, _, _, rfl, rfl, T4.at_, small1000 (by omega), ?_⟩
          refine ⟨fs ++ [z], _, _, _, _, rfl, ?_, ?_, ?_⟩
          · refine same_upd nfd0 fun u o' e => o _ _ ?_ (o2 _ _ ?_ (sm _ _ e))
            · exact ne_of_none (sm _ _ e) nz0
            · exact ne_of_none (sm _ _ e) nz0
          · show (L2.upd H4 fd0 _) ld = _
            rw [upd_ne ne0]
            exact ilo o
          · rw [outs_succ, if_neg hin, List.map_append]
            exact T4.push iz4 nfz.symm
    · rw [Int.toNat_natCast] at hW
      obtain ⟨fs, y3, y6, y7, y8, rfl, sm, ild, T⟩ := hW
      have fl := found_len L
      refine ⟨_, rfl, _, rfl, ⟨p, n, fd0, fs, _, rfl, hp, hn, T, found_wf two, (by show (found p n F ls).length ≤ 100; omega), fun H5 q5 qs5 s5 n5 t5 f5 nd5 => ?_⟩⟩
      exact q H5 q5 qs5 (sm.trans s5) (same_none sm n5) t5 (fun r hr => same_none sm (f5 r hr)) nd5
end

/-! ### together -/
section
variable {P : Program} {w : World} {K : PySem.W.Frag} {mg : Str → Option Value} {base : Heap}
abbrev sTog : Stmt := topS 7
theorem scTog : FnScope ["p", "one", "other"] ["p", "one", "other"] (defScope sTog) := ⟨rfl, rfl, rfl, by decide +kernel, rfl, by decide +kernel, by decide +kernel⟩
def spTog : Sp := fun vs H Q _ => ∃ (p : Int) (n : Nat) (a b : Addr) (rs ss : List Addr) (M N : List Row), vs = [.int p, .ref a, .ref b] ∧ P5 p ∧ n ≤ 100 ∧ Tab H a rs M ∧ Tab H b ss N ∧ Wfs p n M ∧ Wfs p n N ∧ M.length + N.length ≤ 100 ∧
  ∀ H' q qs, Same H H' → H q = none → Tab H' q qs (lowM p (invM p) (M ++ N)) → (∀ r ∈ qs, H r = none) → qs.Nodup → Q (.ref q) H'
theorem ok_tog {f fL : Addr} {fd fdL : FuncData} {k : Nat} (F : Fun K "together" "together" sTog f fd)
    (GL : FnOk P w K mg base CX0 (k + 2) fL fdL ["p", "rows"] spLow) (bL : Binds K fdL ["p", "rows"] []) (kL : PySem.W.keepIn K (.ref fL) = true) (mL : mg "low" = some (.ref fL)) : FnOk P w K mg base CX0 (k + 3) f fd ["p", "one", "other"] spTog := by
  refine F.ok scTog (fun vs H Q E h => ?_) (fun cdv A outer s H vs Q E hr h => ?_)
  · obtain ⟨p, n, a, b, rs, ss, M, N, rfl, _⟩ := h
    rfl
  · obtain ⟨p, n, a, b, rs, ss, M, N, rfl, hp, hn, tM, tN, wM, wN, len, q⟩ := h
    refine ⟨_, pss_one (ps_ret (pe_call GL hr (by rfl) mL kL bL .nil pass0 (pa_cons (pv 0) (pa_cons (pe_op op_cat (pv 1) (pv 2)) pa_nil)))), ?_⟩
    refine ⟨_, rfl, _, rfl, _, rfl, a, b, _, _, rfl, rfl, tM.at_, tN.at_, by rw [List.length_map, List.length_map, tM.len, tN.len]; exact Nat.le_of_lt (small1000 (by omega)), fun z nz => ?_⟩
    have s1 : Same H (L2.upd H z (.lst (rf rs ++ rf ss))) := same_new nz
    have tC := (tM.same s1).cat (tN.same s1) upd_same
    refine ⟨p, n, z, rs ++ ss, M ++ N, rfl, hp, hn, tC, fun m hm => ?_, by rw [List.length_append]; exact len, fun H' q' qs s2 nq tq fq nd => ?_⟩
    · rcases List.mem_append.mp hm with h | h
      · exact wM m h
      · exact wN m h
    · exact q H' q' qs (s1.trans s2) (same_none s1 nq) tq (fun r hr => same_none s1 (fq r hr)) nd
end

/-! ### crossing -/
section
variable {P : Program} {w : World} {K : PySem.W.Frag} {mg : Str → Option Value} {base : Heap}
abbrev sCrs : Stmt := topS 8
theorem scCrs : FnScope ["p", "one", "other", "length", "outside"] ["p", "one", "other"] (defScope sCrs) := ⟨rfl, rfl, rfl, by decide +kernel, rfl, by decide +kernel, by decide +kernel⟩
def spCrs : Sp := fun vs H Q _ => ∃ (p : Int) (n : Nat) (a b : Addr) (rs ss : List Addr) (F G : List Row) (ls ms : List Nat), vs = [.int p, .ref a, .ref b] ∧ P5 p ∧ n ≤ 40 ∧ Tab H a rs F ∧ Tab H b ss G ∧ Low p n F ls ∧ Low p n G ms ∧
  ∀ H' q qs C cs, Same H H' → H q = none → Tab H' q qs C → (∀ r ∈ qs, H r = none) → qs.Nodup → Crs p (invM p) n F G C cs → C.length + (lowM p (invM p) (F ++ G)).length = F.length + G.length → Q (.ref q) H'
theorem ok_crs {f fA fT : Addr} {fd fdA fdT : FuncData} {k : Nat} (F : Fun K "crossing" "crossing" sCrs f fd)
    (GA : FnOk P w K mg base CX0 (k + 3) fA fdA ["p", "length", "form"] spAcr) (bA : Binds K fdA ["p", "length", "form"] []) (kA : PySem.W.keepIn K (.ref fA) = true) (mA : mg "across" = some (.ref fA))
    (GT : FnOk P w K mg base CX0 (k + 3) fT fdT ["p", "one", "other"] spTog) (bT : Binds K fdT ["p", "one", "other"] []) (kT : PySem.W.keepIn K (.ref fT) = true) (mT : mg "together" = some (.ref fT))
    (ml : mg "len" = none) : FnOk P w K mg base CX0 (k + 4) f fd ["p", "one", "other"] spCrs := by
  refine F.ok scCrs (fun vs H Q E h => ?_) (fun cdv A outer s H vs Q E hr h => ?_)
  · obtain ⟨p, n, a, b, rs, ss, F, G, ls, ms, rfl, _⟩ := h
    rfl
  · obtain ⟨p, n, a, b, rs, ss, F, G, ls, ms, rfl, hp, hn, tF, tG, LF, LG, q⟩ := h
    refine ⟨_, pss_cons (ps_if (PW.pt (pw_or (pt_not (pt_truth (pv 1) (by intro _; rfl))) (pw_or1 (pt_not (pt_truth (pv 2) (by intro _; rfl)))))) (pss_one (ps_ret (pe_lst pa_nil))) pss_nil)
      (pss_cons (ps_set (i := 3) scCrs.nd rfl (.inl rfl) (pe_callB call_len_seq (by rfl) ml PySem.boot_len (pa_cons (pe_ix ix_list (pv 1) pe_int (fun _ _ => rfl)) pa_nil)))
      (pss_cons (ps_set (i := 4) scCrs.nd rfl (.inl rfl) (pe_call GT hr (by rfl) mT kT bT .nil pass0 (pa_cons (pv 0) (pa_cons (pe_call GA hr (by rfl) mA kA bA .nil pass0 (pa_cons (pv 0) (pa_cons (pv 3) (pa_cons (pv 1) pa_nil)))) (pa_cons (pe_call GA hr (by rfl) mA kA bA .nil pass0 (pa_cons (pv 0) (pa_cons (pv 3) (pa_cons (pv 2) pa_nil)))) pa_nil)))))
      (pss_one (ps_ret (pe_call GA hr (by rfl) mA kA bA .nil pass0 (pa_cons (pv 0) (pa_cons (pv 3) (pa_cons (pv 4) pa_nil)))))))), ?_⟩
    have two := hp.two
    have hv := inv_is hp
    refine ⟨_, rfl, !(rf rs).isEmpty, .inl ⟨_, SqL.of tF.at_, rfl⟩, ?_⟩
    cases F with
    | nil =>
      have rs0 : rs = [] := List.eq_nil_of_length_eq_zero tF.len
      subst rs0
      refine iteT ?_
      refine ⟨Nat.zero_le _, fun z nz => q _ z [] [] [] (same_new nz) nz ⟨upd_same, rfl, fun i r m hr => by simp at hr⟩ (fun r hr => by simp at hr) List.nodup_nil ⟨nil_low, fun r hr => by simp at hr, fun r hr => by simp at hr, fun u h1 _ => h1⟩ ?_⟩
      show 0 + (lowM p (invM p) G).length = 0 + G.length
      rw [lowM_low two hv LG]
    | cons m0 F0 =>
      cases hrs : rs with
      | nil =>
        have := tF.len
        rw [hrs] at this
        simp at this
      | cons r0 rs0 =>
      subst hrs
      refine iteF ?_
      refine ⟨_, rfl, !(rf ss).isEmpty, .inl ⟨_, SqL.of tG.at_, rfl⟩, ?_⟩
      cases G with
      | nil =>
        have ss0 : ss = [] := List.eq_nil_of_length_eq_zero tG.len
        subst ss0
        refine iteT ?_
        refine ⟨Nat.zero_le _, fun z nz => q _ z [] [] [] (same_new nz) nz ⟨upd_same, rfl, fun i r m hr => by simp at hr⟩ (fun r hr => by simp at hr) List.nodup_nil ⟨nil_low, fun r hr => by simp at hr, fun r hr => by simp at hr, fun u _ h2 => h2⟩ ?_⟩
        rw [List.append_nil, lowM_low two hv LF]
        show 0 + _ = _ + 0
        omega
      | cons g0 G0 =>
        cases hss : ss with
        | nil =>
          have := tG.len
          rw [hss] at this
          simp at this
        | cons s0 ss0 =>
        subst hss
        refine iteF ?_
        have row0 : IL H r0 m0 := tF.row 0 r0 m0 rfl rfl
        have l0 := (LF.wf m0 List.mem_cons_self).len
        obtain ⟨as, LA, lA, _⟩ := acM_ok two hv LF
        obtain ⟨bs, LB, lB, _⟩ := acM_ok two hv LG
        obtain ⟨hs, LO, _⟩ := lowM_ok (n := n) two hv (lowM_app_wf LA LB)
        refine ⟨_, rfl, a, _, _, _, rfl, rfl, SqL.of tF.at_, atI_nat (j := 0) rfl, r0, _, rfl, .inl (IL.sq row0), ?_⟩
        rw [List.length_map, l0]
        refine ⟨_, rfl, _, rfl, _, rfl, _, rfl, ⟨p, n, a, _, _, ls, rfl, hp, by omega, tF, LF, fun H1 q1 qs1 s1 n1 t1 _ _ => ?_⟩⟩
        refine ⟨_, rfl, _, rfl, _, rfl, ⟨p, n, b, _, _, ms, rfl, hp, by omega, tG.same s1, LG, fun H2 q2 qs2 s2 n2 t2 _ _ => ?_⟩⟩
        refine ⟨p, n, q1, q2, qs1, qs2, _, _, rfl, hp, by omega, t1.same s2, t2, LA.wf, LB.wf, by omega, fun H3 q3 qs3 s3 n3 t3 _ _ => ?_⟩
        obtain ⟨cs, X, _⟩ := crs_ok two hv LF LG LA LB LO
        have len := crs_len two hv LF LG LA LB LO
        have s13 := (s1.trans s2).trans s3
        refine ⟨_, rfl, _, rfl, _, rfl, ⟨p, n, q3, qs3, _, hs, rfl, hp, by omega, t3, LO, fun H4 q4 qs4 s4 n4 t4 f4 nd4 => ?_⟩⟩
        exact q H4 q4 qs4 _ cs (s13.trans s4) (same_none s13 n4) t4 (fun r hr => same_none s13 (f4 r hr)) nd4 X len
end

/-! ### _law_two -/
section
variable {P : Program} {w : World} {K : PySem.W.Frag} {mg : Str → Option Value} {base : Heap}
abbrev sTwo : Stmt := topS 23
abbrev nTwo : List Str := ["_law_p", "_law_length", "_law_most", "_law_bag_here", "_law_one", "_law_other", "_law_row", "_law_rest", "_law_a", "_law_b"]
theorem scTwo : FnScope nTwo ["_law_p", "_law_length", "_law_most", "_law_bag_here"] (defScope sTwo) := ⟨rfl, rfl, rfl, by decide +kernel, rfl, by decide +kernel, by decide +kernel⟩
def spTwo : Sp := fun vs H Q _ => ∃ (p : Int) (n most : Nat) (b : Addr) (c : Nat), vs = [.int p, .int (n : Int), .int (most : Int), .ref b] ∧ P5 p ∧ n ≤ 100 ∧ 0 < most ∧ most ≤ 40 ∧ Bg H b c ∧ c < 2 ^ 19 ∧
  ∀ H' t fa ga fs gs F G ls ms, Off b H H' → H' t = some (.tup [.ref fa, .ref ga]) → Tab H' fa fs F → Tab H' ga gs G → Low p n F ls → Low p n G ms → Q (.ref t) H'
theorem ok_two {f fT fR fF : Addr} {fd fdT fdR fdF : FuncData} {k : Nat} (F : Fun K "_law_two" "_law_two" sTwo f fd)
    (GT : FnOk P w K mg base CX0 (k + 3) fT fdT ["_law_bag_here", "_law_many"] spTake) (bT : Binds K fdT ["_law_bag_here", "_law_many"] []) (kT : PySem.W.keepIn K (.ref fT) = true) (mT : mg "_law_take" = some (.ref fT))
    (GR : FnOk P w K mg base CX0 (k + 3) fR fdR ["_law_p", "_law_length", "_law_many", "_law_bag_here"] spRows) (bR : Binds K fdR ["_law_p", "_law_length", "_law_many", "_law_bag_here"] []) (kR : PySem.W.keepIn K (.ref fR) = true) (mR : mg "_law_rows" = some (.ref fR))
    (GF : FnOk P w K mg base CX0 (k + 3) fF fdF ["_law_p", "_law_rows_here"] spForm) (bF : Binds K fdF ["_law_p", "_law_rows_here"] []) (kF : PySem.W.keepIn K (.ref fF) = true) (mF : mg "_law_form" = some (.ref fF))
    (mz : mg "zip" = none) : FnOk P w K mg base CX0 (k + 4) f fd ["_law_p", "_law_length", "_law_most", "_law_bag_here"] spTwo := by
  refine F.ok scTwo (fun vs H Q E h => ?_) (fun cdv A outer s H vs Q E hr h => ?_)
  · obtain ⟨p, n, most, b, c, rfl, _⟩ := h
    rfl
  · obtain ⟨p, n, most, b, c, rfl, hp, hn, hm0, hm, hb, hc, q⟩ := h
    refine ⟨_, pss_cons (ps_set (i := 4) scTwo.nd rfl (.inl rfl) (pe_call GR hr (by rfl) mR kR bR .nil pass0 (pa_cons (pv 0) (pa_cons (pv 1) (pa_cons (pe_call GT hr (by rfl) mT kT bT .nil pass0 (pa_cons (pv 3) (pa_cons (pv 2) pa_nil))) (pa_cons (pv 3) pa_nil))))))
      (pss_cons (ps_set (i := 5) scTwo.nd rfl (.inl rfl) (pe_call GR hr (by rfl) mR kR bR .nil pass0 (pa_cons (pv 0) (pa_cons (pv 1) (pa_cons (pe_call GT hr (by rfl) mT kT bT .nil pass0 (pa_cons (pv 3) (pa_cons (pv 2) pa_nil))) (pa_cons (pv 3) pa_nil))))))
      (pss_cons (ps_for PassesOwn.never rfl (pi_list (pv 4)) (pg_name (i := 6) scTwo.nd rfl (Or.inl rfl))
        (pss_one (ps_if (pt_cmpR op_eq (pe_call GT hr (by rfl) mT kT bT .nil pass0 (pa_cons (pv 3) (pa_cons pe_int pa_nil))) pe_int (nomark _))
          (pss_cons (ps_set (i := 7) scTwo.nd rfl (.inr rfl) (pe_call GT hr (by rfl) mT kT bT .nil pass0 (pa_cons (pv 3) (pa_cons (pv 0) pa_nil))))
          (pss_one (ps_expr (pe_bm PySem.F.plainAttrs_list PySem.F.slot_list_append PySem.F.type_list_append mt_append (pv 5) (pa_cons (pe_lc (own := [("_law_a", 8), ("_law_b", 9)]) (g := gTup K 2 (gCons (gName 8) (gCons (gName 9) gNil))) (tt := tYes) (by rfl) scTwo.nd (pi_zip (by rfl) mz (pa_cons (pv 6) (pa_cons (pe_ix ix_list (pv 4) pe_int (fun _ _ => rfl)) pa_nil))) (blkOk_by (own := [("_law_a", 8), ("_law_b", 9)]) (N := nTwo) (sc := defScope sTwo) (by decide +kernel))
            (fun _ _ _ _ _ => pg_tup rfl (pgs_cons (pg_name (i := 8) scTwo.nd rfl (Or.inl rfl)) (pgs_cons (pg_name (i := 9) scTwo.nd rfl (Or.inl rfl)) pgs_nil))) (fun _ _ _ _ _ => pts_nil)
            (fun _ _ _ _ _ => pe_op op_mod (pe_op op_add (pv 8) (pe_op op_mul (pv 7) (pv 9))) (pv 0))) pa_nil))))) pss_nil)))
      (pss_one (ps_ret (pe_tup (pa_cons (pe_call GF hr (by rfl) mF kF bF .nil pass0 (pa_cons (pv 0) (pa_cons (pv 4) pa_nil))) (pa_cons (pe_call GF hr (by rfl) mF kF bF .nil pass0 (pa_cons (pv 0) (pa_cons (pv 5) pa_nil))) pa_nil))))))), ?_⟩
    have two := hp.two
    have le := hp.le
    have hv := inv_is hp
    have mulb : ∀ x : Nat, x ≤ 40 → x * (2 * n + 5) ≤ 40 * 205 := fun x hx => Nat.mul_le_mul hx (by omega)
    refine ⟨_, rfl, _, rfl, _, rfl, _, rfl, ⟨b, (most : Int), c, rfl, by omega, by omega, hb, by omega, fun d1 H1 a1 b1 off1 _ bag1 => ?_⟩⟩
    obtain ⟨D1, rfl⟩ := Int.eq_ofNat_of_zero_le a1
    refine ⟨_, rfl, ⟨p, n, D1, b, c + 1, rfl, by omega, le, hn, by omega, bag1, by omega, fun q1 rs M H2 wM lM off2 n1 tM f1 bag2 => ?_⟩⟩
    have m1 := mulb D1 (by omega)
    refine ⟨_, rfl, _, rfl, _, rfl, _, rfl, ⟨b, (most : Int), _, rfl, by omega, by omega, bag2, by omega, fun d2 H3 a2 b2 off3 _ bag3 => ?_⟩⟩
    obtain ⟨D2, rfl⟩ := Int.eq_ofNat_of_zero_le a2
    refine ⟨_, rfl, ⟨p, n, D2, b, _, rfl, by omega, le, hn, by omega, bag3, by omega, fun q2 ss N H4 wN lN off4 n2 tN f2 bag4 => ?_⟩⟩
    have m2 := mulb D2 (by omega)
    have bag4' : Bg H4 b (2 ^ 20) := bag4.mono (by omega)
    have nq1 : q1 ≠ b := bag1.ne n1
    have nr1 : ∀ r ∈ rs, r ≠ b := fun r hr => bag1.ne (f1 r hr)
    have nq2 : q2 ≠ b := bag3.ne n2
    have nr2 : ∀ r ∈ ss, r ≠ b := fun r hr => bag3.ne (f2 r hr)
    have tM3 := tM.off off3 nq1 nr1
    have n12 : q1 ≠ q2 := ne_of_none tM3.at_ n2
    have nr12 : ∀ r ∈ rs, r ≠ q2 := fun r hr => by
      obtain ⟨m, _, hm⟩ := IL.ref tM3 hr
      exact ne_of_none hm n2
    have off14 : Off b H H4 := ((off1.trans off2).trans off3).trans off4
    have nH2 : H q2 = none := ((off1.trans off2).trans off3).free n2 nq2
    have tM4 := tM3.off off4 nq1 nr1
    refine ⟨_, rfl, q1, rfl, ⟨_, SqL.of tM4.at_⟩, for_list (K := K) (a := q1) (xs := rf rs) (fun i σ H' => ∃ ss' N' y6 y7 y8 y9, σ = [some (.int p), some (.int (n : Int)), some (.int (most : Int)), some (.ref b), some (.ref q1), some (.ref q2), y6, y7, y8, y9] ∧ Off b H H' ∧ Tab H' q1 rs M ∧ Tab H' q2 ss' N' ∧ Wfs p n N' ∧ N'.length ≤ D2 + i ∧ (∀ r ∈ ss', r ≠ b) ∧ Bg H' b (2 ^ 20 + 2 * i))
      ⟨ss, N, _, _, _, _, rfl, off14, tM4, tN, wN, by omega, nr2, bag4'⟩ (fun i σ H' _ hW => ?_) (fun i x σ H' hx hW => ?_) (fun σ H' hW => ?_)⟩
    · obtain ⟨_, _, _, _, _, _, _, _, t, _⟩ := hW
      exact SqL.of t.at_
    · obtain ⟨ss', N', y6, y7, y8, y9, rfl, off5, t1, t2, w2, l2, nb2, bag5⟩ := hW
      obtain ⟨r0, hr0, rfl⟩ := rf_inv hx
      have hi := get_lt hr0
      obtain ⟨m0, hm0⟩ := get_of (l := M) (i := i) (by have := t1.len; omega)
      have w0 := wM m0 (List.mem_of_getElem? hm0)
      refine ⟨_, rfl, ⟨b, 3, _, rfl, by decide, by decide, bag5, by have := t1.len; omega, fun d3 H6 a3 b3 off6 _ bag6 => ?_⟩⟩
      have t16 := t1.off off6 nq1 nr1
      have t26 := t2.off off6 nq2 nb2
      refine ⟨rfl, _, rfl, ite2 (fun c1 => ?_) (fun c1 => ?_)⟩
      · refine ⟨_, rfl, _, rfl, ⟨b, p, _, rfl, by omega, by omega, bag6, by have := t1.len; omega, fun d4 H7 a4 b4 off7 _ bag7 => ?_⟩⟩
        have t17 := t16.off off7 nq1 nr1
        have t27 := t26.off off7 nq2 nb2
        have row0 := t17.row i r0 m0 hr0 hm0
        obtain ⟨mf, hmf⟩ := get_of (l := M) (i := 0) (by have := t1.len; omega)
        obtain ⟨rz, hrz⟩ := get_of (l := rs) (i := 0) (by omega)
        have rowf := t17.row 0 rz mf hrz hmf
        have wf := wM mf (List.mem_of_getElem? hmf)
        have wmix := mixR_wf (c := d4) (show 0 < p by omega) w0 wf
        refine ⟨_, rfl, .inl ⟨rfl, _, SqL.of t27.at_⟩, _, rfl, _, rfl, q1, _, _, _, rfl, rfl, SqL.of t17.at_, atI_nat (j := 0) (rf_get hrz), r0, rz, _, _, rfl, IL.sq row0, IL.sq rowf, fun D hD => ?_⟩
        refine lc_it (walk_zip (K := K) (a := r0) (b := rz) (xs := iv m0) (ys := iv mf) (n := n) (by rw [List.length_map, List.length_map, w0.len, wf.len, Nat.min_self])) (fun j H8 => Mk H7 D (mixR p d4 m0 mf) j H8) (Mk.start hD) (fun j H8 _ mk => ⟨mk.same.seq (IL.sq row0), mk.same.seq (IL.sq rowf)⟩) (fun j x H8 H9 hj mk y => ?_) (fun H8 mk => ?_)
        · obtain ⟨T, x1, x2, rfl, nT, rfl, g1, g2⟩ := y
          obtain ⟨z1, hz1, rfl⟩ := iv_inv g1
          obtain ⟨z2, hz2, rfl⟩ := iv_inv g2
          refine ⟨T, _, rfl, .inl (.inl upd_same), rfl, _, _, rfl, _, _, rfl, rfl, rfl, ?_⟩
          refine t_yes ?_
          refine ⟨_, rfl, _, rfl, _, rfl, _, _, rfl, rfl, .inl ⟨by omega, by omega⟩, _, _, rfl, rfl, _, rfl, _, _, rfl, rfl, (by show 0 < p; omega), ?_⟩
          exact mk.step hD (same_new nT) (mixR_get hz1 hz2) (by rw [wmix.len]; omega)
        · have iD := mk.done (by rw [wmix.len])
          have t18 := t17.same mk.same
          have t28 := t27.same mk.same
          have nD : D ≠ q2 := (ne_of_none t27.at_ hD).symm
          refine ⟨q2, _, _, rfl, rfl, t28.at_, by rw [List.length_map, t28.len]; exact small1000 (by have := t1.len; omega), ?_⟩
          refine ⟨ss' ++ [D], N' ++ [mixR p d4 m0 mf], _, _, _, _, rfl, ?_, t18.upd n12 nr12, t28.push iD nD, fun m hm => ?_, by rw [List.length_append, List.length_singleton]; omega, fun r hr => ?_, ?_⟩
          · exact (((off5.trans off6).trans off7).trans (Off.of mk.same)).new nH2
          · rcases List.mem_append.mp hm with h | h
            · exact w2 m h
            · rw [List.mem_singleton.mp h]
              exact wmix
          · rcases List.mem_append.mp hr with h | h
            · exact nb2 r h
            · rw [List.mem_singleton.mp h]
              exact bag7.ne hD
          · obtain ⟨x, y, h1, h2, h3, h4, h5⟩ := bag7
            exact ⟨x, y, by rw [upd_ne nq2.symm]; exact mk.same _ _ h1, h2, h3, by omega, h5⟩
      · exact ⟨ss', N', _, _, _, _, rfl, off5.trans off6, t16, t26, w2, by omega, nb2, bag6.mono (by omega)⟩
    · obtain ⟨ss', N', y6, y7, y8, y9, rfl, off5, t1, t2, w2, l2, nb2, bag5⟩ := hW
      have lrs : (rf rs).length = M.length := by rw [List.length_map, t1.len]
      refine ⟨_, rfl, _, rfl, ⟨p, n, q1, rs, M, rfl, hp, hn, t1, wM, by omega, fun H6 fa fs s6 nf tF _ => ?_⟩⟩
      refine ⟨_, rfl, _, rfl, ⟨p, n, q2, ss', N', rfl, hp, hn, t2.same s6, w2, by omega, fun H7 ga gs s7 ng tG _ => ?_⟩⟩
      obtain ⟨ls, LF, _⟩ := lowM_ok (n := n) two hv wM
      obtain ⟨ms, LG, _⟩ := lowM_ok (n := n) two hv w2
      refine ⟨(by show 2 ≤ sizeLine; decide), fun t nt => ?_⟩
      have s8 : Same H7 (L2.upd H7 t (.tup [.ref fa, .ref ga])) := same_new nt
      exact q _ t fa ga fs gs _ _ ls ms (off5.trans (Off.of ((s6.trans s7).trans s8))) upd_same ((tF.same s7).same s8) (tG.same s8) LF LG
end

/-! ### _law_right -/
section
variable {P : Program} {w : World} {K : PySem.W.Frag} {mg : Str → Option Value} {base : Heap}
abbrev sRight : Stmt := topS 24
abbrev nRight : List Str := ["_law_p", "_law_length", "_law_one", "_law_other", "_law_row", "_law_handed", "_law_whole_here", "_law_told", "_law_found"]
theorem scRight : FnScope nRight ["_law_p", "_law_length", "_law_one", "_law_other"] (defScope sRight) := ⟨rfl, rfl, rfl, by decide +kernel, rfl, by decide +kernel, by decide +kernel⟩
def spRight : Sp := fun vs H Q _ => ∃ (p : Int) (n : Nat) (a b : Addr) (rs ss : List Addr) (F G : List Row) (ls ms : List Nat), vs = [.int p, .int (n : Int), .ref a, .ref b] ∧ P5 p ∧ n ≤ 40 ∧ Tab H a rs F ∧ Tab H b ss G ∧ Low p n F ls ∧ Low p n G ms ∧ ∀ H', Same H H' → Q (.bl true) H'
theorem ok_right {f fF fT fC fK fI : Addr} {fd fdF fdT fdC fdK fdI : FuncData} {k : Nat} (F : Fun K "_law_right" "_law_right" sRight f fd)
    (GF : FnOk P w K mg base CX0 (k + 4) fF fdF ["_law_p", "_law_rows_here"] spForm) (bF : Binds K fdF ["_law_p", "_law_rows_here"] []) (kF : PySem.W.keepIn K (.ref fF) = true) (mF : mg "_law_form" = some (.ref fF))
    (GT : FnOk P w K mg base CX0 (k + 4) fT fdT ["p", "one", "other"] spTog) (bT : Binds K fdT ["p", "one", "other"] []) (kT : PySem.W.keepIn K (.ref fT) = true) (mT : mg "together" = some (.ref fT))
    (GC : FnOk P w K mg base CX0 (k + 4) fC fdC ["p", "one", "other"] spCrs) (bC : Binds K fdC ["p", "one", "other"] []) (kC : PySem.W.keepIn K (.ref fC) = true) (mC : mg "crossing" = some (.ref fC))
    (GK : FnOk P w K mg base CX0 (k + 4) fK fdK ["_law_p", "_law_length", "_law_thing"] spLike) (bK : Binds K fdK ["_law_p", "_law_length", "_law_thing"] []) (kK : PySem.W.keepIn K (.ref fK) = true) (mK : mg "_law_rows_like" = some (.ref fK))
    (GI : FnOk P w K mg base CX0 (k + 4) fI fdI ["_law_p", "_law_form_here", "_law_row"] spIn) (bI : Binds K fdI ["_law_p", "_law_form_here", "_law_row"] []) (kI : PySem.W.keepIn K (.ref fI) = true) (mI : mg "_law_in" = some (.ref fI))
    (mt : mg "list" = none) (ml : mg "len" = none) (ma : mg "all" = none) : FnOk P w K mg base CX0 (k + 5) f fd ["_law_p", "_law_length", "_law_one", "_law_other"] spRight := by
  refine F.ok scRight (fun vs H Q E h => ?_) (fun cdv A outer s H vs Q E hr h => ?_)
  · obtain ⟨p, n, a, b, rs, ss, F, G, ls, ms, rfl, _⟩ := h
    rfl
  · obtain ⟨p, n, a, b, rs, ss, F, G, ls, ms, rfl, hp, hn, tF, tG, LF, LG, q⟩ := h
    refine ⟨_, pss_cons (ps_set (i := 5) scRight.nd rfl (.inl rfl) (pe_lst (pa_cons (pe_lc (own := [("_law_row", 4)]) (g := gName 4) (tt := tYes) (by rfl) scRight.nd (pi_list (pv 2)) (blkOk_by (own := [("_law_row", 4)]) (N := nRight) (sc := defScope sRight) (by decide +kernel))
          (fun _ _ _ _ _ => pg_name (i := 4) scRight.nd rfl (Or.inl rfl)) (fun _ _ _ _ _ => pts_nil) (fun _ _ _ _ _ => pe_callTy (cLst K rfl) (by rfl) mt (by decide +kernel) (pa_cons (pv 4) pa_nil)))
        (pa_cons (pe_lc (own := [("_law_row", 4)]) (g := gName 4) (tt := tYes) (by rfl) scRight.nd (pi_list (pv 3)) (blkOk_by (own := [("_law_row", 4)]) (N := nRight) (sc := defScope sRight) (by decide +kernel))
          (fun _ _ _ _ _ => pg_name (i := 4) scRight.nd rfl (Or.inl rfl)) (fun _ _ _ _ _ => pts_nil) (fun _ _ _ _ _ => pe_callTy (cLst K rfl) (by rfl) mt (by decide +kernel) (pa_cons (pv 4) pa_nil))) pa_nil))))
      (pss_cons (ps_set (i := 6) scRight.nd rfl (.inl rfl) (pe_call GF hr (by rfl) mF kF bF .nil pass0 (pa_cons (pv 0) (pa_cons (pe_op op_cat (pv 2) (pv 3)) pa_nil))))
      (pss_cons (ps_set (i := 7) scRight.nd rfl (.inl rfl) (pe_call GT hr (by rfl) mT kT bT .nil pass0 (pa_cons (pv 0) (pa_cons (pe_ix ix_list (pv 5) pe_int (fun _ _ => rfl)) (pa_cons (pe_ix ix_list (pv 5) pe_int (fun _ _ => rfl)) pa_nil)))))
      (pss_cons (ps_set (i := 8) scRight.nd rfl (.inl rfl) (pe_call GC hr (by rfl) mC kC bC .nil pass0 (pa_cons (pv 0) (pa_cons (pe_ix ix_list (pv 5) pe_int (fun _ _ => rfl)) (pa_cons (pe_ix ix_list (pv 5) pe_int (fun _ _ => rfl)) pa_nil)))))
      (pss_cons (ps_if (PW.pt (pw_or (pt_not (pt_val (pe_call GK hr (by rfl) mK kK bK .nil pass0 (pa_cons (pv 0) (pa_cons (pv 1) (pa_cons (pv 7) pa_nil)))))) (pw_or (pt_cmpR (op_neD hr.units) (pv 7) (pv 6) (nomark _)) (pw_or1 (pt_cmpR (op_neD hr.units) (pv 5) (pe_lst (pa_cons (pv 2) (pa_cons (pv 3) pa_nil))) (nomark _)))))) (pss_one (ps_ret pe_bl)) pss_nil)
      (pss_cons (ps_if (PW.pt (pw_or (pt_not (pt_val (pe_call GK hr (by rfl) mK kK bK .nil pass0 (pa_cons (pv 0) (pa_cons (pv 1) (pa_cons (pv 8) pa_nil)))))) (pw_or1 (pt_cmpR (op_neD hr.units) (pe_call GF hr (by rfl) mF kF bF .nil pass0 (pa_cons (pv 0) (pa_cons (pv 8) pa_nil))) (pv 8) (nomark _))))) (pss_one (ps_ret pe_bl)) pss_nil)
      (pss_cons (ps_if (pt_cmpR op_ne (pe_callB call_len_seq (by rfl) ml PySem.boot_len (pa_cons (pv 8) pa_nil)) (pe_op op_sub (pe_op op_add (pe_callB call_len_seq (by rfl) ml PySem.boot_len (pa_cons (pv 2) pa_nil)) (pe_callB call_len_seq (by rfl) ml PySem.boot_len (pa_cons (pv 3) pa_nil))) (pe_callB call_len_seq (by rfl) ml PySem.boot_len (pa_cons (pv 6) pa_nil))) (nomark _)) (pss_one (ps_ret pe_bl)) pss_nil)
      (pss_cons (ps_if (pt_not (pt_val (pe_callB (cr_all rfl) (by rfl) ma (by decide +kernel) (pa_cons (pe_lc (own := [("_law_row", 4)]) (g := gName 4) (tt := tYes) (by rfl) scRight.nd (pi_list (pv 8)) (blkOk_by (own := [("_law_row", 4)]) (N := nRight) (sc := defScope sRight) (by decide +kernel))
          (fun _ _ _ _ _ => pg_name (i := 4) scRight.nd rfl (Or.inl rfl)) (fun _ _ _ _ _ => pts_nil) (fun _ _ _ _ _ => pe_and (pe_call GI hr (by rfl) mI kI bI .nil pass0 (pa_cons (pv 0) (pa_cons (pv 2) (pa_cons (pv 4) pa_nil)))) (pe_one (pe_call GI hr (by rfl) mI kI bI .nil pass0 (pa_cons (pv 0) (pa_cons (pv 3) (pa_cons (pv 4) pa_nil))))))) pa_nil)))) (pss_one (ps_ret pe_bl)) pss_nil)
      (pss_cons (ps_for PassesOwn.never rfl (pi_list (pe_op op_cat (pv 7) (pv 8))) (pg_name (i := 4) scRight.nd rfl (Or.inl rfl)) (pss_one (ps_expr (pe_bm PySem.F.plainAttrs_list PySem.F.slot_list_append PySem.F.type_list_append mt_append (pv 4) (pa_cons pe_int pa_nil)))))
      (pss_cons (ps_expr (pe_bm PySem.F.plainAttrs_list PySem.F.slot_list_append PySem.F.type_list_append mt_append (pv 7) (pa_cons pe_non pa_nil)))
      (pss_cons (ps_expr (pe_bm PySem.F.plainAttrs_list PySem.F.slot_list_append PySem.F.type_list_append mt_append (pv 8) (pa_cons pe_non pa_nil)))
      (pss_one (ps_ret (pe_cmpR (op_eqD hr.units) (pv 5) (pe_lst (pa_cons (pv 2) (pa_cons (pv 3) pa_nil))) (nomark _)))))))))))))), ?_⟩
    have two := hp.two
    have le := hp.le
    have hv := inv_is hp
    have fewF := low_few LF
    have fewG := low_few LG
    -- handed
    refine ⟨_, rfl, a, rfl, ⟨_, SqL.of tF.at_⟩, fun h1 nh1 => ?_⟩
    refine lc_it (walk_list (K := K) (a := a) (xs := rf rs)) (fun i H' => ∃ qs, Mt H h1 [] F i H' qs) ⟨[], Mt.start nh1⟩ (fun i H' _ ⟨qs, mk⟩ => (mk.same.seq (SqL.of tF.at_))) (fun i x H3 H4 hi ⟨qs, mk⟩ y => ?_) (fun H1 ⟨hs1, mk1⟩ => ?_)
    · obtain ⟨rfl, hx⟩ := y
      obtain ⟨r, hrr, rfl⟩ := rf_inv hx
      obtain ⟨mm, hmm⟩ := get_of (l := F) (i := i) (by have := get_lt hrr; have := tF.len; omega)
      have hrow : IL H4 r mm := mk.same _ _ (tF.row i r mm hrr hmm)
      refine ⟨rfl, ?_⟩
      refine t_yes ?_
      refine ⟨_, rfl, r, _, rfl, .inl (IL.sq hrow), fun l nl => ?_⟩
      obtain ⟨acc, e1, e2, e3⟩ := mk.step nh1 (fun r hr => by simp at hr) (same_new nl) hmm upd_same (.inr nl) (by omega)
      exact ⟨acc, e1, e2, _, e3⟩
    have tH1 := mk1.tab (by rw [List.length_map, tF.len])
    have tG1 := tG.same mk1.same
    refine ⟨_, rfl, b, rfl, ⟨_, SqL.of tG1.at_⟩, fun h2 nh2 => ?_⟩
    refine lc_it (walk_list (K := K) (a := b) (xs := rf ss)) (fun i H' => ∃ qs, Mt H1 h2 [] G i H' qs) ⟨[], Mt.start nh2⟩ (fun i H' _ ⟨qs, mk⟩ => (mk.same.seq (SqL.of tG1.at_))) (fun i x H3 H4 hi ⟨qs, mk⟩ y => ?_) (fun H2 ⟨hs2, mk2⟩ => ?_)
    · obtain ⟨rfl, hx⟩ := y
      obtain ⟨r, hrr, rfl⟩ := rf_inv hx
      obtain ⟨mm, hmm⟩ := get_of (l := G) (i := i) (by have := get_lt hrr; have := tG1.len; omega)
      have hrow : IL H4 r mm := mk.same _ _ (tG1.row i r mm hrr hmm)
      refine ⟨rfl, ?_⟩
      refine t_yes ?_
      refine ⟨_, rfl, r, _, rfl, .inl (IL.sq hrow), fun l nl => ?_⟩
      obtain ⟨acc, e1, e2, e3⟩ := mk.step nh2 (fun r hr => by simp at hr) (same_new nl) hmm upd_same (.inr nl) (by omega)
      exact ⟨acc, e1, e2, _, e3⟩
    have tH2 := mk2.tab (by rw [List.length_map, tG.len])
    refine ⟨(by show 2 ≤ sizeLine; decide), fun hd nhd => ?_⟩
    have s3 : Same H2 (L2.upd H2 hd (.lst [.ref h1, .ref h2])) := same_new nhd
    have eh : (L2.upd H2 hd (.lst [.ref h1, .ref h2])) hd = some (.lst [.ref h1, .ref h2]) := upd_same
    have uH1 := (tH1.same mk2.same).same s3
    have uH2 := tH2.same s3
    have uF := ((tF.same mk1.same).same mk2.same).same s3
    have uG := (tG1.same mk2.same).same s3
    have sH : Same H (L2.upd H2 hd (.lst [.ref h1, .ref h2])) := (mk1.same.trans mk2.same).trans s3
    generalize L2.upd H2 hd (.lst [.ref h1, .ref h2]) = H3 at *
    -- whole
    refine ⟨_, rfl, _, rfl, _, rfl, a, b, _, _, rfl, rfl, uF.at_, uG.at_, by rw [List.length_map, List.length_map, uF.len, uG.len]; exact Nat.le_of_lt (small1000 (by omega)), fun z nz => ?_⟩
    have s4 : Same H3 (L2.upd H3 z (.lst (rf rs ++ rf ss))) := same_new nz
    have tC := (uF.same s4).cat (uG.same s4) upd_same
    have wFG := lowM_app_wf LF LG
    refine ⟨p, n, z, rs ++ ss, F ++ G, rfl, hp, by omega, tC, wFG, by rw [List.length_append]; omega, fun H5 wa ws s5 nw tW _ => ?_⟩
    have s35 := s4.trans s5
    have eh5 := s35 _ _ eh
    -- told
    refine ⟨_, rfl, _, rfl, hd, _, _, _, rfl, rfl, SqL.of eh5, atI_nat (j := 0) rfl, _, rfl, hd, _, _, _, rfl, rfl, SqL.of eh5, atI_nat (j := 1) rfl, ⟨p, n, h1, h2, hs1, hs2, F, G, rfl, hp, by omega, uH1.same s35, uH2.same s35, LF.wf, LG.wf, by omega, fun H6 T qs s6 nT tT fT ndT => ?_⟩⟩
    have s36 := s35.trans s6
    have eh6 := s36 _ _ eh
    -- found
    refine ⟨_, rfl, _, rfl, hd, _, _, _, rfl, rfl, SqL.of eh6, atI_nat (j := 0) rfl, _, rfl, hd, _, _, _, rfl, rfl, SqL.of eh6, atI_nat (j := 1) rfl, ⟨p, n, h1, h2, hs1, hs2, F, G, ls, ms, rfl, hp, hn, uH1.same s36, uH2.same s36, LF, LG, fun H7 g gs C cs s7 ng tg fg ndg X len => ?_⟩⟩
    obtain ⟨ts, LT, _⟩ := lowM_ok (n := n) two hv wFG
    generalize lowM p (invM p) (F ++ G) = W at *
    have fewT := low_few LT
    have fewC := low_few X.low
    have s37 := s36.trans s7
    have tT7 := tT.same s7
    have tW7 := (tW.same s6).same s7
    -- the first test
    refine ⟨_, rfl, _, rfl, _, rfl, ⟨p, n, T, qs, W, rfl, by omega, tT7, LT.wf, fun H8 s8 => ⟨true, rfl, iteF ?_⟩⟩⟩
    have tT8 := tT7.same s8
    refine ⟨_, rfl, _, rfl, _, _, tT8.dp, (tW7.same s8).dp, dTab_shaped _, dTab_shaped _, false, by rw [dTab_eq]; rfl, iteF ?_⟩
    have s38 := s37.trans s8
    refine ⟨_, rfl, _, rfl, _, rfl, (by show 2 ≤ sizeLine; decide), fun t2 nt2 => ?_⟩
    have s9 : Same H8 (L2.upd H8 t2 (.lst [.ref a, .ref b])) := same_new nt2
    have s39 := s38.trans s9
    have dA := dp_two (K := K) (s39 _ _ eh) (uH1.same s39) (uH2.same s39)
    have dB := dp_two (K := K) (H := L2.upd H8 t2 (.lst [.ref a, .ref b])) (q := t2) upd_same (uF.same s39) (uG.same s39)
    have s79 := s8.trans s9
    generalize L2.upd H8 t2 (.lst [.ref a, .ref b]) = H9 at *
    refine ⟨_, _, dA, dB, dTwo_shaped _ _, dTwo_shaped _ _, false, by rw [dTwo_eq]; rfl, iteF ?_⟩
    -- the second test
    have tg9 := tg.same s79
    refine ⟨_, rfl, _, rfl, _, rfl, ⟨p, n, g, gs, C, rfl, by omega, tg9, X.low.wf, fun H10 s10 => ⟨true, rfl, iteF ?_⟩⟩⟩
    have tg10 := tg9.same s10
    refine ⟨_, rfl, _, rfl, ⟨p, n, g, gs, C, rfl, hp, by omega, tg10, X.low.wf, by omega, fun H11 f1 fs1 s11 nf1 tf1 _ => ?_⟩⟩
    rw [lowM_low two hv X.low] at tf1
    have tg11 := tg10.same s11
    refine ⟨_, rfl, _, _, tf1.dp, tg11.dp, dTab_shaped _, dTab_shaped _, false, by rw [dTab_eq]; rfl, iteF ?_⟩
    have s711 := (s79.trans s10).trans s11
    have s311 := s37.trans s711
    have vF := uF.same s311
    have vG := uG.same s311
    have vW := tW7.same s711
    -- how many
    refine ⟨_, rfl, g, _, rfl, .inl (SqL.of tg11.at_), _, rfl, a, _, rfl, .inl (SqL.of vF.at_), _, rfl, b, _, rfl, .inl (SqL.of vG.at_), _, _, rfl, rfl, _, rfl, wa, _, rfl, .inl (SqL.of vW.at_), _, _, rfl, rfl, rfl, false, ?_, iteF ?_⟩
    · have e : (((rf gs).length : Nat) : Int) = ((rf rs).length : Int) + ((rf ss).length : Int) - ((rf ws).length : Int) := by
        rw [List.length_map, List.length_map, List.length_map, List.length_map, tg11.len, vF.len, vG.len, vW.len]
        omega
      show V.bl (!decide (V.int (((rf gs).length : Nat) : Int) = V.int (((rf rs).length : Int) + ((rf ss).length : Int) - ((rf ws).length : Int)))) = _
      rw [e, decide_eq_true rfl]
      rfl
    -- in both
    refine ⟨_, rfl, g, rfl, ⟨_, SqL.of tg11.at_⟩, fun D hD => lc_it (walk_list (K := K) (a := g) (xs := rf gs)) (fun i H' => Same H11 H' ∧ H' D = some (.lst (List.replicate i (.bl true)))) ⟨same_new hD, upd_same⟩ (fun i H' _ h => h.1.seq (SqL.of tg11.at_)) (fun i x H12 H13 hi hW y => ?_) (fun H12 hW => ?_)⟩
    · obtain ⟨rfl, hx⟩ := y
      obtain ⟨r, hrr, rfl⟩ := rf_inv hx
      obtain ⟨m, hm⟩ := get_of (l := C) (i := i) (by have := get_lt hrr; have := tg11.len; omega)
      obtain ⟨sm1, e1⟩ := hW
      have cm := List.mem_of_getElem? hm
      have wm := X.low.wf m cm
      have hrow : IL H13 r m := sm1 _ _ (tg11.row i r m hrr hm)
      refine ⟨rfl, ?_⟩
      refine t_yes ?_
      refine ⟨_, rfl, _, rfl, _, rfl, ⟨p, n, a, r, rs, F, ls, m, rfl, ⟨two, le, by omega, vF.same sm1, LF, hrow, wm⟩, fun H14 s14 => ⟨true, ?_, iteT ?_⟩⟩⟩
      · rw [decide_eq_true (in_true two LF wm (X.one m cm))]
      have hrow2 : IL H14 r m := s14 _ _ hrow
      refine ⟨_, rfl, _, rfl, _, rfl, ⟨p, n, b, r, ss, G, ms, m, rfl, ⟨two, le, by omega, (vG.same sm1).same s14, LG, hrow2, wm⟩, fun H15 s15 => ?_⟩⟩
      rw [decide_eq_true (in_true two LG wm (X.two m cm))]
      refine ⟨_, s15 _ _ (s14 _ _ e1), by rw [List.length_replicate]; exact small1000 (by have := get_lt hm; omega), same_upd hD ((sm1.trans s14).trans s15), ?_⟩
      rw [upd_same, List.replicate_succ']
    obtain ⟨sm1, e1⟩ := hW
    refine ⟨D, List.replicate (rf gs).length true, rfl, SqL.of (by rw [e1, List.map_replicate]), true, ?_, iteF ?_⟩
    · rw [List.all_replicate]
      simp
    -- what was told is changed
    have s712 := s711.trans sm1
    have tT12 := tT7.same s712
    have tg12 := tg11.same sm1
    refine ⟨_, rfl, _, rfl, T, g, _, _, rfl, rfl, tT12.at_, tg12.at_, by rw [List.length_map, List.length_map, tT12.len, tg12.len]; exact Nat.le_of_lt (small1000 (by omega)), fun x nx => ?_⟩
    have s13 : Same H12 (L2.upd H12 x (.lst (rf qs ++ rf gs))) := same_new nx
    have tX := (tT12.same s13).cat (tg12.same s13) upd_same
    have tT13 := tT12.same s13
    have tg13 := tg12.same s13
    have xT : x ≠ T := (ne_of_none tT12.at_ nx).symm
    have xg : x ≠ g := (ne_of_none tg12.at_ nx).symm
    have s313 : Same H3 (L2.upd H12 x (.lst (rf qs ++ rf gs))) := (s37.trans s712).trans s13
    have xself := tX.self_off
    have Tq := tT13.self_off
    have gg := tg13.self_off
    have Tg : T ∉ gs := fun h => by
      have z := fg T h
      rw [tT.at_] at z
      cases z
    have gq : g ∉ qs := fun h => by
      obtain ⟨m, _, hm⟩ := IL.ref tT h
      rw [IL, ng] at hm
      cases hm
    have nd : (qs ++ gs).Nodup := List.nodup_append.mpr ⟨ndT, ndg, fun u hu v hv e => by
      obtain ⟨m, _, hm⟩ := IL.ref tT hu
      have z := fg v hv
      rw [← e] at z
      rw [IL, z] at hm
      cases hm⟩
    have far : ∀ u o, H5 u = some o → u ∉ T :: g :: (qs ++ gs) := fun u o e hm => by
      rcases List.mem_cons.mp hm with z | z
      · rw [z, nT] at e
        cases e
      · rcases List.mem_cons.mp z with z | z
        · have e2 := s6 _ _ e
          rw [z, ng] at e2
          cases e2
        · rcases List.mem_append.mp z with z | z
          · rw [fT u z] at e
            cases e
          · have e2 := s6 _ _ e
            rw [fg u z] at e2
            cases e2
    generalize L2.upd H12 x (.lst (rf qs ++ rf gs)) = H13 at *
    have eX := tX.at_
    refine ⟨x, rfl, ⟨_, SqL.of eX⟩, for_list (K := K) (a := x) (xs := rf (qs ++ gs)) (fun t σ H' => ∃ z4, σ = [some (.int p), some (.int (n : Int)), some (.ref a), some (.ref b), z4, some (.ref hd), some (.ref wa), some (.ref T), some (.ref g)] ∧ OffS (T :: g :: (qs ++ gs)) H13 H' ∧ H' x = some (.lst (rf (qs ++ gs))) ∧ H' T = some (.lst (rf qs)) ∧ H' g = some (.lst (rf gs)) ∧ ∀ (j : Nat) r m, t ≤ j → (qs ++ gs)[j]? = some r → (W ++ C)[j]? = some m → IL H' r m) ⟨_, rfl, fun _ _ _ h => h, eX, tT13.at_, tg13.at_, fun j r m _ hr hm => tX.row j r m hr hm⟩ (fun j σ H' _ hW => ?_) (fun j v σ H' hx hW => ?_) (fun σ H' hW => ?_)⟩
    · obtain ⟨_, _, _, e, _⟩ := hW
      exact SqL.of e
    · obtain ⟨z4, rfl, off, ex, eT, eg, rest⟩ := hW
      obtain ⟨r, hrr, rfl⟩ := rf_inv hx
      obtain ⟨m, hm⟩ := get_of (l := W ++ C) (i := j) (by have := get_lt hrr; have := tX.len; omega)
      have hrow := rest j r m (Nat.le_refl _) hrr hm
      have lm : m.length ≤ 100 := by
        rcases List.mem_append.mp (List.mem_of_getElem? hm) with h | h
        · rw [(LT.wf m h).len]; omega
        · rw [(X.low.wf m h).len]; omega
      have rq : r ∈ qs ++ gs := List.mem_of_getElem? hrr
      have nx2 : x ≠ r := fun e => xself (e ▸ rq)
      have nT2 : T ≠ r := fun e => by
        rcases List.mem_append.mp rq with h | h
        · exact Tq (e ▸ h)
        · exact Tg (e ▸ h)
      have ng2 : g ≠ r := fun e => by
        rcases List.mem_append.mp rq with h | h
        · exact gq (e ▸ h)
        · exact gg (e ▸ h)
      refine ⟨_, rfl, .inl ⟨rfl, _, IL.sq hrow⟩, r, _, _, rfl, rfl, hrow, by rw [List.length_map]; exact small1000 (by omega), ?_⟩
      refine ⟨_, rfl, fun u o hu e => ?_, ?_, ?_, ?_, fun j2 r2 m2 hj2 hr2 hm2 => ?_⟩
      · have nu : u ≠ r := fun z => hu (z ▸ List.mem_cons_of_mem _ (List.mem_cons_of_mem _ rq))
        rw [upd_ne nu]
        exact off u o hu e
      · rw [upd_ne nx2]
        exact ex
      · rw [upd_ne nT2]
        exact eT
      · rw [upd_ne ng2]
        exact eg
      · have nr : r2 ≠ r := fun z => by
          rw [z] at hr2
          have := nd_ix nd hr2 hrr
          omega
        show (L2.upd H' r _) r2 = _
        rw [upd_ne nr]
        exact rest j2 r2 m2 (by omega) hr2 hm2
    · obtain ⟨z4, rfl, off, ex, eT, eg, _⟩ := hW
      have lT : (rf qs).length ≤ 100 := by rw [List.length_map, tT.len]; omega
      have lg : (rf gs).length ≤ 100 := by rw [List.length_map, tg.len]; omega
      have nTg : g ≠ T := fun e => by
        rw [e, tT.at_] at ng
        cases ng
      refine ⟨_, rfl, .inl ⟨rfl, _, SqL.of eT⟩, T, _, _, rfl, rfl, eT, small1000 (by omega), ?_⟩
      have eg2 : (L2.upd H' T (.lst (rf qs ++ [.non]))) g = some (.lst (rf gs)) := by
        rw [upd_ne nTg]
        exact eg
      refine ⟨_, rfl, .inl ⟨rfl, _, SqL.of eg2⟩, g, _, _, rfl, rfl, eg2, small1000 (by omega), ?_⟩
      have off2 : OffS (T :: g :: (qs ++ gs)) H13 (L2.upd (L2.upd H' T (.lst (rf qs ++ [.non]))) g (.lst (rf gs ++ [.non]))) := fun u o hu e => by
        rw [upd_ne (fun z : u = g => hu (z ▸ List.mem_cons_of_mem _ List.mem_cons_self)), upd_ne (fun z : u = T => hu (z ▸ List.mem_cons_self))]
        exact off u o hu e
      generalize L2.upd (L2.upd H' T (.lst (rf qs ++ [.non]))) g (.lst (rf gs ++ [.non])) = H16 at *
      have keep : ∀ u o, H3 u = some o → H16 u = some o := fun u o e => off2 u o (far u o (s35 _ _ e)) (s313 _ _ e)
      have keepS : Same H3 H16 := keep
      refine ⟨_, rfl, _, rfl, _, rfl, (by show 2 ≤ sizeLine; decide), fun t3 nt3 => ?_⟩
      have s17 : Same H16 (L2.upd H16 t3 (.lst [.ref a, .ref b])) := same_new nt3
      have sk := keepS.trans s17
      have dA2 := dp_two (K := K) (sk _ _ eh) (uH1.same sk) (uH2.same sk)
      have dB2 := dp_two (K := K) (H := L2.upd H16 t3 (.lst [.ref a, .ref b])) (q := t3) upd_same (uF.same sk) (uG.same sk)
      refine ⟨_, _, dA2, dB2, dTwo_shaped _ _, dTwo_shaped _ _, ?_⟩
      rw [dTwo_eq]
      exact q _ (sH.trans sk)
end

/-! ### law_k04 -/
section
variable {P : Program} {w : World} {K : PySem.W.Frag} {mg : Str → Option Value} {base : Heap}
abbrev sLaw : Stmt := topS 25
abbrev nLaw : List Str := ["_law_script", "_law_k", "_law_bag_here", "_law_p", "_law_length", "_law_most", "_law_one", "_law_other", "_law_whole_here", "_law_pairs", "_law_first", "_law_second", "_law_i", "_law_j"]
theorem scLaw : FnScope nLaw ["_law_script"] (defScope sLaw) := ⟨rfl, rfl, rfl, by decide +kernel, rfl, by decide +kernel, by decide +kernel⟩
/-- the body of the law's loop -/
def lawLoop : List Stmt := match stN (defBody sLaw) 0 with
  | .For _ _ b _ _ => b
  | _ => []
def spLaw (K : PySem.W.Frag) : Sp := fun vs H Q _ => ∃ (a : Addr) (ns : List Int), vs = [.ref a] ∧ SqL K H a (iv ns) ∧ ns.length ≤ 63 ∧ ∀ H', Q (.bl true) H'
/-- a pair of forms -/
def Okp (p : Int) (n : Nat) (H : Hp) (t : Addr) : Prop := ∃ (x y : Addr) (rs ss : List Addr) (F G : List Row) (ls ms : List Nat), H t = some (.tup [.ref x, .ref y]) ∧ Tab H x rs F ∧ Tab H y ss G ∧ Low p n F ls ∧ Low p n G ms
theorem Okp.same {p : Int} {n : Nat} {H H' : Hp} {t : Addr} (o : Okp p n H t) (s : Same H H') : Okp p n H' t := by
  obtain ⟨x, y, rs, ss, F, G, ls, ms, h, a, b, c, d⟩ := o
  exact ⟨x, y, rs, ss, F, G, ls, ms, s _ _ h, a.same s, b.same s, c, d⟩
theorem ok_law {f fB fP fT fW fK : Addr} {fd fdB fdP fdT fdW fdK : FuncData} {k : Nat} (F : Fun K "law" "law" sLaw f fd)
    (GB : FnOk P w K mg base CX0 (k + 5) fB fdB ["_law_script", "_law_at"] (spBag K)) (bB : Binds K fdB ["_law_script", "_law_at"] []) (kB : PySem.W.keepIn K (.ref fB) = true) (mB : mg "_law_bag" = some (.ref fB))
    (GP : FnOk P w K mg base CX0 (k + 5) fP fdP ["_law_bag_here"] spPrime) (bP : Binds K fdP ["_law_bag_here"] []) (kP : PySem.W.keepIn K (.ref fP) = true) (mP : mg "_law_prime" = some (.ref fP))
    (GT : FnOk P w K mg base CX0 (k + 5) fT fdT ["_law_bag_here", "_law_many"] spTake) (bT : Binds K fdT ["_law_bag_here", "_law_many"] []) (kT : PySem.W.keepIn K (.ref fT) = true) (mT : mg "_law_take" = some (.ref fT))
    (GW : FnOk P w K mg base CX0 (k + 5) fW fdW ["_law_p", "_law_length", "_law_most", "_law_bag_here"] spTwo) (bW : Binds K fdW ["_law_p", "_law_length", "_law_most", "_law_bag_here"] []) (kW : PySem.W.keepIn K (.ref fW) = true) (mW : mg "_law_two" = some (.ref fW))
    (GK : FnOk P w K mg base CX0 (k + 5) fK fdK ["_law_p", "_law_length", "_law_one", "_law_other"] spRight) (bK : Binds K fdK ["_law_p", "_law_length", "_law_one", "_law_other"] []) (kK : PySem.W.keepIn K (.ref fK) = true) (mK : mg "_law_right" = some (.ref fK))
    (ml : mg "len" = none) (mr : mg "range" = none) (mx : mg "max" = none) (mn : mg "min" = none) (mi : mg "int" = none) : FnOk P w K mg base CX0 (k + 6) f fd ["_law_script"] (spLaw K) := by
  refine F.ok scLaw (fun vs H Q E h => ?_) (fun cdv A outer s H vs Q E hr h => ?_)
  · obtain ⟨a, ns, rfl, _⟩ := h
    rfl
  · obtain ⟨a, ns, rfl, hS, h63, q⟩ := h
    refine ⟨_, pss_cons (ps_for PassesOwn.never rfl (pi_range1 rfl mr (pa_cons (pe_callB (call_max2 rfl) (by rfl) mx (by decide +kernel) (pa_cons pe_int (pa_cons (pe_callB (call_min2 rfl) (by rfl) mn (by decide +kernel) (pa_cons (pe_callB call_len_seq (by rfl) ml PySem.boot_len (pa_cons (pv 0) pa_nil)) (pa_cons pe_int pa_nil))) pa_nil))) pa_nil)) (pg_name (i := 1) scLaw.nd rfl (Or.inl rfl))
        (pss_cons (ps_set (i := 2) scLaw.nd rfl (.inl rfl) (pe_call GB hr (by rfl) mB kB bB .nil pass0 (pa_cons (pv 0) (pa_cons (pv 1) pa_nil))))
        (pss_cons (ps_set (i := 3) scLaw.nd rfl (.inl rfl) (pe_call GP hr (by rfl) mP kP bP .nil pass0 (pa_cons (pv 2) pa_nil)))
        (pss_cons (ps_asg (pe_tup (pa_cons (pe_op op_add pe_int (pe_call GT hr (by rfl) mT kT bT .nil pass0 (pa_cons (pv 2) (pa_cons pe_int pa_nil)))) (pa_cons pe_int pa_nil))) (pg_tup rfl (pgs_cons (pg_name (i := 4) scLaw.nd rfl (Or.inr rfl)) (pgs_cons (pg_name (i := 5) scLaw.nd rfl (Or.inl rfl)) pgs_nil))))
        (C8.pss_cut (ps_if (PW.pt (pw_and (pt_cmpR op_eq (pe_call GT hr (by rfl) mT kT bT .nil pass0 (pa_cons (pv 2) (pa_cons pe_int pa_nil))) pe_int (nomark _)) (pw_and1 (pt_cmpR op_eq (pv 1) pe_int (nomark _)))))
          (pss_one (ps_asg (pe_tup (pa_cons (pe_op op_add pe_int (pe_call GT hr (by rfl) mT kT bT .nil pass0 (pa_cons (pv 2) (pa_cons pe_int pa_nil)))) (pa_cons pe_int pa_nil))) (pg_tup rfl (pgs_cons (pg_name (i := 4) scLaw.nd rfl (Or.inr rfl)) (pgs_cons (pg_name (i := 5) scLaw.nd rfl (Or.inl rfl)) pgs_nil))))) pss_nil)
        (pss_cons (ps_asg (pe_call GW hr (by rfl) mW kW bW .nil pass0 (pa_cons (pv 3) (pa_cons (pv 4) (pa_cons (pv 5) (pa_cons (pv 2) pa_nil))))) (pg_tup rfl (pgs_cons (pg_name (i := 6) scLaw.nd rfl (Or.inl rfl)) (pgs_cons (pg_name (i := 7) scLaw.nd rfl (Or.inl rfl)) pgs_nil))))
        (pss_cons (ps_setLc (i := 8) (own := [("_law_i", 12)]) (g := gName 12) (tt := tYes) (by rfl) scLaw.nd rfl rfl (sw_true rfl rfl rfl (by decide +kernel)) (pi_range1 rfl mr (pa_cons (pv 4) pa_nil)) (blkOk_by (own := [("_law_i", 12)]) (N := nLaw) (sc := defScope sLaw) (by decide +kernel))
          (fun _ _ _ _ _ => pg_name (i := 12) scLaw.nd rfl (Or.inr rfl)) (fun _ _ _ _ _ => pts_nil)
          (fun _ _ _ _ _ => pe_lc (own := [("_law_j", 13)]) (g := gName 13) (tt := tYes) (by rfl) scLaw.nd (pi_range1 rfl mr (pa_cons (pv 4) pa_nil)) (blkOk_by (own := [("_law_j", 13)]) (N := nLaw) (sc := relS (lcScope (stE (stN lawLoop 5))) (defScope sLaw)) (by decide +kernel))
            (fun _ _ _ _ _ => pg_name (i := 13) scLaw.nd rfl (Or.inl rfl)) (fun _ _ _ _ _ => pts_nil) (fun _ _ _ _ _ => pe_callTy cInt (by rfl) mi (by decide +kernel) (pa_cons (pe_cmpR op_eq (pv 12) (pv 13) (nomark _)) pa_nil))))
        (pss_cons (ps_set (i := 9) scLaw.nd rfl (.inl rfl) (pe_lst (pa_cons (pe_tup (pa_cons (pv 6) (pa_cons (pv 7) pa_nil))) (pa_cons (pe_tup (pa_cons (pv 7) (pa_cons (pv 6) pa_nil))) (pa_cons (pe_tup (pa_cons (pv 6) (pa_cons (pv 8) pa_nil))) (pa_cons (pe_tup (pa_cons (pv 6) (pa_cons (pe_lst pa_nil) pa_nil))) (pa_cons (pe_tup (pa_cons (pe_lst pa_nil) (pa_cons (pv 7) pa_nil))) (pa_cons (pe_tup (pa_cons (pv 6) (pa_cons (pv 6) pa_nil))) pa_nil))))))))
        (pss_one (ps_for PassesOwn.never rfl (pi_list (pe_slice sl_list (pv 9) po_none (po_some (pe_ix ix_list (pe_lst (pa_cons pe_int (pa_cons pe_int pa_nil))) (pe_callTy cInt (by rfl) mi (by decide +kernel) (pa_cons (pe_cmpR op_gt (pv 5) pe_int (nomark _)) pa_nil)) (fun _ _ => rfl))))) (pg_tup rfl (pgs_cons (pg_name (i := 10) scLaw.nd rfl (Or.inl rfl)) (pgs_cons (pg_name (i := 11) scLaw.nd rfl (Or.inl rfl)) pgs_nil)))
          (pss_one (ps_if (pt_not (pt_val (pe_call GK hr (by rfl) mK kK bK .nil pass0 (pa_cons (pv 3) (pa_cons (pv 4) (pa_cons (pv 10) (pa_cons (pv 11) pa_nil))))))) (pss_one (ps_ret pe_bl)) pss_nil))))))))))))
      (pss_one (ps_ret pe_bl)), ?_⟩
    refine ⟨_, rfl, a, _, rfl, .inl hS, _, _, rfl, _, _, rfl, ?_⟩
    have bb := top_bound ((iv ns).length : Int) (by omega) 6 (by decide)
    generalize (if (if (6 : Int) < ((iv ns).length : Int) then 6 else ((iv ns).length : Int)) > 3 then (if (6 : Int) < ((iv ns).length : Int) then 6 else ((iv ns).length : Int)) else 3) = top at *
    refine ⟨top, rfl, by omega, by omega, ?_⟩
    refine for_range (lo := 0) (n := top.toNat) (fun i σ H' => ∃ y1 y2 y3 y4 y5 y6 y7 y8 y9 y10 y11 y12 y13, σ = [some (.ref a), y1, y2, y3, y4, y5, y6, y7, y8, y9, y10, y11, y12, y13] ∧ Same H H') ⟨none, none, none, none, none, none, none, none, none, none, none, none, none, rfl, Same.refl H⟩ (fun i σ H0 hi hW => ?_) (fun σ H' hW => ?_)
    · obtain ⟨y1, y2, y3, y4, y5, y6, y7, y8, y9, y10, y11, y12, y13, rfl, s0⟩ := hW
      have iz : (0 : Int) + (i : Int) = (i : Int) := Int.zero_add _
      rw [iz]
      refine ⟨_, rfl, _, rfl, ⟨a, ns, i, rfl, s0.seq hS, by omega, fun b H1 nb s1 bag1 => ?_⟩⟩
      refine ⟨_, rfl, ⟨b, 1001, rfl, bag1, by decide, fun p H2 hp off2 bag2 => ?_⟩⟩
      have two := hp.two
      have sm : ∀ {H'}, Off b H1 H' → Same H H' := fun {H'} o x u e => o x u (ne_of_none (s0 x u e) nb) (s1 x u (s0 x u e))
      refine ⟨_, rfl, ⟨b, 8, _, rfl, by decide, by decide, bag2, by decide, fun d1 H3 a1 b1 off3 _ bag3 => ?_⟩⟩
      refine ⟨_, _, rfl, rfl, ?_⟩
      obtain ⟨D1, rfl⟩ := Int.eq_ofNat_of_zero_le a1
      have e1 : (1 : Int) + (D1 : Int) = ((1 + D1 : Nat) : Int) := by omega
      refine ⟨(by show 2 ≤ sizeLine; decide), fun t nt => ?_⟩
      have offT : Off b H3 (L2.upd H3 t (.tup [.int (1 + (D1 : Int)), .int 7])) := Off.of (same_new nt)
      have bagT : Bg (L2.upd H3 t (.tup [.int (1 + (D1 : Int)), .int 7])) b 1003 := (bag3.same (upd_ne (bag3.ne nt).symm)).mono (by omega)
      refine ⟨t, _, rfl, .inl (.inl upd_same), rfl, _, _, rfl, _, _, rfl, rfl, ?_⟩
      generalize L2.upd H3 t (.tup [.int (1 + (D1 : Int)), .int 7]) = H5 at *
      have off15 : Off b H1 H5 := (off2.trans off3).trans offT
      refine ⟨fun σ' H' => ∃ n most : Nat, σ' = [some (.ref a), some (.int (i : Int)), some (.ref b), some (.int p), some (.int (n : Int)), some (.int (most : Int)), y6, y7, y8, y9, y10, y11, y12, y13] ∧ n ≤ 36 ∧ 0 < most ∧ most ≤ 37 ∧ Off b H1 H' ∧ Bg H' b 1100, ?_, fun σ' H' hW => ?_⟩
      · refine ⟨_, rfl, ⟨b, 8, _, rfl, by decide, by decide, bagT, by decide, fun d3 H6 a3 b3 off6 _ bag6 => ?_⟩⟩
        refine ⟨rfl, _, rfl, ite2 (fun c1 => ?_) (fun c1 => iteF ?_)⟩
        · refine ⟨_, rfl, rfl, _, rfl, ite2 (fun c2 => ?_) (fun c2 => ?_)⟩
          · refine ⟨_, rfl, ⟨b, 36, _, rfl, by decide, by decide, bag6, by decide, fun d4 H7 a4 b4 off7 _ bag7 => ?_⟩⟩
            refine ⟨_, _, rfl, rfl, ?_⟩
            obtain ⟨D4, rfl⟩ := Int.eq_ofNat_of_zero_le a4
            have e4 : (1 : Int) + (D4 : Int) = ((1 + D4 : Nat) : Int) := by omega
            refine ⟨(by show 2 ≤ sizeLine; decide), fun t2 nt2 => ?_⟩
            refine ⟨t2, _, rfl, .inl (.inl upd_same), rfl, _, _, rfl, _, _, rfl, rfl, 1 + D4, 37, ?_, by omega, by omega, by omega, ((off15.trans off6).trans off7).trans (Off.of (same_new nt2)), (bag7.same (upd_ne (bag7.ne nt2).symm)).mono (by omega)⟩
            rw [← e4]
            rfl
          · refine ⟨1 + D1, 7, ?_, by omega, by omega, by omega, off15.trans off6, bag6.mono (by omega)⟩
            rw [← e1]
            rfl
        · refine ⟨1 + D1, 7, ?_, by omega, by omega, by omega, off15.trans off6, bag6.mono (by omega)⟩
          rw [← e1]
          rfl
      · obtain ⟨n, most, rfl, hn, hm0, hm, off5, bag5⟩ := hW
        refine ⟨_, rfl, _, rfl, _, rfl, _, rfl, ⟨p, n, most, b, 1100, rfl, hp, by omega, hm0, by omega, bag5, by decide, fun H7 t2 fa ga fs gs Fm Gm ls ms off7 ht2 tF tG LF LG => ?_⟩⟩
        refine ⟨t2, _, rfl, .inl (.inl ht2), rfl, _, _, rfl, _, _, rfl, rfl, ?_⟩
        have s7 : Same H H7 := sm (off5.trans off7)
        -- whole
        refine ⟨_, rfl, (n : Int), rfl, by omega, by omega, fun wa nwa => ?_⟩
        refine lc_range (lo := 0) (n := _) (fun j H' => ∃ qs, Mt H7 wa [] (idM n) j H' qs) ⟨[], Mt.start nwa⟩ (fun j H8 hj hW => ?_) (fun H8 hW => ?_)
        · rw [Int.toNat_natCast] at hj
          obtain ⟨qs, mt⟩ := hW
          have jz : (0 : Int) + (j : Int) = (j : Int) := Int.zero_add _
          rw [jz]
          refine ⟨rfl, ?_⟩
          refine t_yes ?_
          refine ⟨_, rfl, (n : Int), rfl, by omega, by omega, fun D hD => ?_⟩
          refine lc_range (lo := 0) (n := _) (fun t H' => Mk H8 D (unitR n j) t H') (Mk.start hD) (fun t H9 ht mk => ?_) (fun H9 mk => ?_)
          · rw [Int.toNat_natCast] at ht
            have tz : (0 : Int) + (t : Int) = (t : Int) := Int.zero_add _
            rw [tz]
            refine ⟨rfl, ?_⟩
            refine t_yes ?_
            refine ⟨_, rfl, _, rfl, rfl, _, rfl, ?_⟩
            have ev : (if decide (V.int (j : Int) = V.int (t : Int)) = true then (1 : Int) else 0) = if j = t then 1 else 0 := by
              by_cases h : j = t
              · rw [if_pos h, if_pos (decide_eq_true (by rw [h]))]
              · rw [if_neg h, if_neg (fun z => h (by have := V.int.inj (of_decide_eq_true z); omega))]
            rw [ev]
            exact mk.step hD (Same.refl _) (unitR_get ht) (by rw [unitR_len]; omega)
          · have fin := mk.done (by rw [unitR_len, Int.toNat_natCast])
            obtain ⟨acc, e1, e2, e3⟩ := mt.step nwa (fun r hr => by simp at hr) mk.same (idM_get hj) fin (.inr hD) (by rw [idM_len]; omega)
            exact ⟨acc, e1, e2, _, e3⟩
        · obtain ⟨qs, mt⟩ := hW
          have tI := mt.tab (by rw [Int.toNat_natCast, idM_len])
          have tF8 := tF.same mt.same
          have tG8 := tG.same mt.same
          have s8 := s7.trans mt.same
          have LI := idM_low (n := n) two
          -- pairs
          refine ⟨_, rfl, _, rfl, (by show 2 ≤ sizeLine; decide), fun p1 np1 => ?_⟩
          have u1 : Same H8 (L2.upd H8 p1 (.tup [.ref fa, .ref ga])) := same_new np1
          have o1 : Okp p n (L2.upd H8 p1 (.tup [.ref fa, .ref ga])) p1 := ⟨fa, ga, fs, gs, Fm, Gm, ls, ms, upd_same, tF8.same u1, tG8.same u1, LF, LG⟩
          generalize L2.upd H8 p1 (.tup [.ref fa, .ref ga]) = I1 at *
          refine ⟨_, rfl, _, rfl, (by show 2 ≤ sizeLine; decide), fun p2 np2 => ?_⟩
          have u2 : Same I1 (L2.upd I1 p2 (.tup [.ref ga, .ref fa])) := same_new np2
          have v2 := u1.trans u2
          have o2 : Okp p n (L2.upd I1 p2 (.tup [.ref ga, .ref fa])) p2 := ⟨ga, fa, gs, fs, Gm, Fm, ms, ls, upd_same, tG8.same v2, tF8.same v2, LG, LF⟩
          generalize L2.upd I1 p2 (.tup [.ref ga, .ref fa]) = I2 at *
          refine ⟨_, rfl, _, rfl, (by show 2 ≤ sizeLine; decide), fun p3 np3 => ?_⟩
          have u3 : Same I2 (L2.upd I2 p3 (.tup [.ref fa, .ref wa])) := same_new np3
          have v3 := v2.trans u3
          have o3 : Okp p n (L2.upd I2 p3 (.tup [.ref fa, .ref wa])) p3 := ⟨fa, wa, fs, qs, Fm, idM n, ls, List.range n, upd_same, tF8.same v3, tI.same v3, LF, LI⟩
          generalize L2.upd I2 p3 (.tup [.ref fa, .ref wa]) = I3 at *
          refine ⟨_, rfl, Nat.zero_le _, fun e4 ne4 => ?_⟩
          have u4 : Same I3 (L2.upd I3 e4 (.lst [])) := same_new ne4
          have t4 : Tab (L2.upd I3 e4 (.lst [])) e4 [] [] := ⟨upd_same, rfl, fun i r m hr => by simp at hr⟩
          have v4 := v3.trans u4
          generalize L2.upd I3 e4 (.lst []) = I4 at *
          refine ⟨(by show 2 ≤ sizeLine; decide), fun p4 np4 => ?_⟩
          have u5 : Same I4 (L2.upd I4 p4 (.tup [.ref fa, .ref e4])) := same_new np4
          have v5 := v4.trans u5
          have o4 : Okp p n (L2.upd I4 p4 (.tup [.ref fa, .ref e4])) p4 := ⟨fa, e4, fs, [], Fm, [], ls, [], upd_same, tF8.same v5, t4.same u5, LF, nil_low⟩
          generalize L2.upd I4 p4 (.tup [.ref fa, .ref e4]) = I5 at *
          refine ⟨Nat.zero_le _, fun e5 ne5 => ?_⟩
          have u6 : Same I5 (L2.upd I5 e5 (.lst [])) := same_new ne5
          have t5 : Tab (L2.upd I5 e5 (.lst [])) e5 [] [] := ⟨upd_same, rfl, fun i r m hr => by simp at hr⟩
          have v6 := v5.trans u6
          generalize L2.upd I5 e5 (.lst []) = I6 at *
          refine ⟨_, rfl, (by show 2 ≤ sizeLine; decide), fun p5 np5 => ?_⟩
          have u7 : Same I6 (L2.upd I6 p5 (.tup [.ref e5, .ref ga])) := same_new np5
          have v7 := v6.trans u7
          have o5 : Okp p n (L2.upd I6 p5 (.tup [.ref e5, .ref ga])) p5 := ⟨e5, ga, [], gs, [], Gm, [], ms, upd_same, t5.same u7, tG8.same v7, nil_low, LG⟩
          generalize L2.upd I6 p5 (.tup [.ref e5, .ref ga]) = I7 at *
          refine ⟨_, rfl, _, rfl, (by show 2 ≤ sizeLine; decide), fun p6 np6 => ?_⟩
          have u8 : Same I7 (L2.upd I7 p6 (.tup [.ref fa, .ref fa])) := same_new np6
          have v8 := v7.trans u8
          have o6 : Okp p n (L2.upd I7 p6 (.tup [.ref fa, .ref fa])) p6 := ⟨fa, fa, fs, fs, Fm, Fm, ls, ls, upd_same, tF8.same v8, tF8.same v8, LF, LF⟩
          generalize L2.upd I7 p6 (.tup [.ref fa, .ref fa]) = I8 at *
          refine ⟨(by show 6 ≤ sizeLine; decide), fun pr npr => ?_⟩
          have u9 : Same I8 (L2.upd I8 pr (.lst [.ref p1, .ref p2, .ref p3, .ref p4, .ref p5, .ref p6])) := same_new npr
          have epr : (L2.upd I8 pr (.lst [.ref p1, .ref p2, .ref p3, .ref p4, .ref p5, .ref p6])) pr = some (.lst (rf [p1, p2, p3, p4, p5, p6])) := upd_same
          have okAll : ∀ t ∈ [p1, p2, p3, p4, p5, p6], Okp p n (L2.upd I8 pr (.lst [.ref p1, .ref p2, .ref p3, .ref p4, .ref p5, .ref p6])) t := fun t ht => by
            simp only [List.mem_cons, List.not_mem_nil, or_false] at ht
            rcases ht with rfl | rfl | rfl | rfl | rfl | rfl
            · exact ((((((((o1.same u2).same u3).same u4).same u5).same u6).same u7).same u8).same u9)
            · exact (((((((o2.same u3).same u4).same u5).same u6).same u7).same u8).same u9)
            · exact ((((((o3.same u4).same u5).same u6).same u7).same u8).same u9)
            · exact ((((o4.same u6).same u7).same u8).same u9)
            · exact ((o5.same u8).same u9)
            · exact o6.same u9
          have s9 := (s8.trans v8).trans u9
          generalize L2.upd I8 pr (.lst [.ref p1, .ref p2, .ref p3, .ref p4, .ref p5, .ref p6]) = I9 at *
          -- the loop
          refine ⟨_, rfl, (by show 2 ≤ sizeLine; decide), fun l nl => ?_⟩
          have ul : Same I9 (L2.upd I9 l (.lst [.int 6, .int 4])) := same_new nl
          have el : (L2.upd I9 l (.lst [.int 6, .int 4])) l = some (.lst [.int 6, .int 4]) := upd_same
          have epr2 := ul _ _ epr
          have okL : ∀ t ∈ [p1, p2, p3, p4, p5, p6], Okp p n (L2.upd I9 l (.lst [.int 6, .int 4])) t := fun t ht => (okAll t ht).same ul
          have sl := s9.trans ul
          generalize L2.upd I9 l (.lst [.int 6, .int 4]) = I10 at *
          refine ⟨_, rfl, _, _, rfl, rfl, _, rfl, ?_⟩
          have wv : ∃ v : Nat, (v = 6 ∨ v = 4) ∧ atI [V.int 6, V.int 4] (if decide ((7 : Int) < (most : Int)) = true then 1 else 0) = some (.int (v : Int)) := by
            by_cases h : (7 : Int) < (most : Int)
            · rw [if_pos (decide_eq_true h)]
              exact ⟨4, .inr rfl, rfl⟩
            · rw [if_neg (fun z => h (of_decide_eq_true z))]
              exact ⟨6, .inl rfl, rfl⟩
          obtain ⟨v, hv6, hat⟩ := wv
          refine ⟨l, _, _, _, rfl, rfl, SqL.of el, hat, _, rfl, pr, _, rfl, SqL.of epr2, fun c nc => ?_⟩
          have cut : cutV (rf [p1, p2, p3, p4, p5, p6]) none (some (v : Int)) = rf ([p1, p2, p3, p4, p5, p6].take v) := by
            rcases hv6 with rfl | rfl
            · rfl
            · rfl
          rw [cut]
          have uc : Same I10 (L2.upd I10 c (.lst (rf ([p1, p2, p3, p4, p5, p6].take v)))) := same_new nc
          have ec : (L2.upd I10 c (.lst (rf ([p1, p2, p3, p4, p5, p6].take v)))) c = some (.lst (rf ([p1, p2, p3, p4, p5, p6].take v))) := upd_same
          have okC : ∀ t ∈ [p1, p2, p3, p4, p5, p6], Okp p n (L2.upd I10 c (.lst (rf ([p1, p2, p3, p4, p5, p6].take v)))) t := fun t ht => (okL t ht).same uc
          have sc := sl.trans uc
          generalize L2.upd I10 c (.lst (rf ([p1, p2, p3, p4, p5, p6].take v))) = I11 at *
          refine ⟨c, rfl, ⟨_, SqL.of ec⟩, for_list (K := K) (a := c) (xs := rf ([p1, p2, p3, p4, p5, p6].take v)) (fun j σ H' => ∃ z10 z11, σ = [some (.ref a), some (.int (i : Int)), some (.ref b), some (.int p), some (.int (n : Int)), some (.int (most : Int)), some (.ref fa), some (.ref ga), some (.ref wa), some (.ref pr), z10, z11, y12, y13] ∧ Same I11 H') ⟨_, _, rfl, Same.refl I11⟩ (fun j σ H' _ hW => ?_) (fun j x σ H' hx hW => ?_) (fun σ H' hW => ?_)⟩
          · obtain ⟨_, _, _, sm2⟩ := hW
            exact sm2.seq (SqL.of ec)
          · obtain ⟨z10, z11, rfl, sm2⟩ := hW
            obtain ⟨t, ht, rfl⟩ := rf_inv hx
            have tm : t ∈ [p1, p2, p3, p4, p5, p6] := List.mem_of_mem_take (List.mem_of_getElem? ht)
            obtain ⟨x, y, rs1, ss1, F1, G1, l1, m1, et, tx, ty, L1, M1⟩ := (okC t tm).same sm2
            refine ⟨t, _, rfl, .inl (.inl et), rfl, _, _, rfl, _, _, rfl, rfl, ?_⟩
            exact ⟨_, rfl, _, rfl, _, rfl, _, rfl, ⟨p, n, x, y, rs1, ss1, F1, G1, l1, m1, rfl, hp, by omega, tx, ty, L1, M1, fun H12 s12 => ⟨true, rfl, iteF ⟨_, _, rfl, sm2.trans s12⟩⟩⟩⟩
          · obtain ⟨z10, z11, rfl, sm2⟩ := hW
            exact ⟨_, _, _, _, _, _, _, _, _, _, _, _, _, rfl, sc.trans sm2⟩
    · exact q H'
end

theorem all_mk {l : PySem.W.OpenLaw} {w : World} {K : PySem.W.Frag} {h : Heap} {mg : Str → Option Value} {fa f0 f1 f2 f3 f4 f5 f6 f7 f8 f9 f10 f11 f12 f13 f14 f15 f16 f17 f18 f19 f20 f21 f22 : Addr} (X : K.In h) (G : h.Ns mainGlobals mg) (hfa : mg "law" = some (.ref fa))
    {od0 an0 od1 an1 od2 an2 od3 an3 od4 an4 od5 an5 od6 an6 od7 an7 od8 an8 od9 an9 od10 an10 od11 an11 od12 an12 od13 an13 od14 an14 od15 an15 od16 an16 od17 an17 od18 an18 od19 an19 od20 an20 od21 an21 od22 an22 : Option Addr} {sl0 sl1 sl2 sl3 sl4 sl5 sl6 sl7 sl8 sl9 sl10 sl11 sl12 sl13 sl14 sl15 sl16 sl17 sl18 sl19 sl20 sl21 sl22 : Array (Option Value)} {oc0 kV0 dc0 pm0 cd0 ct0 oc1 kV1 dc1 pm1 cd1 ct1 oc2 kV2 dc2 pm2 cd2 ct2 oc3 kV3 dc3 pm3 cd3 ct3 oc4 kV4 dc4 pm4 cd4 ct4 oc5 kV5 dc5 pm5 cd5 ct5 oc6 kV6 dc6 pm6 cd6 ct6 oc7 kV7 dc7 pm7 cd7 ct7 oc8 kV8 dc8 pm8 cd8 ct8 oc9 kV9 dc9 pm9 cd9 ct9 oc10 kV10 dc10 pm10 cd10 ct10 oc11 kV11 dc11 pm11 cd11 ct11 oc12 kV12 dc12 pm12 cd12 ct12 oc13 kV13 dc13 pm13 cd13 ct13 oc14 kV14 dc14 pm14 cd14 ct14 oc15 kV15 dc15 pm15 cd15 ct15 oc16 kV16 dc16 pm16 cd16 ct16 oc17 kV17 dc17 pm17 cd17 ct17 oc18 kV18 dc18 pm18 cd18 ct18 oc19 kV19 dc19 pm19 cd19 ct19 oc20 kV20 dc20 pm20 cd20 ct20 oc21 kV21 dc21 pm21 cd21 ct21 oc22 kV22 dc22 pm22 cd22 ct22 : Value}
    (a0 : PySem.W.nsIn K mainGlobals "inverse" = some (some (.ref f0))) (l0 : K.lookup f0 = some ⟨oc0, od0, .func (PySem.W.fnOf "inverse" "inverse" (defArgs sInv) (defBody sInv) (defScope sInv) .none kV0 dc0 pm0 an0 cd0 ct0), sl0⟩) (c0 : PySem.W.codeIn K cd0 "inverse" = true) (k0 : PySem.W.keepIn K (.ref f0) = true)
    (a1 : PySem.W.nsIn K mainGlobals "multiplied_by" = some (some (.ref f1))) (l1 : K.lookup f1 = some ⟨oc1, od1, .func (PySem.W.fnOf "multiplied_by" "multiplied_by" (defArgs sMul) (defBody sMul) (defScope sMul) .none kV1 dc1 pm1 an1 cd1 ct1), sl1⟩) (c1 : PySem.W.codeIn K cd1 "multiplied_by" = true) (k1 : PySem.W.keepIn K (.ref f1) = true)
    (a2 : PySem.W.nsIn K mainGlobals "lead" = some (some (.ref f2))) (l2 : K.lookup f2 = some ⟨oc2, od2, .func (PySem.W.fnOf "lead" "lead" (defArgs sLead) (defBody sLead) (defScope sLead) .none kV2 dc2 pm2 an2 cd2 ct2), sl2⟩) (c2 : PySem.W.codeIn K cd2 "lead" = true) (k2 : PySem.W.keepIn K (.ref f2) = true)
    (a3 : PySem.W.nsIn K mainGlobals "cleared" = some (some (.ref f3))) (l3 : K.lookup f3 = some ⟨oc3, od3, .func (PySem.W.fnOf "cleared" "cleared" (defArgs sClr) (defBody sClr) (defScope sClr) .none kV3 dc3 pm3 an3 cd3 ct3), sl3⟩) (c3 : PySem.W.codeIn K cd3 "cleared" = true) (k3 : PySem.W.keepIn K (.ref f3) = true)
    (a4 : PySem.W.nsIn K mainGlobals "low" = some (some (.ref f4))) (l4 : K.lookup f4 = some ⟨oc4, od4, .func (PySem.W.fnOf "low" "low" (defArgs sLow) (defBody sLow) (defScope sLow) .none kV4 dc4 pm4 an4 cd4 ct4), sl4⟩) (c4 : PySem.W.codeIn K cd4 "low" = true) (k4 : PySem.W.keepIn K (.ref f4) = true)
    (a5 : PySem.W.nsIn K mainGlobals "together" = some (some (.ref f5))) (l5 : K.lookup f5 = some ⟨oc5, od5, .func (PySem.W.fnOf "together" "together" (defArgs sTog) (defBody sTog) (defScope sTog) .none kV5 dc5 pm5 an5 cd5 ct5), sl5⟩) (c5 : PySem.W.codeIn K cd5 "together" = true) (k5 : PySem.W.keepIn K (.ref f5) = true)
    (a6 : PySem.W.nsIn K mainGlobals "crossing" = some (some (.ref f6))) (l6 : K.lookup f6 = some ⟨oc6, od6, .func (PySem.W.fnOf "crossing" "crossing" (defArgs sCrs) (defBody sCrs) (defScope sCrs) .none kV6 dc6 pm6 an6 cd6 ct6), sl6⟩) (c6 : PySem.W.codeIn K cd6 "crossing" = true) (k6 : PySem.W.keepIn K (.ref f6) = true)
    (a7 : PySem.W.nsIn K mainGlobals "across" = some (some (.ref f7))) (l7 : K.lookup f7 = some ⟨oc7, od7, .func (PySem.W.fnOf "across" "across" (defArgs sAcr) (defBody sAcr) (defScope sAcr) .none kV7 dc7 pm7 an7 cd7 ct7), sl7⟩) (c7 : PySem.W.codeIn K cd7 "across" = true) (k7 : PySem.W.keepIn K (.ref f7) = true)
    (a8 : PySem.W.nsIn K mainGlobals "_law_cell" = some (some (.ref f8))) (l8 : K.lookup f8 = some ⟨oc8, od8, .func (PySem.W.fnOf "_law_cell" "_law_cell" (defArgs sCell) (defBody sCell) (defScope sCell) .none kV8 dc8 pm8 an8 cd8 ct8), sl8⟩) (c8 : PySem.W.codeIn K cd8 "_law_cell" = true) (k8 : PySem.W.keepIn K (.ref f8) = true)
    (a9 : PySem.W.nsIn K mainGlobals "_law_bag" = some (some (.ref f9))) (l9 : K.lookup f9 = some ⟨oc9, od9, .func (PySem.W.fnOf "_law_bag" "_law_bag" (defArgs sBag) (defBody sBag) (defScope sBag) .none kV9 dc9 pm9 an9 cd9 ct9), sl9⟩) (c9 : PySem.W.codeIn K cd9 "_law_bag" = true) (k9 : PySem.W.keepIn K (.ref f9) = true)
    (a10 : PySem.W.nsIn K mainGlobals "_law_take" = some (some (.ref f10))) (l10 : K.lookup f10 = some ⟨oc10, od10, .func (PySem.W.fnOf "_law_take" "_law_take" (defArgs sTake) (defBody sTake) (defScope sTake) .none kV10 dc10 pm10 an10 cd10 ct10), sl10⟩) (c10 : PySem.W.codeIn K cd10 "_law_take" = true) (k10 : PySem.W.keepIn K (.ref f10) = true)
    (a11 : PySem.W.nsIn K mainGlobals "_law_prime" = some (some (.ref f11))) (l11 : K.lookup f11 = some ⟨oc11, od11, .func (PySem.W.fnOf "_law_prime" "_law_prime" (defArgs sPrime) (defBody sPrime) (defScope sPrime) .none kV11 dc11 pm11 an11 cd11 ct11), sl11⟩) (c11 : PySem.W.codeIn K cd11 "_law_prime" = true) (k11 : PySem.W.keepIn K (.ref f11) = true)
    (a12 : PySem.W.nsIn K mainGlobals "_law_sparse" = some (some (.ref f12))) (l12 : K.lookup f12 = some ⟨oc12, od12, .func (PySem.W.fnOf "_law_sparse" "_law_sparse" (defArgs sSparse) (defBody sSparse) (defScope sSparse) .none kV12 dc12 pm12 an12 cd12 ct12), sl12⟩) (c12 : PySem.W.codeIn K cd12 "_law_sparse" = true) (k12 : PySem.W.keepIn K (.ref f12) = true)
    (a13 : PySem.W.nsIn K mainGlobals "_law_rows" = some (some (.ref f13))) (l13 : K.lookup f13 = some ⟨oc13, od13, .func (PySem.W.fnOf "_law_rows" "_law_rows" (defArgs sRows) (defBody sRows) (defScope sRows) .none kV13 dc13 pm13 an13 cd13 ct13), sl13⟩) (c13 : PySem.W.codeIn K cd13 "_law_rows" = true) (k13 : PySem.W.keepIn K (.ref f13) = true)
    (a14 : PySem.W.nsIn K mainGlobals "_law_back" = some (some (.ref f14))) (l14 : K.lookup f14 = some ⟨oc14, od14, .func (PySem.W.fnOf "_law_back" "_law_back" (defArgs sBack) (defBody sBack) (defScope sBack) .none kV14 dc14 pm14 an14 cd14 ct14), sl14⟩) (c14 : PySem.W.codeIn K cd14 "_law_back" = true) (k14 : PySem.W.keepIn K (.ref f14) = true)
    (a15 : PySem.W.nsIn K mainGlobals "_law_less" = some (some (.ref f15))) (l15 : K.lookup f15 = some ⟨oc15, od15, .func (PySem.W.fnOf "_law_less" "_law_less" (defArgs sLess) (defBody sLess) (defScope sLess) .none kV15 dc15 pm15 an15 cd15 ct15), sl15⟩) (c15 : PySem.W.codeIn K cd15 "_law_less" = true) (k15 : PySem.W.keepIn K (.ref f15) = true)
    (a16 : PySem.W.nsIn K mainGlobals "_law_form" = some (some (.ref f16))) (l16 : K.lookup f16 = some ⟨oc16, od16, .func (PySem.W.fnOf "_law_form" "_law_form" (defArgs sForm) (defBody sForm) (defScope sForm) .none kV16 dc16 pm16 an16 cd16 ct16), sl16⟩) (c16 : PySem.W.codeIn K cd16 "_law_form" = true) (k16 : PySem.W.keepIn K (.ref f16) = true)
    (a17 : PySem.W.nsIn K mainGlobals "_law_in" = some (some (.ref f17))) (l17 : K.lookup f17 = some ⟨oc17, od17, .func (PySem.W.fnOf "_law_in" "_law_in" (defArgs sIn) (defBody sIn) (defScope sIn) .none kV17 dc17 pm17 an17 cd17 ct17), sl17⟩) (c17 : PySem.W.codeIn K cd17 "_law_in" = true) (k17 : PySem.W.keepIn K (.ref f17) = true)
    (a18 : PySem.W.nsIn K mainGlobals "_law_whole" = some (some (.ref f18))) (l18 : K.lookup f18 = some ⟨oc18, od18, .func (PySem.W.fnOf "_law_whole" "_law_whole" (defArgs sWhole) (defBody sWhole) (defScope sWhole) .none kV18 dc18 pm18 an18 cd18 ct18), sl18⟩) (c18 : PySem.W.codeIn K cd18 "_law_whole" = true) (k18 : PySem.W.keepIn K (.ref f18) = true)
    (a19 : PySem.W.nsIn K mainGlobals "_law_rows_like" = some (some (.ref f19))) (l19 : K.lookup f19 = some ⟨oc19, od19, .func (PySem.W.fnOf "_law_rows_like" "_law_rows_like" (defArgs sLike) (defBody sLike) (defScope sLike) .none kV19 dc19 pm19 an19 cd19 ct19), sl19⟩) (c19 : PySem.W.codeIn K cd19 "_law_rows_like" = true) (k19 : PySem.W.keepIn K (.ref f19) = true)
    (a20 : PySem.W.nsIn K mainGlobals "_law_two" = some (some (.ref f20))) (l20 : K.lookup f20 = some ⟨oc20, od20, .func (PySem.W.fnOf "_law_two" "_law_two" (defArgs sTwo) (defBody sTwo) (defScope sTwo) .none kV20 dc20 pm20 an20 cd20 ct20), sl20⟩) (c20 : PySem.W.codeIn K cd20 "_law_two" = true) (k20 : PySem.W.keepIn K (.ref f20) = true)
    (a21 : PySem.W.nsIn K mainGlobals "_law_right" = some (some (.ref f21))) (l21 : K.lookup f21 = some ⟨oc21, od21, .func (PySem.W.fnOf "_law_right" "_law_right" (defArgs sRight) (defBody sRight) (defScope sRight) .none kV21 dc21 pm21 an21 cd21 ct21), sl21⟩) (c21 : PySem.W.codeIn K cd21 "_law_right" = true) (k21 : PySem.W.keepIn K (.ref f21) = true)
    (a22 : PySem.W.nsIn K mainGlobals "law" = some (some (.ref f22))) (l22 : K.lookup f22 = some ⟨oc22, od22, .func (PySem.W.fnOf "law" "law" (defArgs sLaw) (defBody sLaw) (defScope sLaw) .none kV22 dc22 pm22 an22 cd22 ct22), sl22⟩) (c22 : PySem.W.codeIn K cd22 "law" = true) (k22 : PySem.W.keepIn K (.ref f22) = true)
    (z_len : PySem.W.nsIn K mainGlobals "len" = some none) (z_range : PySem.W.nsIn K mainGlobals "range" = some none) (z_list : PySem.W.nsIn K mainGlobals "list" = some none) (z_max : PySem.W.nsIn K mainGlobals "max" = some none) (z_min : PySem.W.nsIn K mainGlobals "min" = some none) (z_zip : PySem.W.nsIn K mainGlobals "zip" = some none) (z_abs : PySem.W.nsIn K mainGlobals "abs" = some none) (z_int : PySem.W.nsIn K mainGlobals "int" = some none) (z_isinstance : PySem.W.nsIn K mainGlobals "isinstance" = some none) (z_bool : PySem.W.nsIn K mainGlobals "bool" = some none) (z_all : PySem.W.nsIn K mainGlobals "all" = some none) (z_any : PySem.W.nsIn K mainGlobals "any" = some none) (z_enumerate : PySem.W.nsIn K mainGlobals "enumerate" = some none) :
    ∃ fd : FuncData, (∀ (s : Shared) (v : Value), BindsTo s fd ⟨[v], []⟩ [("_law_script", v)]) ∧ ∀ base : Heap, K.In base → base.Ns mainGlobals mg → FnOk l.prog w K mg base CX0 6 fa fd ["_law_script"] (spLaw K) := by
  have e := hfa.symm.trans (PySem.W.mg_of X G a22)
  cases e
  have F0 := fun_mk (st := sInv) l0 c0 k0
  have F1 := fun_mk (st := sMul) l1 c1 k1
  have F2 := fun_mk (st := sLead) l2 c2 k2
  have F3 := fun_mk (st := sClr) l3 c3 k3
  have F4 := fun_mk (st := sLow) l4 c4 k4
  have F5 := fun_mk (st := sTog) l5 c5 k5
  have F6 := fun_mk (st := sCrs) l6 c6 k6
  have F7 := fun_mk (st := sAcr) l7 c7 k7
  have F8 := fun_mk (st := sCell) l8 c8 k8
  have F9 := fun_mk (st := sBag) l9 c9 k9
  have F10 := fun_mk (st := sTake) l10 c10 k10
  have F11 := fun_mk (st := sPrime) l11 c11 k11
  have F12 := fun_mk (st := sSparse) l12 c12 k12
  have F13 := fun_mk (st := sRows) l13 c13 k13
  have F14 := fun_mk (st := sBack) l14 c14 k14
  have F15 := fun_mk (st := sLess) l15 c15 k15
  have F16 := fun_mk (st := sForm) l16 c16 k16
  have F17 := fun_mk (st := sIn) l17 c17 k17
  have F18 := fun_mk (st := sWhole) l18 c18 k18
  have F19 := fun_mk (st := sLike) l19 c19 k19
  have F20 := fun_mk (st := sTwo) l20 c20 k20
  have F21 := fun_mk (st := sRight) l21 c21 k21
  have F22 := fun_mk (st := sLaw) l22 c22 k22
  have b0 := F0.binds (ps := ["p", "rest"]) fun _ _ _ _ _ _ us hl => match us, hl with | [_, _], _ => rfl
  have b1 := F1.binds (ps := ["p", "rest", "rests"]) fun _ _ _ _ _ _ us hl => match us, hl with | [_, _, _], _ => rfl
  have b2 := F2.binds (ps := ["row"]) fun _ _ _ _ _ _ us hl => match us, hl with | [_], _ => rfl
  have b3 := F3.binds (ps := ["p", "rows", "place", "by"]) fun _ _ _ _ _ _ us hl => match us, hl with | [_, _, _, _], _ => rfl
  have b4 := F4.binds (ps := ["p", "rows"]) fun _ _ _ _ _ _ us hl => match us, hl with | [_, _], _ => rfl
  have b5 := F5.binds (ps := ["p", "one", "other"]) fun _ _ _ _ _ _ us hl => match us, hl with | [_, _, _], _ => rfl
  have b6 := F6.binds (ps := ["p", "one", "other"]) fun _ _ _ _ _ _ us hl => match us, hl with | [_, _, _], _ => rfl
  have b7 := F7.binds (ps := ["p", "length", "form"]) fun _ _ _ _ _ _ us hl => match us, hl with | [_, _, _], _ => rfl
  have b8 := F8.binds (ps := ["_law_script", "_law_k"]) fun _ _ _ _ _ _ us hl => match us, hl with | [_, _], _ => rfl
  have b9 := F9.binds (ps := ["_law_script", "_law_at"]) fun _ _ _ _ _ _ us hl => match us, hl with | [_, _], _ => rfl
  have b10 := F10.binds (ps := ["_law_bag_here", "_law_many"]) fun _ _ _ _ _ _ us hl => match us, hl with | [_, _], _ => rfl
  have b11 := F11.binds (ps := ["_law_bag_here"]) fun _ _ _ _ _ _ us hl => match us, hl with | [_], _ => rfl
  have b12 := F12.binds (ps := ["_law_p", "_law_length", "_law_bag_here"]) fun _ _ _ _ _ _ us hl => match us, hl with | [_, _, _], _ => rfl
  have b13 := F13.binds (ps := ["_law_p", "_law_length", "_law_many", "_law_bag_here"]) fun _ _ _ _ _ _ us hl => match us, hl with | [_, _, _, _], _ => rfl
  have b14 := F14.binds (ps := ["_law_p", "_law_rest"]) fun _ _ _ _ _ _ us hl => match us, hl with | [_, _], _ => rfl
  have b15 := F15.binds (ps := ["_law_p", "_law_row", "_law_rest", "_law_other"]) fun _ _ _ _ _ _ us hl => match us, hl with | [_, _, _, _], _ => rfl
  have b16 := F16.binds (ps := ["_law_p", "_law_rows_here"]) fun _ _ _ _ _ _ us hl => match us, hl with | [_, _], _ => rfl
  have b17 := F17.binds (ps := ["_law_p", "_law_form_here", "_law_row"]) fun _ _ _ _ _ _ us hl => match us, hl with | [_, _, _], _ => rfl
  have b18 := F18.binds (ps := ["_law_thing", "_law_end"]) fun _ _ _ _ _ _ us hl => match us, hl with | [_, _], _ => rfl
  have b19 := F19.binds (ps := ["_law_p", "_law_length", "_law_thing"]) fun _ _ _ _ _ _ us hl => match us, hl with | [_, _, _], _ => rfl
  have b20 := F20.binds (ps := ["_law_p", "_law_length", "_law_most", "_law_bag_here"]) fun _ _ _ _ _ _ us hl => match us, hl with | [_, _, _, _], _ => rfl
  have b21 := F21.binds (ps := ["_law_p", "_law_length", "_law_one", "_law_other"]) fun _ _ _ _ _ _ us hl => match us, hl with | [_, _, _, _], _ => rfl
  have g0 := PySem.W.mg_of X G a0
  have g1 := PySem.W.mg_of X G a1
  have g2 := PySem.W.mg_of X G a2
  have g3 := PySem.W.mg_of X G a3
  have g4 := PySem.W.mg_of X G a4
  have g5 := PySem.W.mg_of X G a5
  have g6 := PySem.W.mg_of X G a6
  have g7 := PySem.W.mg_of X G a7
  have g8 := PySem.W.mg_of X G a8
  have g9 := PySem.W.mg_of X G a9
  have g10 := PySem.W.mg_of X G a10
  have g11 := PySem.W.mg_of X G a11
  have g12 := PySem.W.mg_of X G a12
  have g13 := PySem.W.mg_of X G a13
  have g14 := PySem.W.mg_of X G a14
  have g15 := PySem.W.mg_of X G a15
  have g16 := PySem.W.mg_of X G a16
  have g17 := PySem.W.mg_of X G a17
  have g18 := PySem.W.mg_of X G a18
  have g19 := PySem.W.mg_of X G a19
  have g20 := PySem.W.mg_of X G a20
  have g21 := PySem.W.mg_of X G a21
  have m_len := PySem.W.mg_none_of X G z_len
  have m_range := PySem.W.mg_none_of X G z_range
  have m_list := PySem.W.mg_none_of X G z_list
  have m_max := PySem.W.mg_none_of X G z_max
  have m_min := PySem.W.mg_none_of X G z_min
  have m_zip := PySem.W.mg_none_of X G z_zip
  have m_abs := PySem.W.mg_none_of X G z_abs
  have m_int := PySem.W.mg_none_of X G z_int
  have m_isinstance := PySem.W.mg_none_of X G z_isinstance
  have m_bool := PySem.W.mg_none_of X G z_bool
  have m_all := PySem.W.mg_none_of X G z_all
  have m_any := PySem.W.mg_none_of X G z_any
  have m_enumerate := PySem.W.mg_none_of X G z_enumerate
  refine ⟨PySem.W.fnOf "law" "law" (defArgs sLaw) (defBody sLaw) (defScope sLaw) .none kV22 dc22 pm22 an22 cd22 ct22, fun s v => .of_eq rfl, fun base _ _ => ?_⟩
  have G8_4 : FnOk l.prog w K mg base CX0 4 f8 _ _ (spCell K) := ok_cell F8  m_len
  have G9_5 : FnOk l.prog w K mg base CX0 5 f9 _ _ (spBag K) := ok_bag F9 G8_4 b8 k8 g8 m_abs
  have G10_4 : FnOk l.prog w K mg base CX0 4 f10 _ _ spTake := ok_take F10  
  have G11_5 : FnOk l.prog w K mg base CX0 5 f11 _ _ spPrime := ok_prime F11 G10_4 b10 k10 g10 
  have G10_5 : FnOk l.prog w K mg base CX0 5 f10 _ _ spTake := ok_take F10  
  have G10_3 : FnOk l.prog w K mg base CX0 3 f10 _ _ spTake := ok_take F10  
  have G10_2 : FnOk l.prog w K mg base CX0 2 f10 _ _ spTake := ok_take F10  
  have G12_3 : FnOk l.prog w K mg base CX0 3 f12 _ _ spSparse := ok_sparse F12 G10_2 b10 k10 g10 m_range m_int
  have G13_4 : FnOk l.prog w K mg base CX0 4 f13 _ _ spRows := ok_rows F13 G10_3 b10 k10 g10 G12_3 b12 k12 g12 m_range m_len m_zip
  have G14_3 : FnOk l.prog w K mg base CX0 3 f14 _ _ spBack := ok_back F14  m_range
  have G15_3 : FnOk l.prog w K mg base CX0 3 f15 _ _ spLess := ok_less F15  m_zip
  have G16_4 : FnOk l.prog w K mg base CX0 4 f16 _ _ spForm := ok_form F16 G14_3 b14 k14 g14 G15_3 b15 k15 g15 m_len m_range m_list
  have G20_5 : FnOk l.prog w K mg base CX0 5 f20 _ _ spTwo := ok_two F20 G10_4 b10 k10 g10 G13_4 b13 k13 g13 G16_4 b16 k16 g16 m_zip
  have G0_2 : FnOk l.prog w K mg base CX0 2 f0 _ _ spInv := ok_inv F0  
  have G1_2 : FnOk l.prog w K mg base CX0 2 f1 _ _ spMul := ok_mul F1  
  have G3_2 : FnOk l.prog w K mg base CX0 2 f3 _ _ spClr := ok_clr F3  m_zip
  have G4_3 : FnOk l.prog w K mg base CX0 3 f4 _ _ spLow := ok_low F4 G0_2 b0 k0 g0 G1_2 b1 k1 g1 G3_2 b3 k3 g3 m_len m_range m_list
  have G5_4 : FnOk l.prog w K mg base CX0 4 f5 _ _ spTog := ok_tog F5 G4_3 b4 k4 g4 
  have G2_2 : FnOk l.prog w K mg base CX0 2 f2 _ _ spLead := ok_lead F2  m_enumerate
  have G0_1 : FnOk l.prog w K mg base CX0 1 f0 _ _ spInv := ok_inv F0  
  have G1_1 : FnOk l.prog w K mg base CX0 1 f1 _ _ spMul := ok_mul F1  
  have G3_1 : FnOk l.prog w K mg base CX0 1 f3 _ _ spClr := ok_clr F3  m_zip
  have G4_2 : FnOk l.prog w K mg base CX0 2 f4 _ _ spLow := ok_low F4 G0_1 b0 k0 g0 G1_1 b1 k1 g1 G3_1 b3 k3 g3 m_len m_range m_list
  have G7_3 : FnOk l.prog w K mg base CX0 3 f7 _ _ spAcr := ok_acr F7 G2_2 b2 k2 g2 G4_2 b4 k4 g4 m_range m_zip
  have G5_3 : FnOk l.prog w K mg base CX0 3 f5 _ _ spTog := ok_tog F5 G4_2 b4 k4 g4 
  have G6_4 : FnOk l.prog w K mg base CX0 4 f6 _ _ spCrs := ok_crs F6 G7_3 b7 k7 g7 G5_3 b5 k5 g5 m_len
  have G18_3 : FnOk l.prog w K mg base CX0 3 f18 _ _ spWhole := ok_whole F18  m_isinstance m_int m_bool
  have G19_4 : FnOk l.prog w K mg base CX0 4 f19 _ _ spLike := ok_like F19 G18_3 b18 k18 g18 m_isinstance m_list m_len m_all
  have G17_4 : FnOk l.prog w K mg base CX0 4 f17 _ _ spIn := ok_in F17 G15_3 b15 k15 g15 m_any
  have G21_5 : FnOk l.prog w K mg base CX0 5 f21 _ _ spRight := ok_right F21 G16_4 b16 k16 g16 G5_4 b5 k5 g5 G6_4 b6 k6 g6 G19_4 b19 k19 g19 G17_4 b17 k17 g17 m_list m_len m_all
  exact ok_law F22 G9_5 b9 k9 g9 G11_5 b11 k11 g11 G10_5 b10 k10 g10 G20_5 b20 k20 g20 G21_5 b21 k21 g21 m_len m_range m_max m_min m_int
end My
open PySem PySem.W PyProof.Rows
set_option maxRecDepth 100000 in
set_option maxHeartbeats 0 in
theorem PySem.Challenge.cw_stillspans_k04_together_and_crossing_holds : PySem.Challenge.rw_stillspans_k04_together_and_crossing.Holds := by
  w_on; o_law; k_head; (case hw => w_witness2)
  k_fill
  refine L2.walk_of (l := PySem.Challenge.rw_stillspans_k04_together_and_crossing) (n := 63) (k := 6) (x := "_law_script") (CX := fun _ => L2.CX0) (sp := fun w => My.spLaw _) rfl (by decide) rfl ⟨rfl, by decide, by decide⟩ (fun w h Y => PySem.W.kIn_of Y) ?F (fun _ _ a ns hl _ hS => ⟨a, ns, rfl, hS, hl, fun _ => rfl⟩) (fun _ _ _ _ _ h => h)
  case F =>
    intro w mg fa h KX G hmg
    refine' My.all_mk KX G hmg ?a0 ?l0 ?c0 ?k0 ?a1 ?l1 ?c1 ?k1 ?a2 ?l2 ?c2 ?k2 ?a3 ?l3 ?c3 ?k3 ?a4 ?l4 ?c4 ?k4 ?a5 ?l5 ?c5 ?k5 ?a6 ?l6 ?c6 ?k6 ?a7 ?l7 ?c7 ?k7 ?a8 ?l8 ?c8 ?k8 ?a9 ?l9 ?c9 ?k9 ?a10 ?l10 ?c10 ?k10 ?a11 ?l11 ?c11 ?k11 ?a12 ?l12 ?c12 ?k12 ?a13 ?l13 ?c13 ?k13 ?a14 ?l14 ?c14 ?k14 ?a15 ?l15 ?c15 ?k15 ?a16 ?l16 ?c16 ?k16 ?a17 ?l17 ?c17 ?k17 ?a18 ?l18 ?c18 ?k18 ?a19 ?l19 ?c19 ?k19 ?a20 ?l20 ?c20 ?k20 ?a21 ?l21 ?c21 ?k21 ?a22 ?l22 ?c22 ?k22 ?z_len ?z_range ?z_list ?z_max ?z_min ?z_zip ?z_abs ?z_int ?z_isinstance ?z_bool ?z_all ?z_any ?z_enumerate
    (case a0 => k_is)
    (case l0 => k_is)
    (case c0 => k_is)
    (case k0 => k_is)
    (case a1 => k_is)
    (case l1 => k_is)
    (case c1 => k_is)
    (case k1 => k_is)
    (case a2 => k_is)
    (case l2 => k_is)
    (case c2 => k_is)
    (case k2 => k_is)
    (case a3 => k_is)
    (case l3 => k_is)
    (case c3 => k_is)
    (case k3 => k_is)
    (case a4 => k_is)
    (case l4 => k_is)
    (case c4 => k_is)
    (case k4 => k_is)
    (case a5 => k_is)
    (case l5 => k_is)
    (case c5 => k_is)
    (case k5 => k_is)
    (case a6 => k_is)
    (case l6 => k_is)
    (case c6 => k_is)
    (case k6 => k_is)
    (case a7 => k_is)
    (case l7 => k_is)
    (case c7 => k_is)
    (case k7 => k_is)
    (case a8 => k_is)
    (case l8 => k_is)
    (case c8 => k_is)
    (case k8 => k_is)
    (case a9 => k_is)
    (case l9 => k_is)
    (case c9 => k_is)
    (case k9 => k_is)
    (case a10 => k_is)
    (case l10 => k_is)
    (case c10 => k_is)
    (case k10 => k_is)
    (case a11 => k_is)
    (case l11 => k_is)
    (case c11 => k_is)
    (case k11 => k_is)
    (case a12 => k_is)
    (case l12 => k_is)
    (case c12 => k_is)
    (case k12 => k_is)
    (case a13 => k_is)
    (case l13 => k_is)
    (case c13 => k_is)
    (case k13 => k_is)
    (case a14 => k_is)
    (case l14 => k_is)
    (case c14 => k_is)
    (case k14 => k_is)
    (case a15 => k_is)
    (case l15 => k_is)
    (case c15 => k_is)
    (case k15 => k_is)
    (case a16 => k_is)
    (case l16 => k_is)
    (case c16 => k_is)
    (case k16 => k_is)
    (case a17 => k_is)
    (case l17 => k_is)
    (case c17 => k_is)
    (case k17 => k_is)
    (case a18 => k_is)
    (case l18 => k_is)
    (case c18 => k_is)
    (case k18 => k_is)
    (case a19 => k_is)
    (case l19 => k_is)
    (case c19 => k_is)
    (case k19 => k_is)
    (case a20 => k_is)
    (case l20 => k_is)
    (case c20 => k_is)
    (case k20 => k_is)
    (case a21 => k_is)
    (case l21 => k_is)
    (case c21 => k_is)
    (case k21 => k_is)
    (case a22 => k_is)
    (case l22 => k_is)
    (case c22 => k_is)
    (case k22 => k_is)
    (case z_len => k_is)
    (case z_range => k_is)
    (case z_list => k_is)
    (case z_max => k_is)
    (case z_min => k_is)
    (case z_zip => k_is)
    (case z_abs => k_is)
    (case z_int => k_is)
    (case z_isinstance => k_is)
    (case z_bool => k_is)
    (case z_all => k_is)
    (case z_any => k_is)
    (case z_enumerate => k_is)
