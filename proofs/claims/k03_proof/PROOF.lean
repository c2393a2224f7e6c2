import PyProof.Rows.All
import Wide.All
import OpenK.AllK
import Wide.FinOn
import HandS.ForMost
import HandS.Walk
import HandS.Codes
import HandS.IsInst
import HandS.Style
import KE.DataAny
import PySem.Challenge.RW_stillspans_k03_has_and_shares
set_option Elab.async false
set_option linter.all false
set_option maxRecDepth 100000
/-! Spans of rows by a prime, in plain Lean: low lists, the form, that each span has just one. -/
namespace My
abbrev Row := List Int
def ent (r : Row) (j : Nat) : Int := r.getD j 0
/-- congruent -/
def cg (p a b : Int) : Prop := ∃ k, a = b + p * k
section
variable {p a b c d x y : Int}
theorem cg.refl (p a : Int) : cg p a a := ⟨0, by grind⟩
theorem cg.of_eq (h : a = b) : cg p a b := h ▸ cg.refl p a
theorem cg.symm (h : cg p a b) : cg p b a := by
  obtain ⟨k, h⟩ := h
  exact ⟨-k, by grind⟩
theorem cg.trans (h : cg p a b) (h2 : cg p b c) : cg p a c := by
  obtain ⟨k, h⟩ := h
  obtain ⟨l, h2⟩ := h2
  exact ⟨k + l, by grind⟩
theorem cg.add (h : cg p a b) (h2 : cg p c d) : cg p (a + c) (b + d) := by
  obtain ⟨k, h⟩ := h
  obtain ⟨l, h2⟩ := h2
  exact ⟨k + l, by grind⟩
theorem cg.sub (h : cg p a b) (h2 : cg p c d) : cg p (a - c) (b - d) := by
  obtain ⟨k, h⟩ := h
  obtain ⟨l, h2⟩ := h2
  exact ⟨k - l, by grind⟩
theorem cg.mul (h : cg p a b) (h2 : cg p c d) : cg p (a * c) (b * d) := by
  obtain ⟨k, h⟩ := h
  obtain ⟨l, h2⟩ := h2
  exact ⟨k * d + b * l + p * k * l, by grind⟩
theorem cg.emod (p a : Int) : cg p (a % p) a := ⟨-(a / p), by have := Int.emod_def a p; grind⟩
theorem cg.iff : cg p a b ↔ a % p = b % p := by
  constructor
  · rintro ⟨k, rfl⟩
    exact Int.add_mul_emod_self_left b p k
  · intro h
    exact (cg.emod p a).symm.trans ((cg.of_eq h).trans (cg.emod p b))
theorem cg.eq (h : cg p a b) (ha : 0 ≤ a) (ha' : a < p) (hb : 0 ≤ b) (hb' : b < p) : a = b := by
  have e := cg.iff.mp h
  rw [Int.emod_eq_of_lt ha ha', Int.emod_eq_of_lt hb hb'] at e
  exact e
theorem one_ne (hp : 2 ≤ p) : ¬ cg p 1 0 := fun h => by
  have := h.eq (by omega) (by omega) (by omega) (by omega)
  omega
end
theorem getD_el {α : Type} (l : List α) (d : α) {j : Nat} (h : j < l.length) : l.getD j d = l[j] := by
  rw [List.getD_eq_getElem?_getD, List.getElem?_eq_getElem h]
  rfl
/-- a row of length n of rests -/
structure Wf (p : Int) (n : Nat) (r : Row) : Prop where
  len : r.length = n
  rng : ∀ x ∈ r, 0 ≤ x ∧ x < p
theorem ent_mem {r : Row} {j : Nat} (h : j < r.length) : ent r j ∈ r := by
  unfold ent
  rw [getD_el _ _ h]
  exact List.getElem_mem h
theorem ent_some {r : Row} {j : Nat} (h : j < r.length) : r[j]? = some (ent r j) := by
  unfold ent
  rw [getD_el _ _ h, List.getElem?_eq_getElem h]
theorem Wf.ent {p : Int} {n : Nat} {r : Row} (w : Wf p n r) {j : Nat} (h : j < n) : 0 ≤ ent r j ∧ My.ent r j < p := w.rng _ (ent_mem (w.len ▸ h))
theorem row_ext {p : Int} {n : Nat} {r s : Row} (a : Wf p n r) (b : Wf p n s) (h : ∀ j, j < n → cg p (ent r j) (ent s j)) : r = s := by
  refine List.ext_getElem? fun j => ?_
  by_cases hj : j < n
  · rw [ent_some (a.len ▸ hj), ent_some (b.len ▸ hj), (h j hj).eq (a.ent hj).1 (a.ent hj).2 (b.ent hj).1 (b.ent hj).2]
  · rw [List.getElem?_eq_none (by have := a.len; omega), List.getElem?_eq_none (by have := b.len; omega)]

/-! ### spans -/
def Z (p : Int) (n : Nat) (v : Nat → Int) : Prop := ∀ j, j < n → cg p (v j) 0
/-- in the span of R -/
inductive Spn (p : Int) (n : Nat) (R : List Row) : (Nat → Int) → Prop
  | zero {v} (h : Z p n v) : Spn p n R v
  | add {u v r} (c : Int) (hr : r ∈ R) (hu : Spn p n R u) (h : ∀ j, j < n → cg p (v j) (u j + c * ent r j)) : Spn p n R v
section
variable {p : Int} {n : Nat} {R S : List Row} {u v : Nat → Int}
theorem Spn.cong (h : Spn p n R u) (e : ∀ j, j < n → cg p (v j) (u j)) : Spn p n R v := by
  cases h with
  | zero h => exact .zero fun j hj => (e j hj).trans (h j hj)
  | add c hr hu h => exact .add c hr hu fun j hj => (e j hj).trans (h j hj)
theorem Spn.lin (c : Int) (hu : Spn p n R u) (hv : Spn p n R v) : Spn p n R (fun j => u j + c * v j) := by
  induction hv with
  | zero h =>
    refine hu.cong fun j hj => ?_
    have := (cg.refl p (u j)).add ((cg.refl p c).mul (h j hj))
    exact this.trans (cg.of_eq (by grind))
  | add d hr hw h ih =>
    refine .add (c * d) hr ih fun j hj => ?_
    have := (cg.refl p (u j)).add ((cg.refl p c).mul (h j hj))
    exact this.trans (cg.of_eq (by grind))
theorem Spn.mem {r : Row} (h : r ∈ R) : Spn p n R (ent r) := .add (u := fun _ => 0) 1 h (.zero fun _ _ => cg.refl _ _) fun j _ => cg.of_eq (by grind)
theorem Spn.mono (h : ∀ r ∈ R, Spn p n S (ent r)) (hv : Spn p n R v) : Spn p n S v := by
  induction hv with
  | zero h => exact .zero h
  | add c hr _ e ih => exact (ih.lin c (h _ hr)).cong e
theorem Spn.incl (h : ∀ r ∈ R, r ∈ S) (hv : Spn p n R v) : Spn p n S v := hv.mono fun r hr => .mem (h r hr)
end
/-! ### what the rows of a low list leave of a row -/
def red : List Row → List Nat → (Nat → Int) → Nat → Int
  | r :: F, l :: ls, v => red F ls (fun j => v j - v l * ent r j)
  | _, _, v => v
theorem red_nil (ls : List Nat) (v : Nat → Int) : red [] ls v = v := by
  cases ls <;> rfl
theorem red_lin (c : Int) : ∀ (F : List Row) (ls : List Nat) (u v : Nat → Int) (j : Nat), red F ls (fun j => u j + c * v j) j = red F ls u j + c * red F ls v j
  | [], ls, u, v, j => by rw [red_nil, red_nil, red_nil]
  | r :: F, [], u, v, j => rfl
  | r :: F, l :: ls, u, v, j => by
    have e : (fun j => (u j + c * v j) - (u l + c * v l) * ent r j) = fun j => (u j - u l * ent r j) + c * (v j - v l * ent r j) := by
      funext j
      grind
    show red F ls (fun j => (u j + c * v j) - (u l + c * v l) * ent r j) j = _
    rw [e, red_lin c F ls]
    rfl
/-- each row has 1 at its own lead, 0 at the others' -/
def Dl (p : Int) (F : List Row) (ls : List Nat) : Prop := ls.length = F.length ∧ ∀ (i k : Nat) r l, F[i]? = some r → ls[k]? = some l → ent r l = if i = k then 1 else 0
theorem Dl.tail {p : Int} {r : Row} {F : List Row} {l : Nat} {ls : List Nat} (h : Dl p (r :: F) (l :: ls)) : Dl p F ls := by
  refine ⟨by simpa using h.1, fun i k s m hi hk => ?_⟩
  have := h.2 (i + 1) (k + 1) s m hi hk
  rw [this]
  by_cases e : i = k
  · rw [if_pos e, if_pos (by omega)]
  · rw [if_neg e, if_neg (by omega)]
theorem red_zero {p : Int} {n : Nat} : ∀ {F : List Row} {ls : List Nat} {v : Nat → Int}, (∀ l ∈ ls, l < n) → Z p n v → Z p n (red F ls v)
  | [], ls, v, _, h => by rw [red_nil]; exact h
  | r :: F, [], v, _, h => h
  | r :: F, l :: ls, v, hl, h => by
    refine red_zero (F := F) (ls := ls) (fun m hm => hl m (List.mem_cons_of_mem _ hm)) fun j hj => ?_
    have := (h j hj).sub ((h l (hl l List.mem_cons_self)).mul (cg.refl p (ent r j)))
    exact this.trans (cg.of_eq (by grind))
theorem red_keep {p : Int} {n : Nat} : ∀ {F : List Row} {ls : List Nat} {v : Nat → Int}, (∀ l ∈ ls, l < n) → (∀ l ∈ ls, cg p (v l) 0) → ∀ j, j < n → cg p (red F ls v j) (v j)
  | [], ls, v, _, _, j, _ => by rw [red_nil]; exact cg.refl _ _
  | r :: F, [], v, _, _, j, _ => cg.refl _ _
  | r :: F, l :: ls, v, hn, hl, j, hj => by
    have a : ∀ j, cg p (v j - v l * ent r j) (v j) := fun j => by
      have := (cg.refl p (v j)).sub ((hl l List.mem_cons_self).mul (cg.refl p (ent r j)))
      exact this.trans (cg.of_eq (by grind))
    refine (red_keep (F := F) (ls := ls) (fun m hm => hn m (List.mem_cons_of_mem _ hm)) (fun m hm => ?_) j hj).trans (a j)
    exact (a m).trans (hl m (List.mem_cons_of_mem _ hm))
theorem red_row {p : Int} {n : Nat} : ∀ {F : List Row} {ls : List Nat} {r : Row}, Dl p F ls → (∀ l ∈ ls, l < n) → r ∈ F → Z p n (red F ls (ent r))
  | s :: F, [], r, h, _, _ => by simp [Dl] at h
  | s :: F, l :: ls, r, h, hl, hr => by
    have hl' : ∀ m ∈ ls, m < n := fun m hm => hl m (List.mem_cons_of_mem _ hm)
    rcases List.mem_cons.mp hr with rfl | hr
    · refine red_zero (F := F) (ls := ls) hl' fun j hj => ?_
      have e := h.2 0 0 r l rfl rfl
      rw [if_pos rfl] at e
      rw [e]
      exact cg.of_eq (by grind)
    · obtain ⟨i, hi⟩ := List.getElem?_of_mem hr
      have e := h.2 (i + 1) 0 r l hi rfl
      rw [if_neg (by omega)] at e
      have q := red_row h.tail hl' hr
      show Z p n (red F ls (fun j => ent r j - ent r l * ent s j))
      rw [e]
      have e2 : (fun j => ent r j - 0 * ent s j) = ent r := by
        funext j
        grind
      rw [e2]
      exact q
theorem spn_red {p : Int} {n : Nat} {F : List Row} {ls : List Nat} (h : Dl p F ls) (hl : ∀ l ∈ ls, l < n) {v : Nat → Int} (hv : Spn p n F v) : Z p n (red F ls v) := by
  induction hv with
  | zero h => exact red_zero hl h
  | @add u v r c hr hu e ih =>
    have q := red_row h hl hr
    have e1 : Z p n (red F ls (fun j => u j + c * ent r j)) := fun j hj => by
      rw [red_lin c F ls u (ent r) j]
      have := (ih j hj).add ((cg.refl p c).mul (q j hj))
      exact this.trans (cg.of_eq (by grind))
    have e2 : Z p n (red F ls (fun j => v j + (-1) * (u j + c * ent r j))) := red_zero hl fun j hj => by
      have := (e j hj).add (cg.refl p ((-1) * (u j + c * ent r j)))
      exact this.trans (cg.of_eq (by grind))
    intro j hj
    have a := e2 j hj
    rw [red_lin (-1) F ls v _ j] at a
    have := a.add (e1 j hj)
    exact (cg.of_eq (by grind)).trans this
theorem spn_sub {p : Int} {n : Nat} {R : List Row} : ∀ {F : List Row} {ls : List Nat} {v : Nat → Int}, (∀ r ∈ F, r ∈ R) → Spn p n R (fun j => v j - red F ls v j)
  | [], ls, v, _ => by
    rw [red_nil]
    exact .zero fun j _ => cg.of_eq (by grind)
  | r :: F, [], v, _ => .zero fun j _ => cg.of_eq (by show v j - v j = 0; grind)
  | r :: F, l :: ls, v, h => by
    have q := spn_sub (p := p) (n := n) (R := R) (F := F) (ls := ls) (v := fun j => v j - v l * ent r j) fun s hs => h s (List.mem_cons_of_mem _ hs)
    exact .add (v l) (h r List.mem_cons_self) q fun j _ => cg.of_eq (by
      show v j - red F ls (fun j => v j - v l * ent r j) j = (v j - v l * ent r j - red F ls (fun j => v j - v l * ent r j) j) + v l * ent r j
      grind)
theorem red_lead {p : Int} {n : Nat} : ∀ {F : List Row} {ls : List Nat} {v : Nat → Int} {j : Nat}, (∀ (i : Nat) r l, F[i]? = some r → ls[i]? = some l → ∀ m, m < l → ent r m = 0) → j < n → Z p n (red F ls v) → (∀ i, i < j → cg p (v i) 0) → ¬ cg p (v j) 0 → j ∈ ls
  | [], ls, v, j, _, hj, h, _, h2 => by
    rw [red_nil] at h
    exact absurd (h j hj) h2
  | r :: F, [], v, j, _, hj, h, _, h2 => absurd (h j hj) h2
  | r :: F, l :: ls, v, j, hb, hj, h, h1, h2 => by
    by_cases e : j = l
    · rw [e]
      exact List.mem_cons_self
    · refine List.mem_cons_of_mem _ (red_lead (F := F) (ls := ls) (v := fun j => v j - v l * ent r j) (fun i s m hi hm => hb (i + 1) s m hi hm) hj h (fun i hi => ?_) fun z => h2 ?_)
      · by_cases hl : l < j
        · have := (h1 i hi).sub ((h1 l hl).mul (cg.refl p (ent r i)))
          exact this.trans (cg.of_eq (by grind))
        · have e0 : ent r i = 0 := hb 0 r l rfl rfl i (by omega)
          show cg p (v i - v l * ent r i) 0
          rw [e0]
          exact (cg.of_eq (by grind)).trans (h1 i hi)
      · by_cases hl : l < j
        · have := (cg.refl p (v j)).sub ((h1 l hl).mul (cg.refl p (ent r j)))
          have q : cg p (v j - v l * ent r j) (v j) := this.trans (cg.of_eq (by grind))
          exact q.symm.trans z
        · have e0 : ent r j = 0 := hb 0 r l rfl rfl j (by omega)
          have z : cg p (v j - v l * ent r j) 0 := z
          rw [e0] at z
          exact (cg.of_eq (by grind)).trans z
/-! ### low lists -/
structure Low (p : Int) (n : Nat) (F : List Row) (ls : List Nat) : Prop where
  wf : ∀ r ∈ F, Wf p n r
  dl : Dl p F ls
  lt : ∀ l ∈ ls, l < n
  up : ls.Pairwise (· < ·)
  zb : ∀ (i : Nat) r l, F[i]? = some r → ls[i]? = some l → ∀ m, m < l → ent r m = 0
theorem sorted_eq : ∀ {a b : List Nat}, a.Pairwise (· < ·) → b.Pairwise (· < ·) → (∀ x, x ∈ a ↔ x ∈ b) → a = b
  | [], [], _, _, _ => rfl
  | [], y :: b, _, _, h => absurd ((h y).mpr List.mem_cons_self) (by simp)
  | x :: a, [], _, _, h => absurd ((h x).mp List.mem_cons_self) (by simp)
  | x :: a, y :: b, ha, hb, h => by
    have a1 := List.pairwise_cons.mp ha
    have b1 := List.pairwise_cons.mp hb
    have e : x = y := by
      rcases List.mem_cons.mp ((h x).mp List.mem_cons_self) with e | m
      · exact e
      · rcases List.mem_cons.mp ((h y).mpr List.mem_cons_self) with e | m2
        · exact e.symm
        · have := b1.1 x m
          have := a1.1 y m2
          omega
    subst e
    rw [sorted_eq a1.2 b1.2 fun z => ⟨fun hz => ?_, fun hz => ?_⟩]
    · rcases List.mem_cons.mp ((h z).mp (List.mem_cons_of_mem _ hz)) with e | m
      · subst e
        exact absurd (a1.1 z hz) (Nat.lt_irrefl _)
      · exact m
    · rcases List.mem_cons.mp ((h z).mpr (List.mem_cons_of_mem _ hz)) with e | m
      · subst e
        exact absurd (b1.1 z hz) (Nat.lt_irrefl _)
      · exact m
theorem lead_in {p : Int} {n : Nat} {F G : List Row} {ls ms : List Nat} (hp : 2 ≤ p) (hF : Low p n F ls) (hG : Low p n G ms) (h : ∀ r ∈ F, Spn p n G (ent r)) : ∀ l ∈ ls, l ∈ ms := by
  intro l hl
  obtain ⟨i, hi⟩ := List.getElem?_of_mem hl
  have hi' : i < F.length := by
    have := (List.getElem?_eq_some_iff.mp hi).1
    rw [hF.dl.1] at this
    exact this
  have hr : F[i]? = some F[i] := List.getElem?_eq_getElem hi'
  have q := spn_red hG.dl hG.lt (h _ (List.getElem_mem hi'))
  refine red_lead hG.zb (hF.lt l hl) q (fun j hj => cg.of_eq (hF.zb i _ l hr hi j hj)) ?_
  rw [hF.dl.2 i i _ l hr hi, if_pos rfl]
  exact one_ne hp
theorem low_unique {p : Int} {n : Nat} {F G : List Row} {ls ms : List Nat} (hp : 2 ≤ p) (hF : Low p n F ls) (hG : Low p n G ms) (h1 : ∀ r ∈ F, Spn p n G (ent r)) (h2 : ∀ r ∈ G, Spn p n F (ent r)) : F = G := by
  have e : ls = ms := sorted_eq hF.up hG.up fun l => ⟨lead_in hp hF hG h1 l, lead_in hp hG hF h2 l⟩
  subst e
  have len : F.length = G.length := hF.dl.1.symm.trans hG.dl.1
  refine List.ext_getElem len fun i hi hi' => ?_
  refine row_ext (hF.wf _ (List.getElem_mem hi)) (hG.wf _ (List.getElem_mem hi')) fun j hj => ?_
  have s : Spn p n F (fun j => ent F[i] j + (-1) * ent G[i] j) := (Spn.mem (List.getElem_mem hi)).lin (-1) (h2 _ (List.getElem_mem hi'))
  have z := spn_red hF.dl hF.lt s
  have k := red_keep (p := p) (F := F) hF.lt (v := fun j => ent F[i] j + (-1) * ent G[i] j) (fun l hl => by
    obtain ⟨k, hk⟩ := List.getElem?_of_mem hl
    rw [hF.dl.2 i k _ l (List.getElem?_eq_getElem hi) hk, hG.dl.2 i k _ l (List.getElem?_eq_getElem hi') hk]
    exact cg.of_eq (by grind)) j hj
  have q := (k.symm.trans (z j hj)).add (cg.refl p (ent G[i] j))
  exact (cg.of_eq (by grind)).trans (q.trans (cg.of_eq (by grind)))
/-! ### the form -/
def lessR (p : Int) (row : Row) (c : Int) (by_ : Row) : Row := List.zipWith (fun a b => (a - c * b) % p) row by_
def mulR (p c : Int) (row : Row) : Row := row.map fun x => c * x % p
def clearM (p : Int) (pl : Nat) (by_ : Row) (M : List Row) : List Row := M.map fun r => lessR p r (ent r pl) by_
def pick (pl : Nat) (left : List Row) : Option Nat := left.findIdx? fun r => decide (ent r pl ≠ 0)
def stepM (p : Int) (inv : Int → Int) (pl : Nat) (s : List Row × List Row) : List Row × List Row :=
  match pick pl s.2 with
  | none => s
  | some at_ => let r := s.2.getD at_ []; let row := mulR p (inv (ent r pl)) r
    (clearM p pl row s.1 ++ [row], clearM p pl row (s.2.eraseIdx at_))
def runM (p : Int) (inv : Int → Int) (rows : List Row) : Nat → List Row × List Row
  | 0 => ([], rows)
  | k + 1 => stepM p inv k (runM p inv rows k)
def lenM (rows : List Row) : Nat := match rows with | [] => 0 | r :: _ => r.length
def lowM (p : Int) (inv : Int → Int) (rows : List Row) : List Row := (runM p inv rows (lenM rows)).1
/-- what the contrary is for -/
def InvOk (p : Int) (inv : Int → Int) : Prop := ∀ x, 0 < x → x < p → inv x * x % p = 1
section
variable {p : Int} {n : Nat} {inv : Int → Int}
theorem lessR_len {row b : Row} {c : Int} (h : Wf p n row) (h2 : Wf p n b) : (lessR p row c b).length = n := by
  unfold lessR
  rw [List.length_zipWith, h.len, h2.len, Nat.min_self]
theorem lessR_ent {row b : Row} {c : Int} (h : Wf p n row) (h2 : Wf p n b) {j : Nat} (hj : j < n) : ent (lessR p row c b) j = (ent row j - c * ent b j) % p := by
  have a := ent_some (r := lessR p row c b) (j := j) (by rw [lessR_len h h2]; exact hj)
  unfold lessR at a
  rw [List.getElem?_zipWith, ent_some (by rw [h.len]; exact hj), ent_some (by rw [h2.len]; exact hj)] at a
  exact (Option.some.inj a).symm
theorem lessR_wf (hp : 0 < p) {row b : Row} {c : Int} (h : Wf p n row) (h2 : Wf p n b) : Wf p n (lessR p row c b) := by
  refine ⟨lessR_len h h2, fun x hx => ?_⟩
  obtain ⟨j, hj, rfl⟩ := List.getElem_of_mem hx
  have hj' : j < n := by rw [lessR_len h h2] at hj; exact hj
  have e := lessR_ent (c := c) h h2 hj'
  unfold ent at e
  rw [getD_el _ _ hj] at e
  rw [e]
  exact ⟨Int.emod_nonneg _ (by omega), Int.emod_lt_of_pos _ hp⟩
theorem lessR_zero {row b : Row} (h : Wf p n row) (h2 : Wf p n b) : lessR p row 0 b = row := by
  refine List.ext_getElem (by rw [lessR_len h h2, h.len]) fun j hj hj' => ?_
  have hj'' : j < n := by rw [h.len] at hj'; exact hj'
  have e := lessR_ent (c := 0) h h2 hj''
  unfold ent at e
  rw [getD_el _ _ hj, getD_el _ _ hj'] at e
  rw [e]
  have := h.rng _ (List.getElem_mem hj')
  rw [Int.zero_mul, Int.sub_zero]
  exact Int.emod_eq_of_lt this.1 this.2
theorem mulR_wf (hp : 0 < p) {row : Row} {c : Int} (h : Wf p n row) : Wf p n (mulR p c row) := by
  refine ⟨by unfold mulR; rw [List.length_map, h.len], fun x hx => ?_⟩
  obtain ⟨y, _, rfl⟩ := List.mem_map.mp hx
  exact ⟨Int.emod_nonneg _ (by omega), Int.emod_lt_of_pos _ hp⟩
theorem mulR_ent {row : Row} {c : Int} (h : Wf p n row) {j : Nat} (hj : j < n) : ent (mulR p c row) j = c * ent row j % p := by
  have a := ent_some (r := mulR p c row) (j := j) (by unfold mulR; rw [List.length_map, h.len]; exact hj)
  unfold mulR at a
  rw [List.getElem?_map, ent_some (by rw [h.len]; exact hj)] at a
  exact (Option.some.inj a).symm
/-- what holds ahead of the place pl -/
structure Run (p : Int) (n : Nat) (rows : List Row) (pl : Nat) (s : List Row × List Row) (ls : List Nat) : Prop where
  low : Low p n s.1 ls
  lt : ∀ l ∈ ls, l < pl
  wf : ∀ r ∈ s.2, Wf p n r
  zb : ∀ r ∈ s.2, ∀ j, j < pl → ent r j = 0
  to : ∀ r, r ∈ s.1 ∨ r ∈ s.2 → Spn p n rows (ent r)
  of : ∀ r ∈ rows, Spn p n (s.1 ++ s.2) (ent r)
theorem pick_none {pl : Nat} {left : List Row} (h : pick pl left = none) : ∀ r ∈ left, ent r pl = 0 := by
  intro r hr
  have := List.findIdx?_eq_none_iff.mp h r hr
  simpa using this
theorem pick_some {pl at_ : Nat} {left : List Row} (h : pick pl left = some at_) : ∃ hl : at_ < left.length, ent left[at_] pl ≠ 0 ∧ ∀ j (hj : j < at_), ent (left[j]'(by omega)) pl = 0 := by
  obtain ⟨h1, h2, h3⟩ := List.findIdx?_eq_some_iff_getElem.mp h
  refine ⟨h1, by simpa using h2, fun j hj => ?_⟩
  have := h3 j hj
  simpa using this
theorem run_step (hp : 2 ≤ p) (hv : InvOk p inv) {rows : List Row} {pl : Nat} {s : List Row × List Row} {ls : List Nat} (hpl : pl < n) (R : Run p n rows pl s ls) : ∃ ms, Run p n rows (pl + 1) (stepM p inv pl s) ms := by
  unfold stepM
  cases e : pick pl s.2 with
  | none =>
    refine ⟨ls, R.low, fun l hl => Nat.lt_succ_of_lt (R.lt l hl), R.wf, fun r hr j hj => ?_, R.to, R.of⟩
    by_cases ej : j = pl
    · rw [ej]
      exact pick_none e r hr
    · exact R.zb r hr j (by omega)
  | some at_ =>
    obtain ⟨hl, hne, _⟩ := pick_some e
    obtain ⟨form, left⟩ := s
    simp only at *
    have hr0 : left[at_] ∈ left := List.getElem_mem hl
    have e0 : left.getD at_ [] = left[at_] := getD_el _ _ hl
    rw [e0]
    have w0 := R.wf _ hr0
    generalize hr : left[at_] = r at *
    have r0 := w0.ent hpl
    have hi := hv (ent r pl) (by omega) r0.2
    generalize hc : inv (ent r pl) = c at *
    have pp : (0 : Int) < p := by omega
    have wrow : Wf p n (mulR p c r) := mulR_wf pp w0
    generalize hrow : mulR p c r = row at *
    have row1 : ent row pl = 1 := by
      rw [← hrow, mulR_ent w0 hpl]
      exact hi
    have rowz : ∀ j, j < pl → ent row j = 0 := fun j hj => by
      rw [← hrow, mulR_ent w0 (by omega), R.zb r hr0 j hj, Int.mul_zero, Int.zero_emod]
    have rowe : ∀ j, j < n → cg p (ent row j) (c * ent r j) := fun j hj => by
      rw [← hrow, mulR_ent w0 hj]
      exact cg.emod _ _
    have back : ∀ j, j < n → cg p (ent r j) (ent r pl * ent row j) := fun j hj => by
      have a : cg p (ent r pl * ent row j) (ent r pl * (c * ent r j)) := (cg.refl p _).mul (rowe j hj)
      have b : cg p (c * ent r pl * ent r j) (1 * ent r j) := ((cg.emod p _).symm.trans (cg.of_eq hi)).mul (cg.refl p _)
      exact ((a.trans (cg.of_eq (by grind))).trans (b.trans (cg.of_eq (by grind)))).symm
    have er : ∀ s, Wf p n s → ∀ j, j < n → cg p (ent (lessR p s (ent s pl) row) j) (ent s j - ent s pl * ent row j) := fun s hs j hj => by
      rw [lessR_ent hs wrow hj]
      exact cg.emod _ _
    have memE : ∀ s, s ∈ left.eraseIdx at_ → s ∈ left := fun s hs => List.mem_of_mem_eraseIdx hs
    have entz : ∀ s, Wf p n s → ∀ j, j < n → ent s pl * ent row j = 0 → ent (lessR p s (ent s pl) row) j = ent s j := fun s hs j hj h => by
      rw [lessR_ent hs wrow hj, h, Int.sub_zero]
      exact Int.emod_eq_of_lt (hs.ent hj).1 (hs.ent hj).2
    have entpl : ∀ s, Wf p n s → ent (lessR p s (ent s pl) row) pl = 0 := fun s hs => by
      rw [lessR_ent hs wrow hpl, row1, Int.mul_one, Int.sub_self, Int.zero_emod]
    have lenf : (clearM p pl row form).length = form.length := by unfold clearM; rw [List.length_map]
    have getf : ∀ (i : Nat) q, (clearM p pl row form ++ [row])[i]? = some q → (∃ s, form[i]? = some s ∧ q = lessR p s (ent s pl) row) ∨ (i = form.length ∧ q = row) := fun i q hq => by
      by_cases hi : i < form.length
      · rw [List.getElem?_append_left (by rw [lenf]; exact hi)] at hq
        unfold clearM at hq
        rw [List.getElem?_map, List.getElem?_eq_getElem hi] at hq
        exact .inl ⟨form[i], List.getElem?_eq_getElem hi, (Option.some.inj hq).symm⟩
      · have hi2 : i < form.length + 1 := by
          have := (List.getElem?_eq_some_iff.mp hq).1
          rw [List.length_append, lenf] at this
          exact this
        have e : i = form.length := by omega
        rw [List.getElem?_append_right (by rw [lenf]; omega), lenf, e, Nat.sub_self] at hq
        exact .inr ⟨e, (Option.some.inj hq).symm⟩
    have getl : ∀ (i : Nat) l, (ls ++ [pl])[i]? = some l → ls[i]? = some l ∨ (i = form.length ∧ l = pl) := fun i l hq => by
      have len := R.low.dl.1
      simp only at len
      by_cases hi : i < form.length
      · rw [List.getElem?_append_left (by rw [len]; exact hi)] at hq
        exact .inl hq
      · have hi2 : i < form.length + 1 := by
          have := (List.getElem?_eq_some_iff.mp hq).1
          rw [List.length_append, len] at this
          exact this
        have e : i = form.length := by omega
        rw [List.getElem?_append_right (by rw [len]; omega), len, e, Nat.sub_self] at hq
        exact .inr ⟨e, (Option.some.inj hq).symm⟩
    have wff : ∀ s ∈ form, Wf p n s := R.low.wf
    have meml : ∀ {i : Nat} {l}, ls[i]? = some l → i < form.length ∧ l < pl := fun {i l} h => by
      have z := (List.getElem?_eq_some_iff.mp h).1
      have len := R.low.dl.1
      simp only at len
      exact ⟨by omega, R.lt l (List.mem_of_getElem? h)⟩
    refine ⟨ls ++ [pl], ⟨fun q hq => ?_, ⟨?_, fun i k q l hi hk => ?_⟩, fun l hl => ?_, ?_, fun i q l hi hk m hm => ?_⟩, fun l hl => ?_, fun q hq => ?_, fun q hq j hj => ?_, fun q hq => ?_, fun q hq => ?_⟩
    · rcases List.mem_append.mp hq with h | h
      · obtain ⟨s, hs, rfl⟩ := List.mem_map.mp h
        exact lessR_wf pp (wff s hs) wrow
      · rw [List.mem_singleton.mp h]
        exact wrow
    · rw [List.length_append, List.length_append, lenf]
      have len := R.low.dl.1
      simp only at len
      rw [len]
      rfl
    · rcases getf i q hi with ⟨s, hs, rfl⟩ | ⟨ei, rfl⟩
      · have ws := wff s (List.mem_of_getElem? hs)
        have il : i < form.length := (List.getElem?_eq_some_iff.mp hs).1
        rcases getl k l hk with hk | ⟨ek, rfl⟩
        · rw [entz s ws l (by have := meml hk; omega) (by rw [rowz l (meml hk).2, Int.mul_zero])]
          exact R.low.dl.2 i k s l hs hk
        · rw [entpl s ws, if_neg (by omega)]
      · rcases getl k l hk with hk | ⟨ek, rfl⟩
        · rw [rowz l (meml hk).2, if_neg (by have := meml hk; omega)]
        · rw [row1, if_pos (by omega)]
    · rcases List.mem_append.mp hl with h | h
      · exact R.low.lt l h
      · rw [List.mem_singleton.mp h]
        exact hpl
    · exact List.pairwise_append.mpr ⟨R.low.up, List.pairwise_singleton _ _, fun a ha b hb => by rw [List.mem_singleton.mp hb]; exact R.lt a ha⟩
    · rcases getf i q hi with ⟨s, hs, rfl⟩ | ⟨ei, rfl⟩
      · have ws := wff s (List.mem_of_getElem? hs)
        have il : i < form.length := (List.getElem?_eq_some_iff.mp hs).1
        rcases getl i l hk with hk | ⟨ek, rfl⟩
        · have lp := (meml hk).2
          rw [entz s ws m (by omega) (by rw [rowz m (by omega), Int.mul_zero])]
          exact R.low.zb i s l hs hk m hm
        · omega
      · rcases getl i l hk with hk | ⟨ek, rfl⟩
        · have := (meml hk).1
          omega
        · exact rowz m hm
    · rcases List.mem_append.mp hl with h | h
      · exact Nat.lt_succ_of_lt (R.lt l h)
      · rw [List.mem_singleton.mp h]
        exact Nat.lt_succ_self _
    · obtain ⟨s, hs, rfl⟩ := List.mem_map.mp hq
      exact lessR_wf pp (R.wf s (memE s hs)) wrow
    · obtain ⟨s, hs, rfl⟩ := List.mem_map.mp hq
      have ws := R.wf s (memE s hs)
      by_cases ej : j = pl
      · rw [ej]
        exact entpl s ws
      · rw [entz s ws j (by omega) (by rw [rowz j (by omega), Int.mul_zero])]
        exact R.zb s (memE s hs) j (by omega)
    · have srow : Spn p n rows (ent row) := by
        have z : Spn p n rows (fun j => (fun _ => (0 : Int)) j + c * ent r j) := (Spn.zero fun _ _ => cg.refl _ _).lin c (R.to r (.inr hr0))
        exact z.cong fun j hj => (rowe j hj).trans (cg.of_eq (by grind))
      have sl : ∀ s, Wf p n s → Spn p n rows (ent s) → Spn p n rows (ent (lessR p s (ent s pl) row)) := fun s ws hs =>
        (hs.lin (-(ent s pl)) srow).cong fun j hj => (er s ws j hj).trans (cg.of_eq (by grind))
      rcases hq with h | h
      · rcases List.mem_append.mp h with h | h
        · obtain ⟨s, hs, rfl⟩ := List.mem_map.mp h
          exact sl s (wff s hs) (R.to s (.inl hs))
        · rw [List.mem_singleton.mp h]
          exact srow
      · obtain ⟨s, hs, rfl⟩ := List.mem_map.mp h
        exact sl s (R.wf s (memE s hs)) (R.to s (.inr (memE s hs)))
    · refine Spn.mono (fun s hs => ?_) (R.of q hq)
      have mrow : Spn p n (clearM p pl row form ++ [row] ++ clearM p pl row (left.eraseIdx at_)) (ent row) := Spn.mem (by simp)
      have sl : ∀ s, Wf p n s → lessR p s (ent s pl) row ∈ clearM p pl row form ++ [row] ++ clearM p pl row (left.eraseIdx at_) → Spn p n (clearM p pl row form ++ [row] ++ clearM p pl row (left.eraseIdx at_)) (ent s) := fun s ws hs =>
        ((Spn.mem hs).lin (ent s pl) mrow).cong fun j hj => by
          have := (er s ws j hj).symm.add (cg.refl p (ent s pl * ent row j))
          exact (cg.of_eq (by grind)).trans this
      rcases List.mem_append.mp hs with h | h
      · exact sl s (wff s h) (List.mem_append_left _ (List.mem_append_left _ (List.mem_map.mpr ⟨s, h, rfl⟩)))
      · obtain ⟨k, hk, rfl⟩ := List.getElem_of_mem h
        by_cases ek : k = at_
        · subst ek
          rw [hr]
          have z : Spn p n (clearM p pl row form ++ [row] ++ clearM p pl row (left.eraseIdx k)) (fun j => (fun _ => (0 : Int)) j + ent r pl * ent row j) := (Spn.zero fun _ _ => cg.refl _ _).lin _ mrow
          exact z.cong fun j hj => (back j hj).trans (cg.of_eq (by grind))
        · have hm : left[k] ∈ left.eraseIdx at_ := List.mem_eraseIdx_iff_getElem.mpr ⟨k, hk, ek, rfl⟩
          exact sl _ (R.wf _ h) (List.mem_append_right _ (List.mem_map.mpr ⟨_, hm, rfl⟩))
theorem run_all (hp : 2 ≤ p) (hv : InvOk p inv) {rows : List Row} (w : ∀ r ∈ rows, Wf p n r) : ∀ k, k ≤ n → ∃ ls, Run p n rows k (runM p inv rows k) ls
  | 0, _ => ⟨[], ⟨fun r hr => by simp [runM] at hr, ⟨rfl, fun i k r l hi _ => by simp [runM] at hi⟩, fun l hl => by simp at hl, List.Pairwise.nil, fun i r l hi _ => by simp [runM] at hi⟩, fun l hl => by simp at hl, w, fun r _ j hj => absurd hj (Nat.not_lt_zero _),
      fun r hr => .mem (by simpa [runM] using hr), fun r hr => .mem (by simpa [runM] using hr)⟩
  | k + 1, h => by
    obtain ⟨ls, R⟩ := run_all hp hv w k (by omega)
    exact run_step hp hv (by omega) R
theorem runM_nil : ∀ k, runM p inv [] k = ([], [])
  | 0 => rfl
  | k + 1 => by
    show stepM p inv k (runM p inv [] k) = _
    rw [runM_nil k]
    rfl
theorem lowM_len (rows : List Row) (w : ∀ r ∈ rows, Wf p n r) : lowM p inv rows = (runM p inv rows n).1 := by
  cases rows with
  | nil => unfold lowM; rw [runM_nil, runM_nil]
  | cons r R =>
    unfold lowM
    rw [show lenM (r :: R) = n from (w r List.mem_cons_self).len]
theorem lowM_ok (hp : 2 ≤ p) (hv : InvOk p inv) {rows : List Row} (w : ∀ r ∈ rows, Wf p n r) : ∃ ls, Low p n (lowM p inv rows) ls ∧ (∀ r ∈ lowM p inv rows, Spn p n rows (ent r)) ∧ ∀ r ∈ rows, Spn p n (lowM p inv rows) (ent r) := by
  obtain ⟨ls, R⟩ := run_all hp hv w n (Nat.le_refl _)
  rw [lowM_len rows w]
  refine ⟨ls, R.low, fun r hr => R.to r (.inl hr), fun r hr => ?_⟩
  refine (R.of r hr).mono fun s hs => ?_
  rcases List.mem_append.mp hs with h | h
  · exact .mem h
  · exact .zero fun j hj => cg.of_eq (R.zb s h j hj)
theorem lowM_same (hp : 2 ≤ p) (hv : InvOk p inv) {rows R2 : List Row} (w : ∀ r ∈ rows, Wf p n r) (w2 : ∀ r ∈ R2, Wf p n r) (a : ∀ r ∈ rows, Spn p n R2 (ent r)) (b : ∀ r ∈ R2, Spn p n rows (ent r)) : lowM p inv rows = lowM p inv R2 := by
  obtain ⟨l1, h1, t1, o1⟩ := lowM_ok hp hv w
  obtain ⟨l2, h2, t2, o2⟩ := lowM_ok hp hv w2
  exact low_unique hp h1 h2 (fun r hr => ((t1 r hr).mono a).mono o2) fun r hr => ((t2 r hr).mono b).mono o1
theorem lowM_low (hp : 2 ≤ p) (hv : InvOk p inv) {F : List Row} {ls : List Nat} (h : Low p n F ls) : lowM p inv F = F := by
  obtain ⟨l1, h1, t1, o1⟩ := lowM_ok hp hv h.wf
  exact low_unique hp h1 h t1 o1
theorem lowM_wf (hp : 2 ≤ p) (hv : InvOk p inv) {rows : List Row} (w : ∀ r ∈ rows, Wf p n r) : ∀ r ∈ lowM p inv rows, Wf p n r := by
  obtain ⟨l1, h1, _⟩ := lowM_ok hp hv w
  exact h1.wf
theorem lowM_again (hp : 2 ≤ p) (hv : InvOk p inv) {rows : List Row} (w : ∀ r ∈ rows, Wf p n r) : lowM p inv (lowM p inv rows) = lowM p inv rows := by
  obtain ⟨l1, h1, _⟩ := lowM_ok hp hv w
  exact lowM_low hp hv h1
theorem lowM_rev (hp : 2 ≤ p) (hv : InvOk p inv) {rows : List Row} (w : ∀ r ∈ rows, Wf p n r) : lowM p inv rows.reverse = lowM p inv rows :=
  lowM_same hp hv (fun r hr => w r (List.mem_reverse.mp hr)) w (fun r hr => .mem (List.mem_reverse.mp hr)) fun r hr => .mem (List.mem_reverse.mpr hr)
end
/-! ### the primes -/
def P5 (p : Int) : Prop := p = 2 ∨ p = 3 ∨ p = 5 ∨ p = 7 ∨ p = 11
theorem P5.two {p : Int} (h : P5 p) : 2 ≤ p := by
  rcases h with h | h | h | h | h <;> omega
theorem P5.le {p : Int} (h : P5 p) : p ≤ 11 := by
  rcases h with h | h | h | h | h <;> omega
def invM (p r : Int) : Int := ((List.range 11).map fun (k : Nat) => Int.ofNat k).find? (fun b => b * r % p == 1) |>.getD 0
theorem inv_all : ∀ p ∈ [2, 3, 5, 7, 11], ∀ r ∈ List.range 11, 0 < r → r < p → 0 < invM (p : Nat) (r : Nat) ∧ invM (p : Nat) (r : Nat) < (p : Nat) ∧ ∀ b ∈ List.range 11, b < p → ((b : Int) * (r : Nat) % (p : Nat) = 1 ↔ (b : Int) = invM (p : Nat) (r : Nat)) := by decide +kernel
theorem inv_ok {p r : Int} (hp : P5 p) (h0 : 0 < r) (h1 : r < p) : 0 < invM p r ∧ invM p r < p ∧ ∀ b, 0 ≤ b → b < p → (b * r % p = 1 ↔ b = invM p r) := by
  have two := hp.two
  have le := hp.le
  obtain ⟨P, rfl⟩ := Int.eq_ofNat_of_zero_le (a := p) (by omega)
  obtain ⟨R, rfl⟩ := Int.eq_ofNat_of_zero_le (a := r) (by omega)
  have hP : P ∈ [2, 3, 5, 7, 11] := by
    rcases hp with h | h | h | h | h <;> (have : P = _ := Int.ofNat.inj h; subst this; decide)
  obtain ⟨a, b, c⟩ := inv_all P hP R (List.mem_range.mpr (by omega)) (by omega) (by omega)
  refine ⟨a, b, fun x hx hx' => ?_⟩
  obtain ⟨B, rfl⟩ := Int.eq_ofNat_of_zero_le hx
  exact c B (List.mem_range.mpr (by omega)) (by omega)
theorem inv_is {p : Int} (hp : P5 p) : InvOk p (invM p) := fun x h0 h1 => by
  obtain ⟨a, b, c⟩ := inv_ok hp h0 h1
  exact (c _ (by omega) b).mpr rfl
end My

/-! Mixtures, what is left of a row. -/
namespace My
def dot : List Int → List Row → Nat → Int
  | c :: cs, r :: rows, j => c * ent r j + dot cs rows j
  | _, _, _ => 0
theorem dot_nil (cs : List Int) (j : Nat) : dot cs [] j = 0 := by cases cs <;> rfl
def mixM (p : Int) (cs : List Int) (rows : List Row) (n : Nat) : Row := (List.range n).map fun j => dot cs rows j % p
section
variable {p : Int} {n : Nat}
theorem mixM_len {cs : List Int} {rows : List Row} : (mixM p cs rows n).length = n := by
  unfold mixM
  rw [List.length_map, List.length_range]
theorem mixM_get {cs : List Int} {rows : List Row} {j : Nat} (h : j < n) : (mixM p cs rows n)[j]? = some (dot cs rows j % p) := by
  unfold mixM
  rw [List.getElem?_map, List.getElem?_range h]
  rfl
theorem mixM_ent {cs : List Int} {rows : List Row} {j : Nat} (h : j < n) : ent (mixM p cs rows n) j = dot cs rows j % p := by
  have a := ent_some (r := mixM p cs rows n) (j := j) (by rw [mixM_len]; exact h)
  rw [mixM_get h] at a
  exact (Option.some.inj a).symm
theorem mixM_wf (hp : 0 < p) {cs : List Int} {rows : List Row} : Wf p n (mixM p cs rows n) := by
  refine ⟨mixM_len, fun x hx => ?_⟩
  obtain ⟨j, _, rfl⟩ := List.mem_map.mp hx
  exact ⟨Int.emod_nonneg _ (by omega), Int.emod_lt_of_pos _ hp⟩
theorem zip_sum {j : Nat} : ∀ (cs : List Int) (rows : List Row), (List.zipWith (fun c r => c * ent r j) cs rows).sum = dot cs rows j
  | [], _ => rfl
  | _ :: _, [] => rfl
  | c :: cs, r :: rows => by
    show (c * ent r j :: List.zipWith (fun c r => c * ent r j) cs rows).sum = _
    rw [List.sum_cons, zip_sum cs rows]
    rfl
theorem dl_tail {r : Row} {F : List Row} {l : Nat} {ls : List Nat} (h : Dl p (r :: F) (l :: ls)) : ∀ m ∈ ls, ent r m = 0 := fun m hm => by
  obtain ⟨k, hk⟩ := List.getElem?_of_mem hm
  have := h.2 0 (k + 1) r m rfl hk
  rw [if_neg (by omega)] at this
  exact this
theorem red_dot : ∀ {F : List Row} {ls : List Nat} (v : Nat → Int) (j : Nat), Dl p F ls → red F ls v j = v j - dot (ls.map v) F j
  | [], ls, v, j, h => by
    rw [red_nil, dot_nil]
    omega
  | r :: F, [], v, j, h => by simp [Dl] at h
  | r :: F, l :: ls, v, j, h => by
    have ih := red_dot (F := F) (ls := ls) (fun j => v j - v l * ent r j) j h.tail
    have e : ls.map (fun j => v j - v l * ent r j) = ls.map v := by
      refine List.map_congr_left fun m hm => ?_
      rw [dl_tail h m hm]
      omega
    rw [e] at ih
    show red F ls (fun j => v j - v l * ent r j) j = v j - (v l * ent r j + dot (ls.map v) F j)
    rw [ih]
    omega
theorem red_cong {F : List Row} {ls : List Nat} {u v : Nat → Int} (hl : ∀ l ∈ ls, l < n) (h : ∀ j, j < n → cg p (u j) (v j)) : ∀ j, j < n → cg p (red F ls u j) (red F ls v j) := fun j hj => by
  have z : Z p n (red F ls (fun j => u j + (-1) * v j)) := red_zero hl fun j hj => by
    have := (h j hj).add (cg.refl p ((-1) * v j))
    exact this.trans (cg.of_eq (by grind))
  have a := z j hj
  rw [red_lin (-1) F ls u v j] at a
  have := a.add (cg.refl p (red F ls v j))
  exact (cg.of_eq (by grind)).trans (this.trans (cg.of_eq (by grind)))
def redR (p : Int) : List Row → List Nat → Row → Row
  | r :: F, l :: ls, m => redR p F ls (lessR p m (ent m l) r)
  | _, _, m => m
theorem redR_nil (ls : List Nat) (m : Row) : redR p [] ls m = m := by cases ls <;> rfl
theorem redR_wf (hp : 0 < p) : ∀ {F : List Row} {ls : List Nat} {m : Row}, (∀ r ∈ F, Wf p n r) → Wf p n m → Wf p n (redR p F ls m)
  | [], ls, m, _, h => by rw [redR_nil]; exact h
  | r :: F, [], m, _, h => h
  | r :: F, l :: ls, m, hF, h => redR_wf hp (F := F) (ls := ls) (fun s hs => hF s (List.mem_cons_of_mem _ hs)) (lessR_wf hp h (hF r List.mem_cons_self))
theorem redR_ent (hp : 0 < p) : ∀ {F : List Row} {ls : List Nat} {m : Row}, (∀ r ∈ F, Wf p n r) → (∀ l ∈ ls, l < n) → Wf p n m → ∀ j, j < n → cg p (ent (redR p F ls m) j) (red F ls (ent m) j)
  | [], ls, m, _, _, h, j, hj => by rw [redR_nil, red_nil]; exact cg.refl _ _
  | r :: F, [], m, _, _, h, j, hj => cg.refl _ _
  | r :: F, l :: ls, m, hF, hl, h, j, hj => by
    have hl' : ∀ k ∈ ls, k < n := fun k hk => hl k (List.mem_cons_of_mem _ hk)
    have ih := redR_ent hp (F := F) (ls := ls) (fun s hs => hF s (List.mem_cons_of_mem _ hs)) hl' (lessR_wf (c := ent m l) hp h (hF r List.mem_cons_self)) j hj
    refine ih.trans (red_cong hl' (fun i hi => ?_) j hj)
    rw [lessR_ent h (hF r List.mem_cons_self) hi]
    exact cg.emod _ _
def shr (ls : List Nat) (m : Row) : List Int := ls.map (ent m)
theorem mix_zero (hp : 2 ≤ p) {F : List Row} {ls : List Nat} (L : Low p n F ls) {m : Row} (w : Wf p n m) : mixM p (shr ls m) F n = m ↔ Z p n (red F ls (ent m)) := by
  constructor
  · intro h j hj
    rw [red_dot (ent m) j L.dl]
    have e := mixM_ent (p := p) (cs := shr ls m) (rows := F) hj
    rw [h] at e
    have c : cg p (ent m j) (dot (ls.map (ent m)) F j) := (cg.of_eq e).trans (cg.emod _ _)
    exact (c.sub (cg.refl p (dot (ls.map (ent m)) F j))).trans (cg.of_eq (by omega))
  · intro h
    refine row_ext (mixM_wf (by omega)) w fun j hj => ?_
    rw [mixM_ent hj]
    have a := h j hj
    rw [red_dot (ent m) j L.dl] at a
    have := a.add (cg.refl p (dot (ls.map (ent m)) F j))
    exact (cg.emod _ _).trans (((cg.of_eq (by unfold shr; omega)).trans this.symm).trans (cg.of_eq (by omega)))
theorem any_zero (hp : 0 < p) {m : Row} (w : Wf p n m) : m.any (fun x => x != 0) = false ↔ Z p n (ent m) := by
  constructor
  · intro h j hj
    have := List.any_eq_false.mp h _ (ent_mem (r := m) (j := j) (by rw [w.len]; exact hj))
    exact cg.of_eq (by simpa using this)
  · intro h
    refine List.any_eq_false.mpr fun x hx => ?_
    obtain ⟨j, hj, rfl⟩ := List.getElem_of_mem hx
    have e : m[j] = ent m j := by
      unfold ent
      rw [getD_el m 0 hj]
    have r := w.rng _ hx
    have := (h j (by rw [w.len] at hj; exact hj)).eq (by rw [← e]; exact r.1) (by rw [← e]; exact r.2) (Int.le_refl _) (by omega)
    rw [e, this]
    decide
theorem left_iff (hp : 2 ≤ p) {F : List Row} {ls : List Nat} (L : Low p n F ls) {m : Row} (w : Wf p n m) : (redR p F ls m).any (fun x => x != 0) = !decide (mixM p (shr ls m) F n = m) := by
  have pp : 0 < p := by omega
  have wr := redR_wf pp L.wf w (ls := ls)
  have key : (redR p F ls m).any (fun x => x != 0) = false ↔ mixM p (shr ls m) F n = m := by
    rw [mix_zero hp L w, any_zero pp wr]
    have e := redR_ent pp L.wf L.lt w
    exact ⟨fun h j hj => (e j hj).symm.trans (h j hj), fun h j hj => (e j hj).trans (h j hj)⟩
  by_cases h : mixM p (shr ls m) F n = m
  · rw [key.mpr h, decide_eq_true h]
    rfl
  · rw [decide_eq_false h]
    cases e : (redR p F ls m).any (fun x => x != 0) with
    | true => rfl
    | false => exact absurd (key.mp e) h
def mixR (p c : Int) (one other : Row) : Row := List.zipWith (fun a b => (a + c * b) % p) one other
theorem mixR_len {c : Int} {row b : Row} (h : Wf p n row) (h2 : Wf p n b) : (mixR p c row b).length = n := by
  unfold mixR
  rw [List.length_zipWith, h.len, h2.len, Nat.min_self]
theorem mixR_ent {row b : Row} {c : Int} (h : Wf p n row) (h2 : Wf p n b) {j : Nat} (hj : j < n) : ent (mixR p c row b) j = (ent row j + c * ent b j) % p := by
  have a := ent_some (r := mixR p c row b) (j := j) (by rw [mixR_len h h2]; exact hj)
  unfold mixR at a
  rw [List.getElem?_zipWith, ent_some (by rw [h.len]; exact hj), ent_some (by rw [h2.len]; exact hj)] at a
  exact (Option.some.inj a).symm
theorem mixR_wf0 (hp : 0 < p) {row b : Row} {c : Int} (h : Wf p n row) (h2 : Wf p n b) : Wf p n (mixR p c row b) := by
  refine ⟨mixR_len h h2, fun x hx => ?_⟩
  obtain ⟨j, hj, rfl⟩ := List.getElem_of_mem hx
  have hj' : j < n := by rw [mixR_len h h2] at hj; exact hj
  have e := mixR_ent (c := c) h h2 hj'
  unfold ent at e
  rw [getD_el _ _ hj] at e
  rw [e]
  exact ⟨Int.emod_nonneg _ (by omega), Int.emod_lt_of_pos _ hp⟩
def accM (p : Int) : Row → List Int → List Row → Row
  | acc, c :: cs, r :: rows => accM p (mixR p c acc r) cs rows
  | acc, _, _ => acc
theorem accM_nil (acc : Row) (cs : List Int) : accM p acc cs [] = acc := by cases cs <;> rfl
theorem accM_ok (hp : 0 < p) : ∀ {rows : List Row} {cs : List Int} {acc : Row}, (∀ r ∈ rows, Wf p n r) → Wf p n acc → Wf p n (accM p acc cs rows) ∧ ∀ j, j < n → cg p (ent (accM p acc cs rows) j) (ent acc j + dot cs rows j)
  | [], cs, acc, _, h => by
    rw [accM_nil]
    exact ⟨h, fun j _ => cg.of_eq (by rw [dot_nil]; omega)⟩
  | r :: rows, [], acc, _, h => ⟨h, fun j _ => cg.of_eq (by show _ = _ + (0 : Int); rw [Int.add_zero]; rfl)⟩
  | r :: rows, c :: cs, acc, hr, h => by
    have ih := accM_ok hp (rows := rows) (cs := cs) (fun s hs => hr s (List.mem_cons_of_mem _ hs)) (mixR_wf0 (c := c) hp h (hr r List.mem_cons_self))
    refine ⟨ih.1, fun j hj => (ih.2 j hj).trans ?_⟩
    rw [mixR_ent h (hr r List.mem_cons_self) hj]
    have := (cg.emod p (ent acc j + c * ent r j)).add (cg.refl p (dot cs rows j))
    exact this.trans (cg.of_eq (by show _ = _ + (c * ent r j + dot cs rows j); omega))
def zeros (n : Nat) : Row := List.replicate n 0
theorem zeros_wf (hp : 0 < p) : Wf p n (zeros n) := ⟨List.length_replicate, fun x hx => by
  rw [List.eq_of_mem_replicate hx]
  omega⟩
theorem zeros_ent {j : Nat} : ent (zeros n) j = 0 := by
  unfold ent zeros
  rw [List.getD_eq_getElem?_getD, List.getElem?_replicate]
  split <;> rfl
theorem accM_is (hp : 0 < p) {rows : List Row} {cs : List Int} (hr : ∀ r ∈ rows, Wf p n r) : accM p (zeros n) cs rows = mixM p cs rows n := by
  obtain ⟨w, e⟩ := accM_ok (cs := cs) hp hr (zeros_wf (n := n) hp)
  refine row_ext w (mixM_wf hp) fun j hj => ?_
  rw [mixM_ent hj]
  refine (e j hj).trans ?_
  rw [zeros_ent, Int.zero_add]
  exact (cg.emod _ _).symm
end
end My

namespace My
open PySem PySem.Spec PyProof.Rows L2
section
variable {P : Program} {w : World} {K : PySem.W.Frag} {mg : Str → Option Value} {base : Heap}
abbrev iv (m : List Int) : List V := m.map V.int

abbrev rf (rs : List Addr) : List V := rs.map V.ref

theorem same_new {H : Hp} {q : Addr} {o : HO} (h : H q = none) : Same H (upd H q o) := fun b x e => by
  rw [upd_ne (ne_of_none e h)]
  exact e

theorem same_upd {H H' : Hp} {q : Addr} {o : HO} (h : H q = none) (s : Same H H') : Same H (upd H' q o) := fun b x e => by
  rw [upd_ne (ne_of_none e h)]
  exact s b x e

theorem same_none {H H' : Hp} {q : Addr} (s : Same H H') (h : H' q = none) : H q = none := s.free h

/-- a list at its own place in the heap -/
abbrev IL (H : Hp) (a : Addr) (m : List Int) : Prop := H a = some (.lst (iv m))

theorem IL.sq {K : PySem.W.Frag} {H : Hp} {a : Addr} {m : List Int} (h : IL H a m) : SqL K H a (iv m) := SqL.of h

/-- a list of rows -/
structure Tab (H : Hp) (a : Addr) (rs : List Addr) (M : List Row) : Prop where
  at_ : H a = some (.lst (rf rs))
  len : rs.length = M.length
  row : ∀ (i : Nat) r m, rs[i]? = some r → M[i]? = some m → IL H r m

theorem Tab.same {H H' : Hp} {a : Addr} {rs : List Addr} {M : List Row} (t : Tab H a rs M) (s : Same H H') : Tab H' a rs M := ⟨s _ _ t.at_, t.len, fun i r m hr hm => s _ _ (t.row i r m hr hm)⟩

theorem iv_get {m : List Int} {i : Nat} {x : Int} (h : m[i]? = some x) : (iv m)[i]? = some (V.int x) := by
  rw [List.getElem?_map, h]
  rfl

theorem iv_ent {m : List Int} {i : Nat} (h : i < m.length) : (iv m)[i]? = some (V.int (ent m i)) := iv_get (ent_some h)

theorem rf_get {rs : List Addr} {i : Nat} {r : Addr} (h : rs[i]? = some r) : (rf rs)[i]? = some (V.ref r) := by
  rw [List.getElem?_map, h]
  rfl

theorem rf_inv {rs : List Addr} {i : Nat} {v : V} (h : (rf rs)[i]? = some v) : ∃ r, rs[i]? = some r ∧ v = .ref r := by
  rw [List.getElem?_map] at h
  cases e : rs[i]? with
  | none => rw [e] at h; cases h
  | some r => rw [e] at h; exact ⟨r, rfl, (Option.some.inj h).symm⟩

theorem iv_inv {m : List Int} {i : Nat} {v : V} (h : (iv m)[i]? = some v) : ∃ x, m[i]? = some x ∧ v = .int x := by
  rw [List.getElem?_map] at h
  cases e : m[i]? with
  | none => rw [e] at h; cases h
  | some r => rw [e] at h; exact ⟨r, rfl, (Option.some.inj h).symm⟩

theorem get_lt {α : Type} {l : List α} {i : Nat} {x : α} (h : l[i]? = some x) : i < l.length := (List.getElem?_eq_some_iff.mp h).1

theorem get_of {α : Type} {l : List α} {i : Nat} (h : i < l.length) : ∃ x, l[i]? = some x := ⟨l[i], List.getElem?_eq_getElem h⟩

/-- a list of ints that is being made at D -/
structure Mk (H : Hp) (D : Addr) (g : List Int) (i : Nat) (H' : Hp) : Prop where
  same : Same H H'
  at_ : H' D = some (.lst (iv (g.take i)))

theorem Mk.start {H : Hp} {D : Addr} {g : List Int} (h : H D = none) : Mk H D g 0 (upd H D (.lst [])) := ⟨same_new h, upd_same⟩

theorem Mk.step {H H' H2 : Hp} {D : Addr} {g : List Int} {i : Nat} {y : Int} (m : Mk H D g i H') (hD : H D = none) (s : Same H' H2) (e : g[i]? = some y) (hl : g.length ≤ 1000) :
    ∃ acc, H2 D = some (.lst acc) ∧ acc.length < sizeLine ∧ Mk H D g (i + 1) (upd H2 D (.lst (acc ++ [.int y]))) := by
  refine ⟨_, s _ _ m.at_, ?_, same_upd hD (m.same.trans s), ?_⟩
  · rw [List.length_map, List.length_take]
    exact small1000 (by omega)
  · rw [upd_same, List.take_add_one, e]
    simp

theorem Mk.done {H H' : Hp} {D : Addr} {g : List Int} {n : Nat} (m : Mk H D g n H') (h : n = g.length) : IL H' D g := by
  have := m.at_
  rw [h, List.take_length] at this
  exact this

/-- a list of rows that is being made at D: each row is new, or stands at the same place of rs -/
structure Mt (H : Hp) (D : Addr) (rs : List Addr) (G : List Row) (i : Nat) (H' : Hp) (qs : List Addr) : Prop where
  same : Same H H'
  at_ : H' D = some (.lst (rf qs))
  len : qs.length = i
  row : ∀ (j : Nat) q g, qs[j]? = some q → G[j]? = some g → IL H' q g
  src : ∀ (j : Nat) q, qs[j]? = some q → rs[j]? = some q ∨ H q = none
  nD : D ∉ qs
  nd : rs.Nodup → qs.Nodup

theorem Mt.start {H : Hp} {D : Addr} {rs : List Addr} {G : List Row} (h : H D = none) : Mt H D rs G 0 (upd H D (.lst [])) [] := ⟨same_new h, upd_same, rfl, fun j q g hq => by simp at hq, fun j q hq => by simp at hq, by simp, fun _ => List.nodup_nil⟩

theorem nodup_snoc {α : Type} {l : List α} {x : α} (h : l.Nodup) (hx : x ∉ l) : (l ++ [x]).Nodup := by
  refine List.nodup_append.mpr ⟨h, by simp, fun a ha b hb e => ?_⟩
  rw [List.mem_singleton.mp hb] at e
  exact hx (e ▸ ha)

theorem Mt.step {H H' H2 : Hp} {D : Addr} {rs : List Addr} {G : List Row} {i : Nat} {qs : List Addr} {q : Addr} {g : Row} (m : Mt H D rs G i H' qs) (hD : H D = none) (tr : ∀ r ∈ rs, ∃ o, H r = some o) (s : Same H' H2) (e : G[i]? = some g) (hq : IL H2 q g) (sr : rs[i]? = some q ∨ H' q = none) (hl : G.length ≤ 1000) :
    ∃ acc, H2 D = some (.lst acc) ∧ acc.length < sizeLine ∧ Mt H D rs G (i + 1) (upd H2 D (.lst (acc ++ [.ref q]))) (qs ++ [q]) := by
  have hi := get_lt e
  have ne : q ≠ D := by
    rcases sr with h | h
    · obtain ⟨o, ho⟩ := tr q (List.mem_of_getElem? h)
      exact ne_of_none ho hD
    · exact fun z => by
        rw [z, m.at_] at h
        cases h
  refine ⟨_, s _ _ m.at_, ?_, same_upd hD (m.same.trans s), ?_, ?_, fun j r h hr hh => ?_, fun j r hr => ?_, ?_, fun nd => ?_⟩
  · rw [List.length_map, m.len]
    exact small1000 (by omega)
  · rw [upd_same]
    simp
  · rw [List.length_append, m.len]
    rfl
  · by_cases hj : j < i
    · rw [List.getElem?_append_left (by rw [m.len]; exact hj)] at hr
      have z := m.row j r h hr hh
      have nr : r ≠ D := fun z => m.nD (z ▸ List.mem_of_getElem? hr)
      show (upd H2 D _) r = _
      rw [upd_ne nr]
      exact s _ _ z
    · have hj2 := get_lt hr
      rw [List.length_append, m.len] at hj2
      have ej : j = i := by simp at hj2; omega
      subst ej
      rw [List.getElem?_append_right (by rw [m.len]; omega), m.len, Nat.sub_self] at hr
      cases Option.some.inj hr
      rw [e] at hh
      cases hh
      show (upd H2 D _) q = _
      rw [upd_ne ne]
      exact hq
  · by_cases hj : j < i
    · rw [List.getElem?_append_left (by rw [m.len]; exact hj)] at hr
      exact m.src j r hr
    · have hj2 := get_lt hr
      rw [List.length_append, m.len] at hj2
      have ej : j = i := by simp at hj2; omega
      subst ej
      rw [List.getElem?_append_right (by rw [m.len]; omega), m.len, Nat.sub_self] at hr
      cases Option.some.inj hr
      rcases sr with h | h
      · exact .inl h
      · exact .inr (same_none m.same h)
  · intro h
    rcases List.mem_append.mp h with h | h
    · exact m.nD h
    · exact ne (List.mem_singleton.mp h).symm
  · refine nodup_snoc (m.nd nd) fun hm => ?_
    obtain ⟨j, hj⟩ := List.getElem?_of_mem hm
    have jl := get_lt hj
    rw [m.len] at jl
    rcases sr with h | h
    · rcases m.src j q hj with h2 | h2
      · have := nd_ix nd h h2
        omega
      · obtain ⟨o, ho⟩ := tr q (List.mem_of_getElem? h)
        rw [ho] at h2
        cases h2
    · obtain ⟨w, hw⟩ := get_of (l := G) (i := j) (by omega)
      have z : H' q = _ := m.row j q w hj hw
      rw [h] at z
      cases z

theorem Mt.tab {H H' : Hp} {D : Addr} {rs : List Addr} {G : List Row} {n : Nat} {qs : List Addr} (m : Mt H D rs G n H' qs) (h : n = G.length) : Tab H' D qs G := ⟨m.at_, m.len.trans h, m.row⟩

/-- a while by a word over a number that falls -/
theorem wh {c : TT} {tb : TS} {D : Ends} {σ : L2.St} {H : Hp} (Pv : Nat → L2.St → Hp → Prop) (m0 : Nat) (h0 : Pv m0 σ H)
    (hs : ∀ m σ H, Pv m σ H → c σ H fun b H1 => if b = true then ∃ N : L2.St → Hp → Prop, (∀ σ' H', N σ' H' → ∃ m', m' < m ∧ Pv m' σ' H') ∧ tb { D with nx := N, ct := N, bk := D.nx } σ H1 else D.nx σ H1) : tWhile c tb D σ H := ⟨Pv, ⟨m0, h0⟩, hs⟩

/-- a comprehension's turn without a test -/
theorem t_yes {te : TE} {σ : L2.St} {H : Hp} {Y : V → Hp → Prop} {N : Hp → Prop} (h : te σ H Y) : tYes σ H (fun b H3 => if b = true then te σ H3 Y else N H3) := iteT (B := N H) h

theorem ixL {X : Cx} (K : PySem.W.Frag) (h : X.K = K := by rfl) : IxR X (rIxL K) := h ▸ ix_list

theorem piZ {X : Cx} (K : PySem.W.Frag) {e e2 : Expr} {ta : TA} {p pos tpos : Pos} {elts : List Expr} {kk : Nat} (h : X.K = K) (hg : Gl X "zip") (hm : X.mg "zip" = none) (ha : PA X [e, e2] ta)
    (hs : starEach [e, e2] X.env = (false, eval e X.env) :: starEach [e2] X.env := by rfl) (hpl : (backTo pos (starEach [e2] X.env)).any (·.1) = false := by rfl) :
    PI X (.Tuple elts kk tpos) (.Call (.Name "zip" p) [e, e2] [] pos) (iZip K ta) := h ▸ pi_zip hg hm ha hs hpl

theorem piL {X : Cx} (K : PySem.W.Frag) {tg l : Expr} {tl : TE} (h : X.K = K) (hl : PE X l tl) : PI X tg l (iList K tl) := h ▸ pi_list hl

/-- the scope of a comprehension, and the expression that a statement hands back or stores -/
def lcScope : Expr → Scope
  | .ListComp _ _ sc _ => sc
  | _ => { kind := .function, names := [], isGenerator := false, isCoroutine := false }

def stE : Stmt → Expr
  | .Return (some e) _ => e
  | .Assign _ e _ => e
  | _ => .Name "" ⟨0, 0, 0, 0⟩

def stN (b : List Stmt) (i : Nat) : Stmt := b.getD i (.Pass ⟨0, 0, 0, 0⟩)

theorem tab_tracked {H : Hp} {a : Addr} {rs : List Addr} {M : List Row} (t : Tab H a rs M) : ∀ r ∈ rs, ∃ o, H r = some o := fun r hr => by
  obtain ⟨i, hi⟩ := List.getElem?_of_mem hr
  obtain ⟨m, hm⟩ := get_of (l := M) (i := i) (by have := get_lt hi; have := t.len; omega)
  exact ⟨_, t.row i r m hi hm⟩

/-- rests of one length -/
abbrev Wfs (p : Int) (n : Nat) (M : List Row) : Prop := ∀ m ∈ M, Wf p n m

theorem clearM_get {p : Int} {pl : Nat} {bm : Row} {M : List Row} {i : Nat} {m : Row} (h : M[i]? = some m) : (clearM p pl bm M)[i]? = some (lessR p m (ent m pl) bm) := by
  unfold clearM
  rw [List.getElem?_map, h]
  rfl

theorem lessR_get {p c x y : Int} {m bm : Row} {i : Nat} (h : m[i]? = some x) (h2 : bm[i]? = some y) : (lessR p m c bm)[i]? = some ((x - c * y) % p) := by
  unfold lessR
  rw [List.getElem?_zipWith, h, h2]

theorem clearM_len {p : Int} {pl : Nat} {b : Row} {M : List Row} : (clearM p pl b M).length = M.length := by
  unfold clearM
  rw [List.length_map]

theorem runM_len {p : Int} {inv : Int → Int} {rows : List Row} : ∀ k, (runM p inv rows k).1.length ≤ k ∧ (runM p inv rows k).2.length ≤ rows.length
  | 0 => ⟨Nat.le_refl _, Nat.le_refl _⟩
  | k + 1 => by
    have ih := runM_len (p := p) (inv := inv) (rows := rows) k
    show (stepM p inv k (runM p inv rows k)).1.length ≤ k + 1 ∧ (stepM p inv k (runM p inv rows k)).2.length ≤ rows.length
    unfold stepM
    split
    · exact ⟨by omega, ih.2⟩
    · refine ⟨?_, ?_⟩
      · show (clearM _ _ _ _ ++ [_]).length ≤ k + 1
        rw [List.length_append, clearM_len, List.length_singleton]
        omega
      · show (clearM _ _ _ _).length ≤ _
        rw [clearM_len]
        have := List.length_eraseIdx_le (runM p inv rows k).2 (by assumption)
        omega

theorem pick_is {pl j : Nat} {L : List Row} (hj : j < L.length) (h : ∀ i, i < j → ent (L.getD i []) pl = 0) (h2 : ent (L.getD j []) pl ≠ 0) : pick pl L = some j := by
  unfold pick
  refine List.findIdx?_eq_some_iff_getElem.mpr ⟨hj, ?_, fun i hi => ?_⟩
  · rw [getD_el L [] hj] at h2
    simpa using h2
  · have := h i hi
    rw [getD_el L [] (by omega)] at this
    simpa using this

theorem pick_non {pl : Nat} {L : List Row} (h : ∀ i, i < L.length → ent (L.getD i []) pl = 0) : pick pl L = none := by
  unfold pick
  refine List.findIdx?_eq_none_iff.mpr fun r hr => ?_
  obtain ⟨i, hi, rfl⟩ := List.getElem_of_mem hr
  have := h i hi
  rw [getD_el L [] hi] at this
  simpa using this

theorem getD_of {α : Type} {l : List α} {d x : α} {i : Nat} (h : l[i]? = some x) : l.getD i d = x := by
  rw [List.getD_eq_getElem?_getD, h]
  rfl

theorem rf_ne {H : Hp} {a r x : Addr} {rs : List Addr} {m : List Int} (h : H a = some (.lst (rf (x :: rs)))) (h2 : IL H r m) : r ≠ a := fun e => by
  rw [e, IL, h] at h2
  have z : rf (x :: rs) = iv m := HO.lst.inj (Option.some.inj h2)
  cases m with
  | nil => cases z
  | cons y m => exact V.noConfusion (List.cons.inj z).1

theorem Tab.upd {H : Hp} {a q : Addr} {o : HO} {rs : List Addr} {M : List Row} (t : Tab H a rs M) (h : a ≠ q) (h2 : ∀ r ∈ rs, r ≠ q) : Tab (upd H q o) a rs M :=
  ⟨by rw [upd_ne h]; exact t.at_, t.len, fun i r m hr hm => by
    show (L2.upd H q o) r = _
    rw [upd_ne (h2 r (List.mem_of_getElem? hr))]
    exact t.row i r m hr hm⟩

theorem seqIx {j n : Nat} (h : j < n) : seqIndex? (j : Int) n = some j := by
  unfold seqIndex?
  simp
  omega

theorem map_erase {α β : Type} {f : α → β} : ∀ (l : List α) (j : Nat), (l.map f).eraseIdx j = (l.eraseIdx j).map f
  | [], j => by simp
  | a :: l, 0 => rfl
  | a :: l, j + 1 => by
    show f a :: (l.map f).eraseIdx j = f a :: (l.eraseIdx j).map f
    rw [map_erase l j]

theorem Tab.erase {H : Hp} {a : Addr} {rs : List Addr} {M : List Row} {j : Nat} (t : Tab H a rs M) (hj : j < rs.length) : Tab (L2.upd H a (.lst ((rf rs).eraseIdx j))) a (rs.eraseIdx j) (M.eraseIdx j) := by
  have hne : ∀ r ∈ rs, r ≠ a := fun r hr => by
    obtain ⟨i, hi⟩ := List.getElem?_of_mem hr
    obtain ⟨m, hm⟩ := get_of (l := M) (i := i) (by have := get_lt hi; have := t.len; omega)
    have z := t.at_
    cases rs with
    | nil => simp at hr
    | cons x rs => exact rf_ne z (t.row i r m hi hm)
  refine ⟨?_, ?_, fun i r m hr hm => ?_⟩
  · rw [upd_same]
    show some (HO.lst ((rs.map V.ref).eraseIdx j)) = some (HO.lst ((rs.eraseIdx j).map V.ref))
    rw [map_erase]
  · rw [List.length_eraseIdx, List.length_eraseIdx, t.len]
  · show (L2.upd H a _) r = _
    rw [upd_ne (hne r (List.mem_of_mem_eraseIdx (List.mem_of_getElem? hr)))]
    rw [List.getElem?_eraseIdx] at hr hm
    by_cases h : i < j
    · rw [if_pos h] at hr hm
      exact t.row i r m hr hm
    · rw [if_neg h] at hr hm
      exact t.row (i + 1) r m hr hm

structure LowI (H H' : Hp) (fa la : Addr) (fs ls : List Addr) (F L : List Row) : Prop where
  same : Same H H'
  tf : Tab H' fa fs F
  tl : Tab H' la ls L
  nf : H fa = none
  nl : H la = none
  ne : fa ≠ la
  fresh : ∀ r ∈ fs, H r = none
  nd : fs.Nodup

theorem IL.ref {H : Hp} {a : Addr} {rs : List Addr} {M : List Row} (t : Tab H a rs M) {r : Addr} (h : r ∈ rs) : ∃ m, m ∈ M ∧ IL H r m := by
  obtain ⟨i, hi⟩ := List.getElem?_of_mem h
  obtain ⟨m, hm⟩ := get_of (l := M) (i := i) (by have := get_lt hi; have := t.len; omega)
  exact ⟨m, List.mem_of_getElem? hm, t.row i r m hi hm⟩

theorem step_name {i : Nat} {v : V} {σ : L2.St} {H : Hp} {Q : L2.St → Hp → Prop} (h : Q (σ.set i (some v)) H) : gName i v σ H Q := h

theorem step_seq {t u : TS} {D : Ends} {σ : L2.St} {H : Hp} (h : t { D with nx := u D } σ H) : tSeq t u D σ H := h

theorem step_asgC {v : V} {i : Nat} {D : Ends} {σ : L2.St} {H : Hp} (h : D.nx (σ.set i (some v)) H) : tAsg (tC v) (gName i) D σ H := h

/-- a rule's reading by a stronger one -/
theorem pe_imp {X : Cx} {e : Expr} {t : TE} (t' : TE) (h : PE X e t) (imp : ∀ σ H Q, t' σ H Q → t σ H Q) : PE X e t' := ⟨fun pins s σ H Q I q => h.run pins s σ H Q I (imp σ H Q q)⟩

theorem pt_imp {X : Cx} {e : Expr} {t : TT} (t' : TT) (h : PT X e t) (imp : ∀ σ H Q, t' σ H Q → t σ H Q) : PT X e t' := ⟨fun pins s σ H Q I q => h.run pins s σ H Q I (imp σ H Q q)⟩

theorem cLst {X : Cx} (K : PySem.W.Frag) (h : X.K = K) : CallR X (.type "list") (fun xs H Q => ∃ p ys, xs = [.ref p] ∧ (SqL K H p ys ∨ SqT K H p ys) ∧ ∀ l, H l = none → Q (.ref l) (L2.upd H l (.lst ys))) := h ▸ call_list_of

theorem cLen {X : Cx} (K : PySem.W.Frag) (h : X.K = K) : CallR X (.builtin "len") (fun xs H Q => ∃ p ys, xs = [.ref p] ∧ (SqL K H p ys ∨ SqT K H p ys) ∧ Q (.int ys.length) H) := h ▸ call_len_seq

/-- a drawer's bag, asked so often at most -/
def Bg (H : Hp) (a : Addr) (c : Nat) : Prop := ∃ x y : Int, H a = some (.lst [.int x, .int y]) ∧ 0 ≤ x ∧ 0 ≤ y ∧ y ≤ c ∧ (y = 0 ∨ x < 2147483647)

theorem Bg.mono {H : Hp} {a : Addr} {c d : Nat} (b : Bg H a c) (h : c ≤ d) : Bg H a d := by
  obtain ⟨x, y, h1, h2, h3, h4, h5⟩ := b
  exact ⟨x, y, h1, h2, h3, by omega, h5⟩

theorem Bg.same {H H' : Hp} {a : Addr} {c : Nat} (b : Bg H a c) (s : H' a = H a) : Bg H' a c := by
  obtain ⟨x, y, h1, h2⟩ := b
  exact ⟨x, y, s.trans h1, h2⟩

theorem Bg.ne {H : Hp} {a q : Addr} {c : Nat} (b : Bg H a c) (h : H q = none) : q ≠ a := by
  obtain ⟨x, y, h1, _⟩ := b
  exact fun e => by rw [e, h1] at h; cases h

/-- all but what stands at b is as it was -/
def Off (b : Addr) (H H' : Hp) : Prop := ∀ q o, q ≠ b → H q = some o → H' q = some o

theorem Off.refl (b : Addr) (H : Hp) : Off b H H := fun _ _ _ h => h

theorem Off.trans {b : Addr} {H H1 H2 : Hp} (x : Off b H H1) (y : Off b H1 H2) : Off b H H2 := fun q o n h => y q o n (x q o n h)

theorem Off.of {b : Addr} {H H' : Hp} (s : Same H H') : Off b H H' := fun q o _ h => s q o h

theorem Off.free {b q : Addr} {H H' : Hp} (x : Off b H H') (h : H' q = none) (n : q ≠ b) : H q = none := by
  cases e : H q with
  | none => rfl
  | some o =>
    rw [x q o n e] at h
    cases h

theorem Off.new {b q : Addr} {o : HO} {H H' : Hp} (x : Off b H H') (h : H q = none) : Off b H (upd H' q o) := fun r u n e => by
  rw [upd_ne (ne_of_none e h)]
  exact x r u n e

theorem Tab.push {H : Hp} {l q : Addr} {rs : List Addr} {M : List Row} {m : Row} (t : Tab H l rs M) (h : IL H q m) (n : q ≠ l) : Tab (L2.upd H l (.lst (rf rs ++ [.ref q]))) l (rs ++ [q]) (M ++ [m]) := by
  have hne : ∀ r ∈ rs, r ≠ l := fun r hr => by
    obtain ⟨m, _, hm⟩ := IL.ref t hr
    have z := t.at_
    cases rs with
    | nil => simp at hr
    | cons x rs => exact rf_ne z hm
  refine ⟨by rw [upd_same]; simp, by rw [List.length_append, List.length_append, t.len]; rfl, fun i r u hr hu => ?_⟩
  show (L2.upd H l _) r = _
  by_cases hi : i < rs.length
  · rw [List.getElem?_append_left hi] at hr
    rw [List.getElem?_append_left (by have := t.len; omega)] at hu
    rw [upd_ne (hne r (List.mem_of_getElem? hr))]
    exact t.row i r u hr hu
  · have h2 := get_lt hr
    rw [List.length_append, List.length_singleton] at h2
    have e : i = rs.length := by omega
    rw [List.getElem?_append_right (by omega), e, Nat.sub_self] at hr
    rw [List.getElem?_append_right (by have := t.len; omega), e, t.len, Nat.sub_self] at hu
    cases Option.some.inj hr
    cases Option.some.inj hu
    rw [upd_ne n]
    exact h

theorem Tab.off {b : Addr} {H H' : Hp} {a : Addr} {rs : List Addr} {M : List Row} (t : Tab H a rs M) (o : Off b H H') (n : a ≠ b) (n2 : ∀ r ∈ rs, r ≠ b) : Tab H' a rs M := ⟨o _ _ n t.at_, t.len, fun i r m hr hm => o _ _ (n2 r (List.mem_of_getElem? hr)) (t.row i r m hr hm)⟩

theorem mixR_get {p c x y : Int} {m bm : Row} {i : Nat} (h : m[i]? = some x) (h2 : bm[i]? = some y) : (mixR p c m bm)[i]? = some ((x + c * y) % p) := by
  unfold mixR
  rw [List.getElem?_zipWith, h, h2]

theorem mixR_wf {p c : Int} {n : Nat} {one other : Row} (hp : 0 < p) (h : Wf p n one) (h2 : Wf p n other) : Wf p n (mixR p c one other) := by
  have len : (mixR p c one other).length = n := by
    unfold mixR
    rw [List.length_zipWith, h.len, h2.len, Nat.min_self]
  refine ⟨len, fun x hx => ?_⟩
  obtain ⟨j, hj⟩ := List.getElem?_of_mem hx
  obtain ⟨a, ha⟩ := get_of (l := one) (i := j) (by have := get_lt hj; have := h.len; omega)
  obtain ⟨b, hb⟩ := get_of (l := other) (i := j) (by have := get_lt hj; have := h2.len; omega)
  rw [mixR_get ha hb] at hj
  rw [← Option.some.inj hj]
  exact ⟨Int.emod_nonneg _ (by omega), Int.emod_lt_of_pos _ hp⟩

theorem upd_upd {H : Hp} {a : Addr} {o u : HO} : upd (upd H a o) a u = upd H a u := by
  funext q
  by_cases h : q = a
  · rw [h, upd_same, upd_same]
  · rw [upd_ne h, upd_ne h, upd_ne h]

structure RowI (p : Int) (n : Nat) (b : Addr) (c : Nat) (H : Hp) (l : Addr) (rs : List Addr) (M : List Row) (H' : Hp) : Prop where
  off : Off b H H'
  tab : Tab H' l rs M
  wf : Wfs p n M
  fresh : ∀ r ∈ rs, H r = none
  bag : Bg H' b c

theorem runM_stop {p : Int} {inv : Int → Int} {rows : List Row} {k : Nat} (h : (runM p inv rows k).2 = []) : ∀ d, runM p inv rows (k + d) = runM p inv rows k
  | 0 => rfl
  | d + 1 => by
    show stepM p inv (k + d) (runM p inv rows (k + d)) = _
    rw [runM_stop h d]
    unfold stepM
    rw [h]
    rfl

def nzs (pl : Nat) (L : List Row) (i : Nat) : List Nat := (List.range i).filter fun k => decide (ent (L.getD k []) pl ≠ 0)

theorem nzs_succ {pl i : Nat} {L : List Row} : nzs pl L (i + 1) = nzs pl L i ++ (if ent (L.getD i []) pl ≠ 0 then [i] else []) := by
  unfold nzs
  rw [List.range_succ, List.filter_append]
  congr 1
  by_cases h : ent (L.getD i []) pl ≠ 0
  · rw [if_pos h, List.filter_cons_of_pos (by simpa using h)]
    rfl
  · rw [if_neg h, List.filter_cons_of_neg (by simpa using h)]
    rfl

theorem nzs_len {pl i : Nat} {L : List Row} : (nzs pl L i).length ≤ i := by
  have := List.length_filter_le (fun k => decide (ent (L.getD k []) pl ≠ 0)) (List.range i)
  rw [List.length_range] at this
  exact this

theorem pick_nil {pl : Nat} {L : List Row} (h : nzs pl L L.length = []) : pick pl L = none := pick_non fun i hi => by
  have := (List.filter_eq_nil_iff.mp h) i (List.mem_range.mpr hi)
  simpa using this

theorem pick_cons {pl j : Nat} {t : List Nat} {L : List Row} (h : nzs pl L L.length = j :: t) : j < L.length ∧ ent (L.getD j []) pl ≠ 0 ∧ pick pl L = some j := by
  have mj : j ∈ nzs pl L L.length := by rw [h]; exact List.mem_cons_self
  have mj2 := List.mem_filter.mp mj
  have hj := List.mem_range.mp mj2.1
  have nj : ent (L.getD j []) pl ≠ 0 := by simpa using mj2.2
  refine ⟨hj, nj, pick_is hj (fun i hi => ?_) nj⟩
  refine Classical.byContradiction fun c => ?_
  have mi : i ∈ nzs pl L L.length := List.mem_filter.mpr ⟨List.mem_range.mpr (by omega), by simpa using c⟩
  have pw : (nzs pl L L.length).Pairwise (· < ·) := List.Pairwise.filter _ List.pairwise_lt_range
  rw [h] at mi pw
  rcases List.mem_cons.mp mi with e | e
  · omega
  · have := (List.pairwise_cons.mp pw).1 i e
    omega

structure FormI (H H' : Hp) (fa la : Addr) (fs ls : List Addr) (F L : List Row) : Prop where
  same : Same H H'
  tf : Tab H' fa fs F
  tl : Tab H' la ls L
  nf : H fa = none
  nl : H la = none
  ne : fa ≠ la
  fresh : ∀ r ∈ fs, H r = none

def dRow (m : Row) : PyData := .list (m.map PyData.int)

def dTab (M : List Row) : PyData := .list (M.map dRow)

theorem dInts_lay : ∀ m : List Int, PyData.canLayAll0 (m.map PyData.int) = true
  | [] => rfl
  | x :: m => by
    show (PyData.canLay0 (.int x) && PyData.canLayAll0 (m.map PyData.int)) = true
    rw [dInts_lay m]
    rfl

theorem dInts_depth : ∀ m : List Int, PyData.depthAll (m.map PyData.int) = 0
  | [] => rfl
  | x :: m => by
    show max (PyData.depth (.int x)) (PyData.depthAll (m.map PyData.int)) = 0
    rw [dInts_depth m]
    rfl

theorem dRow_lay (m : Row) : (dRow m).canLay0 = true := dInts_lay m

theorem dRows_lay : ∀ M : List Row, PyData.canLayAll0 (M.map dRow) = true
  | [] => rfl
  | m :: M => by
    show (PyData.canLay0 (dRow m) && PyData.canLayAll0 (M.map dRow)) = true
    rw [dRows_lay M, dRow_lay m]
    rfl

theorem dRow_depth (m : Row) : (dRow m).depth = 1 := by
  show PyData.depthAll (m.map PyData.int) + 1 = 1
  rw [dInts_depth]

theorem dRows_depth : ∀ M : List Row, PyData.depthAll (M.map dRow) ≤ 1
  | [] => Nat.zero_le _
  | m :: M => by
    show max (PyData.depth (dRow m)) (PyData.depthAll (M.map dRow)) ≤ 1
    have := dRows_depth M
    have := dRow_depth m
    omega

theorem dRow_shaped (m : Row) : SeqAt.shaped (dRow m) = true := by
  show ((dRow m).canLay0 && decide ((dRow m).depth ≤ 64)) = true
  rw [dRow_lay, dRow_depth]
  rfl

theorem dTab_shaped (M : List Row) : SeqAt.shaped (dTab M) = true := by
  have h : (dTab M).depth ≤ 64 := by
    show PyData.depthAll (M.map dRow) + 1 ≤ 64
    have := dRows_depth M
    omega
  show ((dTab M).canLay0 && decide ((dTab M).depth ≤ 64)) = true
  rw [decide_eq_true h, show (dTab M).canLay0 = true from dRows_lay M]
  rfl

theorem dTab_eq (M : List Row) : PyData.eqv (dTab M) (dTab M) = true := SeqAt.eqv_refl _ (dRows_lay M)

theorem dRow_eq (m : Row) : PyData.eqv (dRow m) (dRow m) = true := SeqAt.eqv_refl _ (dRow_lay m)

theorem dpInts {K : PySem.W.Frag} {H : Hp} : ∀ m : List Int, DpAll K H (iv m) (m.map PyData.int)
  | [] => .nil
  | x :: m => .cons (.int x) (dpInts m)

theorem IL.dp {K : PySem.W.Frag} {H : Hp} {a : Addr} {m : Row} (h : IL H a m) : Dp K H (.ref a) (dRow m) := .lst (IL.sq h) (dpInts m)

theorem dpRows {K : PySem.W.Frag} {H : Hp} : ∀ (rs : List Addr) (M : List Row), rs.length = M.length → (∀ (i : Nat) r m, rs[i]? = some r → M[i]? = some m → IL H r m) → DpAll K H (rf rs) (M.map dRow)
  | [], [], _, _ => .nil
  | [], _ :: _, h, _ => by simp at h
  | _ :: _, [], h, _ => by simp at h
  | r :: rs, m :: M, h, hr => .cons (IL.dp (hr 0 r m rfl rfl)) (dpRows rs M (by simpa using h) fun i x y hx hy => hr (i + 1) x y hx hy)

theorem Tab.dp {K : PySem.W.Frag} {H : Hp} {a : Addr} {rs : List Addr} {M : List Row} (t : Tab H a rs M) : Dp K H (.ref a) (dTab M) := .lst (SqL.of t.at_) (dpRows rs M t.len t.row)

theorem Tab.rev {H : Hp} {a q : Addr} {rs : List Addr} {M : List Row} (t : Tab H a rs M) (h : H q = some (.lst (rf rs).reverse)) : Tab H q rs.reverse M.reverse := by
  refine ⟨by rw [h]; simp, by rw [List.length_reverse, List.length_reverse, t.len], fun i r m hr hm => ?_⟩
  have i1 := get_lt hr
  rw [List.length_reverse] at i1
  rw [List.getElem?_reverse i1] at hr
  rw [List.getElem?_reverse (by have := t.len; omega)] at hm
  rw [t.len] at hr
  exact t.row _ r m hr hm

/-- all but what stands at these places is as it was -/
def OffS (S : List Addr) (H H' : Hp) : Prop := ∀ b o, b ∉ S → H b = some o → H' b = some o

theorem Tab.offS {S : List Addr} {H H' : Hp} {a : Addr} {rs : List Addr} {M : List Row} (t : Tab H a rs M) (o : OffS S H H') (h : a ∉ S) (h2 : ∀ r ∈ rs, r ∉ S) : Tab H' a rs M :=
  ⟨o _ _ h t.at_, t.len, fun i r m hr hm => o _ _ (h2 r (List.mem_of_getElem? hr)) (t.row i r m hr hm)⟩

theorem cIsi {X : Cx} (K : PySem.W.Frag) (h : X.K = K) : CallR X (.builtin "isinstance") (rIsi K) := h ▸ call_isi

theorem cAll {X : Cx} (K : PySem.W.Frag) (h : X.K = K) (hc : X.calm = true) : CallR X (.builtin "all") (rAll K) := h ▸ cr_all hc

theorem Tab.fresh_off {H : Hp} {a b : Addr} {rs qs : List Addr} {M : List Row} (t : Tab H a rs M) (h : H b = none) (h2 : ∀ q ∈ qs, H q = none) : a ∉ b :: qs ∧ ∀ r ∈ rs, r ∉ b :: qs := by
  have key : ∀ r o, H r = some o → r ∉ b :: qs := fun r o e m => by
    rcases List.mem_cons.mp m with z | z
    · rw [z, h] at e
      cases e
    · rw [h2 r z] at e
      cases e
  refine ⟨key a _ t.at_, fun r hr => ?_⟩
  obtain ⟨m, _, hm⟩ := IL.ref t hr
  exact key r _ hm
end

section
variable {P : Program} {w : World} {K : PySem.W.Frag} {mg : Str → Option Value} {base : Heap}
theorem cSum {X : Cx} (K : PySem.W.Frag) (h : X.K = K) (hc : X.calm = true) : CallR X (.builtin "sum") (rSum K) := h ▸ cr_sum hc
theorem plain_ints : ∀ m : List Int, PyData.plainAll (m.map PyData.int) = true
  | [] => rfl
  | x :: m => by
    show (PyData.plain (.int x) && PyData.plainAll (m.map PyData.int)) = true
    rw [plain_ints m]
    rfl
/-- any(list of ints) -/
theorem cAnyI {X : Cx} (hc : X.calm = true) : CallR X (.builtin "any") (fun xs H Q => ∃ (a : Addr) (m : List Int), xs = [.ref a] ∧ IL H a m ∧ Q (.bl (m.any fun x => x != 0)) H) := by
  intro pins s σ H vs us Q I r h
  obtain ⟨a, m, rfl, hm, q⟩ := h
  obtain ⟨its, rv, hl, _⟩ := I.list (IL.sq (K := X.K) hm)
  obtain ⟨as, hr⟩ := Dp.readsAll I _ _ its (dpInts m) rv
  rw [Vals.ref1 r]
  refine PySem.W.any_list_data (I.ok.hd hc) hl.isList (by simpa using hr) (plain_ints m) (fun x hx => ?_) fun h' tk hk => ⟨.bl _, H, I.kept fun b o eo => hk b o eo, ?_, q⟩
  · obtain ⟨y, _, rfl⟩ := List.mem_map.mp hx
    trivial
  · show Value.bool _ = Value.bool _
    rw [List.any_map]
    rfl
theorem eqvAll_ints : ∀ a b : List Int, PyData.eqvAll (a.map PyData.int) (b.map PyData.int) = decide (a = b)
  | [], [] => rfl
  | [], y :: b => by
    rw [decide_eq_false (by simp)]
    rfl
  | x :: a, [] => by
    rw [decide_eq_false (by simp)]
    rfl
  | x :: a, y :: b => by
    show (PyData.eqv (.int x) (.int y) && PyData.eqvAll (a.map PyData.int) (b.map PyData.int)) = _
    rw [eqvAll_ints a b, show PyData.eqv (.int x) (.int y) = decide (x = y) from by simp [PyData.eqv]; rfl]
    by_cases h : x = y
    · by_cases h2 : a = b
      · simp [h, h2]
      · simp [h, h2]
    · simp [h]
theorem dRow_eqv (a b : Row) : PyData.eqv (dRow a) (dRow b) = decide (a = b) := by
  show PyData.eqv (.list _) (.list _) = _
  rw [PyData.eqv]
  exact eqvAll_ints a b
theorem rep_zeros (n : Nat) : (List.replicate (n : Int).toNat [V.int 0]).flatten = iv (zeros n) := by
  rw [Int.toNat_natCast]
  unfold zeros
  induction n with
  | zero => rfl
  | succ n ih =>
    rw [List.replicate_succ, List.flatten_cons, ih, List.replicate_succ]
    rfl
theorem low_ne {p : Int} {n : Nat} {F : List Row} {ls : List Nat} (L : Low p n F ls) {i : Nat} {r : Row} (h : F[i]? = some r) : ∃ l, ls[i]? = some l ∧ l < n ∧ (∀ j, j < l → ent r j = 0) ∧ ent r l = 1 := by
  obtain ⟨l, hl⟩ := get_of (l := ls) (i := i) (by have := get_lt h; have := L.dl.1; omega)
  refine ⟨l, hl, L.lt l (List.mem_of_getElem? hl), L.zb i r l h hl, ?_⟩
  rw [L.dl.2 i i r l h hl, if_pos rfl]
end

def topS (i : Nat) : Stmt := PySem.Challenge.pw_stillspans_k03_has_and_shares.main.body.getD i (.Pass ⟨0, 0, 0, 0⟩)
/-! ### _law_cell -/
section
variable {P : Program} {w : World} {K : PySem.W.Frag} {mg : Str → Option Value} {base : Heap}
abbrev sCell : Stmt := topS 7

theorem scCell : FnScope ["_law_script", "_law_k", "_law_seed"] ["_law_script", "_law_k"] (defScope sCell) := ⟨rfl, rfl, rfl, by decide +kernel, rfl, by decide +kernel, by decide +kernel⟩

def spCell (K : PySem.W.Frag) : Sp := fun vs H Q _ => ∃ (a : Addr) (ns : List Int) (k : Nat), vs = [.ref a, .int (k : Int)] ∧ SqL K H a (iv ns) ∧ k ≤ 1000 ∧ ∀ c : Int, Q (.int c) H

theorem ok_cell {f : Addr} {fd : FuncData} {k : Nat} (F : Fun K "_law_cell" "_law_cell" sCell f fd) (ml : mg "len" = none) : FnOk P w K mg base CX0 (k + 1) f fd ["_law_script", "_law_k"] (spCell K) := by
  refine F.ok scCell (fun vs H Q E h => ?_) (fun cdv A outer s H vs Q E hr h => ?_)
  · obtain ⟨a, ns, k, rfl, _⟩ := h
    rfl
  · obtain ⟨a, ns, k, rfl, hS, hk, q⟩ := h
    refine ⟨_, pss_cons (ps_if (pt_cmpR op_lt (pv 1) (pe_callB call_len_seq (by rfl) ml PySem.boot_len (pa_cons (pv 0) pa_nil)) (nomark _)) (pss_one (ps_ret (pe_ix ix_list (pv 0) (pv 1) (fun _ _ => rfl)))) pss_nil)
      (pss_cons (ps_set (i := 2) scCell.nd rfl (.inl rfl) (pe_op op_add (pe_op op_mul pe_int (pv 1)) pe_int))
      (C8.pss_cut (ps_if (pt_cmpR op_gt (pe_callB call_len_seq (by rfl) ml PySem.boot_len (pa_cons (pv 0) pa_nil)) pe_int (nomark _))
        (pss_one (ps_set (i := 2) scCell.nd rfl (.inl rfl) (pe_op op_add (pv 2) (pe_op op_mod (pe_ix ix_list (pv 0) (pe_op op_mod (pv 1) (pe_callB call_len_seq (by rfl) ml PySem.boot_len (pa_cons (pv 0) pa_nil))) (fun _ _ => rfl)) pe_int)))) pss_nil)
      (pss_one (ps_ret (pe_op op_mod (pe_op op_mul (pe_op op_mod (pe_op op_mul (pv 2) pe_int) pe_int) (pe_op op_add (pv 1) pe_int)) pe_int))))), ?_⟩
    have hl : (iv ns).length = ns.length := List.length_map _
    refine ⟨_, rfl, _, rfl, a, _, rfl, .inl hS, _, _, rfl, rfl, _, rfl, ?_⟩
    rw [hl]
    refine ite2 (fun c => ?_) (fun c => ?_)
    · have c' := of_decide_eq_true c
      exact ⟨_, rfl, _, rfl, a, _, _, _, rfl, rfl, hS, atI_nat (iv_ent (by omega)), q _⟩
    · refine ⟨_, rfl, _, _, rfl, rfl, .inl ⟨by omega, by omega⟩, _, _, rfl, rfl, ?_⟩
      refine ⟨fun σ' H' => ∃ sd : Int, σ' = [some (.ref a), some (.int (k : Int)), some (.int sd)] ∧ H' = H ∧ 0 ≤ sd ∧ sd < 100000000, ?_, fun σ' H' hW => ?_⟩
      · refine ⟨_, rfl, a, _, rfl, .inl hS, _, _, rfl, rfl, _, rfl, ?_⟩
        rw [hl]
        refine ite2 (fun c => ?_) (fun c => ?_)
        · have c' := of_decide_eq_true c
          have b1 := Int.emod_nonneg (k : Int) (show (ns.length : Int) ≠ 0 by omega)
          have b2 := Int.emod_lt_of_pos (k : Int) (show (0 : Int) < ns.length by omega)
          obtain ⟨j, hj⟩ := Int.eq_ofNat_of_zero_le b1
          have hjl : j < ns.length := by omega
          refine ⟨_, rfl, _, rfl, _, rfl, _, rfl, a, _, rfl, .inl hS, _, _, rfl, rfl, (by show (0 : Int) < ((iv ns).length : Int); rw [hl]; omega), a, _, _, _, rfl, rfl, hS, at_of (j := j) (by rw [← hj, hl]) (iv_ent hjl), _, _, rfl, rfl, (by show (0 : Int) < 65519; decide), _, _, rfl, rfl, ?_⟩
          have b3 := Int.emod_nonneg (ent ns j) (show (65519 : Int) ≠ 0 by decide)
          have b4 := Int.emod_lt_of_pos (ent ns j) (show (0 : Int) < 65519 by decide)
          exact ⟨_, rfl, rfl, by omega, by omega⟩
        · exact ⟨_, rfl, rfl, by omega, by omega⟩
      · obtain ⟨sd, rfl, rfl, h0, h1⟩ := hW
        refine ⟨_, rfl, _, _, rfl, rfl, .inl ⟨by omega, by omega⟩, _, _, rfl, rfl, (by show (0 : Int) < 65537; decide), _, rfl, _, _, rfl, rfl, _, _, rfl, rfl, .inr ⟨by omega, by omega⟩, _, _, rfl, rfl, (by show (0 : Int) < 65521; decide), q _⟩
end

/-! ### _law_bag -/
section
variable {P : Program} {w : World} {K : PySem.W.Frag} {mg : Str → Option Value} {base : Heap}
abbrev sBag : Stmt := topS 8

theorem scBag : FnScope ["_law_script", "_law_at", "_law_cell_here"] ["_law_script", "_law_at"] (defScope sBag) := ⟨rfl, rfl, rfl, by decide +kernel, rfl, by decide +kernel, by decide +kernel⟩

def spBag (K : PySem.W.Frag) : Sp := fun vs H Q _ => ∃ (a : Addr) (ns : List Int) (k : Nat), vs = [.ref a, .int (k : Int)] ∧ SqL K H a (iv ns) ∧ k ≤ 1000 ∧ ∀ q H', H q = none → Same H H' → Bg H' q 1001 → Q (.ref q) H'

theorem ok_bag {f fC : Addr} {fd fdC : FuncData} {k : Nat} (F : Fun K "_law_bag" "_law_bag" sBag f fd)
    (GC : FnOk P w K mg base CX0 (k + 1) fC fdC ["_law_script", "_law_k"] (spCell K)) (bC : Binds K fdC ["_law_script", "_law_k"] []) (kC : PySem.W.keepIn K (.ref fC) = true) (mC : mg "_law_cell" = some (.ref fC)) (ma : mg "abs" = none) :
    FnOk P w K mg base CX0 (k + 2) f fd ["_law_script", "_law_at"] (spBag K) := by
  refine F.ok scBag (fun vs H Q E h => ?_) (fun cdv A outer s H vs Q E hr h => ?_)
  · obtain ⟨a, ns, k, rfl, _⟩ := h
    rfl
  · obtain ⟨a, ns, k, rfl, hS, hk, q⟩ := h
    refine ⟨_, pss_cons (ps_set (i := 2) scBag.nd rfl (.inl rfl) (pe_call GC hr (by rfl) mC kC bC .nil pass0 (pa_cons (pv 0) (pa_cons (pv 1) pa_nil))))
      (pss_cons (ps_if (pt_cmpR op_ge (pe_callB call_abs (by rfl) ma (by decide +kernel) (pa_cons (pv 2) pa_nil)) (pe_op op_pow pe_int pe_int) (nomark _))
        (pss_one (ps_ret (pe_lst (pa_cons (pe_callB call_abs (by rfl) ma (by decide +kernel) (pa_cons (pv 2) pa_nil)) (pa_cons pe_int pa_nil))))) pss_nil)
      (pss_one (ps_ret (pe_lst (pa_cons (pe_op op_mod (pv 2) pe_int) (pa_cons (pe_op op_add (pv 1) pe_int) pa_nil)))))), ?_⟩
    refine ⟨_, rfl, _, rfl, ⟨a, ns, k, rfl, hS, hk, fun c => ?_⟩⟩
    refine ⟨_, rfl, _, rfl, _, _, rfl, rfl, ⟨by decide, by decide, by decide⟩, _, _, rfl, rfl, _, rfl, ?_⟩
    refine ite2 (fun _ => ?_) (fun _ => ?_)
    · refine ⟨_, rfl, _, rfl, (by show 2 ≤ sizeLine; decide), fun l nl => q l _ nl (same_new nl) ⟨_, 0, upd_same, ?_, by omega, by omega, .inl rfl⟩⟩
      split <;> omega
    · refine ⟨_, rfl, _, _, rfl, rfl, (by show (0 : Int) < 2147483647; decide), _, rfl, _, _, rfl, rfl, (by show 2 ≤ sizeLine; decide), fun l nl => q l _ nl (same_new nl) ⟨_, _, upd_same, Int.emod_nonneg _ (by decide), by omega, by omega, .inr (Int.emod_lt_of_pos _ (by decide))⟩⟩
end

/-! ### _law_take -/
section
variable {P : Program} {w : World} {K : PySem.W.Frag} {mg : Str → Option Value} {base : Heap}
abbrev sTake : Stmt := topS 9

theorem scTake : FnScope ["_law_bag_here", "_law_many", "_law_digit"] ["_law_bag_here", "_law_many"] (defScope sTake) := ⟨rfl, rfl, rfl, by decide +kernel, rfl, by decide +kernel, by decide +kernel⟩

def spTake : Sp := fun vs H Q _ => ∃ (b : Addr) (m : Int) (c : Nat), vs = [.ref b, .int m] ∧ 0 < m ∧ m < 1073741824 ∧ Bg H b c ∧ c < 2 ^ 40 ∧ ∀ (d : Int) H', 0 ≤ d → d < m → Off b H H' → (∀ q, q ≠ b → H' q = H q) → Bg H' b (c + 1) → Q (.int d) H'

theorem ok_take {f : Addr} {fd : FuncData} {k : Nat} (F : Fun K "_law_take" "_law_take" sTake f fd) : FnOk P w K mg base CX0 (k + 1) f fd ["_law_bag_here", "_law_many"] spTake := by
  refine F.ok scTake (fun vs H Q E h => ?_) (fun cdv A outer s H vs Q E hr h => ?_)
  · obtain ⟨a, m, c, rfl, _⟩ := h
    rfl
  · obtain ⟨b, m, c, rfl, h0, h1, ⟨x, y, hb, hx, hy, hyc, hxy⟩, hc, q⟩ := h
    refine ⟨_, pss_cons (ps_if (pt_cmpR op_eq (pe_ix ix_list (pv 0) pe_int (fun _ _ => rfl)) pe_int (nomark _))
        (pss_cons (ps_set (i := 2) scTake.nd rfl (.inl rfl) (pe_op op_mod (pe_ix ix_list (pv 0) pe_int (fun _ _ => rfl)) (pv 1)))
        (pss_cons (ps_asg (pe_op op_fdiv (pe_ix ix_list (pv 0) pe_int (fun _ _ => rfl)) (pv 1)) (pg_sub (pv 0) pe_int set_list (fun _ => rfl)))
        (pss_one (ps_ret (pv 2))))) pss_nil)
      (pss_cons (ps_asg (pe_op op_mod (pe_op op_add (pe_op op_add (pe_op op_mul (pe_ix ix_list (pv 0) pe_int (fun _ _ => rfl)) pe_int) (pe_op op_mul (pe_op op_mul pe_int (pe_ix ix_list (pv 0) pe_int (fun _ _ => rfl))) (pe_ix ix_list (pv 0) pe_int (fun _ _ => rfl)))) pe_int) pe_int) (pg_sub (pv 0) pe_int set_list (fun _ => rfl)))
      (pss_cons (ps_asg (pe_op op_add (pe_ix ix_list (pv 0) pe_int (fun _ _ => rfl)) pe_int) (pg_sub (pv 0) pe_int set_list (fun _ => rfl)))
      (pss_one (ps_ret (pe_op op_mod (pe_op op_fdiv (pe_op op_mod (pe_op op_mul (pe_ix ix_list (pv 0) pe_int (fun _ _ => rfl)) pe_int) pe_int) pe_int) (pv 1)))))), ?_⟩
    refine ⟨_, rfl, b, _, _, _, rfl, rfl, SqL.of hb, atI_nat (j := 1) rfl, rfl, _, rfl, ite2 (fun e => ?_) (fun e => ?_)⟩
    · refine ⟨_, rfl, b, _, _, _, rfl, rfl, SqL.of hb, atI_nat (j := 0) rfl, _, rfl, _, _, rfl, rfl, h0, ?_⟩
      refine ⟨_, rfl, b, _, _, _, rfl, rfl, SqL.of hb, atI_nat (j := 0) rfl, _, rfl, _, _, rfl, rfl, ⟨h0, h1⟩, _, rfl, b, _, _, 0, rfl, rfl, hb, rfl, ?_⟩
      have ey : y = 0 := V.int.inj (of_decide_eq_true e)
      refine ⟨_, rfl, q _ _ (Int.emod_nonneg _ (by omega)) (Int.emod_lt_of_pos _ h0) (fun r o n h => by rw [upd_ne n]; exact h) (fun r n => upd_ne n) ⟨_, y, upd_same, Int.ediv_nonneg hx (by omega), hy, by omega, .inl ey⟩⟩
    · have ny : y ≠ 0 := fun z => e (decide_eq_true (congrArg V.int z))
      have hx2 : x < 2147483647 := hxy.resolve_left ny
      refine ⟨_, rfl, b, _, _, _, rfl, rfl, SqL.of hb, atI_nat (j := 0) rfl, _, _, rfl, rfl, .inl ⟨by omega, by omega⟩, _, rfl, b, _, _, _, rfl, rfl, SqL.of hb, atI_nat (j := 1) rfl, _, _, rfl, rfl, .inl ⟨by omega, by omega⟩, _, rfl, b, _, _, _, rfl, rfl, SqL.of hb, atI_nat (j := 1) rfl, _, _, rfl, rfl, .inr ⟨by omega, by omega⟩, _, _, rfl, rfl, _, _, rfl, rfl, _, _, rfl, rfl, (by show (0 : Int) < 2147483647; decide), _, rfl, b, _, _, 0, rfl, rfl, hb, rfl, ?_⟩
      have m0 : ∀ z : Int, 0 ≤ z % 2147483647 := fun z => Int.emod_nonneg _ (by decide)
      have m1 : ∀ z : Int, z % 2147483647 < 2147483647 := fun z => Int.emod_lt_of_pos _ (by decide)
      dsimp only
      generalize hz : (x * 48271 + 7919 * y * y + 17) % 2147483647 = z at *
      have z0 : 0 ≤ z := hz ▸ m0 _
      have z1 : z < 2147483647 := hz ▸ m1 _
      have hb2 : (upd H b (.lst ([V.int x, V.int y].set 0 (.int z)))) b = some (.lst [.int z, .int y]) := upd_same
      refine ⟨_, rfl, b, _, _, _, rfl, rfl, SqL.of hb2, atI_nat (j := 1) rfl, _, _, rfl, rfl, _, rfl, b, _, _, 1, rfl, rfl, hb2, rfl, ?_⟩
      refine ⟨_, rfl, b, [.int z, .int (y + 1)], _, _, rfl, rfl, SqL.of upd_same, atI_nat (j := 0) rfl, _, _, rfl, rfl, .inl ⟨by omega, by omega⟩, _, _, rfl, rfl, (by show (0 : Int) < 2147483629; decide), _, _, rfl, rfl, ⟨by decide, by decide⟩, _, rfl, _, _, rfl, rfl, h0, ?_⟩
      exact q _ _ (Int.emod_nonneg _ (by omega)) (Int.emod_lt_of_pos _ h0) (fun r o n h => by rw [upd_ne n, upd_ne n]; exact h) (fun r n => by rw [upd_ne n, upd_ne n]) ⟨z, y + 1, upd_same, z0, by omega, by omega, .inr z1⟩
end

/-! ### _law_prime -/
section
variable {P : Program} {w : World} {K : PySem.W.Frag} {mg : Str → Option Value} {base : Heap}
abbrev sPrime : Stmt := topS 10

theorem scPrime : FnScope ["_law_bag_here"] ["_law_bag_here"] (defScope sPrime) := ⟨rfl, rfl, rfl, by decide +kernel, rfl, by decide +kernel, by decide +kernel⟩

def spPrime : Sp := fun vs H Q _ => ∃ (b : Addr) (c : Nat), vs = [.ref b] ∧ Bg H b c ∧ c < 2 ^ 40 ∧ ∀ p H', P5 p → Off b H H' → Bg H' b (c + 1) → Q (.int p) H'

theorem ok_prime {f fT : Addr} {fd fdT : FuncData} {k : Nat} (F : Fun K "_law_prime" "_law_prime" sPrime f fd)
    (GT : FnOk P w K mg base CX0 (k + 1) fT fdT ["_law_bag_here", "_law_many"] spTake) (bT : Binds K fdT ["_law_bag_here", "_law_many"] []) (kT : PySem.W.keepIn K (.ref fT) = true) (mT : mg "_law_take" = some (.ref fT)) :
    FnOk P w K mg base CX0 (k + 2) f fd ["_law_bag_here"] spPrime := by
  refine F.ok scPrime (fun vs H Q E h => ?_) (fun cdv A outer s H vs Q E hr h => ?_)
  · obtain ⟨a, c, rfl, _⟩ := h
    rfl
  · obtain ⟨b, c, rfl, hb, hc, q⟩ := h
    refine ⟨_, pss_one (ps_ret (pe_ix ix_list (pe_lst (pa_cons pe_int (pa_cons pe_int (pa_cons pe_int (pa_cons pe_int (pa_cons pe_int pa_nil)))))) (pe_call GT hr (by rfl) mT kT bT .nil pass0 (pa_cons (pv 0) (pa_cons pe_int pa_nil))) (fun _ _ => rfl))), ?_⟩
    refine ⟨(by show 5 ≤ sizeLine; decide), fun l nl => ?_⟩
    have nb := hb.ne nl
    refine ⟨_, rfl, ⟨b, 5, c, rfl, by decide, by decide, hb.same (upd_ne nb.symm), hc, fun d H' d0 d5 off hq hb' => ?_⟩⟩
    have hl : H' l = some (.lst [.int 2, .int 3, .int 5, .int 7, .int 11]) := off _ _ nb upd_same
    have off2 : Off b H H' := fun r o n e => off r o n (by rw [upd_ne (ne_of_none e nl)]; exact e)
    have cs : d = 0 ∨ d = 1 ∨ d = 2 ∨ d = 3 ∨ d = 4 := by omega
    rcases cs with rfl | rfl | rfl | rfl | rfl
    · exact ⟨l, _, _, _, rfl, rfl, SqL.of hl, atI_nat (j := 0) rfl, q _ _ (.inl rfl) off2 hb'⟩
    · exact ⟨l, _, _, _, rfl, rfl, SqL.of hl, atI_nat (j := 1) rfl, q _ _ (.inr (.inl rfl)) off2 hb'⟩
    · exact ⟨l, _, _, _, rfl, rfl, SqL.of hl, atI_nat (j := 2) rfl, q _ _ (.inr (.inr (.inl rfl))) off2 hb'⟩
    · exact ⟨l, _, _, _, rfl, rfl, SqL.of hl, atI_nat (j := 3) rfl, q _ _ (.inr (.inr (.inr (.inl rfl)))) off2 hb'⟩
    · exact ⟨l, _, _, _, rfl, rfl, SqL.of hl, atI_nat (j := 4) rfl, q _ _ (.inr (.inr (.inr (.inr rfl)))) off2 hb'⟩
end

/-! ### _law_sparse -/
section
variable {P : Program} {w : World} {K : PySem.W.Frag} {mg : Str → Option Value} {base : Heap}
abbrev sSparse : Stmt := topS 11

theorem scSparse : FnScope ["_law_p", "_law_length", "_law_bag_here", "_law_row", "_law_some", "_law_k", "_law_number"] ["_law_p", "_law_length", "_law_bag_here"] (defScope sSparse) := ⟨rfl, rfl, rfl, by decide +kernel, rfl, by decide +kernel, by decide +kernel⟩

def spSparse : Sp := fun vs H Q _ => ∃ (p : Int) (n : Nat) (b : Addr) (c : Nat), vs = [.int p, .int (n : Int), .ref b] ∧ 0 < p ∧ p ≤ 11 ∧ n ≤ 100 ∧ Bg H b c ∧ c < 2 ^ 30 ∧ ∀ q row H', Wf p n row → Off b H H' → H q = none → IL H' q row → Bg H' b (c + 1 + 2 * n) → Q (.ref q) H'

theorem ok_sparse {f fT : Addr} {fd fdT : FuncData} {k : Nat} (F : Fun K "_law_sparse" "_law_sparse" sSparse f fd)
    (GT : FnOk P w K mg base CX0 (k + 1) fT fdT ["_law_bag_here", "_law_many"] spTake) (bT : Binds K fdT ["_law_bag_here", "_law_many"] []) (kT : PySem.W.keepIn K (.ref fT) = true) (mT : mg "_law_take" = some (.ref fT))
    (mr : mg "range" = none) (mi : mg "int" = none) : FnOk P w K mg base CX0 (k + 2) f fd ["_law_p", "_law_length", "_law_bag_here"] spSparse := by
  refine F.ok scSparse (fun vs H Q E h => ?_) (fun cdv A outer s H vs Q E hr h => ?_)
  · obtain ⟨p, n, b, c, rfl, _⟩ := h
    rfl
  · obtain ⟨p, n, b, c, rfl, hp, hp2, hn, hb, hc, q⟩ := h
    refine ⟨_, pss_cons (ps_set (i := 3) scSparse.nd rfl (.inl rfl) (pe_lst pa_nil))
      (pss_cons (ps_set (i := 4) scSparse.nd rfl (.inl rfl) (pe_op op_add pe_int (pe_call GT hr (by rfl) mT kT bT .nil pass0 (pa_cons (pv 2) (pa_cons pe_int pa_nil)))))
      (pss_cons (ps_for PassesOwn.never rfl (pi_range1 rfl mr (pa_cons (pv 1) pa_nil)) (pg_name (i := 5) scSparse.nd rfl (Or.inl rfl))
        (pss_cons (ps_set (i := 6) scSparse.nd rfl (.inl rfl) (pe_call GT hr (by rfl) mT kT bT .nil pass0 (pa_cons (pv 2) (pa_cons (pv 0) pa_nil))))
        (pss_one (ps_expr (pe_bm PySem.F.plainAttrs_list PySem.F.slot_list_append PySem.F.type_list_append mt_append (pv 3) (pa_cons (pe_op op_mul (pv 6) (pe_callTy call_int1 (by rfl) mi (by decide +kernel) (pa_cons (pe_cmpR op_lt (pe_call GT hr (by rfl) mT kT bT .nil pass0 (pa_cons (pv 2) (pa_cons pe_int pa_nil))) (pv 4) (nomark _)) pa_nil))) pa_nil))))))
      (pss_one (ps_ret (pv 3))))), ?_⟩
    refine ⟨Nat.zero_le _, fun l nl => ?_⟩
    have nb := hb.ne nl
    refine ⟨_, rfl, ⟨b, 4, c, rfl, by decide, by decide, hb.same (upd_ne nb.symm), by omega, fun d H' d0 d1 off hq hb' => ?_⟩⟩
    have il0 : IL H' l [] := off _ _ nb upd_same
    have off0 : Off b H H' := fun r o n e => off r o n (by rw [upd_ne (ne_of_none e nl)]; exact e)
    refine ⟨_, _, rfl, rfl, _, rfl, (n : Int), rfl, by omega, by omega, ?_⟩
    refine for_range (lo := 0) (n := n) (fun i σ H2 => ∃ (row : List Int) (y5 y6 : Option V), σ = [some (.int p), some (.int (n : Int)), some (.ref b), some (.ref l), some (.int (1 + d)), y5, y6] ∧ Wf p i row ∧ Off b H H2 ∧ IL H2 l row ∧ Bg H2 b (c + 1 + 2 * i)) ⟨[], none, none, rfl, ⟨rfl, fun x hx => by simp at hx⟩, off0, il0, hb'⟩ (fun i σ H2 hi hW => ?_) (fun σ H2 hW => ?_)
    · obtain ⟨row, y5, y6, rfl, wr, off1, il1, hb1⟩ := hW
      refine ⟨_, rfl, _, rfl, ⟨b, p, c + 1 + 2 * i, rfl, hp, by omega, hb1, by omega, fun x H3 x0 x1 off2 hq2 hb2 => ?_⟩⟩
      have il2 : IL H3 l row := off2 _ _ nb il1
      refine ⟨_, rfl, .inl ⟨rfl, _, SqL.of il2⟩, _, rfl, _, rfl, ⟨b, 4, c + 1 + 2 * i + 1, rfl, by decide, by decide, hb2, by omega, fun y H4 y0 y1 off3 hq3 hb3 => ?_⟩⟩
      have il3 : IL H4 l row := off3 _ _ nb il2
      refine ⟨_, rfl, _, _, rfl, rfl, .inr ⟨_, rfl, ?_⟩⟩
      have bit : ∀ k : Bool, (0 : Int) ≤ (if k = true then 1 else 0) ∧ (if k = true then (1 : Int) else 0) ≤ 1 := fun k => by cases k <;> decide
      have bb := bit (decide (y < 1 + d))
      generalize (if decide (y < 1 + d) = true then (1 : Int) else 0) = z at *
      refine ⟨_, _, rfl, rfl, .inl ⟨by omega, by omega⟩, l, _, _, rfl, rfl, il3, by rw [List.length_map, wr.len]; exact small1000 (by omega), ?_⟩
      have zz : 0 ≤ x * z ∧ x * z < p := by
        have cs : z = 0 ∨ z = 1 := by omega
        rcases cs with rfl | rfl
        · rw [Int.mul_zero]; omega
        · rw [Int.mul_one]; omega
      refine ⟨row ++ [x * z], _, _, rfl, ⟨by rw [List.length_append, wr.len]; rfl, fun u hu => ?_⟩, ?_, ?_, ?_⟩
      · rcases List.mem_append.mp hu with h | h
        · exact wr.rng u h
        · rw [List.mem_singleton.mp h]
          exact zz
      · exact ((off1.trans off2).trans off3).new nl
      · show (upd H4 l _) l = _
        rw [upd_same]
        simp
      · have e : c + 1 + 2 * (i + 1) = c + 1 + 2 * i + 1 + 1 := by omega
        rw [e]
        exact hb3.same (upd_ne nb.symm)
    · obtain ⟨row, y5, y6, rfl, wr, off1, il1, hb1⟩ := hW
      exact ⟨_, rfl, q l row H2 wr off1 nl il1 hb1⟩
end

/-! ### _law_rows -/
section
variable {P : Program} {w : World} {K : PySem.W.Frag} {mg : Str → Option Value} {base : Heap}
abbrev sRows : Stmt := topS 12

abbrev nRows : List Str := ["_law_p", "_law_length", "_law_many", "_law_bag_here", "_law_rows_here", "_law_k", "_law_row", "_law_one", "_law_other", "_law_rest", "_law_a", "_law_b"]

theorem scRows : FnScope nRows ["_law_p", "_law_length", "_law_many", "_law_bag_here"] (defScope sRows) := ⟨rfl, rfl, rfl, by decide +kernel, rfl, by decide +kernel, by decide +kernel⟩

def spRows : Sp := fun vs H Q _ => ∃ (p : Int) (n many : Nat) (b : Addr) (c : Nat), vs = [.int p, .int (n : Int), .int (many : Int), .ref b] ∧ 0 < p ∧ p ≤ 11 ∧ n ≤ 100 ∧ many ≤ 100 ∧ Bg H b c ∧ c < 2 ^ 20 ∧
  ∀ q rs M H', Wfs p n M → M.length = many → Off b H H' → H q = none → Tab H' q rs M → (∀ r ∈ rs, H r = none) → Bg H' b (c + many * (2 * n + 5)) → Q (.ref q) H'

theorem ok_rows {f fT fS : Addr} {fd fdT fdS : FuncData} {k : Nat} (F : Fun K "_law_rows" "_law_rows" sRows f fd)
    (GT : FnOk P w K mg base CX0 (k + 2) fT fdT ["_law_bag_here", "_law_many"] spTake) (bT : Binds K fdT ["_law_bag_here", "_law_many"] []) (kT : PySem.W.keepIn K (.ref fT) = true) (mT : mg "_law_take" = some (.ref fT))
    (GS : FnOk P w K mg base CX0 (k + 2) fS fdS ["_law_p", "_law_length", "_law_bag_here"] spSparse) (bS : Binds K fdS ["_law_p", "_law_length", "_law_bag_here"] []) (kS : PySem.W.keepIn K (.ref fS) = true) (mS : mg "_law_sparse" = some (.ref fS))
    (mr : mg "range" = none) (ml : mg "len" = none) (mz : mg "zip" = none) : FnOk P w K mg base CX0 (k + 3) f fd ["_law_p", "_law_length", "_law_many", "_law_bag_here"] spRows := by
  refine F.ok scRows (fun vs H Q E h => ?_) (fun cdv A outer s H vs Q E hr h => ?_)
  · obtain ⟨p, n, many, b, c, rfl, _⟩ := h
    rfl
  · obtain ⟨p, n, many, b, c, rfl, hp, hp2, hn, hmany, hb, hc, q⟩ := h
    refine ⟨_, pss_cons (ps_set (i := 4) scRows.nd rfl (.inl rfl) (pe_lst pa_nil))
      (pss_cons (ps_for PassesOwn.never rfl (pi_range1 rfl mr (pa_cons (pv 2) pa_nil)) (pg_name (i := 5) scRows.nd rfl (Or.inl rfl))
        (pss_cons (ps_set (i := 6) scRows.nd rfl (.inl rfl) (pe_call GS hr (by rfl) mS kS bS .nil pass0 (pa_cons (pv 0) (pa_cons (pv 1) (pa_cons (pv 3) pa_nil)))))
        (C8.pss_cut (ps_if (PW.pt (pw_and (pt_cmpR op_gt (pe_callB call_len_seq (by rfl) ml PySem.boot_len (pa_cons (pv 4) pa_nil)) pe_int (nomark _)) (pw_and1 (pt_cmpR op_eq (pe_call GT hr (by rfl) mT kT bT .nil pass0 (pa_cons (pv 3) (pa_cons pe_int pa_nil))) pe_int (nomark _)))))
          (pss_cons (ps_set (i := 7) scRows.nd rfl (.inl rfl) (pe_ix ix_list (pv 4) (pe_call GT hr (by rfl) mT kT bT .nil pass0 (pa_cons (pv 3) (pa_cons (pe_callB call_len_seq (by rfl) ml PySem.boot_len (pa_cons (pv 4) pa_nil)) pa_nil))) (fun _ _ => rfl)))
          (pss_cons (ps_set (i := 8) scRows.nd rfl (.inl rfl) (pe_ix ix_list (pv 4) (pe_call GT hr (by rfl) mT kT bT .nil pass0 (pa_cons (pv 3) (pa_cons (pe_callB call_len_seq (by rfl) ml PySem.boot_len (pa_cons (pv 4) pa_nil)) pa_nil))) (fun _ _ => rfl)))
          (pss_cons (ps_set (i := 9) scRows.nd rfl (.inr rfl) (pe_call GT hr (by rfl) mT kT bT .nil pass0 (pa_cons (pv 3) (pa_cons (pv 0) pa_nil))))
          (pss_one (ps_setLc (i := 6) (own := [("_law_a", 10), ("_law_b", 11)]) (g := gTup K 2 (gCons (gName 10) (gCons (gName 11) gNil))) (tt := tYes) (by rfl) scRows.nd rfl rfl (sw_true rfl rfl rfl (by decide +kernel)) (pi_zip (by rfl) mz (pa_cons (pv 7) (pa_cons (pv 8) pa_nil))) (blkOk_by (own := [("_law_a", 10), ("_law_b", 11)]) (N := nRows) (sc := defScope sRows) (by decide +kernel))
            (fun _ _ _ _ _ => pg_tup rfl (pgs_cons (pg_name (i := 10) scRows.nd rfl (Or.inl rfl)) (pgs_cons (pg_name (i := 11) scRows.nd rfl (Or.inl rfl)) pgs_nil))) (fun _ _ _ _ _ => pts_nil)
            (fun _ _ _ _ _ => pe_op op_mod (pe_op op_add (pv 10) (pe_op op_mul (pv 9) (pv 11))) (pv 0)))))))
          pss_nil)
        (pss_one (ps_expr (pe_bm PySem.F.plainAttrs_list PySem.F.slot_list_append PySem.F.type_list_append mt_append (pv 4) (pa_cons (pv 6) pa_nil)))))))
      (pss_one (ps_ret (pv 4)))), ?_⟩
    refine ⟨Nat.zero_le _, fun l nl => ?_⟩
    have nb := hb.ne nl
    refine ⟨_, rfl, (many : Int), rfl, by omega, by omega, ?_⟩
    refine for_range (lo := 0) (n := many) (fun i σ H' => ∃ rs M y5 y6 y7 y8 y9 y10 y11, σ = [some (.int p), some (.int (n : Int)), some (.int (many : Int)), some (.ref b), some (.ref l), y5, y6, y7, y8, y9, y10, y11] ∧ M.length = i ∧ RowI p n b (c + i * (2 * n + 5)) H l rs M H')
      ⟨[], [], none, none, none, none, none, none, none, rfl, rfl, (Off.refl b H).new nl, ⟨upd_same, rfl, fun i r m hr => by simp at hr⟩, fun m hm => by simp at hm, fun r hr => by simp at hr, by rw [Nat.zero_mul, Nat.add_zero]; exact hb.same (upd_ne nb.symm)⟩ (fun i σ H' hi hW => ?_) (fun σ H' hW => ?_)
    · obtain ⟨rs, M, y5, y6, y7, y8, y9, y10, y11, rfl, hM, I⟩ := hW
      have bound : i * (2 * n + 5) ≤ 100 * 205 := Nat.mul_le_mul (by omega) (by omega)
      have es : c + (i + 1) * (2 * n + 5) = c + i * (2 * n + 5) + (2 * n + 5) := by rw [Nat.add_mul, Nat.one_mul]; omega
      generalize hci : c + i * (2 * n + 5) = ci at *
      refine ⟨_, rfl, _, rfl, _, rfl, ⟨p, n, b, ci, rfl, hp, hp2, hn, I.bag, by omega, fun r0 row0 H1 w0 off1 n0 il0 bag1 => ?_⟩⟩
      have nbr : ∀ r ∈ rs, r ≠ b := fun r hr e => by
        obtain ⟨m, _, hm⟩ := IL.ref I.tab hr
        have z := I.fresh r hr
        rw [e] at z
        obtain ⟨x, y, h1, _⟩ := hb
        rw [h1] at z
        cases z
      have T1 : Tab H1 l rs M := I.tab.off off1 nb nbr
      have n00 : r0 ≠ b := I.bag.ne n0
      refine ⟨fun σ' H2 => ∃ r row y7 y8 y9 y10 y11, σ' = [some (.int p), some (.int (n : Int)), some (.int (many : Int)), some (.ref b), some (.ref l), some (.int (0 + (i : Int))), some (.ref r), y7, y8, y9, y10, y11] ∧ Off b H' H2 ∧ Wf p n row ∧ IL H2 r row ∧ H' r = none ∧ Tab H2 l rs M ∧ Bg H2 b (ci + (2 * n + 5)), ?_, fun σ' H2 hW => ?_⟩
      · refine ⟨_, rfl, l, _, rfl, .inl (SqL.of T1.at_), _, _, rfl, rfl, _, rfl, ite2 (fun c1 => ?_) (fun c1 => iteF ?_)⟩
        · refine ⟨_, rfl, ⟨b, 3, _, rfl, by decide, by decide, bag1, by omega, fun d H2 d0 d1 off2 hq2 bag2 => ?_⟩⟩
          have T2 : Tab H2 l rs M := T1.off off2 nb nbr
          have il2 := off2 _ _ n00 il0
          refine ⟨rfl, _, rfl, ite2 (fun c2 => ?_) (fun c2 => ?_)⟩
          · have lenM : (rf rs).length = M.length := by rw [List.length_map, T1.len]
            have posM : 0 < M.length := by
              have := of_decide_eq_true c1
              rw [lenM] at this
              omega
            refine ⟨_, rfl, _, rfl, _, rfl, l, _, rfl, .inl (SqL.of T2.at_), ⟨b, _, _, rfl, by rw [lenM]; omega, by rw [lenM]; omega, bag2, by omega, fun d3 H3 e0 e1 off3 hq3 bag3 => ?_⟩⟩
            rw [lenM] at e1
            obtain ⟨j1, rfl⟩ := Int.eq_ofNat_of_zero_le e0
            obtain ⟨m1, hm1⟩ := get_of (l := M) (i := j1) (by omega)
            obtain ⟨r1, hr1⟩ := get_of (l := rs) (i := j1) (by have := T1.len; omega)
            have T3 : Tab H3 l rs M := T2.off off3 nb nbr
            refine ⟨l, _, _, _, rfl, rfl, SqL.of T3.at_, atI_nat (rf_get hr1), ?_⟩
            refine ⟨_, rfl, _, rfl, _, rfl, l, _, rfl, .inl (SqL.of T3.at_), ⟨b, _, _, rfl, by rw [lenM]; omega, by rw [lenM]; omega, bag3, by omega, fun d4 H4 e2 e3 off4 hq4 bag4 => ?_⟩⟩
            rw [lenM] at e3
            obtain ⟨j2, rfl⟩ := Int.eq_ofNat_of_zero_le e2
            obtain ⟨m2, hm2⟩ := get_of (l := M) (i := j2) (by omega)
            obtain ⟨r2, hr2⟩ := get_of (l := rs) (i := j2) (by have := T1.len; omega)
            have T4 : Tab H4 l rs M := T3.off off4 nb nbr
            refine ⟨l, _, _, _, rfl, rfl, SqL.of T4.at_, atI_nat (rf_get hr2), ?_⟩
            refine ⟨_, rfl, _, rfl, ⟨b, _, _, rfl, hp, by omega, bag4, by omega, fun d5 H5 e4 e5 off5 hq5 bag5 => ?_⟩⟩
            have T5 : Tab H5 l rs M := T4.off off5 nb nbr
            have w1 := I.wf m1 (List.mem_of_getElem? hm1)
            have w2 := I.wf m2 (List.mem_of_getElem? hm2)
            have il1 := T5.row j1 r1 m1 hr1 hm1
            have il22 := T5.row j2 r2 m2 hr2 hm2
            have off05 : Off b H' H5 := (((off1.trans off2).trans off3).trans off4).trans off5
            have wmix := mixR_wf (c := d5) hp w1 w2
            refine ⟨_, rfl, _, rfl, r1, r2, _, _, rfl, IL.sq il1, IL.sq il22, fun D hD => ?_⟩
            refine lc_it (walk_zip (K := K) (a := r1) (b := r2) (xs := iv m1) (ys := iv m2) (n := n) (by rw [List.length_map, List.length_map, w1.len, w2.len, Nat.min_self])) (fun j H6 => Mk H5 D (mixR p d5 m1 m2) j H6) (Mk.start hD) (fun j H6 _ mk => ⟨mk.same.seq (IL.sq il1), mk.same.seq (IL.sq il22)⟩) (fun j x H6 H7 hj mk y => ?_) (fun H6 mk => ?_)
            · obtain ⟨T, x1, x2, rfl, nT, rfl, g1, g2⟩ := y
              obtain ⟨z1, hz1, rfl⟩ := iv_inv g1
              obtain ⟨z2, hz2, rfl⟩ := iv_inv g2
              refine ⟨T, _, rfl, .inl (.inl upd_same), rfl, _, _, rfl, _, _, rfl, rfl, rfl, ?_⟩
              refine t_yes ?_
              refine ⟨_, rfl, _, rfl, _, rfl, _, _, rfl, rfl, .inl ⟨by omega, by omega⟩, _, _, rfl, rfl, _, rfl, _, _, rfl, rfl, hp, ?_⟩
              exact mk.step hD (same_new nT) (mixR_get hz1 hz2) (by rw [wmix.len]; omega)
            · refine ⟨D, _, _, _, _, _, _, rfl, off05.trans (Off.of mk.same), wmix, mk.done (by rw [wmix.len]), off05.free hD (bag5.ne hD), T5.same mk.same, ?_⟩
              have z := bag5.mono (d := ci + (2 * n + 5)) (by omega)
              obtain ⟨x, y, h1, h2⟩ := z
              exact ⟨x, y, mk.same _ _ h1, h2⟩
          · exact ⟨r0, row0, _, _, _, _, _, rfl, off1.trans off2, w0, il2, n0, T2, bag2.mono (by omega)⟩
        · exact ⟨r0, row0, _, _, _, _, _, rfl, off1, w0, il0, n0, T1, bag1.mono (by omega)⟩
      · obtain ⟨r, row, z7, z8, z9, z10, z11, rfl, off2, wr, il, nr, T2, bag2⟩ := hW
        have lenM : (rf rs).length = M.length := by rw [List.length_map, T1.len]
        refine ⟨_, rfl, .inl ⟨rfl, _, SqL.of T2.at_⟩, _, rfl, l, _, _, rfl, rfl, T2.at_, by rw [lenM]; exact small1000 (by omega), ?_⟩
        have nrl : r ≠ l := fun e => by
          rw [e, I.tab.at_] at nr
          cases nr
        have nrb : r ≠ b := fun e => by
          obtain ⟨x, y, h1, _⟩ := I.bag
          rw [e, h1] at nr
          cases nr
        refine ⟨rs ++ [r], M ++ [row], _, _, _, _, _, _, _, rfl, by rw [List.length_append, hM]; rfl, (I.off.trans off2).new nl, T2.push il nrl, fun m hm => ?_, fun x hx => ?_, ?_⟩
        · rcases List.mem_append.mp hm with h | h
          · exact I.wf m h
          · rw [List.mem_singleton.mp h]
            exact wr
        · rcases List.mem_append.mp hx with h | h
          · exact I.fresh x h
          · rw [List.mem_singleton.mp h]
            exact I.off.free nr nrb
        · rw [es]
          exact bag2.same (upd_ne nb.symm)
    · obtain ⟨rs, M, y5, y6, y7, y8, y9, y10, y11, rfl, hM, I⟩ := hW
      exact ⟨_, rfl, q l rs M H' I.wf hM I.off nl I.tab I.fresh I.bag⟩
end

/-! ### _law_back -/
section
variable {P : Program} {w : World} {K : PySem.W.Frag} {mg : Str → Option Value} {base : Heap}
abbrev sBack : Stmt := topS 13

theorem scBack : FnScope ["_law_p", "_law_rest", "_law_other"] ["_law_p", "_law_rest"] (defScope sBack) := ⟨rfl, rfl, rfl, by decide +kernel, rfl, by decide +kernel, by decide +kernel⟩

def spBack : Sp := fun vs H Q _ => ∃ (p r : Int), vs = [.int p, .int r] ∧ P5 p ∧ 0 < r ∧ r < p ∧ ∀ H', Same H H' → Q (.int (invM p r)) H'

theorem ok_back {f : Addr} {fd : FuncData} {k : Nat} (F : Fun K "_law_back" "_law_back" sBack f fd) (mr : mg "range" = none) : FnOk P w K mg base CX0 (k + 1) f fd ["_law_p", "_law_rest"] spBack := by
  refine F.ok scBack (fun vs H Q E h => ?_) (fun cdv A outer s H vs Q E hr h => ?_)
  · obtain ⟨p, r, rfl, _⟩ := h
    rfl
  · obtain ⟨p, r, rfl, hp, h0, h1, q⟩ := h
    have le := hp.le
    have two := hp.two
    obtain ⟨i1, i2, i3⟩ := inv_ok hp h0 h1
    refine ⟨_, pss_one (ps_ret (pe_ix ix_list (pe_lc (own := [("_law_other", 2)]) (g := gName 2) (by rfl) scBack.nd (pi_range1 rfl mr (pa_cons (pv 0) pa_nil)) (blkOk_by (own := [("_law_other", 2)]) (N := ["_law_p", "_law_rest", "_law_other"]) (sc := defScope sBack) (by decide +kernel))
      (fun _ _ _ _ _ => pg_name (i := 2) scBack.nd rfl (Or.inl rfl)) (fun _ _ _ _ _ => pts_one (pt_cmpR op_eq (pe_op op_mod (pe_op op_mul (pv 2) (pv 1)) (pv 0)) pe_int (nomark _)))
      (fun _ _ _ _ _ => pv 2)) pe_int (fun _ _ => rfl))), ?_⟩
    refine ⟨_, rfl, p, rfl, by omega, by omega, fun D hD => ?_⟩
    refine lc_range (lo := 0) (n := p.toNat) (fun i H' => Same H H' ∧ H' D = some (.lst (if invM p r < i then [.int (invM p r)] else []))) ⟨same_new hD, by rw [if_neg (by omega), upd_same]⟩ (fun i H' hi hW => ?_) (fun H' hW => ?_)
    · obtain ⟨sm, e⟩ := hW
      refine ⟨rfl, ?_⟩
      have iz : (0 : Int) + (i : Int) = (i : Int) := Int.zero_add _
      rw [iz]
      refine ⟨_, rfl, _, rfl, _, _, rfl, rfl, .inl ⟨by omega, by omega⟩, _, rfl, _, _, rfl, rfl, (by show 0 < p; omega), rfl, _, rfl, ?_⟩
      have i4 := i3 (i : Int) (by omega) (by omega)
      refine ite2 (fun c => ?_) (fun c => ?_)
      · have ei : (i : Int) = invM p r := i4.mp (V.int.inj (of_decide_eq_true c))
        rw [if_neg (by omega)] at e
        refine ⟨_, rfl, _, e, by decide, same_upd hD sm, ?_⟩
        rw [upd_same, if_pos (by omega), ei]
        rfl
      · have ei : (i : Int) ≠ invM p r := fun z => c (decide_eq_true (congrArg V.int (i4.mpr z)))
        refine ⟨sm, ?_⟩
        rw [e]
        by_cases h : invM p r < (i : Int)
        · rw [if_pos h, if_pos (by omega)]
        · rw [if_neg h, if_neg (by omega)]
    · obtain ⟨sm, e⟩ := hW
      rw [if_pos (by omega)] at e
      exact ⟨D, _, _, _, rfl, rfl, SqL.of e, atI_nat (j := 0) rfl, q H' sm⟩
end

/-! ### _law_less -/
section
variable {P : Program} {w : World} {K : PySem.W.Frag} {mg : Str → Option Value} {base : Heap}
abbrev sLess : Stmt := topS 14

abbrev nLess : List Str := ["_law_p", "_law_row", "_law_rest", "_law_other", "_law_a", "_law_b"]

theorem scLess : FnScope nLess ["_law_p", "_law_row", "_law_rest", "_law_other"] (defScope sLess) := ⟨rfl, rfl, rfl, by decide +kernel, rfl, by decide +kernel, by decide +kernel⟩

def spLess : Sp := fun vs H Q _ => ∃ (p c : Int) (n : Nat) (a b : Addr) (m bm : Row), vs = [.int p, .ref a, .int c, .ref b] ∧ 0 < p ∧ p ≤ 11 ∧ n ≤ 1000 ∧ 0 ≤ c ∧ c < 1000 ∧ IL H a m ∧ Wf p n m ∧ IL H b bm ∧ Wf p n bm ∧ ∀ H' q, Same H H' → H q = none → IL H' q (lessR p m c bm) → Q (.ref q) H'

theorem ok_less {f : Addr} {fd : FuncData} {k : Nat} (F : Fun K "_law_less" "_law_less" sLess f fd) (mz : mg "zip" = none) : FnOk P w K mg base CX0 (k + 1) f fd ["_law_p", "_law_row", "_law_rest", "_law_other"] spLess := by
  refine F.ok scLess (fun vs H Q E h => ?_) (fun cdv A outer s H vs Q E hr h => ?_)
  · obtain ⟨p, c, n, a, b, m, bm, rfl, _⟩ := h
    rfl
  · obtain ⟨p, c, n, a, b, m, bm, rfl, hp, hp2, hn, hc0, hc1, ha, wm, hb, wb, q⟩ := h
    refine ⟨_, pss_one (ps_ret (pe_lc (own := [("_law_a", 4), ("_law_b", 5)]) (g := gTup K 2 (gCons (gName 4) (gCons (gName 5) gNil))) (tt := tYes) (by rfl) scLess.nd (pi_zip (by rfl) mz (pa_cons (pv 1) (pa_cons (pv 3) pa_nil))) (blkOk_by (own := [("_law_a", 4), ("_law_b", 5)]) (N := nLess) (sc := defScope sLess) (by decide +kernel))
      (fun _ _ _ _ _ => pg_tup rfl (pgs_cons (pg_name (i := 4) scLess.nd rfl (Or.inl rfl)) (pgs_cons (pg_name (i := 5) scLess.nd rfl (Or.inl rfl)) pgs_nil))) (fun _ _ _ _ _ => pts_nil)
      (fun _ _ _ _ _ => pe_op op_mod (pe_op op_sub (pv 4) (pe_op op_mul (pv 2) (pv 5))) (pv 0)))), ?_⟩
    have hlm := wm.len
    have hlb := wb.len
    refine ⟨_, rfl, _, rfl, a, b, _, _, rfl, IL.sq ha, IL.sq hb, fun D hD => ?_⟩
    refine lc_it (walk_zip (K := K) (a := a) (b := b) (xs := iv m) (ys := iv bm) (n := n) (by rw [List.length_map, List.length_map, hlm, hlb, Nat.min_self])) (fun j H' => Mk H D (lessR p m c bm) j H') (Mk.start hD) (fun j H' _ mk => ⟨mk.same.seq (IL.sq ha), mk.same.seq (IL.sq hb)⟩) (fun j x H3 H4 hj mk y => ?_) (fun H' mk => ?_)
    · obtain ⟨T, x1, x2, rfl, nT, rfl, g1, g2⟩ := y
      obtain ⟨z1, hz1, rfl⟩ := iv_inv g1
      obtain ⟨z2, hz2, rfl⟩ := iv_inv g2
      refine ⟨T, _, rfl, .inl (.inl upd_same), rfl, _, _, rfl, _, _, rfl, rfl, rfl, ?_⟩
      refine t_yes ?_
      refine ⟨_, rfl, _, rfl, _, rfl, _, _, rfl, rfl, .inl ⟨by omega, by omega⟩, _, _, rfl, rfl, _, rfl, _, _, rfl, rfl, hp, ?_⟩
      exact mk.step hD (same_new nT) (lessR_get hz1 hz2) (by rw [lessR_len wm wb]; exact hn)
    · exact q H' D mk.same hD (mk.done (by rw [lessR_len wm wb]))
end

/-! ### _law_form -/
section
variable {P : Program} {w : World} {K : PySem.W.Frag} {mg : Str → Option Value} {base : Heap}
abbrev sForm : Stmt := topS 15

abbrev nForm : List Str := ["_law_p", "_law_rows_here", "_law_row", "_law_left", "_law_found", "_law_place", "_law_some", "_law_back_here", "_law_k", "_law_number", "_law_other"]

theorem scForm : FnScope nForm ["_law_p", "_law_rows_here"] (defScope sForm) := ⟨rfl, rfl, rfl, by decide +kernel, rfl, by decide +kernel, by decide +kernel⟩

def spForm : Sp := fun vs H Q _ => ∃ (p : Int) (n : Nat) (a : Addr) (rs : List Addr) (M : List Row), vs = [.int p, .ref a] ∧ P5 p ∧ n ≤ 100 ∧ Tab H a rs M ∧ Wfs p n M ∧ M.length ≤ 200 ∧
  ∀ H' q qs, Same H H' → H q = none → Tab H' q qs (lowM p (invM p) M) → (∀ r ∈ qs, H r = none) → Q (.ref q) H'

theorem ok_form {f fB fL : Addr} {fd fdB fdL : FuncData} {k : Nat} (F : Fun K "_law_form" "_law_form" sForm f fd)
    (GB : FnOk P w K mg base CX0 (k + 1) fB fdB ["_law_p", "_law_rest"] spBack) (bB : Binds K fdB ["_law_p", "_law_rest"] []) (kB : PySem.W.keepIn K (.ref fB) = true) (mB : mg "_law_back" = some (.ref fB))
    (GL : FnOk P w K mg base CX0 (k + 1) fL fdL ["_law_p", "_law_row", "_law_rest", "_law_other"] spLess) (bL : Binds K fdL ["_law_p", "_law_row", "_law_rest", "_law_other"] []) (kL : PySem.W.keepIn K (.ref fL) = true) (mL : mg "_law_less" = some (.ref fL))
    (ml : mg "len" = none) (mr : mg "range" = none) (mt : mg "list" = none) : FnOk P w K mg base CX0 (k + 2) f fd ["_law_p", "_law_rows_here"] spForm := by
  refine F.ok scForm (fun vs H Q E h => ?_) (fun cdv A outer s H vs Q E hr h => ?_)
  · obtain ⟨p, n, a, rs, M, rfl, _⟩ := h
    rfl
  · obtain ⟨p, n, a, rs, M, rfl, hp, hn, hT, hM, hML, q⟩ := h
    refine ⟨_, pss_cons (ps_set (i := 3) scForm.nd rfl (.inr rfl) (pe_lc (own := [("_law_row", 2)]) (g := gName 2) (tt := tYes) (by rfl) scForm.nd (pi_list (pv 1)) (blkOk_by (own := [("_law_row", 2)]) (N := nForm) (sc := defScope sForm) (by decide +kernel))
        (fun _ _ _ _ _ => pg_name (i := 2) scForm.nd rfl (Or.inl rfl)) (fun _ _ _ _ _ => pts_nil) (fun _ _ _ _ _ => pe_callTy (cLst K rfl) (by rfl) mt (by decide +kernel) (pa_cons (pv 2) pa_nil))))
      (pss_cons (ps_set (i := 4) scForm.nd rfl (.inl rfl) (pe_lst pa_nil))
      (pss_cons (ps_set (i := 5) scForm.nd rfl (.inr rfl) pe_int)
      (pss_cons (ps_while PassesOwn.never (pt_imp (fun σ H Q => ∃ (la : Addr) (ls : List Addr) (L : List Row) (pl n : Nat), σ[3]? = some (some (V.ref la)) ∧ σ[5]? = some (some (V.int (pl : Int))) ∧ Tab H la ls L ∧ (∀ m ∈ L, m.length = n) ∧ Q (decide (0 < L.length ∧ pl < n)) H)
          (PW.pt (pw_and (pt_cmpR op_gt (pe_callB call_len_seq (by rfl) ml PySem.boot_len (pa_cons (pv 3) pa_nil)) pe_int (nomark _)) (pw_and1 (pt_cmpR op_lt (pv 5) (pe_callB call_len_seq (by rfl) ml PySem.boot_len (pa_cons (pe_ix ix_list (pv 3) pe_int (fun _ _ => rfl)) pa_nil)) (nomark _)))))
          (fun σ H Q h => by
            obtain ⟨la, ls, L, pl, n, e3, e5, t, hw, q⟩ := h
            refine ⟨_, e3, la, _, rfl, .inl (SqL.of t.at_), _, _, rfl, rfl, _, rfl, ?_⟩
            have lenl : (rf ls).length = L.length := by rw [List.length_map, t.len]
            rw [lenl]
            by_cases hj : 0 < L.length
            · rw [decide_eq_true (show (0 : Int) < (L.length : Int) by omega)]
              refine iteT ?_
              obtain ⟨m, hm⟩ := get_of hj
              obtain ⟨r, hr⟩ := get_of (l := ls) (i := 0) (by have := t.len; omega)
              have hrow := t.row 0 r m hr hm
              have lm := hw m (List.mem_of_getElem? hm)
              refine ⟨_, e5, _, e3, la, _, _, _, rfl, rfl, SqL.of t.at_, atI_nat (j := 0) (rf_get hr), r, _, rfl, .inl (IL.sq hrow), _, _, rfl, rfl, _, rfl, ?_⟩
              rw [List.length_map, lm]
              rw [show decide ((pl : Int) < (n : Int)) = decide (0 < L.length ∧ pl < n) from decide_eq_decide.mpr ⟨fun e => ⟨hj, by omega⟩, fun e => by omega⟩]
              exact q
            · rw [decide_eq_false (show ¬ (0 : Int) < (L.length : Int) by omega)]
              refine iteF ?_
              rw [decide_eq_false (fun e => hj e.1)] at q
              exact q))
        (pss_cons (ps_setLc (i := 6) (own := [("_law_k", 8)]) (g := gName 8) (by rfl) scForm.nd rfl rfl (sw_true rfl rfl rfl (by decide +kernel)) (pi_range1 rfl mr (pa_cons (pe_callB call_len_seq (by rfl) ml PySem.boot_len (pa_cons (pv 3) pa_nil)) pa_nil)) (blkOk_by (own := [("_law_k", 8)]) (N := nForm) (sc := defScope sForm) (by decide +kernel))
            (fun _ _ _ _ _ => pg_name (i := 8) scForm.nd rfl (Or.inl rfl)) (fun _ _ _ _ _ => pts_one (pt_cmpR op_ne (pe_ix (ixL K) (pe_ix (ixL K) (pv 3) (pv 8) (fun _ _ => rfl)) (pv 5) (fun _ _ => rfl)) pe_int (nomark _))) (fun _ _ _ _ _ => pv 8))
        (C8.pss_cut (ps_if (pt_cmpR op_gt (pe_callB call_len_seq (by rfl) ml PySem.boot_len (pa_cons (pv 6) pa_nil)) pe_int (nomark _))
            (pss_cons (ps_set (i := 2) scForm.nd rfl (.inr rfl) (pe_bm PySem.F.plainAttrs_list PySem.F.slot_list_pop PySem.F.type_list_pop mt_popAt (pv 3) (pa_cons (pe_ix ix_list (pv 6) pe_int (fun _ _ => rfl)) pa_nil)))
            (pss_cons (ps_set (i := 7) scForm.nd rfl (.inr rfl) (pe_call GB hr (by rfl) mB kB bB .nil pass0 (pa_cons (pv 0) (pa_cons (pe_ix ix_list (pv 2) (pv 5) (fun _ _ => rfl)) pa_nil))))
            (pss_cons (ps_set (i := 2) scForm.nd rfl (.inr rfl) (pe_lc (own := [("_law_number", 9)]) (g := gName 9) (tt := tYes) (by rfl) scForm.nd (pi_list (pv 2)) (blkOk_by (own := [("_law_number", 9)]) (N := nForm) (sc := defScope sForm) (by decide +kernel))
              (fun _ _ _ _ _ => pg_name (i := 9) scForm.nd rfl (Or.inl rfl)) (fun _ _ _ _ _ => pts_nil) (fun _ _ _ _ _ => pe_op op_mod (pe_op op_mul (pv 7) (pv 9)) (pv 0))))
            (pss_cons (ps_set (i := 3) scForm.nd rfl (.inr rfl) (pe_lc (own := [("_law_other", 10)]) (g := gName 10) (tt := tYes) (by rfl) scForm.nd (pi_list (pv 3)) (blkOk_by (own := [("_law_other", 10)]) (N := nForm) (sc := defScope sForm) (by decide +kernel))
              (fun _ _ _ _ _ => pg_name (i := 10) scForm.nd rfl (Or.inl rfl)) (fun _ _ _ _ _ => pts_nil) (fun _ _ _ _ _ => pe_call GL hr (by rfl) mL kL bL .nil pass0 (pa_cons (pv 0) (pa_cons (pv 10) (pa_cons (pe_ix (ixL K) (pv 10) (pv 5) (fun _ _ => rfl)) (pa_cons (pv 2) pa_nil)))))))
            (pss_one (ps_set (i := 4) scForm.nd rfl (.inl rfl) (pe_op op_cat (pe_lc (own := [("_law_other", 10)]) (g := gName 10) (tt := tYes) (by rfl) scForm.nd (pi_list (pv 4)) (blkOk_by (own := [("_law_other", 10)]) (N := nForm) (sc := defScope sForm) (by decide +kernel))
              (fun _ _ _ _ _ => pg_name (i := 10) scForm.nd rfl (Or.inl rfl)) (fun _ _ _ _ _ => pts_nil) (fun _ _ _ _ _ => pe_call GL hr (by rfl) mL kL bL .nil pass0 (pa_cons (pv 0) (pa_cons (pv 10) (pa_cons (pe_ix (ixL K) (pv 10) (pv 5) (fun _ _ => rfl)) (pa_cons (pv 2) pa_nil)))))) (pe_lst (pa_cons (pv 2) pa_nil)))))))))
            pss_nil)
        (pss_one (ps_set (i := 5) scForm.nd rfl (.inr rfl) (pe_op op_add (pv 5) pe_int))))))
      (pss_one (ps_ret (pv 4)))))), ?_⟩
    have two := hp.two
    have le := hp.le
    have hv := inv_is hp
    -- left
    refine ⟨_, rfl, a, rfl, ⟨_, SqL.of hT.at_⟩, fun la nla => ?_⟩
    refine lc_it (walk_list (K := K) (a := a) (xs := rf rs)) (fun i H' => ∃ qs, Mt H la [] M i H' qs) ⟨[], Mt.start nla⟩ (fun i H' _ ⟨qs, m⟩ => (m.same.seq (SqL.of hT.at_))) (fun i x H1 H2 hi ⟨qs, m⟩ y => ?_) (fun H2 ⟨ls, m⟩ => ?_)
    · obtain ⟨rfl, hx⟩ := y
      obtain ⟨r, hrr, rfl⟩ := rf_inv hx
      obtain ⟨mm, hm⟩ := get_of (l := M) (i := i) (by have := get_lt hrr; have := hT.len; omega)
      have hrow : IL H2 r mm := m.same _ _ (hT.row i r mm hrr hm)
      refine ⟨rfl, ?_⟩
      refine t_yes ?_
      refine ⟨_, rfl, r, _, rfl, .inl (IL.sq hrow), fun l nl => ?_⟩
      obtain ⟨acc, e1, e2, e3⟩ := m.step nla (fun r hr => by simp at hr) (same_new nl) hm upd_same (.inr nl) (by omega)
      exact ⟨acc, e1, e2, _, e3⟩
    have hlen : (rf rs).length = M.length := by rw [List.length_map, hT.len]
    have tl := m.tab hlen
    have sm2 := m.same
    -- found = []
    refine ⟨Nat.zero_le _, fun fa nfa => ?_⟩
    have start : FormI H (L2.upd H2 fa (.lst [])) fa la [] ls [] M := ⟨same_upd (same_none sm2 nfa) sm2, ⟨upd_same, rfl, fun i r mm hr => by simp at hr⟩, tl.same (same_new nfa), same_none sm2 nfa, nla, (fun e => by rw [e, tl.at_] at nfa; cases nfa), fun r hr => by simp at hr⟩
    refine step_name ?_
    dsimp only
    refine step_seq ?_
    refine step_asgC ?_
    dsimp only
    refine step_seq ?_
    show tWhile _ _ _ [some (.int p), some (.ref a), none, some (.ref la), some (.ref fa), some (.int ((0 : Nat) : Int)), none, none, none, none, none] _
    refine wh (fun m σ H' => ∃ fa la fs ls, ∃ pl : Nat, ∃ y2 y6 y7 y8 y9 y10, σ = [some (.int p), some (.ref a), y2, some (.ref la), some (.ref fa), some (.int (pl : Int)), y6, y7, y8, y9, y10] ∧ pl ≤ n ∧ m = n - pl ∧ FormI H H' fa la fs ls (runM p (invM p) M pl).1 (runM p (invM p) M pl).2)
      _ ⟨fa, la, [], ls, 0, none, none, none, none, none, none, rfl, Nat.zero_le _, rfl, start⟩ fun mm σ H' hW => ?_
    obtain ⟨fa, la, fs, ls, pl, y2, y6, y7, y8, y9, y10, rfl, hpl, rfl, inv⟩ := hW
    obtain ⟨lsR, R⟩ := run_all two hv hM pl hpl
    have lens := runM_len (p := p) (inv := invM p) (rows := M) pl
    have est : runM p (invM p) M (pl + 1) = stepM p (invM p) pl (runM p (invM p) M pl) := rfl
    have stop := fun h d => runM_stop (p := p) (inv := invM p) (rows := M) (k := pl) h d
    have lowe := lowM_len (p := p) (n := n) (inv := invM p) M hM
    have wfL := R.wf
    have tl2 := inv.tl
    generalize hS : runM p (invM p) M pl = S at *
    obtain ⟨Fm, L⟩ := S
    dsimp only at *
    have lenL : (rf ls).length = L.length := by rw [List.length_map, tl2.len]
    have lenl := tl2.len
    refine ⟨la, ls, L, pl, n, rfl, rfl, tl2, fun m hm => (wfL m hm).len, ite2 (fun c => ?_) (fun c => ?_)⟩
    · have c' := of_decide_eq_true c
      refine ⟨_, fun σ' H' h => h, ?_⟩
      -- some
      refine ⟨_, rfl, la, _, rfl, .inl (SqL.of tl2.at_), _, rfl, by omega, by rw [lenL]; omega, fun D hD => ?_⟩
      refine lc_range (lo := 0) (n := _) (fun i H1 => Same H' H1 ∧ H1 D = some (.lst ((nzs pl L i).map fun (k : Nat) => V.int (k : Int)))) ⟨same_new hD, upd_same⟩ (fun i H1 hi hW => ?_) (fun H1 hW => ?_)
      · obtain ⟨sm, e⟩ := hW
        rw [Int.toNat_natCast, lenL] at hi
        obtain ⟨m, hm⟩ := get_of (l := L) (i := i) hi
        obtain ⟨r, hrr⟩ := get_of (l := ls) (i := i) (by omega)
        have tl1 := tl2.same sm
        have hrow := tl1.row i r m hrr hm
        have iz : (0 : Int) + (i : Int) = (i : Int) := Int.zero_add _
        rw [iz]
        refine ⟨rfl, ?_⟩
        refine ⟨_, rfl, _, rfl, la, _, _, _, rfl, rfl, SqL.of tl1.at_, atI_nat (rf_get hrr), _, rfl, r, _, _, _, rfl, rfl, IL.sq hrow, atI_nat (iv_ent (by rw [(wfL m (List.mem_of_getElem? hm)).len]; omega)), rfl, _, rfl, ?_⟩
        have gm : L.getD i [] = m := getD_of hm
        have ns := nzs_succ (pl := pl) (i := i) (L := L)
        rw [gm] at ns
        rw [← decide_not]
        refine ite2 (fun c => ?_) (fun c => ?_)
        · have c1 : ent m pl ≠ 0 := fun z => of_decide_eq_true c (congrArg V.int z)
          rw [if_pos c1] at ns
          refine ⟨_, rfl, _, e, by rw [List.length_map]; exact small1000 (by have := nzs_len (pl := pl) (i := i) (L := L); omega), same_upd hD sm, ?_⟩
          rw [upd_same, ns, List.map_append]
          rfl
        · have c1 : ¬ ent m pl ≠ 0 := fun z => c (decide_eq_true fun e => z (V.int.inj e))
          rw [if_neg c1, List.append_nil] at ns
          exact ⟨sm, by rw [ns]; exact e⟩
      · obtain ⟨sm, e⟩ := hW
        rw [Int.toNat_natCast, lenL] at e
        refine ⟨fun σ' H2 => ∃ fa la fs ls y2 y6 y7 y8 y9 y10, σ' = [some (.int p), some (.ref a), y2, some (.ref la), some (.ref fa), some (.int (pl : Int)), y6, y7, y8, y9, y10] ∧ FormI H H2 fa la fs ls (runM p (invM p) M (pl + 1)).1 (runM p (invM p) M (pl + 1)).2, ?_, fun σ' H2 hW => ?_⟩
        · refine ⟨_, rfl, D, _, rfl, .inl (SqL.of e), _, _, rfl, rfl, _, rfl, ?_⟩
          rw [List.length_map]
          cases hnz : nzs pl L L.length with
          | nil =>
            refine ite2 (fun c2 => ?_) (fun c2 => ?_)
            · have := of_decide_eq_true c2
              simp at this
            · have est2 : runM p (invM p) M (pl + 1) = (Fm, L) := by
                rw [est]
                unfold stepM
                dsimp only
                rw [pick_nil hnz]
              rw [est2]
              exact ⟨fa, la, fs, ls, _, _, _, _, _, _, rfl, inv.same.trans sm, inv.tf.same sm, inv.tl.same sm, inv.nf, inv.nl, inv.ne, inv.fresh⟩
          | cons j t =>
            obtain ⟨hjl, hne, hpick⟩ := pick_cons hnz
            rw [hnz] at e
            refine ite2 (fun c2 => ?_) (fun c2 => absurd (decide_eq_true (by rw [List.length_cons]; omega)) c2)
            obtain ⟨m0, hm0⟩ := get_of hjl
            obtain ⟨r0, hr0⟩ := get_of (l := ls) (i := j) (by omega)
            have gm : L.getD j [] = m0 := getD_of hm0
            rw [gm] at hne
            have tl1 := tl2.same sm
            have hrow := tl1.row j r0 m0 hr0 hm0
            have wm0 := wfL m0 (List.mem_of_getElem? hm0)
            have est2 : runM p (invM p) M (pl + 1) = (clearM p pl (mulR p (invM p (ent m0 pl)) m0) Fm ++ [mulR p (invM p (ent m0 pl)) m0], clearM p pl (mulR p (invM p (ent m0 pl)) m0) (L.eraseIdx j)) := by
              rw [est]
              unfold stepM
              dsimp only
              rw [hpick]
              dsimp only
              rw [gm]
            rw [est2]
            dsimp only
            refine ⟨_, rfl, .inl ⟨rfl, _, SqL.of tl1.at_⟩, _, rfl, D, _, _, _, rfl, rfl, SqL.of e, atI_nat (j := 0) rfl, la, _, (j : Int), j, _, rfl, rfl, tl1.at_, by omega, by omega, seqIx (by rw [lenL]; exact hjl), rf_get hr0, ?_⟩
            have er := tl1.erase (j := j) (by omega)
            have hr0m : r0 ∈ ls := List.mem_of_getElem? hr0
            have cls : ∃ x xs, ls = x :: xs := by
              cases ls with
              | nil => simp at hr0m
              | cons x xs => exact ⟨x, xs, rfl⟩
            have neR : ∀ (r : Addr) (m : List Int), IL H1 r m → r ≠ la := fun r m h => by
              obtain ⟨x, xs, rfl⟩ := cls
              exact rf_ne tl1.at_ h
            have tf0 := inv.tf.same sm
            have sH1 : Same H (L2.upd H1 la (.lst ((rf ls).eraseIdx j))) := same_upd inv.nl (inv.same.trans sm)
            have tf1 : Tab (L2.upd H1 la (.lst ((rf ls).eraseIdx j))) fa fs Fm := tf0.upd inv.ne fun r hr => by
              obtain ⟨m, _, hm⟩ := IL.ref tf0 hr
              exact neR r m hm
            have row1 : IL (L2.upd H1 la (.lst ((rf ls).eraseIdx j))) r0 m0 := by
              show (L2.upd H1 la _) r0 = _
              rw [upd_ne (neR r0 m0 hrow)]
              exact hrow
            generalize L2.upd H1 la (.lst ((rf ls).eraseIdx j)) = H3 at *
            have em := wm0.ent (show pl < n by omega)
            obtain ⟨v1, v2, _⟩ := inv_ok hp (show 0 < ent m0 pl by omega) em.2
            -- back
            refine ⟨_, rfl, _, rfl, _, rfl, r0, _, _, _, rfl, rfl, IL.sq row1, atI_nat (iv_ent (by rw [wm0.len]; omega)), ⟨p, ent m0 pl, rfl, hp, by omega, em.2, fun H4 s4 => ?_⟩⟩
            have wrow : Wf p n (mulR p (invM p (ent m0 pl)) m0) := mulR_wf (by omega) wm0
            have row4 := s4 _ _ row1
            -- row
            refine ⟨_, rfl, r0, rfl, ⟨_, IL.sq row4⟩, fun D2 hD2 => lc_it (walk_list (K := K) (a := r0) (xs := iv m0)) (fun i H' => Mk H4 D2 (mulR p (invM p (ent m0 pl)) m0) i H') (Mk.start hD2) (fun i H' _ mk => (mk.same.seq (IL.sq row4))) (fun i x H5 H6 hi mk y => ?_) (fun H5 mk => ?_)⟩
            · obtain ⟨rfl, hx⟩ := y
              obtain ⟨z, hz, rfl⟩ := iv_inv hx
              refine ⟨rfl, ?_⟩
              refine t_yes ?_
              refine ⟨_, rfl, _, rfl, _, _, rfl, rfl, .inl ⟨by omega, by omega⟩, _, rfl, _, _, rfl, rfl, (by show 0 < p; omega), ?_⟩
              exact mk.step hD2 (Same.refl _) (by unfold mulR; rw [List.getElem?_map, hz]; rfl) (by rw [wrow.len]; omega)
            have i5 := mk.done (by unfold mulR; rw [List.length_map, List.length_map])
            have s35 := s4.trans mk.same
            generalize hrowe : mulR p (invM p (ent m0 pl)) m0 = row at *
            have lenE : (L.eraseIdx j).length ≤ L.length := List.length_eraseIdx_le _ _
            have te := er.same s35
            have tf5 := tf1.same s35
            have wE : Wfs p n (L.eraseIdx j) := fun m hm => wfL m (List.mem_of_mem_eraseIdx hm)
            have wF : Wfs p n Fm := R.low.wf
            -- left
            refine ⟨_, rfl, la, rfl, ⟨_, SqL.of te.at_⟩, fun la2 nla2 => ?_⟩
            refine lc_it (walk_list (K := K) (a := la) (xs := rf (ls.eraseIdx j))) (fun i H' => ∃ qs, Mt H5 la2 [] (clearM p pl row (L.eraseIdx j)) i H' qs) ⟨[], Mt.start nla2⟩ (fun i H' _ ⟨qs, m⟩ => (m.same.seq (SqL.of te.at_))) (fun i x H6 H7 hi ⟨qs, m⟩ y => ?_) (fun H6 ⟨ls2, m6⟩ => ?_)
            · obtain ⟨rfl, hx⟩ := y
              obtain ⟨r, hrr, rfl⟩ := rf_inv hx
              obtain ⟨mm, hm⟩ := get_of (l := L.eraseIdx j) (i := i) (by have := get_lt hrr; have := te.len; omega)
              have hrow := m.same _ _ (te.row i r mm hrr hm)
              have wmm := wE mm (List.mem_of_getElem? hm)
              have ee := wmm.ent (show pl < n by omega)
              refine ⟨rfl, ?_⟩
              refine t_yes ?_
              refine ⟨_, rfl, _, rfl, _, rfl, _, rfl, r, _, _, _, rfl, rfl, IL.sq hrow, atI_nat (iv_ent (by rw [wmm.len]; omega)), _, rfl, ⟨p, ent mm pl, n, r, D2, mm, row, rfl, by omega, by omega, by omega, ee.1, by omega, hrow, wmm, m.same _ _ i5, wrow, fun H8 q8 s8 n8 i8 => ?_⟩⟩
              obtain ⟨acc, e1, e2, e3⟩ := m.step nla2 (fun r hr => by simp at hr) s8 (clearM_get hm) i8 (.inr n8) (by rw [clearM_len]; omega)
              exact ⟨acc, e1, e2, _, e3⟩
            have tl6 := m6.tab (by rw [List.length_map, clearM_len]; exact te.len)
            have i6 := m6.same _ _ i5
            have tf6 := tf5.same m6.same
            -- found
            refine ⟨_, rfl, fa, rfl, ⟨_, SqL.of tf6.at_⟩, fun f2 nf2 => ?_⟩
            refine lc_it (walk_list (K := K) (a := fa) (xs := rf fs)) (fun i H' => ∃ qs, Mt H6 f2 [] (clearM p pl row Fm) i H' qs) ⟨[], Mt.start nf2⟩ (fun i H' _ ⟨qs, m⟩ => (m.same.seq (SqL.of tf6.at_))) (fun i x H7 H8 hi ⟨qs, m⟩ y => ?_) (fun H7 ⟨fs2, m7⟩ => ?_)
            · obtain ⟨rfl, hx⟩ := y
              obtain ⟨r, hrr, rfl⟩ := rf_inv hx
              obtain ⟨mm, hm⟩ := get_of (l := Fm) (i := i) (by have := get_lt hrr; have := tf6.len; omega)
              have hrow := m.same _ _ (tf6.row i r mm hrr hm)
              have wmm := wF mm (List.mem_of_getElem? hm)
              have ee := wmm.ent (show pl < n by omega)
              refine ⟨rfl, ?_⟩
              refine t_yes ?_
              refine ⟨_, rfl, _, rfl, _, rfl, _, rfl, r, _, _, _, rfl, rfl, IL.sq hrow, atI_nat (iv_ent (by rw [wmm.len]; omega)), _, rfl, ⟨p, ent mm pl, n, r, D2, mm, row, rfl, by omega, by omega, by omega, ee.1, by omega, hrow, wmm, m.same _ _ i6, wrow, fun H9 q9 s9 n9 i9 => ?_⟩⟩
              obtain ⟨acc, e1, e2, e3⟩ := m.step nf2 (fun r hr => by simp at hr) s9 (clearM_get hm) i9 (.inr n9) (by rw [clearM_len]; omega)
              exact ⟨acc, e1, e2, _, e3⟩
            have tf7 := m7.tab (by rw [List.length_map, clearM_len]; exact tf6.len)
            have i7 := m7.same _ _ i6
            have tl7 := tl6.same m7.same
            refine ⟨_, rfl, (by show 1 ≤ sizeLine; decide), fun l1 nl1 => ?_⟩
            have s8 : Same H7 (L2.upd H7 l1 (.lst [.ref D2])) := same_new nl1
            have tf8 := tf7.same s8
            have tl8 := tl7.same s8
            have i8 := s8 _ _ i7
            have lf : fs2.length = Fm.length := by rw [tf7.len, clearM_len]
            refine ⟨f2, l1, _, _, rfl, rfl, tf8.at_, upd_same, by rw [List.length_map, lf]; exact Nat.le_of_lt (small1000 (by simp; omega)), fun f3 nf3 => ?_⟩
            generalize L2.upd H7 l1 (.lst [.ref D2]) = H8 at *
            have sAll : Same H H8 := ((sH1.trans s35).trans m6.same).trans (m7.same.trans s8)
            refine ⟨f3, la2, fs2 ++ [D2], ls2, _, _, _, _, _, _, rfl, same_upd (same_none sAll nf3) sAll, ⟨?_, ?_, fun t r m hr hm => ?_⟩, tl8.same (same_new nf3), same_none sAll nf3, same_none (sH1.trans s35) nla2, fun e => ?_, fun r hr => ?_⟩
            · rw [upd_same]
              simp
            · rw [List.length_append, List.length_append, lf, clearM_len]
              rfl
            · have s9 : Same H8 (L2.upd H8 f3 (.lst (rf fs2 ++ [.ref D2]))) := same_new nf3
              by_cases ht : t < fs2.length
              · rw [List.getElem?_append_left ht] at hr
                rw [List.getElem?_append_left (by rw [clearM_len]; omega)] at hm
                exact s9 _ _ (tf8.row t r m hr hm)
              · have ht2 := get_lt hr
                rw [List.length_append, List.length_singleton] at ht2
                have et : t = fs2.length := by omega
                rw [List.getElem?_append_right (by omega), et, Nat.sub_self] at hr
                rw [List.getElem?_append_right (by rw [clearM_len]; omega), et, lf, clearM_len, Nat.sub_self] at hm
                cases Option.some.inj hr
                cases Option.some.inj hm
                exact s9 _ _ i8
            · rw [e, tl8.at_] at nf3
              cases nf3
            · rcases List.mem_append.mp hr with h | h
              · obtain ⟨t, ht⟩ := List.getElem?_of_mem h
                rcases m7.src t r ht with h2 | h2
                · simp at h2
                · exact same_none ((sH1.trans s35).trans m6.same) h2
              · rw [List.mem_singleton.mp h]
                exact same_none (sH1.trans s4) hD2
        · obtain ⟨fa, la, fs, ls, y2, y6, y7, y8, y9, y10, rfl, inv2⟩ := hW
          exact ⟨_, rfl, _, _, rfl, rfl, n - (pl + 1), by omega, fa, la, fs, ls, pl + 1, y2, y6, y7, y8, y9, y10, rfl, by omega, rfl, inv2⟩
    · have c' : ¬ (0 < L.length ∧ pl < n) := of_decide_eq_false (Bool.eq_false_iff.mpr c)
      have fin : lowM p (invM p) M = Fm := by
        rw [lowe]
        by_cases h0 : pl < n
        · have hL : L = [] := by
            cases L with
            | nil => rfl
            | cons x xs => exact absurd ⟨by rw [List.length_cons]; omega, h0⟩ c'
          have z := stop hL (n - pl)
          rw [show pl + (n - pl) = n by omega] at z
          rw [z]
        · have : pl = n := by omega
          rw [← this, hS]
      refine ⟨_, rfl, q H' fa fs inv.same inv.nf ?_ inv.fresh⟩
      rw [fin]
      exact inv.tf
end

/-! ### _law_whole -/
section
variable {P : Program} {w : World} {K : PySem.W.Frag} {mg : Str → Option Value} {base : Heap}
abbrev sWhole : Stmt := topS 17

theorem scWhole : FnScope ["_law_thing", "_law_end"] ["_law_thing", "_law_end"] (defScope sWhole) := ⟨rfl, rfl, rfl, by decide +kernel, rfl, by decide +kernel, by decide +kernel⟩

def spWhole : Sp := fun vs H Q _ => ∃ (x e : Int), vs = [.int x, .int e] ∧ 0 ≤ x ∧ x < e ∧ Q (.bl true) H

theorem ok_whole {f : Addr} {fd : FuncData} {k : Nat} (F : Fun K "_law_whole" "_law_whole" sWhole f fd) (mi : mg "isinstance" = none) (mn : mg "int" = none) (mb : mg "bool" = none) : FnOk P w K mg base CX0 (k + 1) f fd ["_law_thing", "_law_end"] spWhole := by
  refine F.ok scWhole (fun vs H Q E h => ?_) (fun cdv A outer s H vs Q E hr h => ?_)
  · obtain ⟨x, e, rfl, _⟩ := h
    rfl
  · obtain ⟨x, e, rfl, h0, h1, q⟩ := h
    refine ⟨_, pss_one (ps_ret (pe_and (pe_callB call_isi (by rfl) mi (by decide +kernel) (pa_cons (pv 0) (pa_cons (pe_bltn (v := .ty "int") (by rfl) mn (by decide +kernel) rfl) pa_nil)))
      (pe_and (pe_not (pe_callB call_isi (by rfl) mi (by decide +kernel) (pa_cons (pv 0) (pa_cons (pe_bltn (v := .ty "bool") (by rfl) mb (by decide +kernel) rfl) pa_nil))))
        (pe_one (pe_chain op_le op_lt pe_int (pv 0) (pv 1)))))), ?_⟩
    refine ⟨_, rfl, _, _, _, _, true, rfl, .ty "int", .base (.int x), kit_ty (by decide +kernel), true, rfl, iteT ?_⟩
    refine ⟨_, rfl, _, _, _, _, false, rfl, .ty "bool", .base (.int x), kit_ty (by decide +kernel), false, rfl, true, rfl, iteT ?_⟩
    refine ⟨_, rfl, _, _, rfl, rfl, true, congrArg V.bl (decide_eq_true h0), iteT ?_⟩
    refine ⟨_, rfl, _, _, rfl, rfl, ?_⟩
    show Q (.bl (decide (x < e))) H
    rw [decide_eq_true h1]
    exact q
end

/-! ### lead -/
section
variable {P : Program} {w : World} {K : PySem.W.Frag} {mg : Str → Option Value} {base : Heap}
abbrev sLead : Stmt := topS 3
theorem scLead : FnScope ["row", "place", "number"] ["row"] (defScope sLead) := ⟨rfl, rfl, rfl, by decide +kernel, rfl, by decide +kernel, by decide +kernel⟩
def spLead : Sp := fun vs H Q _ => ∃ (a : Addr) (m : Row) (l : Nat), vs = [.ref a] ∧ IL H a m ∧ l < m.length ∧ (∀ j, j < l → ent m j = 0) ∧ ent m l ≠ 0 ∧ ∀ H', Same H H' → Q (.int (l : Int)) H'
theorem ok_lead {f : Addr} {fd : FuncData} {k : Nat} (F : Fun K "lead" "lead" sLead f fd) (me : mg "enumerate" = none) : FnOk P w K mg base CX0 (k + 1) f fd ["row"] spLead := by
  refine F.ok scLead (fun vs H Q E h => ?_) (fun cdv A outer s H vs Q E hr h => ?_)
  · obtain ⟨a, m, l, rfl, _⟩ := h
    rfl
  · obtain ⟨a, m, l, rfl, hm, hl, hz, hn, q⟩ := h
    refine ⟨_, pss_cons (ps_for PassesOwn.never rfl (pi_enum (by rfl) me (pa_cons (pv 0) pa_nil)) (pg_tup rfl (pgs_cons (pg_name (i := 1) scLead.nd rfl (Or.inl rfl)) (pgs_cons (pg_name (i := 2) scLead.nd rfl (Or.inl rfl)) pgs_nil)))
        (pss_one (ps_if (pt_cmpR op_ne (pv 2) pe_int (nomark _)) (pss_one (ps_ret (pv 1))) pss_nil)))
      (pss_one (ps_ret pe_non)), ?_⟩
    refine ⟨_, rfl, a, _, rfl, IL.sq hm, ?_⟩
    refine for_it (walk_enum (K := K) (a := a) (xs := iv m)) (fun i σ H' => i ≤ l ∧ Same H H' ∧ ∃ y1 y2, σ = [some (.ref a), y1, y2]) ⟨Nat.zero_le _, Same.refl H, none, none, rfl⟩ (fun i σ H' _ h => h.2.1.seq (IL.sq hm)) (fun i x σ H1 H2 hi hW y => ?_) (fun σ H' hW => ?_)
    · obtain ⟨il, sm, y1, y2, rfl⟩ := hW
      obtain ⟨T, x1, x2, rfl, nT, rfl, g1, g2⟩ := y
      cases Option.some.inj g1
      obtain ⟨z, hzz, rfl⟩ := iv_inv g2
      have sT : Same H1 (L2.upd H1 T (.tup [.int (i : Int), .int z])) := same_new nT
      have hil : i < m.length := by rw [List.length_map] at hi; exact hi
      have ez : z = ent m i := by
        rw [ent_some hil] at hzz
        exact (Option.some.inj hzz).symm
      refine ⟨T, _, rfl, .inl (.inl upd_same), rfl, _, _, rfl, _, _, rfl, rfl, ?_⟩
      refine ⟨_, rfl, rfl, _, rfl, ?_⟩
      rw [← decide_not]
      refine ite2 (fun c => ?_) (fun c => ?_)
      · have c1 : z ≠ 0 := fun e => of_decide_eq_true c (congrArg V.int e)
        have e : i = l := by
          by_cases h : i < l
          · exact absurd (ez.trans (hz i h)) c1
          · omega
        rw [← e] at q
        exact ⟨_, rfl, q _ (sm.trans sT)⟩
      · have c1 : z = 0 := Classical.byContradiction fun e => c (decide_eq_true fun w => e (V.int.inj w))
        have ne : i ≠ l := fun e => hn (by rw [← e, ← ez, c1])
        exact ⟨by omega, sm.trans sT, _, _, rfl⟩
    · rw [List.length_map] at hW
      have := hW.1
      omega
end

/-! ### mixture -/
section
variable {P : Program} {w : World} {K : PySem.W.Frag} {mg : Str → Option Value} {base : Heap}
abbrev sMix : Stmt := topS 1
abbrev nMix : List Str := ["p", "shares", "rows", "length", "place", "share", "row"]
theorem scMix : FnScope nMix ["p", "shares", "rows", "length"] (defScope sMix) := ⟨rfl, rfl, rfl, by decide +kernel, rfl, by decide +kernel, by decide +kernel⟩
def spMix : Sp := fun vs H Q _ => ∃ (p : Int) (n : Nat) (a b : Addr) (cs : List Int) (rs : List Addr) (M : List Row), vs = [.int p, .ref a, .ref b, .int (n : Int)] ∧ 0 < p ∧ IL H a cs ∧ (∀ c ∈ cs, 0 ≤ c ∧ c < 1000) ∧ Tab H b rs M ∧ (∀ m ∈ M, m.length = n) ∧ cs.length = M.length ∧ M.length ≤ 1000 ∧ n ≤ 1000 ∧
  ∀ H' q, Same H H' → H q = none → IL H' q (mixM p cs M n) → Q (.ref q) H'
theorem ok_mix {f : Addr} {fd : FuncData} {k : Nat} (F : Fun K "mixture" "mixture" sMix f fd) (mr : mg "range" = none) (ms : mg "sum" = none) (mz : mg "zip" = none) : FnOk P w K mg base CX0 (k + 1) f fd ["p", "shares", "rows", "length"] spMix := by
  refine F.ok scMix (fun vs H Q E h => ?_) (fun cdv A outer s H vs Q E hr h => ?_)
  · obtain ⟨p, n, a, b, cs, rs, M, rfl, _⟩ := h
    rfl
  · obtain ⟨p, n, a, b, cs, rs, M, rfl, hp, hc, hcs, hT, hM, hl, hML, hn, q⟩ := h
    refine ⟨_, pss_one (ps_ret (pe_lc (own := [("place", 4)]) (g := gName 4) (tt := tYes) (by rfl) scMix.nd (pi_range1 rfl mr (pa_cons (pv 3) pa_nil)) (blkOk_by (own := [("place", 4)]) (N := nMix) (sc := defScope sMix) (by decide +kernel))
      (fun _ _ _ _ _ => pg_name (i := 4) scMix.nd rfl (Or.inr rfl)) (fun _ _ _ _ _ => pts_nil)
      (fun _ _ _ _ _ => pe_op op_mod (pe_callB (cSum K rfl rfl) (by rfl) ms (by decide +kernel) (pa_cons
        (pe_lc (own := [("share", 5), ("row", 6)]) (g := gTup K 2 (gCons (gName 5) (gCons (gName 6) gNil))) (tt := tYes) (by rfl) scMix.nd (piZ K rfl (by rfl) mz (pa_cons (pv 1) (pa_cons (pv 2) pa_nil))) (blkOk_by (own := [("share", 5), ("row", 6)]) (N := nMix) (sc := relS (lcScope (stE (stN (defBody sMix) 0))) (defScope sMix)) (by decide +kernel))
          (fun _ _ _ _ _ => pg_tup rfl (pgs_cons (pg_name (i := 5) scMix.nd rfl (Or.inl rfl)) (pgs_cons (pg_name (i := 6) scMix.nd rfl (Or.inl rfl)) pgs_nil))) (fun _ _ _ _ _ => pts_nil)
          (fun _ _ _ _ _ => pe_op op_mul (pv 5) (pe_ix (ixL K) (pv 6) (pv 4) (fun _ _ => rfl)))) pa_nil)) (pv 0)))), ?_⟩
    refine ⟨_, rfl, (n : Int), rfl, by omega, by omega, fun D hD => ?_⟩
    refine lc_range (lo := 0) (n := _) (fun i H' => Mk H D (mixM p cs M n) i H') (Mk.start hD) (fun i H1 hi mk => ?_) (fun H' mk => ?_)
    · rw [Int.toNat_natCast] at hi
      have iz : (0 : Int) + (i : Int) = (i : Int) := Int.zero_add _
      rw [iz]
      refine ⟨rfl, ?_⟩
      refine t_yes ?_
      have c1 := mk.same _ _ hc
      have t1 := hT.same mk.same
      refine ⟨_, rfl, _, rfl, a, b, _, _, rfl, IL.sq c1, SqL.of t1.at_, fun D2 hD2 => ?_⟩
      refine lc_it (walk_zip (K := K) (a := a) (b := b) (xs := iv cs) (ys := rf rs) (n := M.length) (by rw [List.length_map, List.length_map, hl, t1.len, Nat.min_self])) (fun j H' => Mk H1 D2 (List.zipWith (fun c r => c * ent r i) cs M) j H') (Mk.start hD2) (fun j H' _ mk2 => ⟨mk2.same.seq (IL.sq c1), mk2.same.seq (SqL.of t1.at_)⟩) (fun j x H3 H4 hj mk2 y => ?_) (fun H' mk2 => ?_)
      · obtain ⟨T, x1, x2, rfl, nT, rfl, g1, g2⟩ := y
        obtain ⟨z, hz, rfl⟩ := iv_inv g1
        obtain ⟨r, hrr, rfl⟩ := rf_inv g2
        obtain ⟨m, hm⟩ := get_of (l := M) (i := j) hj
        have hrow := mk2.same _ _ (t1.row j r m hrr hm)
        have sT : Same H3 (L2.upd H3 T (.tup [.int z, .ref r])) := same_new nT
        have zb := hcs z (List.mem_of_getElem? hz)
        refine ⟨T, _, rfl, .inl (.inl upd_same), rfl, _, _, rfl, _, _, rfl, rfl, rfl, ?_⟩
        refine t_yes ?_
        refine ⟨_, rfl, _, rfl, _, rfl, r, _, _, _, rfl, rfl, IL.sq (sT _ _ hrow), atI_nat (iv_ent (by rw [hM m (List.mem_of_getElem? hm)]; exact hi)), _, _, rfl, rfl, .inl ⟨by omega, by omega⟩, ?_⟩
        exact mk2.step hD2 sT (by rw [List.getElem?_zipWith, hz, hm]) (by rw [List.length_zipWith]; omega)
      · have fin := mk2.done (by rw [List.length_zipWith, hl, Nat.min_self])
        refine ⟨D2, _, rfl, IL.sq fin, ?_⟩
        rw [zip_sum]
        refine ⟨_, rfl, _, _, rfl, rfl, hp, ?_⟩
        exact mk.step hD mk2.same (mixM_get hi) (by rw [mixM_len]; exact hn)
    · exact q H' D mk.same hD (mk.done (by rw [mixM_len, Int.toNat_natCast]))
end

/-! ### shares -/
section
variable {P : Program} {w : World} {K : PySem.W.Frag} {mg : Str → Option Value} {base : Heap}
abbrev sShares : Stmt := topS 4
abbrev nShares : List Str := ["p", "form", "row", "told", "leading"]
theorem scShares : FnScope nShares ["p", "form", "row"] (defScope sShares) := ⟨rfl, rfl, rfl, by decide +kernel, rfl, by decide +kernel, by decide +kernel⟩
/-- a form and a row -/
structure FR (H : Hp) (p : Int) (n : Nat) (a b : Addr) (rs : List Addr) (F : List Row) (ls : List Nat) (m : Row) : Prop where
  hp : 2 ≤ p
  hp2 : p ≤ 11
  hn : n ≤ 100
  tab : Tab H a rs F
  low : Low p n F ls
  len : F.length ≤ 100
  row : IL H b m
  wf : Wf p n m
def spShares : Sp := fun vs H Q _ => ∃ (p : Int) (n : Nat) (a b : Addr) (rs : List Addr) (F : List Row) (ls : List Nat) (m : Row), vs = [.int p, .ref a, .ref b] ∧ FR H p n a b rs F ls m ∧
  (mixM p (shr ls m) F n = m → ∀ H' q, Same H H' → H q = none → IL H' q (shr ls m) → Q (.ref q) H') ∧ (mixM p (shr ls m) F n ≠ m → ∀ H', Same H H' → Q .non H')
theorem shr_get {ls : List Nat} {m : Row} {i l : Nat} (h : ls[i]? = some l) : (shr ls m)[i]? = some (ent m l) := by
  unfold shr
  rw [List.getElem?_map, h]
  rfl
theorem shr_len {p : Int} {n : Nat} {F : List Row} {ls : List Nat} (L : Low p n F ls) (m : Row) : (shr ls m).length = F.length := by
  unfold shr
  rw [List.length_map, L.dl.1]
theorem shr_rng {p : Int} {n : Nat} {F : List Row} {ls : List Nat} (L : Low p n F ls) {m : Row} (w : Wf p n m) : ∀ c ∈ shr ls m, 0 ≤ c ∧ c < p := fun c hc => by
  obtain ⟨l, hl, rfl⟩ := List.mem_map.mp hc
  exact w.ent (L.lt l hl)
theorem ok_shares {f fL fM : Addr} {fd fdL fdM : FuncData} {k : Nat} (F : Fun K "shares" "shares" sShares f fd)
    (GL : FnOk P w K mg base CX0 (k + 1) fL fdL ["row"] spLead) (bL : Binds K fdL ["row"] []) (kL : PySem.W.keepIn K (.ref fL) = true) (mL : mg "lead" = some (.ref fL))
    (GM : FnOk P w K mg base CX0 (k + 1) fM fdM ["p", "shares", "rows", "length"] spMix) (bM : Binds K fdM ["p", "shares", "rows", "length"] []) (kM : PySem.W.keepIn K (.ref fM) = true) (mM : mg "mixture" = some (.ref fM))
    (ml : mg "len" = none) : FnOk P w K mg base CX0 (k + 2) f fd ["p", "form", "row"] spShares := by
  refine F.ok scShares (fun vs H Q E h => ?_) (fun cdv A outer s H vs Q E hr h => ?_)
  · obtain ⟨p, n, a, b, rs, F, ls, m, rfl, _⟩ := h
    rfl
  · obtain ⟨p, n, a, b, rs, F, ls, m, rfl, I, q1, q2⟩ := h
    obtain ⟨hp, hp2, hn, tab, L, len, hm, wm⟩ := I
    refine ⟨_, pss_cons (ps_setLc (i := 3) (own := [("leading", 4)]) (g := gName 4) (tt := tYes) (by rfl) scShares.nd rfl rfl (sw_true rfl rfl rfl (by decide +kernel)) (pi_list (pv 1)) (blkOk_by (own := [("leading", 4)]) (N := nShares) (sc := defScope sShares) (by decide +kernel))
        (fun _ _ _ _ _ => pg_name (i := 4) scShares.nd rfl (Or.inl rfl)) (fun _ _ _ _ _ => pts_nil) (fun _ _ _ _ _ => pe_ix (ixL K) (pv 2) (pe_call GL hr (by rfl) mL kL bL .nil pass0 (pa_cons (pv 4) pa_nil)) (fun _ _ => rfl)))
      (pss_cons (ps_if (pt_cmpR (op_neD hr.units) (pe_call GM hr (by rfl) mM kM bM .nil pass0 (pa_cons (pv 0) (pa_cons (pv 3) (pa_cons (pv 1) (pa_cons (pe_callB call_len_seq (by rfl) ml PySem.boot_len (pa_cons (pv 2) pa_nil)) pa_nil))))) (pv 2) (nomark _)) (pss_one (ps_ret pe_non)) pss_nil)
      (pss_one (ps_ret (pv 3)))), ?_⟩
    refine ⟨_, rfl, a, rfl, ⟨_, SqL.of tab.at_⟩, fun D hD => ?_⟩
    refine lc_it (walk_list (K := K) (a := a) (xs := rf rs)) (fun i H' => Mk H D (shr ls m) i H') (Mk.start hD) (fun i H' _ mk => mk.same.seq (SqL.of tab.at_)) (fun i x H1 H2 hi mk y => ?_) (fun H1 mk => ?_)
    · obtain ⟨rfl, hx⟩ := y
      obtain ⟨r, hrr, rfl⟩ := rf_inv hx
      obtain ⟨mm, hmm⟩ := get_of (l := F) (i := i) (by have := get_lt hrr; have := tab.len; omega)
      have hrow := mk.same _ _ (tab.row i r mm hrr hmm)
      obtain ⟨l, hl, ln, lz, l1⟩ := low_ne L hmm
      have wmm := L.wf mm (List.mem_of_getElem? hmm)
      refine ⟨rfl, ?_⟩
      refine t_yes ?_
      refine ⟨_, rfl, _, rfl, ⟨r, mm, l, rfl, hrow, by rw [wmm.len]; exact ln, lz, by rw [l1]; decide, fun H3 s3 => ?_⟩⟩
      refine ⟨b, _, _, _, rfl, rfl, IL.sq (s3 _ _ (mk.same _ _ hm)), atI_nat (iv_ent (by rw [wm.len]; exact ln)), ?_⟩
      exact mk.step hD s3 (shr_get hl) (by rw [shr_len L]; omega)
    · have told := mk.done (by rw [List.length_map, tab.len, shr_len L])
      have row1 := mk.same _ _ hm
      refine ⟨_, rfl, _, rfl, _, rfl, _, rfl, b, _, rfl, .inl (IL.sq row1), ⟨p, n, D, a, shr ls m, rs, F, by rw [List.length_map, wm.len]; rfl, by omega, told, fun c hc => (by have := shr_rng L wm c hc; omega), tab.same mk.same, fun r hr => (L.wf r hr).len, shr_len L m, by omega, by omega, fun H3 d3 s3 n3 i3 => ?_⟩⟩
      have row3 : IL H3 b m := s3 _ _ row1
      refine ⟨_, rfl, _, _, i3.dp, row3.dp, dRow_shaped _, dRow_shaped _, _, rfl, ?_⟩
      rw [dRow_eqv]
      by_cases h : mixM p (shr ls m) F n = m
      · rw [decide_eq_true h]
        exact iteF ⟨_, rfl, q1 h H3 D (mk.same.trans s3) hD (s3 _ _ told)⟩
      · rw [decide_eq_false h]
        exact iteT (q2 h H3 (mk.same.trans s3))
end

/-! ### has -/
section
variable {P : Program} {w : World} {K : PySem.W.Frag} {mg : Str → Option Value} {base : Heap}
abbrev sHas : Stmt := topS 5
theorem scHas : FnScope ["p", "form", "row"] ["p", "form", "row"] (defScope sHas) := ⟨rfl, rfl, rfl, by decide +kernel, rfl, by decide +kernel, by decide +kernel⟩
def spHas : Sp := fun vs H Q _ => ∃ (p : Int) (n : Nat) (a b : Addr) (rs : List Addr) (F : List Row) (ls : List Nat) (m : Row), vs = [.int p, .ref a, .ref b] ∧ FR H p n a b rs F ls m ∧ ∀ H', Same H H' → Q (.bl (decide (mixM p (shr ls m) F n = m))) H'
theorem ok_has {f fS : Addr} {fd fdS : FuncData} {k : Nat} (F : Fun K "has" "has" sHas f fd)
    (GS : FnOk P w K mg base CX0 (k + 2) fS fdS ["p", "form", "row"] spShares) (bS : Binds K fdS ["p", "form", "row"] []) (kS : PySem.W.keepIn K (.ref fS) = true) (mS : mg "shares" = some (.ref fS)) : FnOk P w K mg base CX0 (k + 3) f fd ["p", "form", "row"] spHas := by
  refine F.ok scHas (fun vs H Q E h => ?_) (fun cdv A outer s H vs Q E hr h => ?_)
  · obtain ⟨p, n, a, b, rs, F, ls, m, rfl, _⟩ := h
    rfl
  · obtain ⟨p, n, a, b, rs, F, ls, m, rfl, I, q⟩ := h
    refine ⟨_, pss_one (ps_ret (pe_cmpR op_notN (pe_call GS hr (by rfl) mS kS bS .nil pass0 (pa_cons (pv 0) (pa_cons (pv 1) (pa_cons (pv 2) pa_nil)))) pe_non (nomark _))), ?_⟩
    refine ⟨_, rfl, _, rfl, _, rfl, ⟨p, n, a, b, rs, F, ls, m, rfl, I, fun h H' d sm _ _ => ⟨rfl, ?_⟩, fun h H' sm => ⟨rfl, ?_⟩⟩⟩
    · have z := q H' sm
      rw [decide_eq_true h] at z
      exact z
    · have z := q H' sm
      rw [decide_eq_false h] at z
      exact z
end

/-! ### _law_in -/
section
variable {P : Program} {w : World} {K : PySem.W.Frag} {mg : Str → Option Value} {base : Heap}
abbrev sIn : Stmt := topS 16
abbrev nIn : List Str := ["_law_p", "_law_form_here", "_law_row", "_law_other"]
theorem scIn : FnScope nIn ["_law_p", "_law_form_here", "_law_row"] (defScope sIn) := ⟨rfl, rfl, rfl, by decide +kernel, rfl, by decide +kernel, by decide +kernel⟩
/-- a form and a row, once more -/
structure FQ (H : Hp) (p : Int) (n : Nat) (a b : Addr) (rs : List Addr) (F : List Row) (ls : List Nat) (m : Row) : Prop where
  hp : 2 ≤ p
  hp2 : p ≤ 11
  hn : n ≤ 100
  tab : Tab H a rs F
  low : Low p n F ls
  row : IL H b m
  wf : Wf p n m
def spIn : Sp := fun vs H Q _ => ∃ (p : Int) (n : Nat) (a b : Addr) (rs : List Addr) (F : List Row) (ls : List Nat) (m : Row), vs = [.int p, .ref a, .ref b] ∧ FQ H p n a b rs F ls m ∧ ∀ H', Same H H' → Q (.bl (decide (mixM p (shr ls m) F n = m))) H'
theorem all_flat (m : List Int) : (iv m).all flatV = true := List.all_eq_true.mpr fun v hv => by
  obtain ⟨x, _, rfl⟩ := List.mem_map.mp hv
  rfl
theorem ok_in {f fL : Addr} {fd fdL : FuncData} {k : Nat} (F : Fun K "_law_in" "_law_in" sIn f fd)
    (GL : FnOk P w K mg base CX0 (k + 1) fL fdL ["_law_p", "_law_row", "_law_rest", "_law_other"] spLess) (bL : Binds K fdL ["_law_p", "_law_row", "_law_rest", "_law_other"] []) (kL : PySem.W.keepIn K (.ref fL) = true) (mL : mg "_law_less" = some (.ref fL))
    (ma : mg "any" = none) : FnOk P w K mg base CX0 (k + 2) f fd ["_law_p", "_law_form_here", "_law_row"] spIn := by
  refine F.ok scIn (fun vs H Q E h => ?_) (fun cdv A outer s H vs Q E hr h => ?_)
  · obtain ⟨p, n, a, b, rs, F, ls, m, rfl, _⟩ := h
    rfl
  · obtain ⟨p, n, a, b, rs, F, ls, m, rfl, I, q⟩ := h
    obtain ⟨hp, hp2, hn, tab, L, hm, wm⟩ := I
    refine ⟨_, pss_cons (ps_for PassesOwn.never rfl (pi_list (pv 1)) (pg_name (i := 3) scIn.nd rfl (Or.inl rfl))
        (pss_one (ps_set (i := 2) scIn.nd rfl (.inl rfl) (pe_call GL hr (by rfl) mL kL bL .nil pass0 (pa_cons (pv 0) (pa_cons (pv 2) (pa_cons (pe_ix ix_list (pv 2) (pe_bm PySem.F.plainAttrs_list PySem.F.slot_list_index PySem.F.type_list_index mt_index (pv 3) (pa_cons pe_int pa_nil)) (fun _ _ => rfl)) (pa_cons (pv 3) pa_nil))))))))
      (pss_one (ps_ret (pe_not (pe_callB (cAnyI rfl) (by rfl) ma (by decide +kernel) (pa_cons (pv 2) pa_nil))))), ?_⟩
    refine ⟨_, rfl, a, rfl, ⟨_, SqL.of tab.at_⟩, for_list (K := K) (a := a) (xs := rf rs) (fun i σ H' => ∃ c mi y3, σ = [some (.int p), some (.ref a), some (.ref c), y3] ∧ Same H H' ∧ IL H' c mi ∧ Wf p n mi ∧ redR p (F.drop i) (ls.drop i) mi = redR p F ls m) ⟨b, m, none, rfl, Same.refl H, hm, wm, rfl⟩ (fun i σ H' _ hW => ?_) (fun i x σ H' hx hW => ?_) (fun σ H' hW => ?_)⟩
    · obtain ⟨_, _, _, _, sm, _⟩ := hW
      exact sm.seq (SqL.of tab.at_)
    · obtain ⟨c, mi, y3, rfl, sm, ci, wi, e⟩ := hW
      obtain ⟨r, hrr, rfl⟩ := rf_inv hx
      obtain ⟨mm, hmm⟩ := get_of (l := F) (i := i) (by have := get_lt hrr; have := tab.len; omega)
      have hrow := sm _ _ (tab.row i r mm hrr hmm)
      obtain ⟨l, hl, ln, lz, l1⟩ := low_ne L hmm
      have wmm := L.wf mm (List.mem_of_getElem? hmm)
      have en := wi.ent ln
      refine ⟨_, rfl, _, rfl, _, rfl, _, rfl, .inl ⟨rfl, _, IL.sq hrow⟩, r, _, .int 1, l, .int (ent mm l), rfl, rfl, IL.sq hrow, rfl, all_flat mm, iv_ent (by rw [wmm.len]; exact ln), by rw [l1]; rfl, fun j z' hj hz' => ?_, ?_⟩
      · obtain ⟨x, hx', rfl⟩ := iv_inv hz'
        have jl : j < mm.length := by rw [wmm.len]; omega
        rw [ent_some jl] at hx'
        rw [← Option.some.inj hx', lz j hj]
        rfl
      · refine ⟨c, _, _, _, rfl, rfl, IL.sq ci, atI_nat (iv_ent (by rw [wi.len]; exact ln)), _, rfl, ⟨p, ent mi l, n, c, r, mi, mm, rfl, by omega, hp2, by omega, en.1, by omega, ci, wi, hrow, wmm, fun H2 d2 s2 n2 i2 => ?_⟩⟩
        refine ⟨d2, _, _, rfl, sm.trans s2, i2, lessR_wf (by omega) wi wmm, ?_⟩
        rw [List.drop_eq_getElem_cons (get_lt hmm), List.drop_eq_getElem_cons (get_lt hl)] at e
        rw [← e, show F[i]'(get_lt hmm) = mm from Option.some.inj ((List.getElem?_eq_getElem (get_lt hmm)).symm.trans hmm), show ls[i]'(get_lt hl) = l from Option.some.inj ((List.getElem?_eq_getElem (get_lt hl)).symm.trans hl)]
        rfl
    · obtain ⟨c, mi, y3, rfl, sm, ci, wi, e⟩ := hW
      rw [List.length_map, tab.len, List.drop_eq_nil_of_le (Nat.le_refl _), redR_nil] at e
      refine ⟨_, rfl, c, mi, rfl, ci, _, rfl, ?_⟩
      rw [e, left_iff hp L wm, Bool.not_not]
      exact q H' sm
end

/-! ### _law_mixture -/
section
variable {P : Program} {w : World} {K : PySem.W.Frag} {mg : Str → Option Value} {base : Heap}
abbrev sMixL : Stmt := topS 18
abbrev nMixL : List Str := ["_law_p", "_law_length", "_law_numbers", "_law_rows_here", "_law_found", "_law_number", "_law_row", "_law_a", "_law_b"]
theorem scMixL : FnScope nMixL ["_law_p", "_law_length", "_law_numbers", "_law_rows_here"] (defScope sMixL) := ⟨rfl, rfl, rfl, by decide +kernel, rfl, by decide +kernel, by decide +kernel⟩
def spMixL : Sp := fun vs H Q _ => ∃ (p : Int) (n : Nat) (a b : Addr) (cs : List Int) (rs : List Addr) (M : List Row), vs = [.int p, .int (n : Int), .ref a, .ref b] ∧ 0 < p ∧ IL H a cs ∧ (∀ c ∈ cs, 0 ≤ c ∧ c < 1000) ∧ Tab H b rs M ∧ Wfs p n M ∧ cs.length = M.length ∧ M.length ≤ 1000 ∧ n ≤ 1000 ∧
  ∀ H' q, Same H H' → H q = none → IL H' q (mixM p cs M n) → Q (.ref q) H'
theorem ok_mixL {f : Addr} {fd : FuncData} {k : Nat} (F : Fun K "_law_mixture" "_law_mixture" sMixL f fd) (mz : mg "zip" = none) : FnOk P w K mg base CX0 (k + 1) f fd ["_law_p", "_law_length", "_law_numbers", "_law_rows_here"] spMixL := by
  refine F.ok scMixL (fun vs H Q E h => ?_) (fun cdv A outer s H vs Q E hr h => ?_)
  · obtain ⟨p, n, a, b, cs, rs, M, rfl, _⟩ := h
    rfl
  · obtain ⟨p, n, a, b, cs, rs, M, rfl, hp, hc, hcs, hT, hM, hl, hML, hn, q⟩ := h
    refine ⟨_, pss_cons (ps_set (i := 4) scMixL.nd rfl (.inl rfl) (pe_op op_rep (pe_lst (pa_cons pe_int pa_nil)) (pv 1)))
      (pss_cons (ps_for PassesOwn.never rfl (pi_zip (by rfl) mz (pa_cons (pv 2) (pa_cons (pv 3) pa_nil))) (pg_tup rfl (pgs_cons (pg_name (i := 5) scMixL.nd rfl (Or.inr rfl)) (pgs_cons (pg_name (i := 6) scMixL.nd rfl (Or.inl rfl)) pgs_nil)))
        (pss_one (ps_setLc (i := 4) (own := [("_law_a", 7), ("_law_b", 8)]) (g := gTup K 2 (gCons (gName 7) (gCons (gName 8) gNil))) (tt := tYes) (by rfl) scMixL.nd rfl rfl (sw_true rfl rfl rfl (by decide +kernel)) (pi_zip (by rfl) mz (pa_cons (pv 4) (pa_cons (pv 6) pa_nil))) (blkOk_by (own := [("_law_a", 7), ("_law_b", 8)]) (N := nMixL) (sc := defScope sMixL) (by decide +kernel))
          (fun _ _ _ _ _ => pg_tup rfl (pgs_cons (pg_name (i := 7) scMixL.nd rfl (Or.inl rfl)) (pgs_cons (pg_name (i := 8) scMixL.nd rfl (Or.inl rfl)) pgs_nil))) (fun _ _ _ _ _ => pts_nil)
          (fun _ _ _ _ _ => pe_op op_mod (pe_op op_add (pv 7) (pe_op op_mul (pv 5) (pv 8))) (pv 0)))))
      (pss_one (ps_ret (pv 4)))), ?_⟩
    refine ⟨(by show 1 ≤ sizeLine; decide), fun l nl => ?_⟩
    refine ⟨_, rfl, l, (n : Int), _, rfl, rfl, upd_same, by omega, by omega, ?_, fun z nz => ?_⟩
    · rw [Int.toNat_natCast, List.length_singleton, Nat.one_mul]
      exact Nat.le_of_lt (small1000 hn)
    have s1 : Same H (L2.upd H l (.lst [.int 0])) := same_new nl
    have s2 : Same H (L2.upd (L2.upd H l (.lst [.int 0])) z (.lst (List.replicate (n : Int).toNat [V.int 0]).flatten)) := s1.trans (same_new nz)
    have zz : IL (L2.upd (L2.upd H l (.lst [.int 0])) z (.lst (List.replicate (n : Int).toNat [V.int 0]).flatten)) z (zeros n) := by
      show (L2.upd _ z _) z = _
      rw [upd_same, rep_zeros]
    have nz0 : H z = none := same_none s1 nz
    generalize L2.upd (L2.upd H l (.lst [.int 0])) z (.lst (List.replicate (n : Int).toNat [V.int 0]).flatten) = H1 at *
    refine ⟨_, rfl, _, rfl, a, b, _, _, rfl, IL.sq (s2 _ _ hc), SqL.of (hT.same s2).at_, ?_⟩
    refine for_it (walk_zip (K := K) (a := a) (b := b) (xs := iv cs) (ys := rf rs) (n := M.length) (by rw [List.length_map, List.length_map, hl, hT.len, Nat.min_self])) (fun i σ H' => ∃ c acc y5 y6 y7 y8, σ = [some (.int p), some (.int (n : Int)), some (.ref a), some (.ref b), some (.ref c), y5, y6, y7, y8] ∧ Same H H' ∧ H c = none ∧ IL H' c acc ∧ Wf p n acc ∧ accM p acc (cs.drop i) (M.drop i) = accM p (zeros n) cs M)
      ⟨z, zeros n, none, none, none, none, rfl, s2, nz0, zz, zeros_wf hp, rfl⟩ (fun i σ H' _ h => ?_) (fun i x σ H2 H3 hi hW y => ?_) (fun σ H' hW => ?_)
    · obtain ⟨_, _, _, _, _, _, _, sm, _⟩ := h
      exact ⟨IL.sq (sm _ _ hc), SqL.of (hT.same sm).at_⟩
    · obtain ⟨c, acc, y5, y6, y7, y8, rfl, sm, nc, ci, wi, e⟩ := hW
      obtain ⟨T, x1, x2, rfl, nT, rfl, g1, g2⟩ := y
      obtain ⟨t, ht, rfl⟩ := iv_inv g1
      obtain ⟨r, hrr, rfl⟩ := rf_inv g2
      obtain ⟨m, hm⟩ := get_of (l := M) (i := i) hi
      have sT : Same H2 (L2.upd H2 T (.tup [.int t, .ref r])) := same_new nT
      have hrow := sT _ _ (sm _ _ (hT.row i r m hrr hm))
      have ci2 := sT _ _ ci
      have tb := hcs t (List.mem_of_getElem? ht)
      have wm := hM m (List.mem_of_getElem? hm)
      have sm2 := sm.trans sT
      refine ⟨T, _, rfl, .inl (.inl upd_same), rfl, _, _, rfl, _, _, rfl, rfl, ?_⟩
      generalize L2.upd H2 T (.tup [.int t, .ref r]) = H4 at *
      have hrow : IL H4 r m := hrow
      have ci2 : IL H4 c acc := ci2
      have wmix := mixR_wf (c := t) hp wi wm
      refine ⟨_, rfl, _, rfl, c, r, _, _, rfl, IL.sq ci2, IL.sq hrow, fun D hD => ?_⟩
      refine lc_it (walk_zip (K := K) (a := c) (b := r) (xs := iv acc) (ys := iv m) (n := n) (by rw [List.length_map, List.length_map, wi.len, wm.len, Nat.min_self])) (fun j H6 => Mk H4 D (mixR p t acc m) j H6) (Mk.start hD) (fun j H6 _ mk => ⟨mk.same.seq (IL.sq ci2), mk.same.seq (IL.sq hrow)⟩) (fun j x H6 H7 hj mk y => ?_) (fun H6 mk => ?_)
      · obtain ⟨T2, x1, x2, rfl, nT2, rfl, g1, g2⟩ := y
        obtain ⟨z1, hz1, rfl⟩ := iv_inv g1
        obtain ⟨z2, hz2, rfl⟩ := iv_inv g2
        refine ⟨T2, _, rfl, .inl (.inl upd_same), rfl, _, _, rfl, _, _, rfl, rfl, rfl, ?_⟩
        refine t_yes ?_
        refine ⟨_, rfl, _, rfl, _, rfl, _, _, rfl, rfl, .inl ⟨by omega, by omega⟩, _, _, rfl, rfl, _, rfl, _, _, rfl, rfl, hp, ?_⟩
        exact mk.step hD (same_new nT2) (mixR_get hz1 hz2) (by rw [wmix.len]; omega)
      · refine ⟨D, _, _, _, _, _, rfl, sm2.trans mk.same, same_none sm2 hD, mk.done (by rw [wmix.len]), wmix, ?_⟩
        rw [List.drop_eq_getElem_cons (get_lt hm), List.drop_eq_getElem_cons (get_lt ht)] at e
        rw [← e, show M[i]'(get_lt hm) = m from Option.some.inj ((List.getElem?_eq_getElem (get_lt hm)).symm.trans hm), show cs[i]'(get_lt ht) = t from Option.some.inj ((List.getElem?_eq_getElem (get_lt ht)).symm.trans ht)]
        rfl
    · obtain ⟨c, acc, y5, y6, y7, y8, rfl, sm, nc, ci, wi, e⟩ := hW
      rw [List.drop_eq_nil_of_le (Nat.le_refl _), accM_nil, accM_is hp hM] at e
      rw [e] at ci
      exact ⟨_, rfl, q H' c sm nc ci⟩
end

/-! ### _law_asked -/
section
variable {P : Program} {w : World} {K : PySem.W.Frag} {mg : Str → Option Value} {base : Heap}
abbrev sAsked : Stmt := topS 19
abbrev nAsked : List Str := ["_law_p", "_law_length", "_law_form_here", "_law_bag_here", "_law_numbers", "_law_row", "_law_one", "_law_other", "_law_at"]
theorem scAsked : FnScope nAsked ["_law_p", "_law_length", "_law_form_here", "_law_bag_here"] (defScope sAsked) := ⟨rfl, rfl, rfl, by decide +kernel, rfl, by decide +kernel, by decide +kernel⟩
def spAsked : Sp := fun vs H Q _ => ∃ (p : Int) (n : Nat) (a b : Addr) (c : Nat) (rs : List Addr) (M : List Row), vs = [.int p, .int (n : Int), .ref a, .ref b] ∧ 0 < p ∧ p ≤ 11 ∧ 0 < n ∧ n ≤ 100 ∧ Tab H a rs M ∧ a ≠ b ∧ (∀ r ∈ rs, r ≠ b) ∧ Wfs p n M ∧ M.length ≤ 100 ∧ Bg H b c ∧ c < 2 ^ 20 ∧
  ∀ H' q qs N, Off b H H' → Tab H' q qs N → Wfs p n N → Q (.ref q) H'
theorem ok_asked {f fT fM fS : Addr} {fd fdT fdM fdS : FuncData} {k : Nat} (F : Fun K "_law_asked" "_law_asked" sAsked f fd)
    (GT : FnOk P w K mg base CX0 (k + 2) fT fdT ["_law_bag_here", "_law_many"] spTake) (bT : Binds K fdT ["_law_bag_here", "_law_many"] []) (kT : PySem.W.keepIn K (.ref fT) = true) (mT : mg "_law_take" = some (.ref fT))
    (GM : FnOk P w K mg base CX0 (k + 2) fM fdM ["_law_p", "_law_length", "_law_numbers", "_law_rows_here"] spMixL) (bM : Binds K fdM ["_law_p", "_law_length", "_law_numbers", "_law_rows_here"] []) (kM : PySem.W.keepIn K (.ref fM) = true) (mM : mg "_law_mixture" = some (.ref fM))
    (GS : FnOk P w K mg base CX0 (k + 2) fS fdS ["_law_p", "_law_length", "_law_bag_here"] spSparse) (bS : Binds K fdS ["_law_p", "_law_length", "_law_bag_here"] []) (kS : PySem.W.keepIn K (.ref fS) = true) (mS : mg "_law_sparse" = some (.ref fS))
    (mt : mg "list" = none) : FnOk P w K mg base CX0 (k + 3) f fd ["_law_p", "_law_length", "_law_form_here", "_law_bag_here"] spAsked := by
  refine F.ok scAsked (fun vs H Q E h => ?_) (fun cdv A outer s H vs Q E hr h => ?_)
  · obtain ⟨p, n, a, b, c, rs, M, rfl, _⟩ := h
    rfl
  · obtain ⟨p, n, a, b, c, rs, M, rfl, hp, hp2, hn0, hn, hT, nab, nrb, hM, hML, hb, hc, q⟩ := h
    refine ⟨_, pss_cons (ps_set (i := 4) scAsked.nd rfl (.inl rfl) (pe_lst pa_nil))
      (pss_cons (ps_for PassesOwn.never rfl (pi_list (pv 2)) (pg_name (i := 5) scAsked.nd rfl (Or.inl rfl))
        (pss_one (ps_expr (pe_bm PySem.F.plainAttrs_list PySem.F.slot_list_append PySem.F.type_list_append mt_append (pv 4) (pa_cons (pe_call GT hr (by rfl) mT kT bT .nil pass0 (pa_cons (pv 3) (pa_cons (pv 0) pa_nil))) pa_nil)))))
      (pss_cons (ps_set (i := 6) scAsked.nd rfl (.inl rfl) (pe_call GM hr (by rfl) mM kM bM .nil pass0 (pa_cons (pv 0) (pa_cons (pv 1) (pa_cons (pv 4) (pa_cons (pv 2) pa_nil))))))
      (pss_cons (ps_set (i := 7) scAsked.nd rfl (.inl rfl) (pe_callTy call_list_of (by rfl) mt (by decide +kernel) (pa_cons (pv 6) pa_nil)))
      (pss_cons (ps_set (i := 8) scAsked.nd rfl (.inl rfl) (pe_call GT hr (by rfl) mT kT bT .nil pass0 (pa_cons (pv 3) (pa_cons (pv 1) pa_nil))))
      (pss_cons (ps_asg (pe_call GT hr (by rfl) mT kT bT .nil pass0 (pa_cons (pv 3) (pa_cons (pv 0) pa_nil))) (pg_sub (pv 7) (pv 8) set_list (fun _ => rfl)))
      (pss_one (ps_ret (pe_lst (pa_cons (pv 6) (pa_cons (pv 7) (pa_cons (pe_call GS hr (by rfl) mS kS bS .nil pass0 (pa_cons (pv 0) (pa_cons (pv 1) (pa_cons (pv 3) pa_nil)))) (pa_cons (pe_op op_rep (pe_lst (pa_cons pe_int pa_nil)) (pv 1)) pa_nil)))))))))))), ?_⟩
    refine ⟨Nat.zero_le _, fun l nl => ?_⟩
    have nb := hb.ne nl
    have s0 : Same H (L2.upd H l (.lst [])) := same_new nl
    refine ⟨_, rfl, a, rfl, ⟨_, SqL.of (hT.same s0).at_⟩, for_list (K := K) (a := a) (xs := rf rs) (fun i σ H' => ∃ cs y5, σ = [some (.int p), some (.int (n : Int)), some (.ref a), some (.ref b), some (.ref l), y5, none, none, none] ∧ Off b H H' ∧ IL H' l cs ∧ cs.length = i ∧ (∀ x ∈ cs, 0 ≤ x ∧ x < p) ∧ Bg H' b (c + i)) ⟨[], none, rfl, Off.of s0, upd_same, rfl, fun x hx => by simp at hx, hb.same (upd_ne nb.symm)⟩ (fun i σ H' _ hW => ?_) (fun i x σ H' hx hW => ?_) (fun σ H' hW => ?_)⟩
    · obtain ⟨_, _, _, off, _⟩ := hW
      exact SqL.of (hT.off off nab nrb).at_
    · obtain ⟨cs, y5, rfl, off, il, lc, rc, bag⟩ := hW
      have hi := get_lt hx
      rw [List.length_map, hT.len] at hi
      refine ⟨_, rfl, .inl ⟨rfl, _, IL.sq il⟩, _, rfl, _, rfl, ⟨b, p, _, rfl, hp, by omega, bag, by omega, fun d H2 d0 d1 off2 _ bag2 => ?_⟩⟩
      have il2 : IL H2 l cs := off2 _ _ nb il
      refine ⟨l, _, _, rfl, rfl, il2, by rw [List.length_map]; exact small1000 (by omega), ?_⟩
      refine ⟨cs ++ [d], _, rfl, (off.trans off2).new nl, ?_, by rw [List.length_append, lc]; rfl, fun x hx => ?_, ?_⟩
      · show (L2.upd H2 l _) l = _
        rw [upd_same]
        simp
      · rcases List.mem_append.mp hx with h | h
        · exact rc x h
        · rw [List.mem_singleton.mp h]
          exact ⟨d0, d1⟩
      · rw [← Nat.add_assoc]
        exact bag2.same (upd_ne nb.symm)
    · obtain ⟨cs, y5, rfl, off, il, lc, rc, bag⟩ := hW
      rw [List.length_map, hT.len] at lc bag
      have T1 := hT.off off nab nrb
      refine ⟨_, rfl, _, rfl, _, rfl, _, rfl, ⟨p, n, l, a, cs, rs, M, rfl, hp, il, fun x hx => (by have := rc x hx; omega), T1, hM, lc, by omega, by omega, fun H2 q1 s2 n2 i2 => ?_⟩⟩
      have w1 : Wf p n (mixM p cs M n) := mixM_wf hp
      generalize mixM p cs M n = m1 at *
      refine ⟨_, rfl, q1, _, rfl, .inl (IL.sq i2), fun o no => ?_⟩
      have s3 : Same H2 (L2.upd H2 o (.lst (iv m1))) := same_new no
      have io : IL (L2.upd H2 o (.lst (iv m1))) o m1 := upd_same
      have i3 : IL _ q1 m1 := s3 _ _ i2
      have bag3 : Bg (L2.upd H2 o (.lst (iv m1))) b (c + M.length) := by
        obtain ⟨x, y, h1, h2⟩ := bag
        exact ⟨x, y, s3 _ _ (s2 _ _ h1), h2⟩
      have off3 : Off b H (L2.upd H2 o (.lst (iv m1))) := (off.trans (Off.of s2)).trans (Off.of s3)
      have noq : q1 ≠ o := ne_of_none i2 no
      have no0 : o ≠ b := fun e => by
        obtain ⟨x, y, h1, h2⟩ := bag
        rw [e, s2 _ _ h1] at no
        cases no
      have nq0 : q1 ≠ b := fun e => by
        obtain ⟨x, y, h1, h2⟩ := bag
        rw [e, h1] at n2
        cases n2
      have noo : H o = none := off.free (same_none s2 no) no0
      generalize L2.upd H2 o (.lst (iv m1)) = H3 at *
      refine ⟨_, rfl, _, rfl, ⟨b, (n : Int), _, rfl, by omega, by omega, bag3, by omega, fun d H4 d0 d1 off4 _ bag4 => ?_⟩⟩
      obtain ⟨j, rfl⟩ := Int.eq_ofNat_of_zero_le d0
      refine ⟨_, rfl, _, rfl, ⟨b, p, _, rfl, hp, by omega, bag4, by omega, fun e H5 e0 e1 off5 _ bag5 => ?_⟩⟩
      have io5 : IL H5 o m1 := off5 _ _ no0 (off4 _ _ no0 io)
      have i5 : IL H5 q1 m1 := off5 _ _ nq0 (off4 _ _ nq0 i3)
      have jn : j < n := by omega
      refine ⟨_, rfl, _, rfl, o, _, (j : Int), j, rfl, rfl, io5, ?_, ?_⟩
      · unfold ixN
        rw [if_pos (by omega), if_pos (by rw [List.length_map, w1.len]; omega)]
        rfl
      have off6 : Off b H (L2.upd H5 o (.lst ((iv m1).set j (.int e)))) := ((off3.trans off4).trans off5).new noo
      have io6 : IL (L2.upd H5 o (.lst ((iv m1).set j (.int e)))) o (m1.set j e) := by
        show (L2.upd H5 o _) o = _
        rw [upd_same]
        show some (HO.lst ((m1.map V.int).set j (V.int e))) = some (HO.lst ((m1.set j e).map V.int))
        rw [List.map_set]
      have i6 : IL (L2.upd H5 o (.lst ((iv m1).set j (.int e)))) q1 m1 := by
        show (L2.upd H5 o _) q1 = _
        rw [upd_ne noq]
        exact i5
      have bag6 : Bg (L2.upd H5 o (.lst ((iv m1).set j (.int e)))) b (c + M.length + 1 + 1) := bag5.same (upd_ne no0.symm)
      have w2 : Wf p n (m1.set j e) := ⟨by rw [List.length_set, w1.len], fun x hx => by
        rcases List.mem_or_eq_of_mem_set hx with h | h
        · exact w1.rng x h
        · rw [h]
          exact ⟨e0, e1⟩⟩
      generalize L2.upd H5 o (.lst ((iv m1).set j (.int e))) = H6 at *
      generalize m1.set j e = m2 at *
      refine ⟨_, rfl, _, rfl, _, rfl, _, rfl, _, rfl, ⟨p, n, b, _, rfl, hp, hp2, hn, bag6, by omega, fun q3 m3 H7 w3 off7 n3 i7 bag7 => ?_⟩⟩
      have j1 : IL H7 q1 m1 := off7 _ _ nq0 i6
      have j2 : IL H7 o m2 := off7 _ _ no0 io6
      refine ⟨(by show 1 ≤ sizeLine; decide), fun l1 nl1 => ?_⟩
      have s8 : Same H7 (L2.upd H7 l1 (.lst [.int 0])) := same_new nl1
      refine ⟨_, rfl, l1, (n : Int), _, rfl, rfl, upd_same, by omega, by omega, ?_, fun z nz => ?_⟩
      · rw [Int.toNat_natCast, List.length_singleton, Nat.one_mul]
        exact Nat.le_of_lt (small1000 (by omega))
      have s9 : Same H7 (L2.upd (L2.upd H7 l1 (.lst [.int 0])) z (.lst (List.replicate (n : Int).toNat [V.int 0]).flatten)) := s8.trans (same_new nz)
      have zz : IL (L2.upd (L2.upd H7 l1 (.lst [.int 0])) z (.lst (List.replicate (n : Int).toNat [V.int 0]).flatten)) z (zeros n) := by
        show (L2.upd _ z _) z = _
        rw [upd_same, rep_zeros]
      generalize L2.upd (L2.upd H7 l1 (.lst [.int 0])) z (.lst (List.replicate (n : Int).toNat [V.int 0]).flatten) = H9 at *
      refine ⟨(by show 4 ≤ sizeLine; decide), fun t nt => ?_⟩
      have s10 : Same H9 (L2.upd H9 t (.lst [.ref q1, .ref o, .ref q3, .ref z])) := same_new nt
      refine q _ t [q1, o, q3, z] [m1, m2, m3, zeros n] ((off6.trans off7).trans (Off.of (s9.trans s10))) ⟨upd_same, rfl, fun i r m hr hm => ?_⟩ fun m hm => ?_
      · match i, hr, hm with
        | 0, hr, hm => cases Option.some.inj hr; cases Option.some.inj hm; exact s10 _ _ (s9 _ _ j1)
        | 1, hr, hm => cases Option.some.inj hr; cases Option.some.inj hm; exact s10 _ _ (s9 _ _ j2)
        | 2, hr, hm => cases Option.some.inj hr; cases Option.some.inj hm; exact s10 _ _ (s9 _ _ i7)
        | 3, hr, hm => cases Option.some.inj hr; cases Option.some.inj hm; exact s10 _ _ zz
        | i + 4, hr, hm => simp at hr
      · simp only [List.mem_cons, List.not_mem_nil, or_false] at hm
        rcases hm with rfl | rfl | rfl | rfl
        · exact w1
        · exact w2
        · exact w3
        · exact zeros_wf hp
end

/-! ### _law_right -/
section
variable {P : Program} {w : World} {K : PySem.W.Frag} {mg : Str → Option Value} {base : Heap}
abbrev sRight : Stmt := topS 20
abbrev nRight : List Str := ["_law_p", "_law_length", "_law_form_here", "_law_row", "_law_handed", "_law_due", "_law_told", "_law_found", "_law_other", "_law_number"]
theorem scRight : FnScope nRight ["_law_p", "_law_length", "_law_form_here", "_law_row"] (defScope sRight) := ⟨rfl, rfl, rfl, by decide +kernel, rfl, by decide +kernel, by decide +kernel⟩
def dPair (F : List Row) (m : Row) : PyData := .list [dTab F, dRow m]
theorem dPair_lay (F : List Row) (m : Row) : (dPair F m).canLay0 = true := by
  show ((dTab F).canLay0 && ((dRow m).canLay0 && true)) = true
  rw [show (dTab F).canLay0 = true from dRows_lay F, dRow_lay m]
  rfl
theorem dPair_shaped (F : List Row) (m : Row) : SeqAt.shaped (dPair F m) = true := by
  have h : (dPair F m).depth ≤ 64 := by
    show max (dTab F).depth (max (dRow m).depth 0) + 1 ≤ 64
    have h1 : (dTab F).depth ≤ 2 := by
      show PyData.depthAll (F.map dRow) + 1 ≤ 2
      have := dRows_depth F
      omega
    have h2 := dRow_depth m
    omega
  show ((dPair F m).canLay0 && decide ((dPair F m).depth ≤ 64)) = true
  rw [decide_eq_true h, dPair_lay]
  rfl
theorem dPair_eq (F : List Row) (m : Row) : PyData.eqv (dPair F m) (dPair F m) = true := SeqAt.eqv_refl _ (dPair_lay F m)
theorem dp_pair {H : Hp} {q a b : Addr} {rs : List Addr} {F : List Row} {m : Row} (h : H q = some (.lst [.ref a, .ref b])) (t : Tab H a rs F) (i : IL H b m) : Dp K H (.ref q) (dPair F m) := .lst (SqL.of h) (.cons t.dp (.cons i.dp .nil))
def spRight : Sp := fun vs H Q _ => ∃ (p : Int) (n : Nat) (a b : Addr) (rs : List Addr) (F : List Row) (ls : List Nat) (m : Row), vs = [.int p, .int (n : Int), .ref a, .ref b] ∧ FR H p n a b rs F ls m ∧ ∀ H', Same H H' → Q (.bl true) H'
theorem ok_right {f fI fH fS fW fM : Addr} {fd fdI fdH fdS fdW fdM : FuncData} {k : Nat} (F : Fun K "_law_right" "_law_right" sRight f fd)
    (GI : FnOk P w K mg base CX0 (k + 3) fI fdI ["_law_p", "_law_form_here", "_law_row"] spIn) (bI : Binds K fdI ["_law_p", "_law_form_here", "_law_row"] []) (kI : PySem.W.keepIn K (.ref fI) = true) (mI : mg "_law_in" = some (.ref fI))
    (GH : FnOk P w K mg base CX0 (k + 3) fH fdH ["p", "form", "row"] spHas) (bH : Binds K fdH ["p", "form", "row"] []) (kH : PySem.W.keepIn K (.ref fH) = true) (mH : mg "has" = some (.ref fH))
    (GS : FnOk P w K mg base CX0 (k + 3) fS fdS ["p", "form", "row"] spShares) (bS : Binds K fdS ["p", "form", "row"] []) (kS : PySem.W.keepIn K (.ref fS) = true) (mS : mg "shares" = some (.ref fS))
    (GW : FnOk P w K mg base CX0 (k + 3) fW fdW ["_law_thing", "_law_end"] spWhole) (bW : Binds K fdW ["_law_thing", "_law_end"] []) (kW : PySem.W.keepIn K (.ref fW) = true) (mW : mg "_law_whole" = some (.ref fW))
    (GM : FnOk P w K mg base CX0 (k + 3) fM fdM ["_law_p", "_law_length", "_law_numbers", "_law_rows_here"] spMixL) (bM : Binds K fdM ["_law_p", "_law_length", "_law_numbers", "_law_rows_here"] []) (kM : PySem.W.keepIn K (.ref fM) = true) (mM : mg "_law_mixture" = some (.ref fM))
    (mt : mg "list" = none) (mi : mg "isinstance" = none) (mb : mg "bool" = none) (ml : mg "len" = none) (ma : mg "all" = none) : FnOk P w K mg base CX0 (k + 4) f fd ["_law_p", "_law_length", "_law_form_here", "_law_row"] spRight := by
  refine F.ok scRight (fun vs H Q E h => ?_) (fun cdv A outer s H vs Q E hr h => ?_)
  · obtain ⟨p, n, a, b, rs, F, ls, m, rfl, _⟩ := h
    rfl
  · obtain ⟨p, n, a, b, rs, F, ls, m, rfl, I, q⟩ := h
    have I0 := I
    obtain ⟨hp, hp2, hn, tab, L, len, hm, wm⟩ := I
    refine ⟨_, pss_cons (ps_set (i := 4) scRight.nd rfl (.inl rfl) (pe_lst (pa_cons (pe_lc (own := [("_law_other", 8)]) (g := gName 8) (tt := tYes) (by rfl) scRight.nd (pi_list (pv 2)) (blkOk_by (own := [("_law_other", 8)]) (N := nRight) (sc := defScope sRight) (by decide +kernel))
          (fun _ _ _ _ _ => pg_name (i := 8) scRight.nd rfl (Or.inl rfl)) (fun _ _ _ _ _ => pts_nil) (fun _ _ _ _ _ => pe_callTy (cLst K rfl) (by rfl) mt (by decide +kernel) (pa_cons (pv 8) pa_nil))) (pa_cons (pe_callTy call_list_of (by rfl) mt (by decide +kernel) (pa_cons (pv 3) pa_nil)) pa_nil))))
      (pss_cons (ps_set (i := 5) scRight.nd rfl (.inl rfl) (pe_call GI hr (by rfl) mI kI bI .nil pass0 (pa_cons (pv 0) (pa_cons (pv 2) (pa_cons (pv 3) pa_nil)))))
      (pss_cons (ps_set (i := 6) scRight.nd rfl (.inl rfl) (pe_call GH hr (by rfl) mH kH bH .nil pass0 (pa_cons (pv 0) (pa_cons (pe_ix ix_list (pv 4) pe_int (fun _ _ => rfl)) (pa_cons (pe_ix ix_list (pv 4) pe_int (fun _ _ => rfl)) pa_nil)))))
      (pss_cons (ps_set (i := 7) scRight.nd rfl (.inl rfl) (pe_call GS hr (by rfl) mS kS bS .nil pass0 (pa_cons (pv 0) (pa_cons (pe_ix ix_list (pv 4) pe_int (fun _ _ => rfl)) (pa_cons (pe_ix ix_list (pv 4) pe_int (fun _ _ => rfl)) pa_nil)))))
      (pss_cons (ps_if (PW.pt (pw_or (pt_not (pt_val (pe_callB call_isi (by rfl) mi (by decide +kernel) (pa_cons (pv 6) (pa_cons (pe_bltn (v := .ty "bool") (by rfl) mb (by decide +kernel) rfl) pa_nil))))) (pw_or (pt_cmpR op_ne (pv 6) (pv 5) (nomark _)) (pw_or1 (pt_cmpR (op_neD hr.units) (pv 4) (pe_lst (pa_cons (pv 2) (pa_cons (pv 3) pa_nil))) (nomark _)))))) (pss_one (ps_ret pe_bl)) pss_nil)
      (pss_cons (ps_if (pt_not (pt_val (pv 5))) (pss_one (ps_ret (pe_cmpR op_isN (pv 7) pe_non (nomark _)))) pss_nil)
      (pss_cons (ps_if (PW.pt (pw_or (pt_not (pt_val (pe_callB call_isi (by rfl) mi (by decide +kernel) (pa_cons (pv 7) (pa_cons (pe_bltn (v := .ty "list") (by rfl) mt (by decide +kernel) rfl) pa_nil))))) (pw_or (pt_cmpR op_ne (pe_callB call_len_seq (by rfl) ml PySem.boot_len (pa_cons (pv 7) pa_nil)) (pe_callB call_len_seq (by rfl) ml PySem.boot_len (pa_cons (pv 2) pa_nil)) (nomark _)) (pw_or1 (pt_not (pt_val (pe_callB (cr_all rfl) (by rfl) ma (by decide +kernel) (pa_cons (pe_lc (own := [("_law_number", 9)]) (g := gName 9) (tt := tYes) (by rfl) scRight.nd (pi_list (pv 7)) (blkOk_by (own := [("_law_number", 9)]) (N := nRight) (sc := defScope sRight) (by decide +kernel))
          (fun _ _ _ _ _ => pg_name (i := 9) scRight.nd rfl (Or.inl rfl)) (fun _ _ _ _ _ => pts_nil) (fun _ _ _ _ _ => pe_call GW hr (by rfl) mW kW bW .nil pass0 (pa_cons (pv 9) (pa_cons (pv 0) pa_nil)))) pa_nil)))))))) (pss_one (ps_ret pe_bl)) pss_nil)
      (pss_one (ps_ret (pe_cmpR (op_eqD hr.units) (pe_call GM hr (by rfl) mM kM bM .nil pass0 (pa_cons (pv 0) (pa_cons (pv 1) (pa_cons (pv 7) (pa_cons (pv 2) pa_nil))))) (pv 3) (nomark _)))))))))), ?_⟩
    -- handed
    refine ⟨_, rfl, a, rfl, ⟨_, SqL.of tab.at_⟩, fun hd nhd => ?_⟩
    refine lc_it (walk_list (K := K) (a := a) (xs := rf rs)) (fun i H' => ∃ qs, Mt H hd [] F i H' qs) ⟨[], Mt.start nhd⟩ (fun i H' _ ⟨qs, mk⟩ => (mk.same.seq (SqL.of tab.at_))) (fun i x H3 H4 hi ⟨qs, mk⟩ y => ?_) (fun H3 ⟨hs, mk⟩ => ?_)
    · obtain ⟨rfl, hx⟩ := y
      obtain ⟨r, hrr, rfl⟩ := rf_inv hx
      obtain ⟨mm, hmm⟩ := get_of (l := F) (i := i) (by have := get_lt hrr; have := tab.len; omega)
      have hrow : IL H4 r mm := mk.same _ _ (tab.row i r mm hrr hmm)
      refine ⟨rfl, ?_⟩
      refine t_yes ?_
      refine ⟨_, rfl, r, _, rfl, .inl (IL.sq hrow), fun l nl => ?_⟩
      obtain ⟨acc, e1, e2, e3⟩ := mk.step nhd (fun r hr => by simp at hr) (same_new nl) hmm upd_same (.inr nl) (by omega)
      exact ⟨acc, e1, e2, _, e3⟩
    have tH := mk.tab (by rw [List.length_map, tab.len])
    have s3 := mk.same
    have m3 : IL H3 b m := s3 _ _ hm
    refine ⟨_, rfl, b, _, rfl, .inl (IL.sq m3), fun c nc => ?_⟩
    have s4 : Same H3 (L2.upd H3 c (.lst (iv m))) := same_new nc
    have ic : IL (L2.upd H3 c (.lst (iv m))) c m := upd_same
    refine ⟨(by show 2 ≤ sizeLine; decide), fun t nt => ?_⟩
    have s5 : Same (L2.upd H3 c (.lst (iv m))) (L2.upd (L2.upd H3 c (.lst (iv m))) t (.lst [.ref hd, .ref c])) := same_new nt
    have ht : (L2.upd (L2.upd H3 c (.lst (iv m))) t (.lst [.ref hd, .ref c])) t = some (.lst [.ref hd, .ref c]) := upd_same
    have ic5 : IL _ c m := s5 _ _ ic
    have tH5 := (tH.same s4).same s5
    have sm5 : Same H _ := (s3.trans s4).trans s5
    generalize L2.upd (L2.upd H3 c (.lst (iv m))) t (.lst [.ref hd, .ref c]) = H5 at *
    -- due
    refine ⟨_, rfl, _, rfl, _, rfl, ⟨p, n, a, b, rs, F, ls, m, rfl, ⟨hp, hp2, hn, tab.same sm5, L, sm5 _ _ hm, wm⟩, fun H6 s6 => ?_⟩⟩
    -- told
    refine ⟨_, rfl, _, rfl, t, _, _, _, rfl, rfl, SqL.of (s6 _ _ ht), atI_nat (j := 0) rfl, _, rfl, t, _, _, _, rfl, rfl, SqL.of (s6 _ _ ht), atI_nat (j := 1) rfl, ⟨p, n, hd, c, hs, F, ls, m, rfl, ⟨hp, hp2, hn, tH5.same s6, L, len, s6 _ _ ic5, wm⟩, fun H7 s7 => ?_⟩⟩
    have s67 := s6.trans s7
    have fr7 : FR H7 p n hd c hs F ls m := ⟨hp, hp2, hn, tH5.same s67, L, len, s67 _ _ ic5, wm⟩
    -- found
    refine ⟨_, rfl, _, rfl, t, _, _, _, rfl, rfl, SqL.of (s67 _ _ ht), atI_nat (j := 0) rfl, _, rfl, t, _, _, _, rfl, rfl, SqL.of (s67 _ _ ht), atI_nat (j := 1) rfl, ⟨p, n, hd, c, hs, F, ls, m, rfl, fr7, fun h H8 d8 s8 n8 i8 => ?_, fun h H8 s8 => ?_⟩⟩
    · have sA := s67.trans s8
      have sB := sm5.trans sA
      refine ⟨_, rfl, _, _, _, _, true, rfl, .ty "bool", .base (.bl _), kit_ty (by decide +kernel), true, rfl, iteF ?_⟩
      refine ⟨_, rfl, _, rfl, rfl, false, by rw [decide_eq_true (show V.bl (decide (mixM p (shr ls m) F n = m)) = V.bl (decide (mixM p (shr ls m) F n = m)) from rfl)]; rfl, iteF ?_⟩
      refine ⟨_, rfl, _, rfl, _, rfl, (by show 2 ≤ sizeLine; decide), fun t2 nt2 => ?_⟩
      have s9 : Same H8 (L2.upd H8 t2 (.lst [.ref a, .ref b])) := same_new nt2
      have tB : Tab _ a rs F := (tab.same sB).same s9
      have bB : IL _ b m := s9 _ _ (sB _ _ hm)
      have dA := dp_pair (K := K) (s9 _ _ (sA _ _ ht)) ((tH5.same sA).same s9) (show IL _ c m from s9 _ _ (sA _ _ ic5))
      have dB := dp_pair (K := K) (H := L2.upd H8 t2 (.lst [.ref a, .ref b])) (q := t2) upd_same tB bB
      have i9 : IL _ d8 (shr ls m) := s9 _ _ i8
      generalize L2.upd H8 t2 (.lst [.ref a, .ref b]) = H9 at *
      refine ⟨_, _, dA, dB, dPair_shaped _ _, dPair_shaped _ _, false, by rw [dPair_eq]; rfl, iteF ?_⟩
      refine ⟨_, rfl, true, by rw [decide_eq_true h], iteF ?_⟩
      have hd9 : H9 d8 = some (.lst (iv (shr ls m))) := i9
      refine ⟨_, rfl, _, _, _, _, true, rfl, .ty "list", .base (.lst hd9), kit_ty (by decide +kernel), true, rfl, iteF ?_⟩
      refine ⟨_, rfl, d8, _, rfl, .inl (IL.sq i9), _, rfl, a, _, rfl, .inl (SqL.of tB.at_), rfl, false, ?_, iteF ?_⟩
      · rw [List.length_map, List.length_map, shr_len L, tB.len, decide_eq_true rfl]
        rfl
      have rng := shr_rng L wm
      refine ⟨_, rfl, d8, rfl, ⟨_, IL.sq i9⟩, fun D hD => lc_it (walk_list (K := K) (a := d8) (xs := iv (shr ls m))) (fun i H1 => Same H9 H1 ∧ H1 D = some (.lst (List.replicate i (.bl true)))) ⟨same_new hD, upd_same⟩ (fun i H1 _ h => h.1.seq (IL.sq i9)) (fun i x H1 H2 hi hW y => ?_) (fun H1 hW => ?_)⟩
      · obtain ⟨rfl, hx⟩ := y
        obtain ⟨z, hz, rfl⟩ := iv_inv hx
        obtain ⟨sm1, e1⟩ := hW
        have rz := rng z (List.mem_of_getElem? hz)
        refine ⟨rfl, ?_⟩
        refine t_yes ?_
        refine ⟨_, rfl, _, rfl, ⟨z, p, rfl, rz.1, rz.2, ?_⟩⟩
        refine ⟨_, e1, by rw [List.length_replicate]; exact small1000 (by have := get_lt hz; have := shr_len L m; omega), same_upd hD sm1, ?_⟩
        rw [upd_same, List.replicate_succ']
      · obtain ⟨sm1, e1⟩ := hW
        refine ⟨D, List.replicate (iv (shr ls m)).length true, rfl, SqL.of (by rw [e1, List.map_replicate]), true, ?_, iteF ?_⟩
        · rw [List.all_replicate]
          simp
        · refine ⟨_, rfl, _, rfl, _, rfl, _, rfl, ⟨p, n, d8, a, shr ls m, rs, F, rfl, by omega, sm1 _ _ i9, fun c hc => (by have := rng c hc; omega), tB.same sm1, L.wf, shr_len L m, by omega, by omega, fun H10 e10 s10 n10 i10 => ?_⟩⟩
          rw [h] at i10
          refine ⟨_, rfl, _, _, i10.dp, (show IL H10 b m from s10 _ _ (sm1 _ _ bB)).dp, dRow_shaped _, dRow_shaped _, ?_⟩
          rw [dRow_eq]
          exact q H10 (((sB.trans s9).trans sm1).trans s10)
    · have sA := s67.trans s8
      have sB := sm5.trans sA
      refine ⟨_, rfl, _, _, _, _, true, rfl, .ty "bool", .base (.bl _), kit_ty (by decide +kernel), true, rfl, iteF ?_⟩
      refine ⟨_, rfl, _, rfl, rfl, false, by rw [decide_eq_true (show V.bl (decide (mixM p (shr ls m) F n = m)) = V.bl (decide (mixM p (shr ls m) F n = m)) from rfl)]; rfl, iteF ?_⟩
      refine ⟨_, rfl, _, rfl, _, rfl, (by show 2 ≤ sizeLine; decide), fun t2 nt2 => ?_⟩
      have s9 : Same H8 (L2.upd H8 t2 (.lst [.ref a, .ref b])) := same_new nt2
      have tB : Tab _ a rs F := (tab.same sB).same s9
      have bB : IL _ b m := s9 _ _ (sB _ _ hm)
      have dA := dp_pair (K := K) (s9 _ _ (sA _ _ ht)) ((tH5.same sA).same s9) (show IL _ c m from s9 _ _ (sA _ _ ic5))
      have dB := dp_pair (K := K) (H := L2.upd H8 t2 (.lst [.ref a, .ref b])) (q := t2) upd_same tB bB
      refine ⟨_, _, dA, dB, dPair_shaped _ _, dPair_shaped _ _, false, by rw [dPair_eq]; rfl, iteF ?_⟩
      refine ⟨_, rfl, false, by rw [decide_eq_false h], iteT ?_⟩
      refine ⟨_, rfl, rfl, ?_⟩
      rw [decide_eq_true rfl]
      exact q _ (sB.trans s9)
end

/-! ### law_k03 -/
section
variable {P : Program} {w : World} {K : PySem.W.Frag} {mg : Str → Option Value} {base : Heap}
abbrev sLaw : Stmt := topS 21
abbrev nLaw : List Str := ["_law_script", "_law_k", "_law_bag_here", "_law_p", "_law_length", "_law_many", "_law_form_here", "_law_row"]
theorem scLaw : FnScope nLaw ["_law_script"] (defScope sLaw) := ⟨rfl, rfl, rfl, by decide +kernel, rfl, by decide +kernel, by decide +kernel⟩
def spLaw (K : PySem.W.Frag) : Sp := fun vs H Q _ => ∃ (a : Addr) (ns : List Int), vs = [.ref a] ∧ SqL K H a (iv ns) ∧ ns.length ≤ 63 ∧ ∀ H', Q (.bl true) H'
theorem top_bound (z : Int) (hz : 0 ≤ z) : 0 ≤ (if (if (8 : Int) < z then 8 else z) > 3 then (if (8 : Int) < z then 8 else z) else 3) ∧ (if (if (8 : Int) < z then 8 else z) > 3 then (if (8 : Int) < z then 8 else z) else 3) ≤ 8 := by
  by_cases h : (8 : Int) < z
  · rw [if_pos h]; decide
  · rw [if_neg h]
    by_cases h2 : z > 3
    · rw [if_pos h2]; omega
    · rw [if_neg h2]; decide
theorem ok_law {f fB fP fT fR fF fA fK : Addr} {fd fdB fdP fdT fdR fdF fdA fdK : FuncData} {k : Nat} (F : Fun K "law" "law" sLaw f fd)
    (GB : FnOk P w K mg base CX0 (k + 4) fB fdB ["_law_script", "_law_at"] (spBag K)) (bB : Binds K fdB ["_law_script", "_law_at"] []) (kB : PySem.W.keepIn K (.ref fB) = true) (mB : mg "_law_bag" = some (.ref fB))
    (GP : FnOk P w K mg base CX0 (k + 4) fP fdP ["_law_bag_here"] spPrime) (bP : Binds K fdP ["_law_bag_here"] []) (kP : PySem.W.keepIn K (.ref fP) = true) (mP : mg "_law_prime" = some (.ref fP))
    (GT : FnOk P w K mg base CX0 (k + 4) fT fdT ["_law_bag_here", "_law_many"] spTake) (bT : Binds K fdT ["_law_bag_here", "_law_many"] []) (kT : PySem.W.keepIn K (.ref fT) = true) (mT : mg "_law_take" = some (.ref fT))
    (GR : FnOk P w K mg base CX0 (k + 4) fR fdR ["_law_p", "_law_length", "_law_many", "_law_bag_here"] spRows) (bR : Binds K fdR ["_law_p", "_law_length", "_law_many", "_law_bag_here"] []) (kR : PySem.W.keepIn K (.ref fR) = true) (mR : mg "_law_rows" = some (.ref fR))
    (GF : FnOk P w K mg base CX0 (k + 4) fF fdF ["_law_p", "_law_rows_here"] spForm) (bF : Binds K fdF ["_law_p", "_law_rows_here"] []) (kF : PySem.W.keepIn K (.ref fF) = true) (mF : mg "_law_form" = some (.ref fF))
    (GA : FnOk P w K mg base CX0 (k + 4) fA fdA ["_law_p", "_law_length", "_law_form_here", "_law_bag_here"] spAsked) (bA : Binds K fdA ["_law_p", "_law_length", "_law_form_here", "_law_bag_here"] []) (kA : PySem.W.keepIn K (.ref fA) = true) (mA : mg "_law_asked" = some (.ref fA))
    (GK : FnOk P w K mg base CX0 (k + 4) fK fdK ["_law_p", "_law_length", "_law_form_here", "_law_row"] spRight) (bK : Binds K fdK ["_law_p", "_law_length", "_law_form_here", "_law_row"] []) (kK : PySem.W.keepIn K (.ref fK) = true) (mK : mg "_law_right" = some (.ref fK))
    (ml : mg "len" = none) (mr : mg "range" = none) (mx : mg "max" = none) (mn : mg "min" = none) : FnOk P w K mg base CX0 (k + 5) f fd ["_law_script"] (spLaw K) := by
  refine F.ok scLaw (fun vs H Q E h => ?_) (fun cdv A outer s H vs Q E hr h => ?_)
  · obtain ⟨a, ns, rfl, _⟩ := h
    rfl
  · obtain ⟨a, ns, rfl, hS, h63, q⟩ := h
    refine ⟨_, pss_cons (ps_for PassesOwn.never rfl (pi_range1 rfl mr (pa_cons (pe_callB (call_max2 rfl) (by rfl) mx (by decide +kernel) (pa_cons pe_int (pa_cons (pe_callB (call_min2 rfl) (by rfl) mn (by decide +kernel) (pa_cons (pe_callB call_len_seq (by rfl) ml PySem.boot_len (pa_cons (pv 0) pa_nil)) (pa_cons pe_int pa_nil))) pa_nil))) pa_nil)) (pg_name (i := 1) scLaw.nd rfl (Or.inl rfl))
        (pss_cons (ps_set (i := 2) scLaw.nd rfl (.inl rfl) (pe_call GB hr (by rfl) mB kB bB .nil pass0 (pa_cons (pv 0) (pa_cons (pv 1) pa_nil))))
        (pss_cons (ps_set (i := 3) scLaw.nd rfl (.inl rfl) (pe_call GP hr (by rfl) mP kP bP .nil pass0 (pa_cons (pv 2) pa_nil)))
        (pss_cons (ps_par (i := 4) (j := 5) (by rfl) scLaw.nd rfl rfl (by decide) rfl rfl (pa_cons (pe_op op_add pe_int (pe_call GT hr (by rfl) mT kT bT .nil pass0 (pa_cons (pv 2) (pa_cons pe_int pa_nil)))) (pa_cons (pe_call GT hr (by rfl) mT kT bT .nil pass0 (pa_cons (pv 2) (pa_cons pe_int pa_nil))) pa_nil)) (by rfl))
        (C8.pss_cut (ps_if (PW.pt (pw_and (pt_cmpR op_eq (pe_call GT hr (by rfl) mT kT bT .nil pass0 (pa_cons (pv 2) (pa_cons pe_int pa_nil))) pe_int (nomark _)) (pw_and1 (pt_cmpR op_eq (pv 1) pe_int (nomark _)))))
          (pss_one (ps_par (i := 4) (j := 5) (by rfl) scLaw.nd rfl rfl (by decide) rfl rfl (pa_cons (pe_op op_add pe_int (pe_call GT hr (by rfl) mT kT bT .nil pass0 (pa_cons (pv 2) (pa_cons pe_int pa_nil)))) (pa_cons (pe_call GT hr (by rfl) mT kT bT .nil pass0 (pa_cons (pv 2) (pa_cons pe_int pa_nil))) pa_nil)) (by rfl))) pss_nil)
        (pss_cons (ps_set (i := 6) scLaw.nd rfl (.inl rfl) (pe_call GF hr (by rfl) mF kF bF .nil pass0 (pa_cons (pv 3) (pa_cons (pe_call GR hr (by rfl) mR kR bR .nil pass0 (pa_cons (pv 3) (pa_cons (pv 4) (pa_cons (pv 5) (pa_cons (pv 2) pa_nil))))) pa_nil))))
        (pss_one (ps_for PassesOwn.never rfl (pi_list (pe_call GA hr (by rfl) mA kA bA .nil pass0 (pa_cons (pv 3) (pa_cons (pv 4) (pa_cons (pv 6) (pa_cons (pv 2) pa_nil)))))) (pg_name (i := 7) scLaw.nd rfl (Or.inl rfl))
          (pss_one (ps_if (pt_not (pt_val (pe_call GK hr (by rfl) mK kK bK .nil pass0 (pa_cons (pv 3) (pa_cons (pv 4) (pa_cons (pv 6) (pa_cons (pv 7) pa_nil))))))) (pss_one (ps_ret pe_bl)) pss_nil))))))))))
      (pss_one (ps_ret pe_bl)), ?_⟩
    refine ⟨_, rfl, a, _, rfl, .inl hS, _, _, rfl, _, _, rfl, ?_⟩
    have bb := top_bound ((iv ns).length : Int) (by omega)
    generalize (if (if (8 : Int) < ((iv ns).length : Int) then 8 else ((iv ns).length : Int)) > 3 then (if (8 : Int) < ((iv ns).length : Int) then 8 else ((iv ns).length : Int)) else 3) = top at *
    refine ⟨top, rfl, by omega, by omega, ?_⟩
    refine for_range (lo := 0) (n := top.toNat) (fun i σ H' => ∃ y1 y2 y3 y4 y5 y6 y7, σ = [some (.ref a), y1, y2, y3, y4, y5, y6, y7] ∧ Same H H') ⟨none, none, none, none, none, none, none, rfl, Same.refl H⟩ (fun i σ H0 hi hW => ?_) (fun σ H' hW => ?_)
    · obtain ⟨y1, y2, y3, y4, y5, y6, y7, rfl, s0⟩ := hW
      have iz : (0 : Int) + (i : Int) = (i : Int) := Int.zero_add _
      rw [iz]
      refine ⟨_, rfl, _, rfl, ⟨a, ns, i, rfl, s0.seq hS, by omega, fun b H1 nb s1 bag1 => ?_⟩⟩
      refine ⟨_, rfl, ⟨b, 1001, rfl, bag1, by decide, fun p H2 hp off2 bag2 => ?_⟩⟩
      have two := hp.two
      have hv := inv_is hp
      have sm : ∀ {H'}, Off b H1 H' → Same H H' := fun {H'} o x u e => o x u (ne_of_none (s0 x u e) nb) (s1 x u (s0 x u e))
      refine ⟨_, rfl, ⟨b, 8, _, rfl, by decide, by decide, bag2, by decide, fun d1 H3 a1 b1 off3 _ bag3 => ?_⟩⟩
      refine ⟨_, _, rfl, rfl, _, rfl, ⟨b, 7, _, rfl, by decide, by decide, bag3, by decide, fun d2 H4 a2 b2 off4 _ bag4 => ?_⟩⟩
      obtain ⟨D1, rfl⟩ := Int.eq_ofNat_of_zero_le a1
      obtain ⟨D2, rfl⟩ := Int.eq_ofNat_of_zero_le a2
      have e1 : (1 : Int) + (D1 : Int) = ((1 + D1 : Nat) : Int) := by omega
      have off14 : Off b H1 H4 := (off2.trans off3).trans off4
      refine ⟨_, _, rfl, ?_⟩
      refine ⟨fun σ' H' => ∃ n many : Nat, σ' = [some (.ref a), some (.int (i : Int)), some (.ref b), some (.int p), some (.int (n : Int)), some (.int (many : Int)), y6, y7] ∧ 0 < n ∧ n ≤ 36 ∧ many ≤ 40 ∧ Off b H1 H' ∧ Bg H' b 1100, ?_, fun σ' H' hW => ?_⟩
      · refine ⟨_, rfl, ⟨b, 8, _, rfl, by decide, by decide, bag4, by decide, fun d3 H5 a3 b3 off5 _ bag5 => ?_⟩⟩
        refine ⟨rfl, _, rfl, ite2 (fun c1 => ?_) (fun c1 => iteF ?_)⟩
        · refine ⟨_, rfl, rfl, _, rfl, ite2 (fun c2 => ?_) (fun c2 => ?_)⟩
          · refine ⟨_, rfl, ⟨b, 36, _, rfl, by decide, by decide, bag5, by decide, fun d4 H6 a4 b4 off6 _ bag6 => ?_⟩⟩
            refine ⟨_, _, rfl, rfl, _, rfl, ⟨b, 41, _, rfl, by decide, by decide, bag6, by decide, fun d5 H7 a5 b5 off7 _ bag7 => ?_⟩⟩
            obtain ⟨D4, rfl⟩ := Int.eq_ofNat_of_zero_le a4
            obtain ⟨D5, rfl⟩ := Int.eq_ofNat_of_zero_le a5
            have e4 : (1 : Int) + (D4 : Int) = ((1 + D4 : Nat) : Int) := by omega
            refine ⟨_, _, rfl, 1 + D4, D5, ?_, by omega, by omega, by omega, ((off14.trans off5).trans off6).trans off7, bag7.mono (by omega)⟩
            rw [← e4]
            rfl
          · refine ⟨1 + D1, D2, ?_, by omega, by omega, by omega, off14.trans off5, bag5.mono (by omega)⟩
            rw [← e1]
            rfl
        · refine ⟨1 + D1, D2, ?_, by omega, by omega, by omega, off14.trans off5, bag5.mono (by omega)⟩
          rw [← e1]
          rfl
      · obtain ⟨n, many, rfl, hn0, hn, hmany, off5, bag5⟩ := hW
        refine ⟨_, rfl, _, rfl, _, rfl, _, rfl, _, rfl, ⟨p, n, many, b, 1100, rfl, by omega, hp.le, by omega, by omega, bag5, by decide, fun r rs M H6 wM lM off6 nr tM fr bag6 => ?_⟩⟩
        have bag6' : Bg H6 b 10000 := bag6.mono (by have : many * (2 * n + 5) ≤ 40 * 77 := Nat.mul_le_mul hmany (by omega); omega)
        refine ⟨p, n, r, rs, M, rfl, hp, by omega, tM, wM, by omega, fun H7 fa fs s7 nf tF fF => ?_⟩
        obtain ⟨ls, L, _, _⟩ := lowM_ok (n := n) two hv wM
        have lenF : (lowM p (invM p) M).length ≤ 100 := by
          have z := (runM_len (p := p) (inv := invM p) (rows := M) n).1
          rw [← lowM_len M wM] at z
          omega
        generalize lowM p (invM p) M = Fm at *
        obtain ⟨bx, bby, hbx, hbb⟩ := bag6'
        have nab : fa ≠ b := fun e => by
          rw [e, hbx] at nf
          cases nf
        have nrb : ∀ r ∈ fs, r ≠ b := fun r hr e => by
          have z := fF r hr
          rw [e, hbx] at z
          cases z
        have bag7 : Bg H7 b 10000 := ⟨bx, bby, s7 _ _ hbx, hbb⟩
        refine ⟨_, rfl, _, rfl, _, rfl, _, rfl, ⟨p, n, fa, b, 10000, fs, Fm, rfl, by omega, hp.le, hn0, by omega, tF, nab, nrb, L.wf, lenF, bag7, by decide, fun H8 t ts N off8 tN wN => ?_⟩⟩
        have tF8 := tF.off off8 nab nrb
        have s8 : Same H H8 := sm ((off5.trans off6).trans ((Off.of s7).trans off8))
        refine ⟨t, rfl, ⟨_, SqL.of tN.at_⟩, for_list (K := K) (a := t) (xs := rf ts) (fun j σ H' => ∃ y7, σ = [some (.ref a), some (.int (i : Int)), some (.ref b), some (.int p), some (.int (n : Int)), some (.int (many : Int)), some (.ref fa), y7] ∧ Same H8 H') ⟨_, rfl, Same.refl H8⟩ (fun j σ H' _ hW => ?_) (fun j x σ H' hx hW => ?_) (fun σ H' hW => ?_)⟩
        · obtain ⟨_, _, sm8⟩ := hW
          exact sm8.seq (SqL.of tN.at_)
        · obtain ⟨z7, rfl, sm8⟩ := hW
          obtain ⟨r2, hr2, rfl⟩ := rf_inv hx
          obtain ⟨m2, hm2⟩ := get_of (l := N) (i := j) (by have := get_lt hr2; have := tN.len; omega)
          refine ⟨_, rfl, _, rfl, _, rfl, _, rfl, ⟨p, n, fa, r2, fs, Fm, ls, m2, rfl, ⟨two, hp.le, by omega, tF8.same sm8, L, lenF, sm8 _ _ (tN.row j r2 m2 hr2 hm2), wN m2 (List.mem_of_getElem? hm2)⟩, fun H9 s9 => ?_⟩⟩
          exact ⟨true, rfl, iteF ⟨_, rfl, sm8.trans s9⟩⟩
        · obtain ⟨z7, rfl, sm8⟩ := hW
          exact ⟨_, _, _, _, _, _, _, rfl, s8.trans sm8⟩
    · exact q H'
end

theorem all_mk {l : PySem.W.OpenLaw} {w : World} {K : PySem.W.Frag} {h : Heap} {mg : Str → Option Value} {fa f0 f1 f2 f3 f4 f5 f6 f7 f8 f9 f10 f11 f12 f13 f14 f15 f16 f17 f18 : Addr} (X : K.In h) (G : h.Ns mainGlobals mg) (hfa : mg "law" = some (.ref fa))
    {od0 an0 od1 an1 od2 an2 od3 an3 od4 an4 od5 an5 od6 an6 od7 an7 od8 an8 od9 an9 od10 an10 od11 an11 od12 an12 od13 an13 od14 an14 od15 an15 od16 an16 od17 an17 od18 an18 : Option Addr} {sl0 sl1 sl2 sl3 sl4 sl5 sl6 sl7 sl8 sl9 sl10 sl11 sl12 sl13 sl14 sl15 sl16 sl17 sl18 : Array (Option Value)} {oc0 kV0 dc0 pm0 cd0 ct0 oc1 kV1 dc1 pm1 cd1 ct1 oc2 kV2 dc2 pm2 cd2 ct2 oc3 kV3 dc3 pm3 cd3 ct3 oc4 kV4 dc4 pm4 cd4 ct4 oc5 kV5 dc5 pm5 cd5 ct5 oc6 kV6 dc6 pm6 cd6 ct6 oc7 kV7 dc7 pm7 cd7 ct7 oc8 kV8 dc8 pm8 cd8 ct8 oc9 kV9 dc9 pm9 cd9 ct9 oc10 kV10 dc10 pm10 cd10 ct10 oc11 kV11 dc11 pm11 cd11 ct11 oc12 kV12 dc12 pm12 cd12 ct12 oc13 kV13 dc13 pm13 cd13 ct13 oc14 kV14 dc14 pm14 cd14 ct14 oc15 kV15 dc15 pm15 cd15 ct15 oc16 kV16 dc16 pm16 cd16 ct16 oc17 kV17 dc17 pm17 cd17 ct17 oc18 kV18 dc18 pm18 cd18 ct18 : Value}
    (a0 : PySem.W.nsIn K mainGlobals "mixture" = some (some (.ref f0))) (l0 : K.lookup f0 = some ⟨oc0, od0, .func (PySem.W.fnOf "mixture" "mixture" (defArgs sMix) (defBody sMix) (defScope sMix) .none kV0 dc0 pm0 an0 cd0 ct0), sl0⟩) (c0 : PySem.W.codeIn K cd0 "mixture" = true) (k0 : PySem.W.keepIn K (.ref f0) = true)
    (a1 : PySem.W.nsIn K mainGlobals "lead" = some (some (.ref f1))) (l1 : K.lookup f1 = some ⟨oc1, od1, .func (PySem.W.fnOf "lead" "lead" (defArgs sLead) (defBody sLead) (defScope sLead) .none kV1 dc1 pm1 an1 cd1 ct1), sl1⟩) (c1 : PySem.W.codeIn K cd1 "lead" = true) (k1 : PySem.W.keepIn K (.ref f1) = true)
    (a2 : PySem.W.nsIn K mainGlobals "shares" = some (some (.ref f2))) (l2 : K.lookup f2 = some ⟨oc2, od2, .func (PySem.W.fnOf "shares" "shares" (defArgs sShares) (defBody sShares) (defScope sShares) .none kV2 dc2 pm2 an2 cd2 ct2), sl2⟩) (c2 : PySem.W.codeIn K cd2 "shares" = true) (k2 : PySem.W.keepIn K (.ref f2) = true)
    (a3 : PySem.W.nsIn K mainGlobals "has" = some (some (.ref f3))) (l3 : K.lookup f3 = some ⟨oc3, od3, .func (PySem.W.fnOf "has" "has" (defArgs sHas) (defBody sHas) (defScope sHas) .none kV3 dc3 pm3 an3 cd3 ct3), sl3⟩) (c3 : PySem.W.codeIn K cd3 "has" = true) (k3 : PySem.W.keepIn K (.ref f3) = true)
    (a4 : PySem.W.nsIn K mainGlobals "_law_cell" = some (some (.ref f4))) (l4 : K.lookup f4 = some ⟨oc4, od4, .func (PySem.W.fnOf "_law_cell" "_law_cell" (defArgs sCell) (defBody sCell) (defScope sCell) .none kV4 dc4 pm4 an4 cd4 ct4), sl4⟩) (c4 : PySem.W.codeIn K cd4 "_law_cell" = true) (k4 : PySem.W.keepIn K (.ref f4) = true)
    (a5 : PySem.W.nsIn K mainGlobals "_law_bag" = some (some (.ref f5))) (l5 : K.lookup f5 = some ⟨oc5, od5, .func (PySem.W.fnOf "_law_bag" "_law_bag" (defArgs sBag) (defBody sBag) (defScope sBag) .none kV5 dc5 pm5 an5 cd5 ct5), sl5⟩) (c5 : PySem.W.codeIn K cd5 "_law_bag" = true) (k5 : PySem.W.keepIn K (.ref f5) = true)
    (a6 : PySem.W.nsIn K mainGlobals "_law_take" = some (some (.ref f6))) (l6 : K.lookup f6 = some ⟨oc6, od6, .func (PySem.W.fnOf "_law_take" "_law_take" (defArgs sTake) (defBody sTake) (defScope sTake) .none kV6 dc6 pm6 an6 cd6 ct6), sl6⟩) (c6 : PySem.W.codeIn K cd6 "_law_take" = true) (k6 : PySem.W.keepIn K (.ref f6) = true)
    (a7 : PySem.W.nsIn K mainGlobals "_law_prime" = some (some (.ref f7))) (l7 : K.lookup f7 = some ⟨oc7, od7, .func (PySem.W.fnOf "_law_prime" "_law_prime" (defArgs sPrime) (defBody sPrime) (defScope sPrime) .none kV7 dc7 pm7 an7 cd7 ct7), sl7⟩) (c7 : PySem.W.codeIn K cd7 "_law_prime" = true) (k7 : PySem.W.keepIn K (.ref f7) = true)
    (a8 : PySem.W.nsIn K mainGlobals "_law_sparse" = some (some (.ref f8))) (l8 : K.lookup f8 = some ⟨oc8, od8, .func (PySem.W.fnOf "_law_sparse" "_law_sparse" (defArgs sSparse) (defBody sSparse) (defScope sSparse) .none kV8 dc8 pm8 an8 cd8 ct8), sl8⟩) (c8 : PySem.W.codeIn K cd8 "_law_sparse" = true) (k8 : PySem.W.keepIn K (.ref f8) = true)
    (a9 : PySem.W.nsIn K mainGlobals "_law_rows" = some (some (.ref f9))) (l9 : K.lookup f9 = some ⟨oc9, od9, .func (PySem.W.fnOf "_law_rows" "_law_rows" (defArgs sRows) (defBody sRows) (defScope sRows) .none kV9 dc9 pm9 an9 cd9 ct9), sl9⟩) (c9 : PySem.W.codeIn K cd9 "_law_rows" = true) (k9 : PySem.W.keepIn K (.ref f9) = true)
    (a10 : PySem.W.nsIn K mainGlobals "_law_back" = some (some (.ref f10))) (l10 : K.lookup f10 = some ⟨oc10, od10, .func (PySem.W.fnOf "_law_back" "_law_back" (defArgs sBack) (defBody sBack) (defScope sBack) .none kV10 dc10 pm10 an10 cd10 ct10), sl10⟩) (c10 : PySem.W.codeIn K cd10 "_law_back" = true) (k10 : PySem.W.keepIn K (.ref f10) = true)
    (a11 : PySem.W.nsIn K mainGlobals "_law_less" = some (some (.ref f11))) (l11 : K.lookup f11 = some ⟨oc11, od11, .func (PySem.W.fnOf "_law_less" "_law_less" (defArgs sLess) (defBody sLess) (defScope sLess) .none kV11 dc11 pm11 an11 cd11 ct11), sl11⟩) (c11 : PySem.W.codeIn K cd11 "_law_less" = true) (k11 : PySem.W.keepIn K (.ref f11) = true)
    (a12 : PySem.W.nsIn K mainGlobals "_law_form" = some (some (.ref f12))) (l12 : K.lookup f12 = some ⟨oc12, od12, .func (PySem.W.fnOf "_law_form" "_law_form" (defArgs sForm) (defBody sForm) (defScope sForm) .none kV12 dc12 pm12 an12 cd12 ct12), sl12⟩) (c12 : PySem.W.codeIn K cd12 "_law_form" = true) (k12 : PySem.W.keepIn K (.ref f12) = true)
    (a13 : PySem.W.nsIn K mainGlobals "_law_in" = some (some (.ref f13))) (l13 : K.lookup f13 = some ⟨oc13, od13, .func (PySem.W.fnOf "_law_in" "_law_in" (defArgs sIn) (defBody sIn) (defScope sIn) .none kV13 dc13 pm13 an13 cd13 ct13), sl13⟩) (c13 : PySem.W.codeIn K cd13 "_law_in" = true) (k13 : PySem.W.keepIn K (.ref f13) = true)
    (a14 : PySem.W.nsIn K mainGlobals "_law_whole" = some (some (.ref f14))) (l14 : K.lookup f14 = some ⟨oc14, od14, .func (PySem.W.fnOf "_law_whole" "_law_whole" (defArgs sWhole) (defBody sWhole) (defScope sWhole) .none kV14 dc14 pm14 an14 cd14 ct14), sl14⟩) (c14 : PySem.W.codeIn K cd14 "_law_whole" = true) (k14 : PySem.W.keepIn K (.ref f14) = true)
    (a15 : PySem.W.nsIn K mainGlobals "_law_mixture" = some (some (.ref f15))) (l15 : K.lookup f15 = some ⟨oc15, od15, .func (PySem.W.fnOf "_law_mixture" "_law_mixture" (defArgs sMixL) (defBody sMixL) (defScope sMixL) .none kV15 dc15 pm15 an15 cd15 ct15), sl15⟩) (c15 : PySem.W.codeIn K cd15 "_law_mixture" = true) (k15 : PySem.W.keepIn K (.ref f15) = true)
    (a16 : PySem.W.nsIn K mainGlobals "_law_asked" = some (some (.ref f16))) (l16 : K.lookup f16 = some ⟨oc16, od16, .func (PySem.W.fnOf "_law_asked" "_law_asked" (defArgs sAsked) (defBody sAsked) (defScope sAsked) .none kV16 dc16 pm16 an16 cd16 ct16), sl16⟩) (c16 : PySem.W.codeIn K cd16 "_law_asked" = true) (k16 : PySem.W.keepIn K (.ref f16) = true)
    (a17 : PySem.W.nsIn K mainGlobals "_law_right" = some (some (.ref f17))) (l17 : K.lookup f17 = some ⟨oc17, od17, .func (PySem.W.fnOf "_law_right" "_law_right" (defArgs sRight) (defBody sRight) (defScope sRight) .none kV17 dc17 pm17 an17 cd17 ct17), sl17⟩) (c17 : PySem.W.codeIn K cd17 "_law_right" = true) (k17 : PySem.W.keepIn K (.ref f17) = true)
    (a18 : PySem.W.nsIn K mainGlobals "law" = some (some (.ref f18))) (l18 : K.lookup f18 = some ⟨oc18, od18, .func (PySem.W.fnOf "law" "law" (defArgs sLaw) (defBody sLaw) (defScope sLaw) .none kV18 dc18 pm18 an18 cd18 ct18), sl18⟩) (c18 : PySem.W.codeIn K cd18 "law" = true) (k18 : PySem.W.keepIn K (.ref f18) = true)
    (z_len : PySem.W.nsIn K mainGlobals "len" = some none) (z_range : PySem.W.nsIn K mainGlobals "range" = some none) (z_list : PySem.W.nsIn K mainGlobals "list" = some none) (z_max : PySem.W.nsIn K mainGlobals "max" = some none) (z_min : PySem.W.nsIn K mainGlobals "min" = some none) (z_zip : PySem.W.nsIn K mainGlobals "zip" = some none) (z_abs : PySem.W.nsIn K mainGlobals "abs" = some none) (z_int : PySem.W.nsIn K mainGlobals "int" = some none) (z_isinstance : PySem.W.nsIn K mainGlobals "isinstance" = some none) (z_bool : PySem.W.nsIn K mainGlobals "bool" = some none) (z_all : PySem.W.nsIn K mainGlobals "all" = some none) (z_any : PySem.W.nsIn K mainGlobals "any" = some none) (z_sum : PySem.W.nsIn K mainGlobals "sum" = some none) (z_enumerate : PySem.W.nsIn K mainGlobals "enumerate" = some none) :
    ∃ fd : FuncData, (∀ (s : Shared) (v : Value), BindsTo s fd ⟨[v], []⟩ [("_law_script", v)]) ∧ ∀ base : Heap, K.In base → base.Ns mainGlobals mg → FnOk l.prog w K mg base CX0 5 fa fd ["_law_script"] (spLaw K) := by
  have e := hfa.symm.trans (PySem.W.mg_of X G a18)
  cases e
  have F0 := fun_mk (st := sMix) l0 c0 k0
  have F1 := fun_mk (st := sLead) l1 c1 k1
  have F2 := fun_mk (st := sShares) l2 c2 k2
  have F3 := fun_mk (st := sHas) l3 c3 k3
  have F4 := fun_mk (st := sCell) l4 c4 k4
  have F5 := fun_mk (st := sBag) l5 c5 k5
  have F6 := fun_mk (st := sTake) l6 c6 k6
  have F7 := fun_mk (st := sPrime) l7 c7 k7
  have F8 := fun_mk (st := sSparse) l8 c8 k8
  have F9 := fun_mk (st := sRows) l9 c9 k9
  have F10 := fun_mk (st := sBack) l10 c10 k10
  have F11 := fun_mk (st := sLess) l11 c11 k11
  have F12 := fun_mk (st := sForm) l12 c12 k12
  have F13 := fun_mk (st := sIn) l13 c13 k13
  have F14 := fun_mk (st := sWhole) l14 c14 k14
  have F15 := fun_mk (st := sMixL) l15 c15 k15
  have F16 := fun_mk (st := sAsked) l16 c16 k16
  have F17 := fun_mk (st := sRight) l17 c17 k17
  have F18 := fun_mk (st := sLaw) l18 c18 k18
  have b0 := F0.binds (ps := ["p", "shares", "rows", "length"]) fun _ _ _ _ _ _ us hl => match us, hl with | [_, _, _, _], _ => rfl
  have b1 := F1.binds (ps := ["row"]) fun _ _ _ _ _ _ us hl => match us, hl with | [_], _ => rfl
  have b2 := F2.binds (ps := ["p", "form", "row"]) fun _ _ _ _ _ _ us hl => match us, hl with | [_, _, _], _ => rfl
  have b3 := F3.binds (ps := ["p", "form", "row"]) fun _ _ _ _ _ _ us hl => match us, hl with | [_, _, _], _ => rfl
  have b4 := F4.binds (ps := ["_law_script", "_law_k"]) fun _ _ _ _ _ _ us hl => match us, hl with | [_, _], _ => rfl
  have b5 := F5.binds (ps := ["_law_script", "_law_at"]) fun _ _ _ _ _ _ us hl => match us, hl with | [_, _], _ => rfl
  have b6 := F6.binds (ps := ["_law_bag_here", "_law_many"]) fun _ _ _ _ _ _ us hl => match us, hl with | [_, _], _ => rfl
  have b7 := F7.binds (ps := ["_law_bag_here"]) fun _ _ _ _ _ _ us hl => match us, hl with | [_], _ => rfl
  have b8 := F8.binds (ps := ["_law_p", "_law_length", "_law_bag_here"]) fun _ _ _ _ _ _ us hl => match us, hl with | [_, _, _], _ => rfl
  have b9 := F9.binds (ps := ["_law_p", "_law_length", "_law_many", "_law_bag_here"]) fun _ _ _ _ _ _ us hl => match us, hl with | [_, _, _, _], _ => rfl
  have b10 := F10.binds (ps := ["_law_p", "_law_rest"]) fun _ _ _ _ _ _ us hl => match us, hl with | [_, _], _ => rfl
  have b11 := F11.binds (ps := ["_law_p", "_law_row", "_law_rest", "_law_other"]) fun _ _ _ _ _ _ us hl => match us, hl with | [_, _, _, _], _ => rfl
  have b12 := F12.binds (ps := ["_law_p", "_law_rows_here"]) fun _ _ _ _ _ _ us hl => match us, hl with | [_, _], _ => rfl
  have b13 := F13.binds (ps := ["_law_p", "_law_form_here", "_law_row"]) fun _ _ _ _ _ _ us hl => match us, hl with | [_, _, _], _ => rfl
  have b14 := F14.binds (ps := ["_law_thing", "_law_end"]) fun _ _ _ _ _ _ us hl => match us, hl with | [_, _], _ => rfl
  have b15 := F15.binds (ps := ["_law_p", "_law_length", "_law_numbers", "_law_rows_here"]) fun _ _ _ _ _ _ us hl => match us, hl with | [_, _, _, _], _ => rfl
  have b16 := F16.binds (ps := ["_law_p", "_law_length", "_law_form_here", "_law_bag_here"]) fun _ _ _ _ _ _ us hl => match us, hl with | [_, _, _, _], _ => rfl
  have b17 := F17.binds (ps := ["_law_p", "_law_length", "_law_form_here", "_law_row"]) fun _ _ _ _ _ _ us hl => match us, hl with | [_, _, _, _], _ => rfl
  have g0 := PySem.W.mg_of X G a0
  have g1 := PySem.W.mg_of X G a1
  have g2 := PySem.W.mg_of X G a2
  have g3 := PySem.W.mg_of X G a3
  have g4 := PySem.W.mg_of X G a4
  have g5 := PySem.W.mg_of X G a5
  have g6 := PySem.W.mg_of X G a6
  have g7 := PySem.W.mg_of X G a7
  have g8 := PySem.W.mg_of X G a8
  have g9 := PySem.W.mg_of X G a9
  have g10 := PySem.W.mg_of X G a10
  have g11 := PySem.W.mg_of X G a11
  have g12 := PySem.W.mg_of X G a12
  have g13 := PySem.W.mg_of X G a13
  have g14 := PySem.W.mg_of X G a14
  have g15 := PySem.W.mg_of X G a15
  have g16 := PySem.W.mg_of X G a16
  have g17 := PySem.W.mg_of X G a17
  have m_len := PySem.W.mg_none_of X G z_len
  have m_range := PySem.W.mg_none_of X G z_range
  have m_list := PySem.W.mg_none_of X G z_list
  have m_max := PySem.W.mg_none_of X G z_max
  have m_min := PySem.W.mg_none_of X G z_min
  have m_zip := PySem.W.mg_none_of X G z_zip
  have m_abs := PySem.W.mg_none_of X G z_abs
  have m_int := PySem.W.mg_none_of X G z_int
  have m_isinstance := PySem.W.mg_none_of X G z_isinstance
  have m_bool := PySem.W.mg_none_of X G z_bool
  have m_all := PySem.W.mg_none_of X G z_all
  have m_any := PySem.W.mg_none_of X G z_any
  have m_sum := PySem.W.mg_none_of X G z_sum
  have m_enumerate := PySem.W.mg_none_of X G z_enumerate
  refine ⟨PySem.W.fnOf "law" "law" (defArgs sLaw) (defBody sLaw) (defScope sLaw) .none kV18 dc18 pm18 an18 cd18 ct18, fun s v => .of_eq rfl, fun base _ _ => ?_⟩
  have GMx1 : FnOk l.prog w K mg base CX0 1 f0 _ _ spMix := ok_mix F0 m_range m_sum m_zip
  have GLd1 : FnOk l.prog w K mg base CX0 1 f1 _ _ spLead := ok_lead F1 m_enumerate
  have GSh2 : FnOk l.prog w K mg base CX0 2 f2 _ _ spShares := ok_shares F2 GLd1 b1 k1 g1 GMx1 b0 k0 g0 m_len
  have GMx2 : FnOk l.prog w K mg base CX0 2 f0 _ _ spMix := ok_mix F0 m_range m_sum m_zip
  have GLd2 : FnOk l.prog w K mg base CX0 2 f1 _ _ spLead := ok_lead F1 m_enumerate
  have GSh3 : FnOk l.prog w K mg base CX0 3 f2 _ _ spShares := ok_shares F2 GLd2 b1 k1 g1 GMx2 b0 k0 g0 m_len
  have GHs : FnOk l.prog w K mg base CX0 3 f3 _ _ spHas := ok_has F3 GSh2 b2 k2 g2
  have GCe : FnOk l.prog w K mg base CX0 3 f4 _ _ (spCell K) := ok_cell F4 m_len
  have GB : FnOk l.prog w K mg base CX0 4 f5 _ _ (spBag K) := ok_bag F5 GCe b4 k4 g4 m_abs
  have GT2 : FnOk l.prog w K mg base CX0 2 f6 _ _ spTake := ok_take F6
  have GT3 : FnOk l.prog w K mg base CX0 3 f6 _ _ spTake := ok_take F6
  have GT4 : FnOk l.prog w K mg base CX0 4 f6 _ _ spTake := ok_take F6
  have GP : FnOk l.prog w K mg base CX0 4 f7 _ _ spPrime := ok_prime F7 GT3 b6 k6 g6
  have GS : FnOk l.prog w K mg base CX0 3 f8 _ _ spSparse := ok_sparse F8 GT2 b6 k6 g6 m_range m_int
  have GR : FnOk l.prog w K mg base CX0 4 f9 _ _ spRows := ok_rows F9 GT3 b6 k6 g6 GS b8 k8 g8 m_range m_len m_zip
  have GBk : FnOk l.prog w K mg base CX0 3 f10 _ _ spBack := ok_back F10 m_range
  have GLs3 : FnOk l.prog w K mg base CX0 3 f11 _ _ spLess := ok_less F11 m_zip
  have GLs2 : FnOk l.prog w K mg base CX0 2 f11 _ _ spLess := ok_less F11 m_zip
  have GF : FnOk l.prog w K mg base CX0 4 f12 _ _ spForm := ok_form F12 GBk b10 k10 g10 GLs3 b11 k11 g11 m_len m_range m_list
  have GIn : FnOk l.prog w K mg base CX0 3 f13 _ _ spIn := ok_in F13 GLs2 b11 k11 g11 m_any
  have GW : FnOk l.prog w K mg base CX0 3 f14 _ _ spWhole := ok_whole F14 m_isinstance m_int m_bool
  have GML : FnOk l.prog w K mg base CX0 3 f15 _ _ spMixL := ok_mixL F15 m_zip
  have GA : FnOk l.prog w K mg base CX0 4 f16 _ _ spAsked := ok_asked F16 GT3 b6 k6 g6 GML b15 k15 g15 GS b8 k8 g8 m_list
  have GK : FnOk l.prog w K mg base CX0 4 f17 _ _ spRight := ok_right F17 GIn b13 k13 g13 GHs b3 k3 g3 GSh3 b2 k2 g2 GW b14 k14 g14 GML b15 k15 g15 m_list m_isinstance m_bool m_len m_all
  exact ok_law F18 GB b5 k5 g5 GP b7 k7 g7 GT4 b6 k6 g6 GR b9 k9 g9 GF b12 k12 g12 GA b16 k16 g16 GK b17 k17 g17 m_len m_range m_max m_min
end My
open PySem PySem.W PyProof.Rows
set_option maxRecDepth 100000 in
set_option maxHeartbeats 0 in
theorem PySem.Challenge.cw_stillspans_k03_has_and_shares_holds : PySem.Challenge.rw_stillspans_k03_has_and_shares.Holds := by
  w_on; o_law; k_head; (case hw => w_witness2)
  k_fill
  refine L2.walk_of (l := PySem.Challenge.rw_stillspans_k03_has_and_shares) (n := 63) (k := 5) (x := "_law_script") (CX := fun _ => L2.CX0) (sp := fun w => My.spLaw _) rfl (by decide) rfl ⟨rfl, by decide, by decide⟩ (fun w h Y => PySem.W.kIn_of Y) ?F (fun _ _ a ns hl _ hS => ⟨a, ns, rfl, hS, hl, fun _ => rfl⟩) (fun _ _ _ _ _ h => h)
  case F =>
    intro w mg fa h KX G hmg
    refine' My.all_mk KX G hmg ?a0 ?l0 ?c0 ?k0 ?a1 ?l1 ?c1 ?k1 ?a2 ?l2 ?c2 ?k2 ?a3 ?l3 ?c3 ?k3 ?a4 ?l4 ?c4 ?k4 ?a5 ?l5 ?c5 ?k5 ?a6 ?l6 ?c6 ?k6 ?a7 ?l7 ?c7 ?k7 ?a8 ?l8 ?c8 ?k8 ?a9 ?l9 ?c9 ?k9 ?a10 ?l10 ?c10 ?k10 ?a11 ?l11 ?c11 ?k11 ?a12 ?l12 ?c12 ?k12 ?a13 ?l13 ?c13 ?k13 ?a14 ?l14 ?c14 ?k14 ?a15 ?l15 ?c15 ?k15 ?a16 ?l16 ?c16 ?k16 ?a17 ?l17 ?c17 ?k17 ?a18 ?l18 ?c18 ?k18 ?z_len ?z_range ?z_list ?z_max ?z_min ?z_zip ?z_abs ?z_int ?z_isinstance ?z_bool ?z_all ?z_any ?z_sum ?z_enumerate
    (case a0 => k_is)
    (case l0 => k_is)
    (case c0 => k_is)
    (case k0 => k_is)
    (case a1 => k_is)
    (case l1 => k_is)
    (case c1 => k_is)
    (case k1 => k_is)
    (case a2 => k_is)
    (case l2 => k_is)
    (case c2 => k_is)
    (case k2 => k_is)
    (case a3 => k_is)
    (case l3 => k_is)
    (case c3 => k_is)
    (case k3 => k_is)
    (case a4 => k_is)
    (case l4 => k_is)
    (case c4 => k_is)
    (case k4 => k_is)
    (case a5 => k_is)
    (case l5 => k_is)
    (case c5 => k_is)
    (case k5 => k_is)
    (case a6 => k_is)
    (case l6 => k_is)
    (case c6 => k_is)
    (case k6 => k_is)
    (case a7 => k_is)
    (case l7 => k_is)
    (case c7 => k_is)
    (case k7 => k_is)
    (case a8 => k_is)
    (case l8 => k_is)
    (case c8 => k_is)
    (case k8 => k_is)
    (case a9 => k_is)
    (case l9 => k_is)
    (case c9 => k_is)
    (case k9 => k_is)
    (case a10 => k_is)
    (case l10 => k_is)
    (case c10 => k_is)
    (case k10 => k_is)
    (case a11 => k_is)
    (case l11 => k_is)
    (case c11 => k_is)
    (case k11 => k_is)
    (case a12 => k_is)
    (case l12 => k_is)
    (case c12 => k_is)
    (case k12 => k_is)
    (case a13 => k_is)
    (case l13 => k_is)
    (case c13 => k_is)
    (case k13 => k_is)
    (case a14 => k_is)
    (case l14 => k_is)
    (case c14 => k_is)
    (case k14 => k_is)
    (case a15 => k_is)
    (case l15 => k_is)
    (case c15 => k_is)
    (case k15 => k_is)
    (case a16 => k_is)
    (case l16 => k_is)
    (case c16 => k_is)
    (case k16 => k_is)
    (case a17 => k_is)
    (case l17 => k_is)
    (case c17 => k_is)
    (case k17 => k_is)
    (case a18 => k_is)
    (case l18 => k_is)
    (case c18 => k_is)
    (case k18 => k_is)
    (case z_len => k_is)
    (case z_range => k_is)
    (case z_list => k_is)
    (case z_max => k_is)
    (case z_min => k_is)
    (case z_zip => k_is)
    (case z_abs => k_is)
    (case z_int => k_is)
    (case z_isinstance => k_is)
    (case z_bool => k_is)
    (case z_all => k_is)
    (case z_any => k_is)
    (case z_sum => k_is)
    (case z_enumerate => k_is)
