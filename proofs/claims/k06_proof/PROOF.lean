import PyProof.Rows.All
import Wide.All
import OpenK.AllK
import Wide.FinOn
import HandS.ForMost
import HandS.Walk
import HandS.Wide
import HandS.Flow
import HandS.Codes
import HandS.IsInst
import HandS.Style
import KE.DataAny
import KE.DataCmp
import HandS.RevRange
import HandS.Conv
import HandS.Exc
import HandS.TryOnly
import HandS.ExcOwn
import HandS.ExcIs
import HandS.WordsExc
import HandS.AnyAll
import HandS.GenList
import HandS.EndTab
import HandS.More
import PyProof.ZipIter
import KE.KStar
import HandS.Star
import PySem.Challenge.RW_stillspans_k06_polynomials_known
set_option Elab.async false
set_option linter.all false
set_option maxRecDepth 100000
/-! Spans of rows by a prime, in plain Lean: low lists, the form, that each span has just one. -/
namespace My
abbrev Row := List Int
def ent (r : Row) (j : Nat) : Int := r.getD j 0
/-- congruent -/
def cg (p a b : Int) : Prop := ∃ k, a = b + p * k
section
variable {p a b c d x y : Int}
theorem cg.refl (p a : Int) : cg p a a := ⟨0, by grind⟩
theorem cg.of_eq (h : a = b) : cg p a b := h ▸ cg.refl p a
theorem cg.symm (h : cg p a b) : cg p b a := by
  obtain ⟨k, h⟩ := h
  exact ⟨-k, by grind⟩
theorem cg.trans (h : cg p a b) (h2 : cg p b c) : cg p a c := by
  obtain ⟨k, h⟩ := h
  obtain ⟨l, h2⟩ := h2
  exact ⟨k + l, by grind⟩
theorem cg.add (h : cg p a b) (h2 : cg p c d) : cg p (a + c) (b + d) := by
  obtain ⟨k, h⟩ := h
  obtain ⟨l, h2⟩ := h2
  exact ⟨k + l, by grind⟩
theorem cg.sub (h : cg p a b) (h2 : cg p c d) : cg p (a - c) (b - d) := by
  obtain ⟨k, h⟩ := h
  obtain ⟨l, h2⟩ := h2
  exact ⟨k - l, by grind⟩
theorem cg.mul (h : cg p a b) (h2 : cg p c d) : cg p (a * c) (b * d) := by
  obtain ⟨k, h⟩ := h
  obtain ⟨l, h2⟩ := h2
  exact ⟨k * d + b * l + p * k * l, by grind⟩
theorem cg.emod (p a : Int) : cg p (a % p) a := ⟨-(a / p), by have := Int.emod_def a p; grind⟩
theorem cg.iff : cg p a b ↔ a % p = b % p := by
  constructor
  · rintro ⟨k, rfl⟩
    exact Int.add_mul_emod_self_left b p k
  · intro h
    exact (cg.emod p a).symm.trans ((cg.of_eq h).trans (cg.emod p b))
theorem cg.eq (h : cg p a b) (ha : 0 ≤ a) (ha' : a < p) (hb : 0 ≤ b) (hb' : b < p) : a = b := by
  have e := cg.iff.mp h
  rw [Int.emod_eq_of_lt ha ha', Int.emod_eq_of_lt hb hb'] at e
  exact e
theorem one_ne (hp : 2 ≤ p) : ¬ cg p 1 0 := fun h => by
  have := h.eq (by omega) (by omega) (by omega) (by omega)
  omega
end
theorem getD_el {α : Type} (l : List α) (d : α) {j : Nat} (h : j < l.length) : l.getD j d = l[j] := by
  rw [List.getD_eq_getElem?_getD, List.getElem?_eq_getElem h]
  rfl
/-- a row of length n of rests -/
structure Wf (p : Int) (n : Nat) (r : Row) : Prop where
  len : r.length = n
  rng : ∀ x ∈ r, 0 ≤ x ∧ x < p
theorem ent_mem {r : Row} {j : Nat} (h : j < r.length) : ent r j ∈ r := by
  unfold ent
  rw [getD_el _ _ h]
  exact List.getElem_mem h
theorem ent_some {r : Row} {j : Nat} (h : j < r.length) : r[j]? = some (ent r j) := by
  unfold ent
  rw [getD_el _ _ h, List.getElem?_eq_getElem h]
theorem Wf.ent {p : Int} {n : Nat} {r : Row} (w : Wf p n r) {j : Nat} (h : j < n) : 0 ≤ ent r j ∧ My.ent r j < p := w.rng _ (ent_mem (w.len ▸ h))
theorem row_ext {p : Int} {n : Nat} {r s : Row} (a : Wf p n r) (b : Wf p n s) (h : ∀ j, j < n → cg p (ent r j) (ent s j)) : r = s := by
  refine List.ext_getElem? fun j => ?_
  by_cases hj : j < n
  · rw [ent_some (a.len ▸ hj), ent_some (b.len ▸ hj), (h j hj).eq (a.ent hj).1 (a.ent hj).2 (b.ent hj).1 (b.ent hj).2]
  · rw [List.getElem?_eq_none (by have := a.len; omega), List.getElem?_eq_none (by have := b.len; omega)]

/-! ### spans -/
def Z (p : Int) (n : Nat) (v : Nat → Int) : Prop := ∀ j, j < n → cg p (v j) 0
/-- in the span of R -/
inductive Spn (p : Int) (n : Nat) (R : List Row) : (Nat → Int) → Prop
  | zero {v} (h : Z p n v) : Spn p n R v
  | add {u v r} (c : Int) (hr : r ∈ R) (hu : Spn p n R u) (h : ∀ j, j < n → cg p (v j) (u j + c * ent r j)) : Spn p n R v
section
variable {p : Int} {n : Nat} {R S : List Row} {u v : Nat → Int}
theorem Spn.cong (h : Spn p n R u) (e : ∀ j, j < n → cg p (v j) (u j)) : Spn p n R v := by
  cases h with
  | zero h => exact .zero fun j hj => (e j hj).trans (h j hj)
  | add c hr hu h => exact .add c hr hu fun j hj => (e j hj).trans (h j hj)
theorem Spn.lin (c : Int) (hu : Spn p n R u) (hv : Spn p n R v) : Spn p n R (fun j => u j + c * v j) := by
  induction hv with
  | zero h =>
    refine hu.cong fun j hj => ?_
    have := (cg.refl p (u j)).add ((cg.refl p c).mul (h j hj))
    exact this.trans (cg.of_eq (by grind))
  | add d hr hw h ih =>
    refine .add (c * d) hr ih fun j hj => ?_
    have := (cg.refl p (u j)).add ((cg.refl p c).mul (h j hj))
    exact this.trans (cg.of_eq (by grind))
theorem Spn.mem {r : Row} (h : r ∈ R) : Spn p n R (ent r) := .add (u := fun _ => 0) 1 h (.zero fun _ _ => cg.refl _ _) fun j _ => cg.of_eq (by grind)
theorem Spn.mono (h : ∀ r ∈ R, Spn p n S (ent r)) (hv : Spn p n R v) : Spn p n S v := by
  induction hv with
  | zero h => exact .zero h
  | add c hr _ e ih => exact (ih.lin c (h _ hr)).cong e
theorem Spn.incl (h : ∀ r ∈ R, r ∈ S) (hv : Spn p n R v) : Spn p n S v := hv.mono fun r hr => .mem (h r hr)
end
/-! ### what the rows of a low list leave of a row -/
def red : List Row → List Nat → (Nat → Int) → Nat → Int
  | r :: F, l :: ls, v => red F ls (fun j => v j - v l * ent r j)
  | _, _, v => v
theorem red_nil (ls : List Nat) (v : Nat → Int) : red [] ls v = v := by
  cases ls <;> rfl
theorem red_lin (c : Int) : ∀ (F : List Row) (ls : List Nat) (u v : Nat → Int) (j : Nat), red F ls (fun j => u j + c * v j) j = red F ls u j + c * red F ls v j
  | [], ls, u, v, j => by rw [red_nil, red_nil, red_nil]
  | r :: F, [], u, v, j => rfl
  | r :: F, l :: ls, u, v, j => by
    have e : (fun j => (u j + c * v j) - (u l + c * v l) * ent r j) = fun j => (u j - u l * ent r j) + c * (v j - v l * ent r j) := by
      funext j
      grind
    show red F ls (fun j => (u j + c * v j) - (u l + c * v l) * ent r j) j = _
    rw [e, red_lin c F ls]
    rfl
/-- each row has 1 at its own lead, 0 at the others' -/
def Dl (p : Int) (F : List Row) (ls : List Nat) : Prop := ls.length = F.length ∧ ∀ (i k : Nat) r l, F[i]? = some r → ls[k]? = some l → ent r l = if i = k then 1 else 0
theorem Dl.tail {p : Int} {r : Row} {F : List Row} {l : Nat} {ls : List Nat} (h : Dl p (r :: F) (l :: ls)) : Dl p F ls := by
  refine ⟨by simpa using h.1, fun i k s m hi hk => ?_⟩
  have := h.2 (i + 1) (k + 1) s m hi hk
  rw [this]
  by_cases e : i = k
  · rw [if_pos e, if_pos (by omega)]
  · rw [if_neg e, if_neg (by omega)]
theorem red_zero {p : Int} {n : Nat} : ∀ {F : List Row} {ls : List Nat} {v : Nat → Int}, (∀ l ∈ ls, l < n) → Z p n v → Z p n (red F ls v)
  | [], ls, v, _, h => by rw [red_nil]; exact h
  | r :: F, [], v, _, h => h
  | r :: F, l :: ls, v, hl, h => by
    refine red_zero (F := F) (ls := ls) (fun m hm => hl m (List.mem_cons_of_mem _ hm)) fun j hj => ?_
    have := (h j hj).sub ((h l (hl l List.mem_cons_self)).mul (cg.refl p (ent r j)))
    exact this.trans (cg.of_eq (by grind))
theorem red_keep {p : Int} {n : Nat} : ∀ {F : List Row} {ls : List Nat} {v : Nat → Int}, (∀ l ∈ ls, l < n) → (∀ l ∈ ls, cg p (v l) 0) → ∀ j, j < n → cg p (red F ls v j) (v j)
  | [], ls, v, _, _, j, _ => by rw [red_nil]; exact cg.refl _ _
  | r :: F, [], v, _, _, j, _ => cg.refl _ _
  | r :: F, l :: ls, v, hn, hl, j, hj => by
    have a : ∀ j, cg p (v j - v l * ent r j) (v j) := fun j => by
      have := (cg.refl p (v j)).sub ((hl l List.mem_cons_self).mul (cg.refl p (ent r j)))
      exact this.trans (cg.of_eq (by grind))
    refine (red_keep (F := F) (ls := ls) (fun m hm => hn m (List.mem_cons_of_mem _ hm)) (fun m hm => ?_) j hj).trans (a j)
    exact (a m).trans (hl m (List.mem_cons_of_mem _ hm))
theorem red_row {p : Int} {n : Nat} : ∀ {F : List Row} {ls : List Nat} {r : Row}, Dl p F ls → (∀ l ∈ ls, l < n) → r ∈ F → Z p n (red F ls (ent r))
  | s :: F, [], r, h, _, _ => by simp [Dl] at h
  | s :: F, l :: ls, r, h, hl, hr => by
    have hl' : ∀ m ∈ ls, m < n := fun m hm => hl m (List.mem_cons_of_mem _ hm)
    rcases List.mem_cons.mp hr with rfl | hr
    · refine red_zero (F := F) (ls := ls) hl' fun j hj => ?_
      have e := h.2 0 0 r l rfl rfl
      rw [if_pos rfl] at e
      rw [e]
      exact cg.of_eq (by grind)
    · obtain ⟨i, hi⟩ := List.getElem?_of_mem hr
      have e := h.2 (i + 1) 0 r l hi rfl
      rw [if_neg (by omega)] at e
      have q := red_row h.tail hl' hr
      show Z p n (red F ls (fun j => ent r j - ent r l * ent s j))
      rw [e]
      have e2 : (fun j => ent r j - 0 * ent s j) = ent r := by
        funext j
        grind
      rw [e2]
      exact q
theorem spn_red {p : Int} {n : Nat} {F : List Row} {ls : List Nat} (h : Dl p F ls) (hl : ∀ l ∈ ls, l < n) {v : Nat → Int} (hv : Spn p n F v) : Z p n (red F ls v) := by
  induction hv with
  | zero h => exact red_zero hl h
  | @add u v r c hr hu e ih =>
    have q := red_row h hl hr
    have e1 : Z p n (red F ls (fun j => u j + c * ent r j)) := fun j hj => by
      rw [red_lin c F ls u (ent r) j]
      have := (ih j hj).add ((cg.refl p c).mul (q j hj))
      exact this.trans (cg.of_eq (by grind))
    have e2 : Z p n (red F ls (fun j => v j + (-1) * (u j + c * ent r j))) := red_zero hl fun j hj => by
      have := (e j hj).add (cg.refl p ((-1) * (u j + c * ent r j)))
      exact this.trans (cg.of_eq (by grind))
    intro j hj
    have a := e2 j hj
    rw [red_lin (-1) F ls v _ j] at a
    have := a.add (e1 j hj)
    exact (cg.of_eq (by grind)).trans this
theorem spn_sub {p : Int} {n : Nat} {R : List Row} : ∀ {F : List Row} {ls : List Nat} {v : Nat → Int}, (∀ r ∈ F, r ∈ R) → Spn p n R (fun j => v j - red F ls v j)
  | [], ls, v, _ => by
    rw [red_nil]
    exact .zero fun j _ => cg.of_eq (by grind)
  | r :: F, [], v, _ => .zero fun j _ => cg.of_eq (by show v j - v j = 0; grind)
  | r :: F, l :: ls, v, h => by
    have q := spn_sub (p := p) (n := n) (R := R) (F := F) (ls := ls) (v := fun j => v j - v l * ent r j) fun s hs => h s (List.mem_cons_of_mem _ hs)
    exact .add (v l) (h r List.mem_cons_self) q fun j _ => cg.of_eq (by
      show v j - red F ls (fun j => v j - v l * ent r j) j = (v j - v l * ent r j - red F ls (fun j => v j - v l * ent r j) j) + v l * ent r j
      grind)
theorem red_lead {p : Int} {n : Nat} : ∀ {F : List Row} {ls : List Nat} {v : Nat → Int} {j : Nat}, (∀ (i : Nat) r l, F[i]? = some r → ls[i]? = some l → ∀ m, m < l → ent r m = 0) → j < n → Z p n (red F ls v) → (∀ i, i < j → cg p (v i) 0) → ¬ cg p (v j) 0 → j ∈ ls
  | [], ls, v, j, _, hj, h, _, h2 => by
    rw [red_nil] at h
    exact absurd (h j hj) h2
  | r :: F, [], v, j, _, hj, h, _, h2 => absurd (h j hj) h2
  | r :: F, l :: ls, v, j, hb, hj, h, h1, h2 => by
    by_cases e : j = l
    · rw [e]
      exact List.mem_cons_self
    · refine List.mem_cons_of_mem _ (red_lead (F := F) (ls := ls) (v := fun j => v j - v l * ent r j) (fun i s m hi hm => hb (i + 1) s m hi hm) hj h (fun i hi => ?_) fun z => h2 ?_)
      · by_cases hl : l < j
        · have := (h1 i hi).sub ((h1 l hl).mul (cg.refl p (ent r i)))
          exact this.trans (cg.of_eq (by grind))
        · have e0 : ent r i = 0 := hb 0 r l rfl rfl i (by omega)
          show cg p (v i - v l * ent r i) 0
          rw [e0]
          exact (cg.of_eq (by grind)).trans (h1 i hi)
      · by_cases hl : l < j
        · have := (cg.refl p (v j)).sub ((h1 l hl).mul (cg.refl p (ent r j)))
          have q : cg p (v j - v l * ent r j) (v j) := this.trans (cg.of_eq (by grind))
          exact q.symm.trans z
        · have e0 : ent r j = 0 := hb 0 r l rfl rfl j (by omega)
          have z : cg p (v j - v l * ent r j) 0 := z
          rw [e0] at z
          exact (cg.of_eq (by grind)).trans z
/-! ### low lists -/
structure Low (p : Int) (n : Nat) (F : List Row) (ls : List Nat) : Prop where
  wf : ∀ r ∈ F, Wf p n r
  dl : Dl p F ls
  lt : ∀ l ∈ ls, l < n
  up : ls.Pairwise (· < ·)
  zb : ∀ (i : Nat) r l, F[i]? = some r → ls[i]? = some l → ∀ m, m < l → ent r m = 0
theorem sorted_eq : ∀ {a b : List Nat}, a.Pairwise (· < ·) → b.Pairwise (· < ·) → (∀ x, x ∈ a ↔ x ∈ b) → a = b
  | [], [], _, _, _ => rfl
  | [], y :: b, _, _, h => absurd ((h y).mpr List.mem_cons_self) (by simp)
  | x :: a, [], _, _, h => absurd ((h x).mp List.mem_cons_self) (by simp)
  | x :: a, y :: b, ha, hb, h => by
    have a1 := List.pairwise_cons.mp ha
    have b1 := List.pairwise_cons.mp hb
    have e : x = y := by
      rcases List.mem_cons.mp ((h x).mp List.mem_cons_self) with e | m
      · exact e
      · rcases List.mem_cons.mp ((h y).mpr List.mem_cons_self) with e | m2
        · exact e.symm
        · have := b1.1 x m
          have := a1.1 y m2
          omega
    subst e
    rw [sorted_eq a1.2 b1.2 fun z => ⟨fun hz => ?_, fun hz => ?_⟩]
    · rcases List.mem_cons.mp ((h z).mp (List.mem_cons_of_mem _ hz)) with e | m
      · subst e
        exact absurd (a1.1 z hz) (Nat.lt_irrefl _)
      · exact m
    · rcases List.mem_cons.mp ((h z).mpr (List.mem_cons_of_mem _ hz)) with e | m
      · subst e
        exact absurd (b1.1 z hz) (Nat.lt_irrefl _)
      · exact m
theorem lead_in {p : Int} {n : Nat} {F G : List Row} {ls ms : List Nat} (hp : 2 ≤ p) (hF : Low p n F ls) (hG : Low p n G ms) (h : ∀ r ∈ F, Spn p n G (ent r)) : ∀ l ∈ ls, l ∈ ms := by
  intro l hl
  obtain ⟨i, hi⟩ := List.getElem?_of_mem hl
  have hi' : i < F.length := by
    have := (List.getElem?_eq_some_iff.mp hi).1
    rw [hF.dl.1] at this
    exact this
  have hr : F[i]? = some F[i] := List.getElem?_eq_getElem hi'
  have q := spn_red hG.dl hG.lt (h _ (List.getElem_mem hi'))
  refine red_lead hG.zb (hF.lt l hl) q (fun j hj => cg.of_eq (hF.zb i _ l hr hi j hj)) ?_
  rw [hF.dl.2 i i _ l hr hi, if_pos rfl]
  exact one_ne hp
theorem low_unique {p : Int} {n : Nat} {F G : List Row} {ls ms : List Nat} (hp : 2 ≤ p) (hF : Low p n F ls) (hG : Low p n G ms) (h1 : ∀ r ∈ F, Spn p n G (ent r)) (h2 : ∀ r ∈ G, Spn p n F (ent r)) : F = G := by
  have e : ls = ms := sorted_eq hF.up hG.up fun l => ⟨lead_in hp hF hG h1 l, lead_in hp hG hF h2 l⟩
  subst e
  have len : F.length = G.length := hF.dl.1.symm.trans hG.dl.1
  refine List.ext_getElem len fun i hi hi' => ?_
  refine row_ext (hF.wf _ (List.getElem_mem hi)) (hG.wf _ (List.getElem_mem hi')) fun j hj => ?_
  have s : Spn p n F (fun j => ent F[i] j + (-1) * ent G[i] j) := (Spn.mem (List.getElem_mem hi)).lin (-1) (h2 _ (List.getElem_mem hi'))
  have z := spn_red hF.dl hF.lt s
  have k := red_keep (p := p) (F := F) hF.lt (v := fun j => ent F[i] j + (-1) * ent G[i] j) (fun l hl => by
    obtain ⟨k, hk⟩ := List.getElem?_of_mem hl
    rw [hF.dl.2 i k _ l (List.getElem?_eq_getElem hi) hk, hG.dl.2 i k _ l (List.getElem?_eq_getElem hi') hk]
    exact cg.of_eq (by grind)) j hj
  have q := (k.symm.trans (z j hj)).add (cg.refl p (ent G[i] j))
  exact (cg.of_eq (by grind)).trans (q.trans (cg.of_eq (by grind)))
/-! ### the form -/
def lessR (p : Int) (row : Row) (c : Int) (by_ : Row) : Row := List.zipWith (fun a b => (a - c * b) % p) row by_
def mulR (p c : Int) (row : Row) : Row := row.map fun x => c * x % p
def clearM (p : Int) (pl : Nat) (by_ : Row) (M : List Row) : List Row := M.map fun r => lessR p r (ent r pl) by_
def pick (pl : Nat) (left : List Row) : Option Nat := left.findIdx? fun r => decide (ent r pl ≠ 0)
def stepM (p : Int) (inv : Int → Int) (pl : Nat) (s : List Row × List Row) : List Row × List Row :=
  match pick pl s.2 with
  | none => s
  | some at_ => let r := s.2.getD at_ []; let row := mulR p (inv (ent r pl)) r
    (clearM p pl row s.1 ++ [row], clearM p pl row (s.2.eraseIdx at_))
def runM (p : Int) (inv : Int → Int) (rows : List Row) : Nat → List Row × List Row
  | 0 => ([], rows)
  | k + 1 => stepM p inv k (runM p inv rows k)
def lenM (rows : List Row) : Nat := match rows with | [] => 0 | r :: _ => r.length
def lowM (p : Int) (inv : Int → Int) (rows : List Row) : List Row := (runM p inv rows (lenM rows)).1
/-- what the contrary is for -/
def InvOk (p : Int) (inv : Int → Int) : Prop := ∀ x, 0 < x → x < p → inv x * x % p = 1
section
variable {p : Int} {n : Nat} {inv : Int → Int}
theorem lessR_len {row b : Row} {c : Int} (h : Wf p n row) (h2 : Wf p n b) : (lessR p row c b).length = n := by
  unfold lessR
  rw [List.length_zipWith, h.len, h2.len, Nat.min_self]
theorem lessR_ent {row b : Row} {c : Int} (h : Wf p n row) (h2 : Wf p n b) {j : Nat} (hj : j < n) : ent (lessR p row c b) j = (ent row j - c * ent b j) % p := by
  have a := ent_some (r := lessR p row c b) (j := j) (by rw [lessR_len h h2]; exact hj)
  unfold lessR at a
  rw [List.getElem?_zipWith, ent_some (by rw [h.len]; exact hj), ent_some (by rw [h2.len]; exact hj)] at a
  exact (Option.some.inj a).symm
theorem lessR_wf (hp : 0 < p) {row b : Row} {c : Int} (h : Wf p n row) (h2 : Wf p n b) : Wf p n (lessR p row c b) := by
  refine ⟨lessR_len h h2, fun x hx => ?_⟩
  obtain ⟨j, hj, rfl⟩ := List.getElem_of_mem hx
  have hj' : j < n := by rw [lessR_len h h2] at hj; exact hj
  have e := lessR_ent (c := c) h h2 hj'
  unfold ent at e
  rw [getD_el _ _ hj] at e
  rw [e]
  exact ⟨Int.emod_nonneg _ (by omega), Int.emod_lt_of_pos _ hp⟩
theorem lessR_zero {row b : Row} (h : Wf p n row) (h2 : Wf p n b) : lessR p row 0 b = row := by
  refine List.ext_getElem (by rw [lessR_len h h2, h.len]) fun j hj hj' => ?_
  have hj'' : j < n := by rw [h.len] at hj'; exact hj'
  have e := lessR_ent (c := 0) h h2 hj''
  unfold ent at e
  rw [getD_el _ _ hj, getD_el _ _ hj'] at e
  rw [e]
  have := h.rng _ (List.getElem_mem hj')
  rw [Int.zero_mul, Int.sub_zero]
  exact Int.emod_eq_of_lt this.1 this.2
theorem mulR_wf (hp : 0 < p) {row : Row} {c : Int} (h : Wf p n row) : Wf p n (mulR p c row) := by
  refine ⟨by unfold mulR; rw [List.length_map, h.len], fun x hx => ?_⟩
  obtain ⟨y, _, rfl⟩ := List.mem_map.mp hx
  exact ⟨Int.emod_nonneg _ (by omega), Int.emod_lt_of_pos _ hp⟩
theorem mulR_ent {row : Row} {c : Int} (h : Wf p n row) {j : Nat} (hj : j < n) : ent (mulR p c row) j = c * ent row j % p := by
  have a := ent_some (r := mulR p c row) (j := j) (by unfold mulR; rw [List.length_map, h.len]; exact hj)
  unfold mulR at a
  rw [List.getElem?_map, ent_some (by rw [h.len]; exact hj)] at a
  exact (Option.some.inj a).symm
/-- what holds ahead of the place pl -/
structure Run (p : Int) (n : Nat) (rows : List Row) (pl : Nat) (s : List Row × List Row) (ls : List Nat) : Prop where
  low : Low p n s.1 ls
  lt : ∀ l ∈ ls, l < pl
  wf : ∀ r ∈ s.2, Wf p n r
  zb : ∀ r ∈ s.2, ∀ j, j < pl → ent r j = 0
  to : ∀ r, r ∈ s.1 ∨ r ∈ s.2 → Spn p n rows (ent r)
  of : ∀ r ∈ rows, Spn p n (s.1 ++ s.2) (ent r)
theorem pick_none {pl : Nat} {left : List Row} (h : pick pl left = none) : ∀ r ∈ left, ent r pl = 0 := by
  intro r hr
  have := List.findIdx?_eq_none_iff.mp h r hr
  simpa using this
theorem pick_some {pl at_ : Nat} {left : List Row} (h : pick pl left = some at_) : ∃ hl : at_ < left.length, ent left[at_] pl ≠ 0 ∧ ∀ j (hj : j < at_), ent (left[j]'(by omega)) pl = 0 := by
  obtain ⟨h1, h2, h3⟩ := List.findIdx?_eq_some_iff_getElem.mp h
  refine ⟨h1, by simpa using h2, fun j hj => ?_⟩
  have := h3 j hj
  simpa using this
theorem run_step (hp : 2 ≤ p) (hv : InvOk p inv) {rows : List Row} {pl : Nat} {s : List Row × List Row} {ls : List Nat} (hpl : pl < n) (R : Run p n rows pl s ls) : ∃ ms, Run p n rows (pl + 1) (stepM p inv pl s) ms := by
  unfold stepM
  cases e : pick pl s.2 with
  | none =>
    refine ⟨ls, R.low, fun l hl => Nat.lt_succ_of_lt (R.lt l hl), R.wf, fun r hr j hj => ?_, R.to, R.of⟩
    by_cases ej : j = pl
    · rw [ej]
      exact pick_none e r hr
    · exact R.zb r hr j (by omega)
  | some at_ =>
    obtain ⟨hl, hne, _⟩ := pick_some e
    obtain ⟨form, left⟩ := s
    simp only at *
    have hr0 : left[at_] ∈ left := List.getElem_mem hl
    have e0 : left.getD at_ [] = left[at_] := getD_el _ _ hl
    rw [e0]
    have w0 := R.wf _ hr0
    generalize hr : left[at_] = r at *
    have r0 := w0.ent hpl
    have hi := hv (ent r pl) (by omega) r0.2
    generalize hc : inv (ent r pl) = c at *
    have pp : (0 : Int) < p := by omega
    have wrow : Wf p n (mulR p c r) := mulR_wf pp w0
    generalize hrow : mulR p c r = row at *
    have row1 : ent row pl = 1 := by
      rw [← hrow, mulR_ent w0 hpl]
      exact hi
    have rowz : ∀ j, j < pl → ent row j = 0 := fun j hj => by
      rw [← hrow, mulR_ent w0 (by omega), R.zb r hr0 j hj, Int.mul_zero, Int.zero_emod]
    have rowe : ∀ j, j < n → cg p (ent row j) (c * ent r j) := fun j hj => by
      rw [← hrow, mulR_ent w0 hj]
      exact cg.emod _ _
    have back : ∀ j, j < n → cg p (ent r j) (ent r pl * ent row j) := fun j hj => by
      have a : cg p (ent r pl * ent row j) (ent r pl * (c * ent r j)) := (cg.refl p _).mul (rowe j hj)
      have b : cg p (c * ent r pl * ent r j) (1 * ent r j) := ((cg.emod p _).symm.trans (cg.of_eq hi)).mul (cg.refl p _)
      exact ((a.trans (cg.of_eq (by grind))).trans (b.trans (cg.of_eq (by grind)))).symm
    have er : ∀ s, Wf p n s → ∀ j, j < n → cg p (ent (lessR p s (ent s pl) row) j) (ent s j - ent s pl * ent row j) := fun s hs j hj => by
      rw [lessR_ent hs wrow hj]
      exact cg.emod _ _
    have memE : ∀ s, s ∈ left.eraseIdx at_ → s ∈ left := fun s hs => List.mem_of_mem_eraseIdx hs
    have entz : ∀ s, Wf p n s → ∀ j, j < n → ent s pl * ent row j = 0 → ent (lessR p s (ent s pl) row) j = ent s j := fun s hs j hj h => by
      rw [lessR_ent hs wrow hj, h, Int.sub_zero]
      exact Int.emod_eq_of_lt (hs.ent hj).1 (hs.ent hj).2
    have entpl : ∀ s, Wf p n s → ent (lessR p s (ent s pl) row) pl = 0 := fun s hs => by
      rw [lessR_ent hs wrow hpl, row1, Int.mul_one, Int.sub_self, Int.zero_emod]
    have lenf : (clearM p pl row form).length = form.length := by unfold clearM; rw [List.length_map]
    have getf : ∀ (i : Nat) q, (clearM p pl row form ++ [row])[i]? = some q → (∃ s, form[i]? = some s ∧ q = lessR p s (ent s pl) row) ∨ (i = form.length ∧ q = row) := fun i q hq => by
      by_cases hi : i < form.length
      · rw [List.getElem?_append_left (by rw [lenf]; exact hi)] at hq
        unfold clearM at hq
        rw [List.getElem?_map, List.getElem?_eq_getElem hi] at hq
        exact .inl ⟨form[i], List.getElem?_eq_getElem hi, (Option.some.inj hq).symm⟩
      · have hi2 : i < form.length + 1 := by
          have := (List.getElem?_eq_some_iff.mp hq).1
          rw [List.length_append, lenf] at this
          exact this
        have e : i = form.length := by omega
        rw [List.getElem?_append_right (by rw [lenf]; omega), lenf, e, Nat.sub_self] at hq
        exact .inr ⟨e, (Option.some.inj hq).symm⟩
    have getl : ∀ (i : Nat) l, (ls ++ [pl])[i]? = some l → ls[i]? = some l ∨ (i = form.length ∧ l = pl) := fun i l hq => by
      have len := R.low.dl.1
      simp only at len
      by_cases hi : i < form.length
      · rw [List.getElem?_append_left (by rw [len]; exact hi)] at hq
        exact .inl hq
      · have hi2 : i < form.length + 1 := by
          have := (List.getElem?_eq_some_iff.mp hq).1
          rw [List.length_append, len] at this
          exact this
        have e : i = form.length := by omega
        rw [List.getElem?_append_right (by rw [len]; omega), len, e, Nat.sub_self] at hq
        exact .inr ⟨e, (Option.some.inj hq).symm⟩
    have wff : ∀ s ∈ form, Wf p n s := R.low.wf
    have meml : ∀ {i : Nat} {l}, ls[i]? = some l → i < form.length ∧ l < pl := fun {i l} h => by
      have z := (List.getElem?_eq_some_iff.mp h).1
      have len := R.low.dl.1
      simp only at len
      exact ⟨by omega, R.lt l (List.mem_of_getElem? h)⟩
    refine ⟨ls ++ [pl], ⟨fun q hq => ?_, ⟨?_, fun i k q l hi hk => ?_⟩, fun l hl => ?_, ?_, fun i q l hi hk m hm => ?_⟩, fun l hl => ?_, fun q hq => ?_, fun q hq j hj => ?_, fun q hq => ?_, fun q hq => ?_⟩
    · rcases List.mem_append.mp hq with h | h
      · obtain ⟨s, hs, rfl⟩ := List.mem_map.mp h
        exact lessR_wf pp (wff s hs) wrow
      · rw [List.mem_singleton.mp h]
        exact wrow
    · rw [List.length_append, List.length_append, lenf]
      have len := R.low.dl.1
      simp only at len
      rw [len]
      rfl
    · rcases getf i q hi with ⟨s, hs, rfl⟩ | ⟨ei, rfl⟩
      · have ws := wff s (List.mem_of_getElem? hs)
        have il : i < form.length := (List.getElem?_eq_some_iff.mp hs).1
        rcases getl k l hk with hk | ⟨ek, rfl⟩
        · rw [entz s ws l (by have := meml hk; omega) (by rw [rowz l (meml hk).2, Int.mul_zero])]
          exact R.low.dl.2 i k s l hs hk
        · rw [entpl s ws, if_neg (by omega)]
      · rcases getl k l hk with hk | ⟨ek, rfl⟩
        · rw [rowz l (meml hk).2, if_neg (by have := meml hk; omega)]
        · rw [row1, if_pos (by omega)]
    · rcases List.mem_append.mp hl with h | h
      · exact R.low.lt l h
      · rw [List.mem_singleton.mp h]
        exact hpl
    · exact List.pairwise_append.mpr ⟨R.low.up, List.pairwise_singleton _ _, fun a ha b hb => by rw [List.mem_singleton.mp hb]; exact R.lt a ha⟩
    · rcases getf i q hi with ⟨s, hs, rfl⟩ | ⟨ei, rfl⟩
      · have ws := wff s (List.mem_of_getElem? hs)
        have il : i < form.length := (List.getElem?_eq_some_iff.mp hs).1
        rcases getl i l hk with hk | ⟨ek, rfl⟩
        · have lp := (meml hk).2
          rw [entz s ws m (by omega) (by rw [rowz m (by omega), Int.mul_zero])]
          exact R.low.zb i s l hs hk m hm
        · omega
      · rcases getl i l hk with hk | ⟨ek, rfl⟩
        · have := (meml hk).1
          omega
        · exact rowz m hm
    · rcases List.mem_append.mp hl with h | h
      · exact Nat.lt_succ_of_lt (R.lt l h)
      · rw [List.mem_singleton.mp h]
        exact Nat.lt_succ_self _
    · obtain ⟨s, hs, rfl⟩ := List.mem_map.mp hq
      exact lessR_wf pp (R.wf s (memE s hs)) wrow
    · obtain ⟨s, hs, rfl⟩ := List.mem_map.mp hq
      have ws := R.wf s (memE s hs)
      by_cases ej : j = pl
      · rw [ej]
        exact entpl s ws
      · rw [entz s ws j (by omega) (by rw [rowz j (by omega), Int.mul_zero])]
        exact R.zb s (memE s hs) j (by omega)
    · have srow : Spn p n rows (ent row) := by
        have z : Spn p n rows (fun j => (fun _ => (0 : Int)) j + c * ent r j) := (Spn.zero fun _ _ => cg.refl _ _).lin c (R.to r (.inr hr0))
        exact z.cong fun j hj => (rowe j hj).trans (cg.of_eq (by grind))
      have sl : ∀ s, Wf p n s → Spn p n rows (ent s) → Spn p n rows (ent (lessR p s (ent s pl) row)) := fun s ws hs =>
        (hs.lin (-(ent s pl)) srow).cong fun j hj => (er s ws j hj).trans (cg.of_eq (by grind))
      rcases hq with h | h
      · rcases List.mem_append.mp h with h | h
        · obtain ⟨s, hs, rfl⟩ := List.mem_map.mp h
          exact sl s (wff s hs) (R.to s (.inl hs))
        · rw [List.mem_singleton.mp h]
          exact srow
      · obtain ⟨s, hs, rfl⟩ := List.mem_map.mp h
        exact sl s (R.wf s (memE s hs)) (R.to s (.inr (memE s hs)))
    · refine Spn.mono (fun s hs => ?_) (R.of q hq)
      have mrow : Spn p n (clearM p pl row form ++ [row] ++ clearM p pl row (left.eraseIdx at_)) (ent row) := Spn.mem (by simp)
      have sl : ∀ s, Wf p n s → lessR p s (ent s pl) row ∈ clearM p pl row form ++ [row] ++ clearM p pl row (left.eraseIdx at_) → Spn p n (clearM p pl row form ++ [row] ++ clearM p pl row (left.eraseIdx at_)) (ent s) := fun s ws hs =>
        ((Spn.mem hs).lin (ent s pl) mrow).cong fun j hj => by
          have := (er s ws j hj).symm.add (cg.refl p (ent s pl * ent row j))
          exact (cg.of_eq (by grind)).trans this
      rcases List.mem_append.mp hs with h | h
      · exact sl s (wff s h) (List.mem_append_left _ (List.mem_append_left _ (List.mem_map.mpr ⟨s, h, rfl⟩)))
      · obtain ⟨k, hk, rfl⟩ := List.getElem_of_mem h
        by_cases ek : k = at_
        · subst ek
          rw [hr]
          have z : Spn p n (clearM p pl row form ++ [row] ++ clearM p pl row (left.eraseIdx k)) (fun j => (fun _ => (0 : Int)) j + ent r pl * ent row j) := (Spn.zero fun _ _ => cg.refl _ _).lin _ mrow
          exact z.cong fun j hj => (back j hj).trans (cg.of_eq (by grind))
        · have hm : left[k] ∈ left.eraseIdx at_ := List.mem_eraseIdx_iff_getElem.mpr ⟨k, hk, ek, rfl⟩
          exact sl _ (R.wf _ h) (List.mem_append_right _ (List.mem_map.mpr ⟨_, hm, rfl⟩))
theorem run_all (hp : 2 ≤ p) (hv : InvOk p inv) {rows : List Row} (w : ∀ r ∈ rows, Wf p n r) : ∀ k, k ≤ n → ∃ ls, Run p n rows k (runM p inv rows k) ls
  | 0, _ => ⟨[], ⟨fun r hr => by simp [runM] at hr, ⟨rfl, fun i k r l hi _ => by simp [runM] at hi⟩, fun l hl => by simp at hl, List.Pairwise.nil, fun i r l hi _ => by simp [runM] at hi⟩, fun l hl => by simp at hl, w, fun r _ j hj => absurd hj (Nat.not_lt_zero _),
      fun r hr => .mem (by simpa [runM] using hr), fun r hr => .mem (by simpa [runM] using hr)⟩
  | k + 1, h => by
    obtain ⟨ls, R⟩ := run_all hp hv w k (by omega)
    exact run_step hp hv (by omega) R
theorem runM_nil : ∀ k, runM p inv [] k = ([], [])
  | 0 => rfl
  | k + 1 => by
    show stepM p inv k (runM p inv [] k) = _
    rw [runM_nil k]
    rfl
theorem lowM_len (rows : List Row) (w : ∀ r ∈ rows, Wf p n r) : lowM p inv rows = (runM p inv rows n).1 := by
  cases rows with
  | nil => unfold lowM; rw [runM_nil, runM_nil]
  | cons r R =>
    unfold lowM
    rw [show lenM (r :: R) = n from (w r List.mem_cons_self).len]
theorem lowM_ok (hp : 2 ≤ p) (hv : InvOk p inv) {rows : List Row} (w : ∀ r ∈ rows, Wf p n r) : ∃ ls, Low p n (lowM p inv rows) ls ∧ (∀ r ∈ lowM p inv rows, Spn p n rows (ent r)) ∧ ∀ r ∈ rows, Spn p n (lowM p inv rows) (ent r) := by
  obtain ⟨ls, R⟩ := run_all hp hv w n (Nat.le_refl _)
  rw [lowM_len rows w]
  refine ⟨ls, R.low, fun r hr => R.to r (.inl hr), fun r hr => ?_⟩
  refine (R.of r hr).mono fun s hs => ?_
  rcases List.mem_append.mp hs with h | h
  · exact .mem h
  · exact .zero fun j hj => cg.of_eq (R.zb s h j hj)
theorem lowM_same (hp : 2 ≤ p) (hv : InvOk p inv) {rows R2 : List Row} (w : ∀ r ∈ rows, Wf p n r) (w2 : ∀ r ∈ R2, Wf p n r) (a : ∀ r ∈ rows, Spn p n R2 (ent r)) (b : ∀ r ∈ R2, Spn p n rows (ent r)) : lowM p inv rows = lowM p inv R2 := by
  obtain ⟨l1, h1, t1, o1⟩ := lowM_ok hp hv w
  obtain ⟨l2, h2, t2, o2⟩ := lowM_ok hp hv w2
  exact low_unique hp h1 h2 (fun r hr => ((t1 r hr).mono a).mono o2) fun r hr => ((t2 r hr).mono b).mono o1
theorem lowM_low (hp : 2 ≤ p) (hv : InvOk p inv) {F : List Row} {ls : List Nat} (h : Low p n F ls) : lowM p inv F = F := by
  obtain ⟨l1, h1, t1, o1⟩ := lowM_ok hp hv h.wf
  exact low_unique hp h1 h t1 o1
theorem lowM_wf (hp : 2 ≤ p) (hv : InvOk p inv) {rows : List Row} (w : ∀ r ∈ rows, Wf p n r) : ∀ r ∈ lowM p inv rows, Wf p n r := by
  obtain ⟨l1, h1, _⟩ := lowM_ok hp hv w
  exact h1.wf
theorem lowM_again (hp : 2 ≤ p) (hv : InvOk p inv) {rows : List Row} (w : ∀ r ∈ rows, Wf p n r) : lowM p inv (lowM p inv rows) = lowM p inv rows := by
  obtain ⟨l1, h1, _⟩ := lowM_ok hp hv w
  exact lowM_low hp hv h1
theorem lowM_rev (hp : 2 ≤ p) (hv : InvOk p inv) {rows : List Row} (w : ∀ r ∈ rows, Wf p n r) : lowM p inv rows.reverse = lowM p inv rows :=
  lowM_same hp hv (fun r hr => w r (List.mem_reverse.mp hr)) w (fun r hr => .mem (List.mem_reverse.mp hr)) fun r hr => .mem (List.mem_reverse.mpr hr)
end
/-! ### the primes -/
def P5 (p : Int) : Prop := p = 2 ∨ p = 3 ∨ p = 5 ∨ p = 7 ∨ p = 11
theorem P5.two {p : Int} (h : P5 p) : 2 ≤ p := by
  rcases h with h | h | h | h | h <;> omega
theorem P5.le {p : Int} (h : P5 p) : p ≤ 11 := by
  rcases h with h | h | h | h | h <;> omega
def invM (p r : Int) : Int := ((List.range 11).map fun (k : Nat) => Int.ofNat k).find? (fun b => b * r % p == 1) |>.getD 0
theorem inv_all : ∀ p ∈ [2, 3, 5, 7, 11], ∀ r ∈ List.range 11, 0 < r → r < p → 0 < invM (p : Nat) (r : Nat) ∧ invM (p : Nat) (r : Nat) < (p : Nat) ∧ ∀ b ∈ List.range 11, b < p → ((b : Int) * (r : Nat) % (p : Nat) = 1 ↔ (b : Int) = invM (p : Nat) (r : Nat)) := by decide +kernel
theorem inv_ok {p r : Int} (hp : P5 p) (h0 : 0 < r) (h1 : r < p) : 0 < invM p r ∧ invM p r < p ∧ ∀ b, 0 ≤ b → b < p → (b * r % p = 1 ↔ b = invM p r) := by
  have two := hp.two
  have le := hp.le
  obtain ⟨P, rfl⟩ := Int.eq_ofNat_of_zero_le (a := p) (by omega)
  obtain ⟨R, rfl⟩ := Int.eq_ofNat_of_zero_le (a := r) (by omega)
  have hP : P ∈ [2, 3, 5, 7, 11] := by
    rcases hp with h | h | h | h | h <;> (have : P = _ := Int.ofNat.inj h; subst this; decide)
  obtain ⟨a, b, c⟩ := inv_all P hP R (List.mem_range.mpr (by omega)) (by omega) (by omega)
  refine ⟨a, b, fun x hx hx' => ?_⟩
  obtain ⟨B, rfl⟩ := Int.eq_ofNat_of_zero_le hx
  exact c B (List.mem_range.mpr (by omega)) (by omega)
theorem inv_is {p : Int} (hp : P5 p) : InvOk p (invM p) := fun x h0 h1 => by
  obtain ⟨a, b, c⟩ := inv_ok hp h0 h1
  exact (c _ (by omega) b).mpr rfl
end My

/-! Mixtures, what is left of a row. -/
namespace My
def dot : List Int → List Row → Nat → Int
  | c :: cs, r :: rows, j => c * ent r j + dot cs rows j
  | _, _, _ => 0
theorem dot_nil (cs : List Int) (j : Nat) : dot cs [] j = 0 := by cases cs <;> rfl
def mixM (p : Int) (cs : List Int) (rows : List Row) (n : Nat) : Row := (List.range n).map fun j => dot cs rows j % p
section
variable {p : Int} {n : Nat}
theorem mixM_len {cs : List Int} {rows : List Row} : (mixM p cs rows n).length = n := by
  unfold mixM
  rw [List.length_map, List.length_range]
theorem mixM_get {cs : List Int} {rows : List Row} {j : Nat} (h : j < n) : (mixM p cs rows n)[j]? = some (dot cs rows j % p) := by
  unfold mixM
  rw [List.getElem?_map, List.getElem?_range h]
  rfl
theorem mixM_ent {cs : List Int} {rows : List Row} {j : Nat} (h : j < n) : ent (mixM p cs rows n) j = dot cs rows j % p := by
  have a := ent_some (r := mixM p cs rows n) (j := j) (by rw [mixM_len]; exact h)
  rw [mixM_get h] at a
  exact (Option.some.inj a).symm
theorem mixM_wf (hp : 0 < p) {cs : List Int} {rows : List Row} : Wf p n (mixM p cs rows n) := by
  refine ⟨mixM_len, fun x hx => ?_⟩
  obtain ⟨j, _, rfl⟩ := List.mem_map.mp hx
  exact ⟨Int.emod_nonneg _ (by omega), Int.emod_lt_of_pos _ hp⟩
theorem zip_sum {j : Nat} : ∀ (cs : List Int) (rows : List Row), (List.zipWith (fun c r => c * ent r j) cs rows).sum = dot cs rows j
  | [], _ => rfl
  | _ :: _, [] => rfl
  | c :: cs, r :: rows => by
    show (c * ent r j :: List.zipWith (fun c r => c * ent r j) cs rows).sum = _
    rw [List.sum_cons, zip_sum cs rows]
    rfl
theorem dl_tail {r : Row} {F : List Row} {l : Nat} {ls : List Nat} (h : Dl p (r :: F) (l :: ls)) : ∀ m ∈ ls, ent r m = 0 := fun m hm => by
  obtain ⟨k, hk⟩ := List.getElem?_of_mem hm
  have := h.2 0 (k + 1) r m rfl hk
  rw [if_neg (by omega)] at this
  exact this
theorem red_dot : ∀ {F : List Row} {ls : List Nat} (v : Nat → Int) (j : Nat), Dl p F ls → red F ls v j = v j - dot (ls.map v) F j
  | [], ls, v, j, h => by
    rw [red_nil, dot_nil]
    omega
  | r :: F, [], v, j, h => by simp [Dl] at h
  | r :: F, l :: ls, v, j, h => by
    have ih := red_dot (F := F) (ls := ls) (fun j => v j - v l * ent r j) j h.tail
    have e : ls.map (fun j => v j - v l * ent r j) = ls.map v := by
      refine List.map_congr_left fun m hm => ?_
      rw [dl_tail h m hm]
      omega
    rw [e] at ih
    show red F ls (fun j => v j - v l * ent r j) j = v j - (v l * ent r j + dot (ls.map v) F j)
    rw [ih]
    omega
theorem red_cong {F : List Row} {ls : List Nat} {u v : Nat → Int} (hl : ∀ l ∈ ls, l < n) (h : ∀ j, j < n → cg p (u j) (v j)) : ∀ j, j < n → cg p (red F ls u j) (red F ls v j) := fun j hj => by
  have z : Z p n (red F ls (fun j => u j + (-1) * v j)) := red_zero hl fun j hj => by
    have := (h j hj).add (cg.refl p ((-1) * v j))
    exact this.trans (cg.of_eq (by grind))
  have a := z j hj
  rw [red_lin (-1) F ls u v j] at a
  have := a.add (cg.refl p (red F ls v j))
  exact (cg.of_eq (by grind)).trans (this.trans (cg.of_eq (by grind)))
def redR (p : Int) : List Row → List Nat → Row → Row
  | r :: F, l :: ls, m => redR p F ls (lessR p m (ent m l) r)
  | _, _, m => m
theorem redR_nil (ls : List Nat) (m : Row) : redR p [] ls m = m := by cases ls <;> rfl
theorem redR_wf (hp : 0 < p) : ∀ {F : List Row} {ls : List Nat} {m : Row}, (∀ r ∈ F, Wf p n r) → Wf p n m → Wf p n (redR p F ls m)
  | [], ls, m, _, h => by rw [redR_nil]; exact h
  | r :: F, [], m, _, h => h
  | r :: F, l :: ls, m, hF, h => redR_wf hp (F := F) (ls := ls) (fun s hs => hF s (List.mem_cons_of_mem _ hs)) (lessR_wf hp h (hF r List.mem_cons_self))
theorem redR_ent (hp : 0 < p) : ∀ {F : List Row} {ls : List Nat} {m : Row}, (∀ r ∈ F, Wf p n r) → (∀ l ∈ ls, l < n) → Wf p n m → ∀ j, j < n → cg p (ent (redR p F ls m) j) (red F ls (ent m) j)
  | [], ls, m, _, _, h, j, hj => by rw [redR_nil, red_nil]; exact cg.refl _ _
  | r :: F, [], m, _, _, h, j, hj => cg.refl _ _
  | r :: F, l :: ls, m, hF, hl, h, j, hj => by
    have hl' : ∀ k ∈ ls, k < n := fun k hk => hl k (List.mem_cons_of_mem _ hk)
    have ih := redR_ent hp (F := F) (ls := ls) (fun s hs => hF s (List.mem_cons_of_mem _ hs)) hl' (lessR_wf (c := ent m l) hp h (hF r List.mem_cons_self)) j hj
    refine ih.trans (red_cong hl' (fun i hi => ?_) j hj)
    rw [lessR_ent h (hF r List.mem_cons_self) hi]
    exact cg.emod _ _
def shr (ls : List Nat) (m : Row) : List Int := ls.map (ent m)
theorem mix_zero (hp : 2 ≤ p) {F : List Row} {ls : List Nat} (L : Low p n F ls) {m : Row} (w : Wf p n m) : mixM p (shr ls m) F n = m ↔ Z p n (red F ls (ent m)) := by
  constructor
  · intro h j hj
    rw [red_dot (ent m) j L.dl]
    have e := mixM_ent (p := p) (cs := shr ls m) (rows := F) hj
    rw [h] at e
    have c : cg p (ent m j) (dot (ls.map (ent m)) F j) := (cg.of_eq e).trans (cg.emod _ _)
    exact (c.sub (cg.refl p (dot (ls.map (ent m)) F j))).trans (cg.of_eq (by omega))
  · intro h
    refine row_ext (mixM_wf (by omega)) w fun j hj => ?_
    rw [mixM_ent hj]
    have a := h j hj
    rw [red_dot (ent m) j L.dl] at a
    have := a.add (cg.refl p (dot (ls.map (ent m)) F j))
    exact (cg.emod _ _).trans (((cg.of_eq (by unfold shr; omega)).trans this.symm).trans (cg.of_eq (by omega)))
theorem any_zero (hp : 0 < p) {m : Row} (w : Wf p n m) : m.any (fun x => x != 0) = false ↔ Z p n (ent m) := by
  constructor
  · intro h j hj
    have := List.any_eq_false.mp h _ (ent_mem (r := m) (j := j) (by rw [w.len]; exact hj))
    exact cg.of_eq (by simpa using this)
  · intro h
    refine List.any_eq_false.mpr fun x hx => ?_
    obtain ⟨j, hj, rfl⟩ := List.getElem_of_mem hx
    have e : m[j] = ent m j := by
      unfold ent
      rw [getD_el m 0 hj]
    have r := w.rng _ hx
    have := (h j (by rw [w.len] at hj; exact hj)).eq (by rw [← e]; exact r.1) (by rw [← e]; exact r.2) (Int.le_refl _) (by omega)
    rw [e, this]
    decide
theorem left_iff (hp : 2 ≤ p) {F : List Row} {ls : List Nat} (L : Low p n F ls) {m : Row} (w : Wf p n m) : (redR p F ls m).any (fun x => x != 0) = !decide (mixM p (shr ls m) F n = m) := by
  have pp : 0 < p := by omega
  have wr := redR_wf pp L.wf w (ls := ls)
  have key : (redR p F ls m).any (fun x => x != 0) = false ↔ mixM p (shr ls m) F n = m := by
    rw [mix_zero hp L w, any_zero pp wr]
    have e := redR_ent pp L.wf L.lt w
    exact ⟨fun h j hj => (e j hj).symm.trans (h j hj), fun h j hj => (e j hj).trans (h j hj)⟩
  by_cases h : mixM p (shr ls m) F n = m
  · rw [key.mpr h, decide_eq_true h]
    rfl
  · rw [decide_eq_false h]
    cases e : (redR p F ls m).any (fun x => x != 0) with
    | true => rfl
    | false => exact absurd (key.mp e) h
def mixR (p c : Int) (one other : Row) : Row := List.zipWith (fun a b => (a + c * b) % p) one other
theorem mixR_len {c : Int} {row b : Row} (h : Wf p n row) (h2 : Wf p n b) : (mixR p c row b).length = n := by
  unfold mixR
  rw [List.length_zipWith, h.len, h2.len, Nat.min_self]
theorem mixR_ent {row b : Row} {c : Int} (h : Wf p n row) (h2 : Wf p n b) {j : Nat} (hj : j < n) : ent (mixR p c row b) j = (ent row j + c * ent b j) % p := by
  have a := ent_some (r := mixR p c row b) (j := j) (by rw [mixR_len h h2]; exact hj)
  unfold mixR at a
  rw [List.getElem?_zipWith, ent_some (by rw [h.len]; exact hj), ent_some (by rw [h2.len]; exact hj)] at a
  exact (Option.some.inj a).symm
theorem mixR_wf0 (hp : 0 < p) {row b : Row} {c : Int} (h : Wf p n row) (h2 : Wf p n b) : Wf p n (mixR p c row b) := by
  refine ⟨mixR_len h h2, fun x hx => ?_⟩
  obtain ⟨j, hj, rfl⟩ := List.getElem_of_mem hx
  have hj' : j < n := by rw [mixR_len h h2] at hj; exact hj
  have e := mixR_ent (c := c) h h2 hj'
  unfold ent at e
  rw [getD_el _ _ hj] at e
  rw [e]
  exact ⟨Int.emod_nonneg _ (by omega), Int.emod_lt_of_pos _ hp⟩
def accM (p : Int) : Row → List Int → List Row → Row
  | acc, c :: cs, r :: rows => accM p (mixR p c acc r) cs rows
  | acc, _, _ => acc
theorem accM_nil (acc : Row) (cs : List Int) : accM p acc cs [] = acc := by cases cs <;> rfl
theorem accM_ok (hp : 0 < p) : ∀ {rows : List Row} {cs : List Int} {acc : Row}, (∀ r ∈ rows, Wf p n r) → Wf p n acc → Wf p n (accM p acc cs rows) ∧ ∀ j, j < n → cg p (ent (accM p acc cs rows) j) (ent acc j + dot cs rows j)
  | [], cs, acc, _, h => by
    rw [accM_nil]
    exact ⟨h, fun j _ => cg.of_eq (by rw [dot_nil]; omega)⟩
  | r :: rows, [], acc, _, h => ⟨h, fun j _ => cg.of_eq (by show _ = _ + (0 : Int); rw [Int.add_zero]; rfl)⟩
  | r :: rows, c :: cs, acc, hr, h => by
    have ih := accM_ok hp (rows := rows) (cs := cs) (fun s hs => hr s (List.mem_cons_of_mem _ hs)) (mixR_wf0 (c := c) hp h (hr r List.mem_cons_self))
    refine ⟨ih.1, fun j hj => (ih.2 j hj).trans ?_⟩
    rw [mixR_ent h (hr r List.mem_cons_self) hj]
    have := (cg.emod p (ent acc j + c * ent r j)).add (cg.refl p (dot cs rows j))
    exact this.trans (cg.of_eq (by show _ = _ + (c * ent r j + dot cs rows j); omega))
def zeros (n : Nat) : Row := List.replicate n 0
theorem zeros_wf (hp : 0 < p) : Wf p n (zeros n) := ⟨List.length_replicate, fun x hx => by
  rw [List.eq_of_mem_replicate hx]
  omega⟩
theorem zeros_ent {j : Nat} : ent (zeros n) j = 0 := by
  unfold ent zeros
  rw [List.getD_eq_getElem?_getD, List.getElem?_replicate]
  split <;> rfl
theorem accM_is (hp : 0 < p) {rows : List Row} {cs : List Int} (hr : ∀ r ∈ rows, Wf p n r) : accM p (zeros n) cs rows = mixM p cs rows n := by
  obtain ⟨w, e⟩ := accM_ok (cs := cs) hp hr (zeros_wf (n := n) hp)
  refine row_ext w (mixM_wf hp) fun j hj => ?_
  rw [mixM_ent hj]
  refine (e j hj).trans ?_
  rw [zeros_ent, Int.zero_add]
  exact (cg.emod _ _).symm
end
end My

/-! What lies across a low list. -/
namespace My
/-- a sum over the first n -/
def dsum : Nat → (Nat → Int) → Int
  | 0, _ => 0
  | n + 1, f => dsum n f + f n
theorem dsum_congr {f g : Nat → Int} : ∀ n, (∀ i, i < n → f i = g i) → dsum n f = dsum n g
  | 0, _ => rfl
  | n + 1, h => by
    show dsum n f + f n = dsum n g + g n
    rw [dsum_congr n fun i hi => h i (by omega), h n (by omega)]
theorem dsum_cg {p : Int} {f g : Nat → Int} : ∀ n, (∀ i, i < n → cg p (f i) (g i)) → cg p (dsum n f) (dsum n g)
  | 0, _ => cg.refl _ _
  | n + 1, h => (dsum_cg n fun i hi => h i (by omega)).add (h n (by omega))
theorem dsum_lin (c : Int) (f g : Nat → Int) : ∀ n, dsum n (fun i => f i + c * g i) = dsum n f + c * dsum n g
  | 0 => by show (0 : Int) = 0 + c * 0; omega
  | n + 1 => by
    show dsum n (fun i => f i + c * g i) + (f n + c * g n) = (dsum n f + f n) + c * (dsum n g + g n)
    rw [dsum_lin c f g n]
    grind
theorem dsum_zero : ∀ n, dsum n (fun _ => 0) = 0
  | 0 => rfl
  | n + 1 => by
    show dsum n (fun _ => 0) + 0 = 0
    rw [dsum_zero n]
    rfl
theorem dsum_one {j : Nat} (f : Nat → Int) : ∀ n, dsum n (fun i => if i = j then f i else 0) = if j < n then f j else 0
  | 0 => by rw [if_neg (by omega)]; rfl
  | n + 1 => by
    show dsum n (fun i => if i = j then f i else 0) + (if n = j then f n else 0) = _
    rw [dsum_one f n]
    by_cases h : n = j
    · rw [if_pos h, if_neg (by omega), if_pos (by omega), h]
      omega
    · rw [if_neg h]
      by_cases h2 : j < n
      · rw [if_pos h2, if_pos (by omega)]
        omega
      · rw [if_neg h2, if_neg (by omega)]
        rfl
theorem dsum_shift (f : Nat → Int) : ∀ n, dsum (n + 1) f = f 0 + dsum n (fun i => f (i + 1))
  | 0 => by show (0 : Int) + f 0 = f 0 + 0; omega
  | n + 1 => by
    show dsum (n + 1) f + f (n + 1) = f 0 + (dsum n (fun i => f (i + 1)) + f (n + 1))
    rw [dsum_shift f n]
    omega
theorem zip_dsum : ∀ {n : Nat} {u v : Row}, u.length = n → v.length = n → (List.zipWith (fun a b => a * b) u v).sum = dsum n (fun i => ent u i * ent v i)
  | 0, [], [], _, _ => rfl
  | n + 1, a :: u, b :: v, h1, h2 => by
    rw [dsum_shift]
    show (a * b :: List.zipWith (fun a b => a * b) u v).sum = a * b + dsum n (fun i => ent u i * ent v i)
    rw [List.sum_cons, zip_dsum (n := n) (by simpa using h1) (by simpa using h2)]
/-- u lies across v -/
def Orth (p : Int) (n : Nat) (u v : Nat → Int) : Prop := cg p (dsum n (fun i => u i * v i)) 0
section
variable {p : Int} {n : Nat}
theorem Orth.comm {u v : Nat → Int} (h : Orth p n u v) : Orth p n v u := (cg.of_eq (dsum_congr n fun i _ => Int.mul_comm _ _)).trans h
theorem Orth.spn {R : List Row} {v u : Nat → Int} (h : ∀ r ∈ R, Orth p n (ent r) v) (hu : Spn p n R u) : Orth p n u v := by
  induction hu with
  | zero hz =>
    refine (dsum_cg (g := fun _ => 0) n fun i hi => ?_).trans (cg.of_eq (dsum_zero n))
    exact ((hz i hi).mul (cg.refl p (v i))).trans (cg.of_eq (by omega))
  | @add u w r c hr hu e ih =>
    have e2 : cg p (dsum n (fun i => w i * v i)) (dsum n (fun i => u i * v i + c * (ent r i * v i))) := dsum_cg n fun i hi => ((e i hi).mul (cg.refl p (v i))).trans (cg.of_eq (by grind))
    refine e2.trans ?_
    rw [dsum_lin]
    have := ih.add ((cg.refl p c).mul (h r hr))
    exact this.trans (cg.of_eq (by omega))
/-- the places that are no lead, in order -/
def outs (n : Nat) (ls : List Nat) : List Nat := (List.range n).filter fun j => !ls.contains j
theorem outs_mem {ls : List Nat} {j : Nat} : j ∈ outs n ls ↔ j < n ∧ j ∉ ls := by
  unfold outs
  rw [List.mem_filter, List.mem_range]
  simp
theorem outs_up {ls : List Nat} : (outs n ls).Pairwise (· < ·) := List.Pairwise.filter _ List.pairwise_lt_range
theorem filter_split {α : Type} (f : α → Bool) : ∀ l : List α, (l.filter f).length + (l.filter fun x => !f x).length = l.length
  | [] => rfl
  | a :: l => by
    have ih := filter_split f l
    rw [List.filter_cons, List.filter_cons, List.length_cons]
    cases f a
    · show (l.filter f).length + ((a :: l.filter fun x => !f x)).length = _
      rw [List.length_cons]
      omega
    · show (a :: l.filter f).length + (l.filter fun x => !f x).length = _
      rw [List.length_cons]
      omega
theorem outs_len {ls : List Nat} (up : ls.Pairwise (· < ·)) (lt : ∀ l ∈ ls, l < n) : (outs n ls).length = n - ls.length := by
  have e : (List.range n).filter (fun j => ls.contains j) = ls := sorted_eq (List.Pairwise.filter _ List.pairwise_lt_range) up fun x => by
    rw [List.mem_filter, List.mem_range]
    constructor
    · intro h
      simpa using h.2
    · intro h
      exact ⟨lt x h, by simpa using h⟩
  have l := filter_split (fun j => ls.contains j) (List.range n)
  rw [e, List.length_range] at l
  unfold outs
  omega
def setAll (p : Int) (j : Nat) : Row → List Nat → List Row → Row
  | row, l :: ls, r :: F => setAll p j (row.set l (-(ent r j) % p)) ls F
  | row, _, _ => row
theorem setAll_nil (j : Nat) (row : Row) (ls : List Nat) : setAll p j row ls [] = row := by cases ls <;> rfl
theorem ent_set {row : Row} {l i : Nat} {x : Int} (h : l < row.length) : ent (row.set l x) i = if i = l then x else ent row i := by
  unfold ent
  rw [List.getD_eq_getElem?_getD, List.getElem?_set]
  by_cases e : l = i
  · rw [if_pos e, if_pos h, if_pos e.symm]
    rfl
  · rw [if_neg e, if_neg (fun z => e z.symm), List.getD_eq_getElem?_getD]
theorem wf_set {row : Row} {l : Nat} {x : Int} (w : Wf p n row) (h0 : 0 ≤ x) (h1 : x < p) : Wf p n (row.set l x) := ⟨by rw [List.length_set, w.len], fun y hy => by
  rcases List.mem_or_eq_of_mem_set hy with h | h
  · exact w.rng y h
  · rw [h]
    exact ⟨h0, h1⟩⟩
theorem setAll_wf (hp : 0 < p) (j : Nat) : ∀ {F : List Row} {ls : List Nat} {row : Row}, Wf p n row → Wf p n (setAll p j row ls F)
  | [], ls, row, w => by rw [setAll_nil]; exact w
  | r :: F, [], row, w => w
  | r :: F, l :: ls, row, w => setAll_wf hp j (F := F) (ls := ls) (wf_set w (Int.emod_nonneg _ (by omega)) (Int.emod_lt_of_pos _ hp))
theorem setAll_off (j : Nat) : ∀ {F : List Row} {ls : List Nat} {row : Row} {i : Nat}, (∀ l ∈ ls, l < row.length) → i ∉ ls → ent (setAll p j row ls F) i = ent row i
  | [], ls, row, i, _, _ => by rw [setAll_nil]
  | r :: F, [], row, i, _, _ => rfl
  | r :: F, l :: ls, row, i, hl, hi => by
    show ent (setAll p j (row.set l (-(ent r j) % p)) ls F) i = ent row i
    rw [setAll_off j (F := F) (ls := ls) (fun m hm => by rw [List.length_set]; exact hl m (List.mem_cons_of_mem _ hm)) (fun h => hi (List.mem_cons_of_mem _ h)), ent_set (hl l List.mem_cons_self), if_neg (fun h : i = l => hi (h ▸ List.mem_cons_self))]
theorem setAll_on (j : Nat) : ∀ {F : List Row} {ls : List Nat} {row : Row} {k l : Nat} {r : Row}, (∀ l ∈ ls, l < row.length) → ls.Pairwise (· < ·) → ls[k]? = some l → F[k]? = some r → ent (setAll p j row ls F) l = -(ent r j) % p
  | [], _, _, _, _, _, _, _, _, h => by simp at h
  | s :: F, [], _, _, _, _, _, _, h, _ => by simp at h
  | s :: F, m :: ls, row, 0, l, r, hl, up, h1, h2 => by
    cases Option.some.inj h1
    cases Option.some.inj h2
    show ent (setAll p j (row.set m (-(ent s j) % p)) ls F) m = _
    rw [setAll_off j (F := F) (ls := ls) (fun x hx => by rw [List.length_set]; exact hl x (List.mem_cons_of_mem _ hx)) (fun h => Nat.lt_irrefl _ ((List.pairwise_cons.mp up).1 m h)), ent_set (hl m List.mem_cons_self), if_pos rfl]
  | s :: F, m :: ls, row, k + 1, l, r, hl, up, h1, h2 =>
    setAll_on j (F := F) (ls := ls) (k := k) (fun x hx => by rw [List.length_set]; exact hl x (List.mem_cons_of_mem _ hx)) (List.pairwise_cons.mp up).2 h1 h2
def nullV (p : Int) (n : Nat) (F : List Row) (ls : List Nat) (j : Nat) : Row := setAll p j ((zeros n).set j 1) ls F
def found (p : Int) (n : Nat) (F : List Row) (ls : List Nat) : List Row := (outs n ls).map (nullV p n F ls)
theorem zeros_len : (zeros n).length = n := List.length_replicate
theorem nullV_wf (hp : 2 ≤ p) {F : List Row} {ls : List Nat} {j : Nat} : Wf p n (nullV p n F ls j) := setAll_wf (by omega) j (wf_set (zeros_wf (by omega)) (by omega) (by omega))
theorem found_wf (hp : 2 ≤ p) {F : List Row} {ls : List Nat} : ∀ r ∈ found p n F ls, Wf p n r := fun r hr => by
  obtain ⟨j, _, rfl⟩ := List.mem_map.mp hr
  exact nullV_wf hp
theorem nullV_out {F : List Row} {ls : List Nat} {i j : Nat} (lt : ∀ l ∈ ls, l < n) (hj : j < n) (hi : i ∉ ls) : ent (nullV p n F ls j) i = if i = j then 1 else 0 := by
  unfold nullV
  rw [setAll_off j (fun l hl => by rw [List.length_set, zeros_len]; exact lt l hl) hi, ent_set (by rw [zeros_len]; exact hj), zeros_ent]
theorem nullV_on {F : List Row} {ls : List Nat} {j k l : Nat} {r : Row} (L : Low p n F ls) (hl : ls[k]? = some l) (hr : F[k]? = some r) : ent (nullV p n F ls j) l = -(ent r j) % p :=
  setAll_on j (fun l hl => by rw [List.length_set, zeros_len]; exact L.lt l hl) L.up hl hr
/-- a row that is given at the leads by a row of the form: the products with it -/
theorem supp_sum {F : List Row} {ls : List Nat} (L : Low p n F ls) {w : Nat → Int} {k : Nat} {r : Row} {l : Nat} (hr : F[k]? = some r) (hl : ls[k]? = some l) {j : Nat} (hjn : j < n) (hjl : j ∉ ls) (h0 : ∀ i, i < n → i ∉ ls → i ≠ j → w i = 0) :
    dsum n (fun i => w i * ent r i) = w j * ent r j + w l := by
  have ne : l ≠ j := fun e => hjl (e ▸ List.mem_of_getElem? hl)
  have ln : l < n := L.lt l (List.mem_of_getElem? hl)
  have rl : ent r l = 1 := by rw [L.dl.2 k k r l hr hl, if_pos rfl]
  have e : dsum n (fun i => w i * ent r i) = dsum n (fun i => (if i = j then w i * ent r i else 0) + 1 * (if i = l then w i * ent r i else 0)) := dsum_congr n fun i hi => by
    by_cases h1 : i = j
    · rw [if_pos h1, if_neg (fun z : i = l => ne (z.symm.trans h1))]
      omega
    · rw [if_neg h1]
      by_cases h2 : i = l
      · rw [if_pos h2]
        omega
      · rw [if_neg h2]
        by_cases h3 : i ∈ ls
        · obtain ⟨k2, hk2⟩ := List.getElem?_of_mem h3
          have nk : k ≠ k2 := fun e => by
            rw [← e, hl] at hk2
            exact h2 (Option.some.inj hk2).symm
          rw [L.dl.2 k k2 r i hr hk2, if_neg nk]
          omega
        · rw [h0 i hi h3 h1]
          omega
  rw [e, dsum_lin, dsum_one (fun i => w i * ent r i), dsum_one (fun i => w i * ent r i), if_pos hjn, if_pos ln, rl]
  omega
theorem null_orth {F : List Row} {ls : List Nat} (L : Low p n F ls) {j : Nat} (hj : j < n) (hjl : j ∉ ls) : ∀ r ∈ F, Orth p n (ent (nullV p n F ls j)) (ent r) := fun r hr => by
  obtain ⟨k, hk⟩ := List.getElem?_of_mem hr
  obtain ⟨l, hl⟩ : ∃ l, ls[k]? = some l := ⟨ls[k]'(by have := (List.getElem?_eq_some_iff.mp hk).1; have := L.dl.1; omega), List.getElem?_eq_getElem _⟩
  unfold Orth
  rw [supp_sum L hk hl hj hjl fun i hi hn hne => by rw [nullV_out L.lt hj hn, if_neg hne], nullV_out L.lt hj hjl, if_pos rfl, nullV_on L hl hk]
  have := (cg.refl p (1 * ent r j)).add (cg.emod p (-(ent r j)))
  exact this.trans (cg.of_eq (by omega))
theorem found_orth {F : List Row} {ls : List Nat} (L : Low p n F ls) : ∀ u ∈ found p n F ls, ∀ r ∈ F, Orth p n (ent u) (ent r) := fun u hu r hr => by
  obtain ⟨j, hj, rfl⟩ := List.mem_map.mp hu
  have := outs_mem.mp hj
  exact null_orth L this.1 this.2 r hr
/-- what lies across all rows of the form is a mixture of those found -/
theorem found_all (hp : 2 ≤ p) {F : List Row} {ls : List Nat} (L : Low p n F ls) {u : Nat → Int} (h : ∀ r ∈ F, Orth p n u (ent r)) : Spn p n (found p n F ls) u := by
  have build : ∀ J : List Nat, J.Nodup → (∀ j ∈ J, j < n ∧ j ∉ ls) → ∃ s, Spn p n (found p n F ls) s ∧ (∀ i, i < n → i ∉ ls → s i = if i ∈ J then u i else 0) ∧ ∀ r ∈ F, Orth p n s (ent r) := fun J => by
    induction J with
    | nil =>
      intro _ _
      refine ⟨fun _ => 0, .zero fun _ _ => cg.refl _ _, fun i _ _ => by rw [if_neg (by simp)], fun r _ => ?_⟩
      exact (cg.of_eq (dsum_congr n fun i _ => Int.zero_mul _)).trans (cg.of_eq (dsum_zero n))
    | cons j J ih =>
      intro nd hJ
      obtain ⟨s, a, b, c⟩ := ih (List.nodup_cons.mp nd).2 fun x hx => hJ x (List.mem_cons_of_mem _ hx)
      have hj := hJ j List.mem_cons_self
      have mem : nullV p n F ls j ∈ found p n F ls := List.mem_map.mpr ⟨j, outs_mem.mpr hj, rfl⟩
      refine ⟨fun i => s i + u j * ent (nullV p n F ls j) i, a.lin (u j) (.mem mem), fun i hi hn => ?_, fun r hr => ?_⟩
      · show s i + u j * ent (nullV p n F ls j) i = _
        rw [b i hi hn, nullV_out L.lt hj.1 hn]
        by_cases e : i = j
        · subst e
          rw [if_neg (List.nodup_cons.mp nd).1, if_pos rfl, if_pos List.mem_cons_self]
          omega
        · rw [if_neg e]
          by_cases h2 : i ∈ J
          · rw [if_pos h2, if_pos (List.mem_cons_of_mem _ h2)]
            omega
          · rw [if_neg h2, if_neg (fun z => (List.mem_cons.mp z).elim e h2)]
            omega
      · have e : dsum n (fun i => (s i + u j * ent (nullV p n F ls j) i) * ent r i) = dsum n (fun i => s i * ent r i + u j * (ent (nullV p n F ls j) i * ent r i)) := dsum_congr n fun i _ => by grind
        unfold Orth
        rw [e, dsum_lin]
        have := (c r hr).add ((cg.refl p (u j)).mul (null_orth L hj.1 hj.2 r hr))
        exact this.trans (cg.of_eq (by omega))
  obtain ⟨s, a, b, c⟩ := build (outs n ls) (outs_up.imp fun h => Nat.ne_of_lt h) fun j hj => outs_mem.mp hj
  have same : ∀ i, i < n → i ∉ ls → s i = u i := fun i hi hn => by
    rw [b i hi hn, if_pos (outs_mem.mpr ⟨hi, hn⟩)]
  refine a.cong fun i hi => ?_
  by_cases hn : i ∈ ls
  · obtain ⟨k, hk⟩ := List.getElem?_of_mem hn
    obtain ⟨r, hr⟩ : ∃ r, F[k]? = some r := ⟨F[k]'(by have := (List.getElem?_eq_some_iff.mp hk).1; have := L.dl.1; omega), List.getElem?_eq_getElem _⟩
    have hrm := List.mem_of_getElem? hr
    have d : cg p (dsum n (fun i => (u i + (-1) * s i) * ent r i)) 0 := by
      have e : dsum n (fun i => (u i + (-1) * s i) * ent r i) = dsum n (fun i => u i * ent r i + (-1) * (s i * ent r i)) := dsum_congr n fun i _ => by grind
      rw [e, dsum_lin]
      have := (h r hrm).add ((cg.refl p (-1)).mul (c r hrm))
      exact this.trans (cg.of_eq (by omega))
    have e1 : dsum n (fun m => (u m + (-1) * s m) * ent r m) = dsum n (fun m => if m = i then (u m + (-1) * s m) * ent r m else 0) := dsum_congr n fun m hm => by
      by_cases e : m = i
      · rw [if_pos e]
      · rw [if_neg e]
        by_cases h3 : m ∈ ls
        · obtain ⟨k2, hk2⟩ := List.getElem?_of_mem h3
          have nk : k ≠ k2 := fun z => by
            rw [← z, hk] at hk2
            exact e (Option.some.inj hk2).symm
          rw [L.dl.2 k k2 r m hr hk2, if_neg nk]
          omega
        · rw [same m hm h3]
          grind
    rw [e1, dsum_one (fun m => (u m + (-1) * s m) * ent r m), if_pos hi, L.dl.2 k k r i hr hk, if_pos rfl] at d
    have := d.add (cg.refl p (s i))
    exact (cg.of_eq (by omega)).trans (this.trans (cg.of_eq (by omega)))
  · exact cg.of_eq (same i hi hn).symm
theorem runM_sum {inv : Int → Int} {rows : List Row} : ∀ k, (runM p inv rows k).1.length + (runM p inv rows k).2.length ≤ rows.length
  | 0 => by show 0 + rows.length ≤ rows.length; omega
  | k + 1 => by
    have ih := runM_sum (inv := inv) (rows := rows) k
    show (stepM p inv k (runM p inv rows k)).1.length + (stepM p inv k (runM p inv rows k)).2.length ≤ _
    unfold stepM
    split
    · exact ih
    · rename_i at_ h
      obtain ⟨hl, _⟩ := pick_some h
      show (clearM _ _ _ _ ++ [_]).length + (clearM _ _ _ _).length ≤ _
      unfold clearM
      rw [List.length_append, List.length_map, List.length_map, List.length_singleton, List.length_eraseIdx, if_pos hl]
      omega
theorem lowM_le {inv : Int → Int} (rows : List Row) : (lowM p inv rows).length ≤ rows.length := by
  have := runM_sum (p := p) (inv := inv) (rows := rows) (lenM rows)
  unfold lowM
  omega
/-- rows that are told apart at as many places are no more than a low list whose span has them -/
theorem dual_le {inv : Int → Int} (hp : 2 ≤ p) (hv : InvOk p inv) {G : List Row} {ms : List Nat} (L : Low p n G ms) {J : List Nat} {U : List Row} (hlen : U.length = J.length) (hU : ∀ u ∈ U, Spn p n G (ent u)) (hd : ∀ (a b : Nat) u j, U[a]? = some u → J[b]? = some j → ent u j = if b = a then 1 else 0) (hJ : ∀ j ∈ J, j < n) : J.length ≤ G.length := by
  refine Classical.byContradiction fun c => ?_
  let proj : Row → Row := fun r => J.map (ent r)
  have pw : ∀ r ∈ G.map proj, Wf p J.length r := fun r hr => by
    obtain ⟨g, hg, rfl⟩ := List.mem_map.mp hr
    refine ⟨List.length_map _, fun x hx => ?_⟩
    obtain ⟨j, hj, rfl⟩ := List.mem_map.mp hx
    exact (L.wf g hg).ent (hJ j hj)
  obtain ⟨hs, LH, _, o⟩ := lowM_ok (n := J.length) hp hv pw
  have few : (lowM p inv (G.map proj)).length ≤ G.length := by
    have := lowM_le (p := p) (inv := inv) (G.map proj)
    rw [List.length_map] at this
    exact this
  have out : (outs J.length hs).length ≠ 0 := by
    rw [outs_len LH.up LH.lt, LH.dl.1]
    omega
  obtain ⟨b0, hb0⟩ := List.exists_mem_of_ne_nil (outs J.length hs) (fun e => out (by rw [e]; rfl))
  have hb := outs_mem.mp hb0
  have or1 := null_orth LH hb.1 hb.2
  have x1 : ent (nullV p J.length (lowM p inv (G.map proj)) hs b0) b0 = 1 := by rw [nullV_out LH.lt hb.1 hb.2, if_pos rfl]
  generalize nullV p J.length (lowM p inv (G.map proj)) hs b0 = x at *
  have or2 : ∀ g ∈ G, Orth p J.length (ent (proj g)) (ent x) := fun g hg => Orth.spn (R := lowM p inv (G.map proj)) (fun r hr => (or1 r hr).comm) (o _ (List.mem_map.mpr ⟨g, hg, rfl⟩))
  have pe : ∀ (v : Row) (b : Nat) j, J[b]? = some j → ent (proj v) b = ent v j := fun v b j hb => by
    show (J.map (ent v)).getD b 0 = _
    rw [List.getD_eq_getElem?_getD, List.getElem?_map, hb]
    rfl
  -- the sum over J of v at j times x at its number comes to 0 for all of the span
  have phi : ∀ v, Spn p n G v → cg p (dsum J.length (fun b => v (J.getD b 0) * ent x b)) 0 := fun v hv => by
    induction hv with
    | zero hz =>
      refine (dsum_cg (g := fun _ => 0) J.length fun b hb => ?_).trans (cg.of_eq (dsum_zero _))
      have hjn : J.getD b 0 < n := hJ _ (by rw [getD_el J 0 hb]; exact List.getElem_mem hb)
      exact ((hz _ hjn).mul (cg.refl p (ent x b))).trans (cg.of_eq (by omega))
    | @add u w r cc hr hu e ih =>
      have e2 : cg p (dsum J.length (fun b => w (J.getD b 0) * ent x b)) (dsum J.length (fun b => u (J.getD b 0) * ent x b + cc * (ent r (J.getD b 0) * ent x b))) := dsum_cg _ fun b hb => by
        have hjn : J.getD b 0 < n := hJ _ (by rw [getD_el J 0 hb]; exact List.getElem_mem hb)
        exact ((e _ hjn).mul (cg.refl p (ent x b))).trans (cg.of_eq (by grind))
      refine e2.trans ?_
      rw [dsum_lin]
      have o2 := or2 r hr
      have e3 : dsum J.length (fun b => ent r (J.getD b 0) * ent x b) = dsum J.length (fun b => ent (proj r) b * ent x b) := dsum_congr _ fun b hb => by
        rw [pe r b _ (List.getElem?_eq_getElem hb), getD_el J 0 hb]
      rw [e3]
      have := ih.add ((cg.refl p cc).mul o2)
      exact this.trans (cg.of_eq (by omega))
  obtain ⟨u, hu⟩ : ∃ u, U[b0]? = some u := ⟨U[b0]'(by rw [hlen]; exact hb.1), List.getElem?_eq_getElem _⟩
  have z := phi (ent u) (hU u (List.mem_of_getElem? hu))
  have e : dsum J.length (fun b => ent u (J.getD b 0) * ent x b) = dsum J.length (fun b => if b = b0 then ent x b else 0) := dsum_congr _ fun b hb2 => by
    rw [getD_el J 0 hb2, hd b0 b u _ hu (List.getElem?_eq_getElem hb2)]
    by_cases e : b = b0
    · rw [if_pos e, if_pos e]; omega
    · rw [if_neg e, if_neg e]; omega
  rw [e, dsum_one (fun b => ent x b), if_pos hb.1, x1] at z
  exact one_ne hp z
def acM (p : Int) (inv : Int → Int) (n : Nat) (F : List Row) (ls : List Nat) : List Row := lowM p inv (found p n F ls)
theorem found_len {F : List Row} {ls : List Nat} (L : Low p n F ls) : (found p n F ls).length = n - F.length := by
  unfold found
  rw [List.length_map, outs_len L.up L.lt, L.dl.1]
theorem acM_ok {inv : Int → Int} (hp : 2 ≤ p) (hv : InvOk p inv) {F : List Row} {ls : List Nat} (L : Low p n F ls) :
    ∃ ms, Low p n (acM p inv n F ls) ms ∧ (acM p inv n F ls).length = n - F.length ∧ (∀ r ∈ F, ∀ u ∈ acM p inv n F ls, Orth p n (ent u) (ent r)) ∧ ∀ u, (∀ r ∈ F, Orth p n u (ent r)) → Spn p n (acM p inv n F ls) u := by
  obtain ⟨ms, LG, t, o⟩ := lowM_ok (n := n) hp hv (found_wf (n := n) hp (F := F) (ls := ls))
  refine ⟨ms, LG, ?_, fun r hr u hu => ?_, fun u hu => ?_⟩
  · have le := lowM_le (p := p) (inv := inv) (found p n F ls)
    have ge := dual_le hp hv LG (J := outs n ls) (U := found p n F ls) (by unfold found; rw [List.length_map]) o (fun a b u j hu hj => by
      unfold found at hu
      rw [List.getElem?_map] at hu
      cases ha : (outs n ls)[a]? with
      | none => rw [ha] at hu; cases hu
      | some ja =>
        rw [ha] at hu
        cases Option.some.inj hu
        have m1 := outs_mem.mp (List.mem_of_getElem? ha)
        have m2 := outs_mem.mp (List.mem_of_getElem? hj)
        rw [nullV_out L.lt m1.1 m2.2]
        by_cases e : b = a
        · rw [if_pos e, if_pos (by rw [e, ha] at hj; exact (Option.some.inj hj).symm)]
        · rw [if_neg e, if_neg fun z => ?_]
          subst z
          have nd : (outs n ls).Nodup := outs_up.imp fun h => Nat.ne_of_lt h
          obtain ⟨h1, e1⟩ := List.getElem?_eq_some_iff.mp ha
          obtain ⟨h2, e2⟩ := List.getElem?_eq_some_iff.mp hj
          exact e ((List.getElem_inj nd).mp (e2.trans e1.symm))) (fun j hj => (outs_mem.mp hj).1)
    have fl := found_len L
    rw [outs_len L.up L.lt, L.dl.1] at ge
    show (lowM p inv (found p n F ls)).length = _
    omega
  · exact Orth.spn (fun w hw => found_orth L w hw r hr) (t u hu)
  · exact (found_all hp L hu).mono o
theorem low_same_leads {F G : List Row} {ls : List Nat} (hF : Low p n F ls) (hG : Low p n G ls) (h1 : ∀ r ∈ F, Spn p n G (ent r)) : F = G := by
  have len : F.length = G.length := hF.dl.1.symm.trans hG.dl.1
  refine List.ext_getElem len fun i hi hi' => ?_
  refine row_ext (hF.wf _ (List.getElem_mem hi)) (hG.wf _ (List.getElem_mem hi')) fun j hj => ?_
  have s : Spn p n G (fun j => ent F[i] j + (-1) * ent G[i] j) := (h1 _ (List.getElem_mem hi)).lin (-1) (Spn.mem (List.getElem_mem hi'))
  have z := spn_red hG.dl hG.lt s
  have k := red_keep (p := p) (F := G) hG.lt (v := fun j => ent F[i] j + (-1) * ent G[i] j) (fun l hl => by
    obtain ⟨k, hk⟩ := List.getElem?_of_mem hl
    rw [hF.dl.2 i k _ l (List.getElem?_eq_getElem hi) hk, hG.dl.2 i k _ l (List.getElem?_eq_getElem hi') hk]
    exact cg.of_eq (by grind)) j hj
  have q := (k.symm.trans (z j hj)).add (cg.refl p (ent G[i] j))
  exact (cg.of_eq (by grind)).trans (q.trans (cg.of_eq (by grind)))
theorem up_sub_eq {a b : List Nat} (ha : a.Pairwise (· < ·)) (hb : b.Pairwise (· < ·)) (h : ∀ x ∈ a, x ∈ b) (l : a.length = b.length) : a = b := by
  have e : b.filter (fun x => a.contains x) = a := sorted_eq (List.Pairwise.filter _ hb) ha fun x => by
    rw [List.mem_filter]
    constructor
    · intro h
      simpa using h.2
    · intro hx
      exact ⟨h x hx, by simpa using hx⟩
  have e2 : (b.filter (fun x => a.contains x)).length = b.length := by rw [e, l]
  have all := List.length_filter_eq_length_iff.mp e2
  have e3 := List.filter_eq_self.mpr all
  rw [e] at e3
  exact e3
theorem low_as_many {F G : List Row} {ls ms : List Nat} (hp : 2 ≤ p) (hF : Low p n F ls) (hG : Low p n G ms) (h1 : ∀ r ∈ F, Spn p n G (ent r)) (l : F.length = G.length) : F = G := by
  have e : ls = ms := up_sub_eq hF.up hG.up (lead_in hp hF hG h1) (by rw [hF.dl.1, hG.dl.1, l])
  subst e
  exact low_same_leads hF hG h1
theorem low_few {F : List Row} {ls : List Nat} (L : Low p n F ls) : F.length ≤ n := by
  have e : (List.range n).filter (fun j => ls.contains j) = ls := sorted_eq (List.Pairwise.filter _ List.pairwise_lt_range) L.up fun x => by
    rw [List.mem_filter, List.mem_range]
    constructor
    · intro h
      simpa using h.2
    · intro h
      exact ⟨L.lt x h, by simpa using h⟩
  have := List.length_filter_le (fun j => ls.contains j) (List.range n)
  rw [e, List.length_range] at this
  rw [← L.dl.1]
  exact this
theorem acM_twice {inv : Int → Int} (hp : 2 ≤ p) (hv : InvOk p inv) {F : List Row} {ls ms : List Nat} (L : Low p n F ls) (LG : Low p n (acM p inv n F ls) ms) : acM p inv n (acM p inv n F ls) ms = F := by
  obtain ⟨_, _, l1, o1, _⟩ := acM_ok hp hv L
  obtain ⟨ms2, L2, l2, o2, a2⟩ := acM_ok hp hv LG
  refine (low_as_many hp L L2 (fun r hr => a2 _ fun u hu => (o1 r hr u hu).comm) ?_).symm
  have := low_few L
  omega
end
end My

/-! Polynomials by a prime: what is left, the greatest common one. -/
namespace My
def shf (i : Nat) (g : Nat → Int) : Nat → Int := fun k => if i ≤ k then g (k - i) else 0
/-- one step: the place i + m - 1 is cleared by the i-th shift of g -/
def est (m : Nat) (g : Nat → Int) (i : Nat) (f : Nat → Int) : Nat → Int := fun k => f k - f (i + m - 1) * shf i g k
def rm (m : Nat) (g : Nat → Int) : Nat → (Nat → Int) → Nat → Int
  | 0, f => f
  | d + 1, f => rm m g d (est m g d f)
structure Mon (g : Nat → Int) (m : Nat) : Prop where
  pos : 1 ≤ m
  one : g (m - 1) = 1
  hi : ∀ k, m ≤ k → g k = 0
def Zf (p : Int) (f : Nat → Int) : Prop := ∀ k, cg p (f k) 0
section
variable {p : Int} {m : Nat} {g : Nat → Int}
theorem rm_lin (c : Int) : ∀ (d : Nat) (u v : Nat → Int) (k : Nat), rm m g d (fun j => u j + c * v j) k = rm m g d u k + c * rm m g d v k
  | 0, u, v, k => rfl
  | d + 1, u, v, k => by
    have e : est m g d (fun j => u j + c * v j) = fun j => est m g d u j + c * est m g d v j := by
      funext j
      show (u j + c * v j) - (u (d + m - 1) + c * v (d + m - 1)) * shf d g j = (u j - u (d + m - 1) * shf d g j) + c * (v j - v (d + m - 1) * shf d g j)
      grind
    show rm m g d (est m g d (fun j => u j + c * v j)) k = _
    rw [e, rm_lin c d]
    rfl
theorem rm_zero : ∀ (d : Nat) {f : Nat → Int}, Zf p f → Zf p (rm m g d f)
  | 0, f, h => h
  | d + 1, f, h => rm_zero d fun k => by
    have := (h k).sub ((h (d + m - 1)).mul (cg.refl p (shf d g k)))
    exact this.trans (cg.of_eq (by omega))
theorem rm_cong {d : Nat} {u v : Nat → Int} (h : ∀ k, cg p (u k) (v k)) (k : Nat) : cg p (rm m g d u k) (rm m g d v k) := by
  have z : Zf p (rm m g d (fun j => u j + (-1) * v j)) := rm_zero d fun j => by
    have := (h j).add (cg.refl p ((-1) * v j))
    exact this.trans (cg.of_eq (by omega))
  have a := z k
  rw [rm_lin (-1) d u v] at a
  have := a.add (cg.refl p (rm m g d v k))
  exact (cg.of_eq (by omega)).trans (this.trans (cg.of_eq (by omega)))
theorem rm_keep : ∀ (d : Nat) {f : Nat → Int}, (∀ k, m - 1 ≤ k → cg p (f k) 0) → ∀ k, cg p (rm m g d f k) (f k)
  | 0, f, _, k => cg.refl _ _
  | d + 1, f, h, k => by
    have e : ∀ j, cg p (est m g d f j) (f j) := fun j => by
      have := (cg.refl p (f j)).sub ((h (d + m - 1) (by omega)).mul (cg.refl p (shf d g j)))
      exact this.trans (cg.of_eq (by omega))
    exact (rm_keep d (fun j hj => (e j).trans (h j hj)) k).trans (e k)
theorem rm_shift (M : Mon g m) : ∀ (d i : Nat), i < d → Zf p (rm m g d (shf i g))
  | 0, i, h => absurd h (Nat.not_lt_zero _)
  | d + 1, i, h => by
    have mp := M.pos
    by_cases e : i = d
    · subst e
      refine rm_zero i fun k => cg.of_eq ?_
      have t : shf i g (i + m - 1) = 1 := by
        unfold shf
        rw [if_pos (by omega), show i + m - 1 - i = m - 1 by omega]
        exact M.one
      show shf i g k - shf i g (i + m - 1) * shf i g k = 0
      rw [t]
      omega
    · have t : shf i g (d + m - 1) = 0 := by
        unfold shf
        rw [if_pos (by omega)]
        exact M.hi _ (by omega)
      have e2 : est m g d (shf i g) = shf i g := by
        funext k
        show shf i g k - shf i g (d + m - 1) * shf d g k = _
        rw [t]
        omega
      show Zf p (rm m g d (est m g d (shf i g)))
      rw [e2]
      exact rm_shift M d i (by omega)
theorem est_high (M : Mon g m) {d : Nat} {f : Nat → Int} (h : ∀ k, d + 1 + m - 1 ≤ k → cg p (f k) 0) : ∀ k, d + m - 1 ≤ k → cg p (est m g d f k) 0 := fun k hk => by
  have mp := M.pos
  by_cases e : k = d + m - 1
  · have t : shf d g k = 1 := by
      unfold shf
      rw [if_pos (by omega), show k - d = m - 1 by omega]
      exact M.one
    refine cg.of_eq ?_
    show f k - f (d + m - 1) * shf d g k = 0
    rw [t, e]
    omega
  · have t : shf d g k = 0 := by
      unfold shf
      rw [if_pos (by omega)]
      exact M.hi _ (by omega)
    have e2 : est m g d f k = f k := by
      show f k - f (d + m - 1) * shf d g k = f k
      rw [t]
      omega
    rw [e2]
    exact h k (by omega)
theorem rm_high (M : Mon g m) : ∀ (d : Nat) {f : Nat → Int}, (∀ k, d + m - 1 ≤ k → cg p (f k) 0) → ∀ k, m - 1 ≤ k → cg p (rm m g d f k) 0
  | 0, f, h, k, hk => h k (by omega)
  | d + 1, f, h, k, hk => rm_high M d (est_high M h) k hk
theorem rm_more {d : Nat} {f : Nat → Int} (mp : 1 ≤ m) (h : ∀ k, d + m - 1 ≤ k → cg p (f k) 0) : ∀ e k, cg p (rm m g (d + e) f k) (rm m g d f k)
  | 0, k => cg.refl _ _
  | e + 1, k => by
    have s : ∀ j, cg p (est m g (d + e) f j) (f j) := fun j => by
      have := (cg.refl p (f j)).sub ((h (d + e + m - 1) (by omega)).mul (cg.refl p (shf (d + e) g j)))
      exact this.trans (cg.of_eq (by omega))
    exact (rm_cong (d := d + e) s k).trans (rm_more mp h e k)
/-- a multiple of g, by shifts below N -/
inductive Mu (p : Int) (g : Nat → Int) (N : Nat) : (Nat → Int) → Prop
  | zero {f} (h : Zf p f) : Mu p g N f
  | add {u f} (c : Int) (i : Nat) (hi : i < N) (hu : Mu p g N u) (h : ∀ k, cg p (f k) (u k + c * shf i g k)) : Mu p g N f
theorem Mu.cong {N : Nat} {u v : Nat → Int} (h : Mu p g N u) (e : ∀ k, cg p (v k) (u k)) : Mu p g N v := by
  cases h with
  | zero h => exact .zero fun k => (e k).trans (h k)
  | add c i hi hu h => exact .add c i hi hu fun k => (e k).trans (h k)
theorem Mu.mono {N M : Nat} (l : N ≤ M) {f : Nat → Int} (h : Mu p g N f) : Mu p g M f := by
  induction h with
  | zero h => exact .zero h
  | add c i hi _ h ih => exact .add c i (by omega) ih h
theorem Mu.lin {N : Nat} (c : Int) {u v : Nat → Int} (hu : Mu p g N u) (hv : Mu p g N v) : Mu p g N (fun k => u k + c * v k) := by
  induction hv with
  | zero h =>
    refine hu.cong fun k => ?_
    have := (cg.refl p (u k)).add ((cg.refl p c).mul (h k))
    exact this.trans (cg.of_eq (by omega))
  | add d i hi _ h ih =>
    refine .add (c * d) i hi ih fun k => ?_
    have := (cg.refl p (u k)).add ((cg.refl p c).mul (h k))
    exact this.trans (cg.of_eq (by grind))
theorem shf_shf (i j : Nat) (k : Nat) : shf i (shf j g) k = shf (i + j) g k := by
  unfold shf
  by_cases h : i ≤ k
  · rw [if_pos h]
    by_cases h2 : j ≤ k - i
    · rw [if_pos h2, if_pos (by omega), show k - i - j = k - (i + j) by omega]
    · rw [if_neg h2, if_neg (by omega)]
  · rw [if_neg h, if_neg (by omega)]
theorem Mu.shf {N : Nat} (i : Nat) {f : Nat → Int} (h : Mu p g N f) : Mu p g (N + i) (My.shf i f) := by
  induction h with
  | zero h =>
    refine .zero fun k => ?_
    unfold My.shf
    split
    · exact h _
    · exact cg.refl _ _
  | @add u f c j hj _ e ih =>
    refine .add c (i + j) (by omega) ih fun k => ?_
    rw [← shf_shf i j k]
    unfold My.shf
    split
    · exact e _
    · exact cg.of_eq (by omega)
theorem Mu.trans {G : Nat → Int} {N M : Nat} {f : Nat → Int} (h : Mu p g N f) (hg : Mu p G M g) : Mu p G (M + N) f := by
  induction h with
  | zero h => exact .zero h
  | add c i hi _ e ih => exact (ih.lin c ((hg.shf i).mono (by omega))).cong e
theorem mu_rm (M : Mon g m) {N d : Nat} (l : N ≤ d) {f : Nat → Int} (h : Mu p g N f) : Zf p (rm m g d f) := by
  induction h with
  | zero h => exact rm_zero d h
  | @add u f c i hi _ e ih =>
    have z := rm_shift (p := p) M d i (by omega)
    have a : Zf p (rm m g d (fun k => u k + c * My.shf i g k)) := fun k => by
      rw [rm_lin c d]
      have := (ih k).add ((cg.refl p c).mul (z k))
      exact this.trans (cg.of_eq (by omega))
    exact fun k => (rm_cong e k).trans (a k)
theorem rm_mu : ∀ (d : Nat) (f : Nat → Int), Mu p g d (fun k => f k - rm m g d f k)
  | 0, f => .zero fun k => cg.of_eq (by show f k - f k = 0; omega)
  | d + 1, f => by
    have ih := (rm_mu d (est m g d f)).mono (Nat.le_succ d)
    refine .add (f (d + m - 1)) d (Nat.lt_succ_self d) ih fun k => cg.of_eq ?_
    show f k - rm m g d (est m g d f) k = (f k - f (d + m - 1) * shf d g k - rm m g d (est m g d f) k) + f (d + m - 1) * shf d g k
    omega
/-! ### lists -/
structure Pol (p : Int) (a : Row) : Prop where
  rng : ∀ x ∈ a, 0 ≤ x ∧ x < p
  last : a ≠ [] → ent a (a.length - 1) ≠ 0
theorem ent_out {a : Row} {k : Nat} (h : a.length ≤ k) : ent a k = 0 := by
  unfold ent
  rw [List.getD_eq_getElem?_getD, List.getElem?_eq_none h]
  rfl
theorem ent_rng {a : Row} (hp : 0 < p) (h : ∀ x ∈ a, 0 ≤ x ∧ x < p) (k : Nat) : 0 ≤ ent a k ∧ ent a k < p := by
  by_cases l : k < a.length
  · exact h _ (ent_mem l)
  · rw [ent_out (by omega)]
    omega
theorem ne_nil_len {a : Row} : a ≠ [] ↔ 0 < a.length := by
  cases a with
  | nil => simp
  | cons x a => simp
theorem pol_le (hp : 0 < p) {a b : Row} (B : Pol p b) (h : ∀ k, cg p (ent a k) (ent b k)) (A : ∀ x ∈ a, 0 ≤ x ∧ x < p) : b.length ≤ a.length := by
  refine Classical.byContradiction fun c => ?_
  have nb : b ≠ [] := ne_nil_len.mpr (by omega)
  have e := h (b.length - 1)
  rw [ent_out (a := a) (by omega)] at e
  have r := ent_rng hp B.rng (b.length - 1)
  exact B.last nb (e.eq (by omega) (by omega) r.1 r.2).symm
theorem pol_ext (hp : 0 < p) {a b : Row} (A : Pol p a) (B : Pol p b) (h : ∀ k, cg p (ent a k) (ent b k)) : a = b := by
  have l1 := pol_le hp B h A.rng
  have l2 := pol_le hp A (fun k => (h k).symm) B.rng
  have len : a.length = b.length := by omega
  refine List.ext_getElem? fun k => ?_
  by_cases hk : k < a.length
  · rw [ent_some hk, ent_some (by omega)]
    have r1 := ent_rng hp A.rng k
    have r2 := ent_rng hp B.rng k
    rw [(h k).eq r1.1 r1.2 r2.1 r2.2]
  · rw [List.getElem?_eq_none (by omega), List.getElem?_eq_none (by omega)]
def lastE (a : Row) : Int := ent a (a.length - 1)
theorem last_rng (hp : 0 < p) {a : Row} (A : Pol p a) (h : a ≠ []) : 0 < lastE a ∧ lastE a < p := by
  have r := ent_rng hp A.rng (a.length - 1)
  have n := A.last h
  unfold lastE
  omega
theorem mulR_length {c : Int} {a : Row} : (mulR p c a).length = a.length := by
  unfold mulR
  rw [List.length_map]
theorem mulR_cg {c : Int} {a : Row} (k : Nat) : cg p (ent (mulR p c a) k) (c * ent a k) := by
  by_cases h : k < a.length
  · have e := ent_some (r := mulR p c a) (j := k) (by rw [mulR_length]; exact h)
    unfold mulR at e
    rw [List.getElem?_map, ent_some h] at e
    have e2 : c * ent a k % p = ent (mulR p c a) k := Option.some.inj e
    rw [← e2]
    exact cg.emod _ _
  · rw [ent_out (by rw [mulR_length]; omega), ent_out (by omega)]
    exact cg.of_eq (by omega)
theorem mulR_rng (hp : 0 < p) {c : Int} {a : Row} : ∀ x ∈ mulR p c a, 0 ≤ x ∧ x < p := fun x hx => by
  obtain ⟨y, _, rfl⟩ := List.mem_map.mp hx
  exact ⟨Int.emod_nonneg _ (by omega), Int.emod_lt_of_pos _ hp⟩
theorem unit_ne (h5 : P5 p) {c x : Int} (hc : 0 < c) (hc2 : c < p) (hx : 0 < x) (hx2 : x < p) : ¬ cg p (c * x) 0 := fun h => by
  have two := h5.two
  have i := inv_is h5 c hc hc2
  have a : cg p (invM p c * (c * x)) 0 := ((cg.refl p (invM p c)).mul h).trans (cg.of_eq (by omega))
  have b : cg p (invM p c * c * x) (1 * x) := ((cg.emod p _).symm.trans (cg.of_eq i)).mul (cg.refl p x)
  have e : cg p x 0 := ((cg.of_eq (by omega)).trans b.symm).trans ((cg.of_eq (by grind)).trans a)
  have := e.eq (by omega) hx2 (by omega) (by omega)
  omega
theorem mulR_pol (h5 : P5 p) {c : Int} (hc : 0 < c) (hc2 : c < p) {a : Row} (A : Pol p a) : Pol p (mulR p c a) := by
  have two := h5.two
  refine ⟨mulR_rng (by omega), fun hn z => ?_⟩
  have na : a ≠ [] := fun e => hn (by rw [e]; rfl)
  have r := last_rng (by omega) A na
  rw [mulR_length] at z
  have e := mulR_cg (p := p) (c := c) (a := a) (a.length - 1)
  rw [z] at e
  exact unit_ne h5 hc hc2 r.1 r.2 e.symm
/-- the multiple whose last rest is 1 -/
def mon (p : Int) (a : Row) : Row := if a = [] then [] else mulR p (invM p (lastE a)) a
theorem mon_nil : mon p [] = [] := rfl
theorem mon_of {a : Row} (h : a ≠ []) : mon p a = mulR p (invM p (lastE a)) a := if_neg h
theorem mon_len {a : Row} : (mon p a).length = a.length := by
  by_cases h : a = []
  · rw [h]
    rfl
  · rw [mon_of h, mulR_length]
theorem mon_inv (h5 : P5 p) {a : Row} (A : Pol p a) (h : a ≠ []) : 0 < invM p (lastE a) ∧ invM p (lastE a) < p ∧ invM p (lastE a) * lastE a % p = 1 := by
  have two := h5.two
  have r := last_rng (by omega) A h
  obtain ⟨i1, i2, i3⟩ := inv_ok h5 r.1 r.2
  exact ⟨i1, i2, inv_is h5 _ r.1 r.2⟩
theorem mon_pol (h5 : P5 p) {a : Row} (A : Pol p a) : Pol p (mon p a) := by
  by_cases h : a = []
  · rw [h]
    exact ⟨fun x hx => by simp [mon] at hx, fun h => absurd rfl h⟩
  · rw [mon_of h]
    have i := mon_inv h5 A h
    exact mulR_pol h5 i.1 i.2.1 A
theorem mon_last (h5 : P5 p) {a : Row} (A : Pol p a) (h : a ≠ []) : ent (mon p a) (a.length - 1) = 1 := by
  have two := h5.two
  have i := mon_inv h5 A h
  have e := mulR_cg (p := p) (c := invM p (lastE a)) (a := a) (a.length - 1)
  rw [← mon_of h] at e
  have r := ent_rng (show 0 < p by omega) (mon_pol h5 A).rng (a.length - 1)
  exact (e.trans ((cg.emod p _).symm.trans (cg.of_eq i.2.2))).eq r.1 r.2 (by omega) (by omega)
theorem mon_mon (h5 : P5 p) {a : Row} (A : Pol p a) (h : a ≠ []) : Mon (ent (mon p a)) a.length :=
  ⟨ne_nil_len.mp h, mon_last h5 A h, fun k hk => ent_out (by rw [mon_len]; exact hk)⟩
theorem mon_scale (h5 : P5 p) {c : Int} (hc : 0 < c) (hc2 : c < p) {a : Row} (A : Pol p a) : mon p (mulR p c a) = mon p a := by
  have two := h5.two
  have B := mulR_pol h5 hc hc2 A
  by_cases h : a = []
  · rw [h]
    rfl
  · have hb : mulR p c a ≠ [] := ne_nil_len.mpr (by rw [mulR_length]; exact ne_nil_len.mp h)
    refine pol_ext (by omega) (mon_pol h5 B) (mon_pol h5 A) fun k => ?_
    have iA := mon_inv h5 A h
    have iB := mon_inv h5 B hb
    have eA := mulR_cg (p := p) (c := invM p (lastE a)) (a := a) k
    have eB := mulR_cg (p := p) (c := invM p (lastE (mulR p c a))) (a := mulR p c a) k
    rw [← mon_of h] at eA
    rw [← mon_of hb] at eB
    -- x * c * last = 1 and y * last = 1: so x * c = y
    generalize invM p (lastE (mulR p c a)) = x at *
    generalize invM p (lastE a) = y at *
    have l : cg p (lastE (mulR p c a)) (c * lastE a) := by
      unfold lastE
      rw [mulR_length]
      exact mulR_cg _
    have h1 : cg p (x * (c * lastE a)) 1 := (((cg.refl p x).mul l).symm.trans (cg.emod p _).symm).trans (cg.of_eq iB.2.2)
    have h2 : cg p (y * lastE a) 1 := (cg.emod p _).symm.trans (cg.of_eq iA.2.2)
    have xy : cg p (x * c) y := by
      have a1 : cg p (x * c * (y * lastE a)) (x * c * 1) := (cg.refl p _).mul h2
      have a2 : cg p (y * (x * (c * lastE a))) (y * 1) := (cg.refl p _).mul h1
      exact ((cg.of_eq (by omega)).trans a1.symm).trans ((cg.of_eq (by grind)).trans (a2.trans (cg.of_eq (by omega))))
    have b1 : cg p (ent (mon p (mulR p c a)) k) (x * (c * ent a k)) := eB.trans ((cg.refl p x).mul (mulR_cg k))
    exact b1.trans ((cg.of_eq (by grind)).trans ((xy.mul (cg.refl p (ent a k))).trans eA.symm))
/-- r is what is left of a by b -/
structure Rem (p : Int) (a b r : Row) : Prop where
  pol : Pol p r
  is : ∀ k, cg p (ent r k) (rm b.length (ent (mon p b)) (a.length + 1 - b.length) (ent a) k)
theorem rem_len (h5 : P5 p) {a b r : Row} (B : Pol p b) (hb : b ≠ []) (R : Rem p a b r) : r.length < b.length := by
  have two := h5.two
  refine Classical.byContradiction fun c => ?_
  have lb := ne_nil_len.mp hb
  have hr : r ≠ [] := ne_nil_len.mpr (by omega)
  have z := rm_high (p := p) (mon_mon h5 B hb) (a.length + 1 - b.length) (f := ent a) (fun k hk => cg.of_eq (ent_out (by omega))) (r.length - 1) (by omega)
  have e := (R.is (r.length - 1)).trans z
  have rr := last_rng (by omega) R.pol hr
  have := e.eq (by unfold lastE at rr; omega) (by unfold lastE at rr; omega) (Int.le_refl _) (by omega)
  exact R.pol.last hr this
theorem rem_unique (hp : 0 < p) {a b r s : Row} (R : Rem p a b r) (S : Rem p a b s) : r = s := pol_ext hp R.pol S.pol fun k => (R.is k).trans (S.is k).symm
/-- Euclid's way -/
inductive Euc (p : Int) : Row → Row → Row → Prop
  | base (a : Row) : Euc p a [] (mon p a)
  | step {a b r g : Row} (hb : b ≠ []) (R : Rem p a b r) (E : Euc p b r g) : Euc p a b g
theorem Euc.one (h5 : P5 p) {a b g : Row} (E : Euc p a b g) : Pol p a → Pol p b → (a ≠ [] ∨ b ≠ []) → g ≠ [] ∧ Pol p g ∧ ent g (g.length - 1) = 1 := by
  induction E with
  | base a =>
    intro A _ h
    have ha : a ≠ [] := h.resolve_right fun n => n rfl
    refine ⟨ne_nil_len.mpr (by rw [mon_len]; exact ne_nil_len.mp ha), mon_pol h5 A, ?_⟩
    rw [mon_len]
    exact mon_last h5 A ha
  | step hb R _ ih =>
    intro _ B _
    exact ih B R.pol (.inl hb)
/-- it divides both -/
theorem Euc.div (h5 : P5 p) {a b g : Row} (E : Euc p a b g) : Pol p a → Pol p b → (∃ N, Mu p (ent g) N (ent a)) ∧ ∃ N, Mu p (ent g) N (ent b) := by
  have two := h5.two
  induction E with
  | base a =>
    intro A _
    refine ⟨⟨1, ?_⟩, 0, .zero fun k => cg.of_eq (ent_out (Nat.zero_le _))⟩
    by_cases h : a = []
    · rw [h]
      exact .zero fun k => cg.of_eq (ent_out (Nat.zero_le _))
    · refine .add (lastE a) 0 (Nat.lt_succ_self 0) (.zero (f := fun _ => 0) fun _ => cg.refl _ _) fun k => ?_
      have i := mon_inv h5 A h
      have e := mulR_cg (p := p) (c := invM p (lastE a)) (a := a) k
      rw [← mon_of h] at e
      have s : shf 0 (ent (mon p a)) k = ent (mon p a) k := by
        unfold shf
        rw [if_pos (Nat.zero_le _), Nat.sub_zero]
      rw [s]
      have h1 : cg p (invM p (lastE a) * lastE a) 1 := (cg.emod p _).symm.trans (cg.of_eq i.2.2)
      have h2 : cg p (lastE a * ent (mon p a) k) (lastE a * (invM p (lastE a) * ent a k)) := (cg.refl p _).mul e
      have h3 := h1.mul (cg.refl p (ent a k))
      exact ((cg.of_eq (by omega)).trans h3.symm).trans ((cg.of_eq (by grind)).trans (h2.symm.trans (cg.of_eq (by omega))))
  | @step a b r g hb R E ih =>
    intro A B
    obtain ⟨⟨N1, m1⟩, N2, m2⟩ := ih B R.pol
    refine ⟨?_, N1, m1⟩
    have d := rm_mu (p := p) (m := b.length) (g := ent (mon p b)) (a.length + 1 - b.length) (ent a)
    -- mon b is a multiple of b
    have mb : Mu p (ent b) 1 (ent (mon p b)) := by
      refine .add (invM p (lastE b)) 0 (Nat.lt_succ_self 0) (.zero (f := fun _ => 0) fun _ => cg.refl _ _) fun k => ?_
      have e := mulR_cg (p := p) (c := invM p (lastE b)) (a := b) k
      rw [← mon_of hb] at e
      have s : shf 0 (ent b) k = ent b k := by
        unfold shf
        rw [if_pos (Nat.zero_le _), Nat.sub_zero]
      rw [s]
      exact e.trans (cg.of_eq (by omega))
    have d2 := (d.trans mb).trans m1
    refine ⟨N1 + (1 + (a.length + 1 - b.length)) + N2, ?_⟩
    have s := (d2.mono (M := N1 + (1 + (a.length + 1 - b.length)) + N2) (by omega)).lin 1 (m2.mono (M := N1 + (1 + (a.length + 1 - b.length)) + N2) (by omega))
    refine s.cong fun k => ?_
    have e := R.is k
    have := (cg.refl p (ent a k - rm b.length (ent (mon p b)) (a.length + 1 - b.length) (ent a) k)).add e.symm
    exact (cg.of_eq (by omega)).trans (this.trans (cg.of_eq (by omega)))
/-- by a list with 1 as its last rest a multiple of it leaves nought -/
theorem mu_left {g a : Row} (hg : 0 < g.length) (g1 : ent g (g.length - 1) = 1) {N : Nat} (h : Mu p (ent g) N (ent a)) : Zf p (rm g.length (ent g) (a.length + 1 - g.length) (ent a)) := by
  have M : Mon (ent g) g.length := ⟨hg, g1, fun k hk => ent_out hk⟩
  have z := mu_rm M (d := a.length + 1 - g.length + N) (by omega) h
  have e := rm_more (p := p) (g := ent g) (m := g.length) (d := a.length + 1 - g.length) (f := ent a) hg (fun k hk => cg.of_eq (ent_out (by omega))) N
  exact fun k => (e k).symm.trans (z k)
theorem mon_self (h5 : P5 p) {g : Row} (G : Pol p g) (hg : g ≠ []) (g1 : ent g (g.length - 1) = 1) : mon p g = g := by
  have two := h5.two
  refine pol_ext (by omega) (mon_pol h5 G) G fun k => ?_
  rw [mon_of hg]
  have e : lastE g = 1 := g1
  have i : invM p 1 = 1 := by
    obtain ⟨_, _, c⟩ := inv_ok h5 (r := 1) (by omega) (by omega)
    exact ((c 1 (by omega) (by omega)).mp (by rw [Int.mul_one]; exact Int.emod_eq_of_lt (by omega) (by omega))).symm
  rw [e, i]
  exact (mulR_cg k).trans (cg.of_eq (by omega))
theorem rem_scale (h5 : P5 p) {c : Int} (hc : 0 < c) (hc2 : c < p) {a b r s : Row} (R : Rem p a b r) (S : Pol p s) (h : ∀ k, cg p (ent s k) (rm b.length (ent (mon p b)) (a.length + 1 - b.length) (ent (mulR p c a)) k)) : s = mulR p c r := by
  have two := h5.two
  refine pol_ext (by omega) S (mulR_pol h5 hc hc2 R.pol) fun k => ?_
  refine (h k).trans ?_
  have e1 := rm_cong (p := p) (m := b.length) (g := ent (mon p b)) (d := a.length + 1 - b.length) (u := ent (mulR p c a)) (v := fun j => (fun _ => (0 : Int)) j + c * ent a j) (fun j => (mulR_cg j).trans (cg.of_eq (by show c * ent a j = (0 : Int) + c * ent a j; omega))) k
  rw [rm_lin c] at e1
  have z : cg p (rm b.length (ent (mon p b)) (a.length + 1 - b.length) (fun _ => (0 : Int)) k) 0 := rm_zero (p := p) _ (fun _ => cg.refl _ _) k
  have e2 := z.add ((cg.refl p c).mul (R.is k).symm)
  exact (e1.trans e2).trans ((cg.of_eq (by omega)).trans (mulR_cg k).symm)
theorem mulR_one {a : Row} (h : ∀ x ∈ a, 0 ≤ x ∧ x < p) : mulR p 1 a = a := by
  unfold mulR
  refine (List.map_congr_left fun x hx => ?_).trans (List.map_id a)
  rw [Int.one_mul]
  exact Int.emod_eq_of_lt (h x hx).1 (h x hx).2
end
end My

namespace My
/-- products: the sum over j < n of u j times g moved by j -/
def cnvN : Nat → (Nat → Int) → (Nat → Int) → Nat → Int
  | 0, _, _ => fun _ => 0
  | n + 1, u, g => fun k => cnvN n u g k + u n * shf n g k
theorem cnvN_zero {p : Int} {u g : Nat → Int} (h : ∀ k, cg p (g k) 0) : ∀ n k, cg p (cnvN n u g k) 0
  | 0, k => cg.refl p 0
  | n + 1, k => by
    have i := cnvN_zero (u := u) h n k
    have s : cg p (shf n g k) 0 := by
      unfold shf
      split
      · exact h _
      · exact cg.refl p 0
    exact (i.add ((cg.refl p (u n)).mul s)).trans (cg.of_eq (by omega))
theorem shf_lin (n : Nat) (c : Int) (g h : Nat → Int) (k : Nat) : shf n (fun j => g j + c * h j) k = shf n g k + c * shf n h k := by
  unfold shf
  split
  · rfl
  · omega
theorem cnvN_lin (c : Int) (u g h : Nat → Int) : ∀ n k, cnvN n u (fun j => g j + c * h j) k = cnvN n u g k + c * cnvN n u h k
  | 0, k => by show (0 : Int) = 0 + c * 0; omega
  | n + 1, k => by
    show cnvN n u (fun j => g j + c * h j) k + u n * shf n (fun j => g j + c * h j) k = cnvN n u g k + u n * shf n g k + c * (cnvN n u h k + u n * shf n h k)
    rw [cnvN_lin c u g h n k, shf_lin]
    grind
theorem cnvN_cong {p : Int} {u g h : Nat → Int} (e : ∀ k, cg p (g k) (h k)) : ∀ n k, cg p (cnvN n u g k) (cnvN n u h k)
  | 0, _ => cg.refl p 0
  | n + 1, k => by
    refine (cnvN_cong (u := u) e n k).add ((cg.refl p (u n)).mul ?_)
    unfold shf
    split
    · exact e _
    · exact cg.refl p 0
/-- one number at place i -/
def dlt (i : Nat) : Nat → Int := fun k => if k = i then 1 else 0
theorem cnvN_dlt (u : Nat → Int) (i : Nat) : ∀ n k, cnvN n u (dlt i) k = if i ≤ k ∧ k < i + n then u (k - i) else 0
  | 0, k => by
    rw [if_neg (by omega)]
    rfl
  | n + 1, k => by
    show cnvN n u (dlt i) k + u n * shf n (dlt i) k = _
    rw [cnvN_dlt u i n k]
    unfold shf dlt
    by_cases h : k = i + n
    · rw [if_neg (by omega), if_pos (show n ≤ k by omega), if_pos (show k - n = i by omega), if_pos (by omega), show k - i = n by omega]
      omega
    · by_cases h2 : n ≤ k
      · rw [if_pos h2, if_neg (show ¬ k - n = i by omega)]
        by_cases h3 : i ≤ k ∧ k < i + n
        · rw [if_pos h3, if_pos (by omega)]
          omega
        · rw [if_neg h3, if_neg (by omega)]
          omega
      · rw [if_neg h2]
        by_cases h3 : i ≤ k ∧ k < i + n
        · rw [if_pos h3, if_pos (by omega)]
          omega
        · rw [if_neg h3, if_neg (by omega)]
          omega
theorem cnvN_mul {a : Row} (i : Nat) (k : Nat) : cnvN a.length (ent a) (dlt i) k = shf i (ent a) k := by
  rw [cnvN_dlt]
  unfold shf
  by_cases h : i ≤ k
  · rw [if_pos h]
    by_cases h2 : k < i + a.length
    · rw [if_pos ⟨h, h2⟩]
    · rw [if_neg (by omega), ent_out (by omega)]
  · rw [if_neg h, if_neg (by omega)]
end My

namespace My
/-- all lists of a length, the last place turning first -/
def hdsL (p : Int) : Nat → List Row
  | 0 => [[]]
  | d + 1 => (hdsL p d).flatMap fun h => (List.range p.toNat).map fun (r : Nat) => h ++ [(r : Int)]
def onesL (p : Int) (d : Nat) : List Row := (hdsL p d).map (· ++ [1])
structure Mo (p : Int) (d : Nat) (g : Row) : Prop where
  rng : ∀ x ∈ g, 0 ≤ x ∧ x < p
  len : g.length = d + 1
  one : ent g d = 1
section
variable {p : Int}
theorem hds_mem : ∀ d g, g ∈ hdsL p d → g.length = d ∧ ∀ x ∈ g, 0 ≤ x ∧ x < p
  | 0, g, h => by
    simp [hdsL] at h
    rw [h]
    exact ⟨rfl, fun x hx => by simp at hx⟩
  | d + 1, g, h => by
    obtain ⟨h1, m1, m2⟩ := List.mem_flatMap.mp h
    obtain ⟨r, hr, rfl⟩ := List.mem_map.mp m2
    obtain ⟨l1, r1⟩ := hds_mem d h1 m1
    refine ⟨by rw [List.length_append, l1]; rfl, fun x hx => ?_⟩
    rcases List.mem_append.mp hx with h | h
    · exact r1 x h
    · simp at h
      have := List.mem_range.mp hr
      omega
theorem ent_end {a : Row} {x : Int} : ent (a ++ [x]) a.length = x := by
  unfold ent
  rw [List.getD_eq_getElem?_getD, List.getElem?_append_right (Nat.le_refl _), Nat.sub_self]
  rfl
theorem ones_mo (hp : 2 ≤ p) {d : Nat} {g : Row} (h : g ∈ onesL p d) : Mo p d g := by
  obtain ⟨a, ha, rfl⟩ := List.mem_map.mp h
  obtain ⟨l, r⟩ := hds_mem d a ha
  refine ⟨fun x hx => ?_, by rw [List.length_append, l]; rfl, by rw [← l]; exact ent_end⟩
  rcases List.mem_append.mp hx with h | h
  · exact r x h
  · simp at h
    omega
theorem Mo.pol {d : Nat} {g : Row} (m : Mo p d g) : Pol p g := ⟨m.rng, fun _ => by rw [m.len, Nat.add_sub_cancel, m.one]; decide⟩
theorem Mo.ne {d : Nat} {g : Row} (m : Mo p d g) : g ≠ [] := ne_nil_len.mpr (by rw [m.len]; omega)
theorem Mo.mon (h5 : P5 p) {d : Nat} {g : Row} (m : Mo p d g) : My.mon p g = g := mon_self h5 m.pol m.ne (by rw [m.len, Nat.add_sub_cancel]; exact m.one)
theorem hds_len : ∀ d, (hdsL p d).length = p.toNat ^ d
  | 0 => rfl
  | d + 1 => by
    unfold hdsL
    rw [List.length_flatMap]
    have e : (hdsL p d).map (fun h => ((List.range p.toNat).map fun (r : Nat) => h ++ [(r : Int)]).length) = (hdsL p d).map fun _ => p.toNat := List.map_congr_left fun h _ => by rw [List.length_map, List.length_range]
    rw [e, List.map_const', List.sum_replicate_nat, hds_len d, Nat.pow_succ]
/-- what is left is nought: a multiple -/
theorem rem_mu (h5 : P5 p) {a g : Row} {d : Nat} (M : Mo p d g) : Rem p a g [] ↔ ∃ N, Mu p (ent g) N (ent a) := by
  constructor
  · intro R
    refine ⟨_, (rm_mu (p := p) (m := g.length) (g := ent g) (a.length + 1 - g.length) (ent a)).cong fun k => ?_⟩
    have e := R.is k
    rw [M.mon h5] at e
    have z : ent ([] : Row) k = 0 := ent_out (Nat.zero_le _)
    rw [z] at e
    exact ((cg.of_eq (by omega)).trans ((cg.refl p (ent a k)).sub e)).trans (cg.of_eq rfl)
  · rintro ⟨N, m⟩
    refine ⟨⟨fun x hx => by simp at hx, fun h => absurd rfl h⟩, fun k => ?_⟩
    rw [M.mon h5]
    have z : ent ([] : Row) k = 0 := ent_out (Nat.zero_le _)
    rw [z]
    exact (mu_left (by rw [M.len]; omega) (by rw [M.len, Nat.add_sub_cancel]; exact M.one) m k).symm
theorem cnv_mu (u g : Nat → Int) : ∀ n, Mu p g n (cnvN n u g)
  | 0 => .zero fun k => cg.refl p 0
  | n + 1 => .add (u n) n (Nat.lt_succ_self n) ((cnv_mu u g n).mono (Nat.le_succ n)) fun k => cg.refl p _
/-- m is how often b is in a -/
structure Qt (p : Int) (a b m : Row) : Prop where
  pol : Pol p m
  len : m.length = a.length + 1 - b.length
  cv : ∀ k, cg p (ent a k) (cnvN b.length (ent b) (ent m) k)
theorem Qt.mu {a b m : Row} (q : Qt p a b m) : Mu p (ent m) b.length (ent a) := (cnv_mu (ent b) (ent m) b.length).cong q.cv
/-- taken out as often as it is in it -/
inductive Tk (p : Int) (g : Row) : Row → Row → Nat → Prop
  | base {a l : Row} (R : Rem p a g l) (h : l ≠ []) : Tk p g a a 0
  | step {a m r : Row} {n : Nat} (R : Rem p a g []) (q : Qt p a g m) (t : Tk p g m r n) : Tk p g a r (n + 1)
theorem rem_short (h5 : P5 p) {a g : Row} {d : Nat} (M : Mo p d g) (A : Pol p a) (na : a ≠ []) (R : Rem p a g []) : g.length ≤ a.length := by
  have two := h5.two
  refine Classical.byContradiction fun c => na ?_
  refine pol_ext (by omega) A R.pol fun k => ?_
  have e := R.is k
  rw [show a.length + 1 - g.length = 0 by omega] at e
  exact e.symm
structure TkF (p : Int) (g : Row) (d : Nat) (a r : Row) (n : Nat) : Prop where
  pol : Pol p r
  ne : r ≠ []
  nod : ¬ Rem p r g []
  mu : ∃ N, Mu p (ent r) N (ent a)
  len : r.length + n * d = a.length
  zero : n = 0 → r = a
  pos : 0 < n → Rem p a g []
theorem mu_self (a : Nat → Int) : Mu p a 1 a := .add (u := fun _ => 0) 1 0 (Nat.lt_succ_self 0) (.zero fun _ => cg.refl p 0) fun k => by
  unfold shf
  rw [if_pos (Nat.zero_le _), Nat.sub_zero]
  exact cg.of_eq (by omega)
theorem Tk.facts (h5 : P5 p) {g a r : Row} {d n : Nat} (M : Mo p d g) (t : Tk p g a r n) : Pol p a → a ≠ [] → TkF p g d a r n := by
  have two := h5.two
  induction t with
  | @base a l R h =>
    intro A na
    exact ⟨A, na, fun R2 => h (rem_unique (by omega) R R2), ⟨1, mu_self _⟩, by omega, fun _ => rfl, fun h => absurd h (Nat.lt_irrefl 0)⟩
  | @step a m r n R q t ih =>
    intro A na
    have ls := rem_short h5 M A na R
    have lg := M.len
    have f := ih q.pol (ne_nil_len.mpr (by rw [q.len]; omega))
    obtain ⟨N, mu⟩ := f.mu
    refine ⟨f.pol, f.ne, f.nod, ⟨_, q.mu.trans mu⟩, ?_, fun h => absurd h (Nat.succ_ne_zero n), fun _ => R⟩
    have := f.len
    rw [q.len] at this
    rw [Nat.succ_mul]
    omega
/-- no product of two of lesser degrees -/
def isBare (p : Int) (a : Row) : Prop := 2 ≤ a.length ∧ ∀ e g, 1 ≤ e → 2 * e + 1 ≤ a.length → g ∈ onesL p e → ¬ Rem p a g []
/-- a and what with 1 as its last rest is a multiple of it leave nought alike -/
theorem rem_mon (h5 : P5 p) {a g : Row} (A : Pol p a) {d : Nat} (M : Mo p d g) : Rem p (mon p a) g [] ↔ Rem p a g [] := by
  by_cases na : a = []
  · rw [na]
    rfl
  have i := mon_inv h5 A na
  rw [rem_mu h5 M, rem_mu h5 M]
  constructor
  · rintro ⟨N, m⟩
    have m1 : Mu p (ent (mon p a)) 1 (ent a) := by
      refine .add (lastE a) 0 (Nat.lt_succ_self 0) (.zero (f := fun _ => 0) fun _ => cg.refl _ _) fun k => ?_
      have e := mulR_cg (p := p) (c := invM p (lastE a)) (a := a) k
      rw [← mon_of na] at e
      have s : shf 0 (ent (mon p a)) k = ent (mon p a) k := by
        unfold shf
        rw [if_pos (Nat.zero_le _), Nat.sub_zero]
      rw [s]
      have h1 : cg p (invM p (lastE a) * lastE a) 1 := (cg.emod p _).symm.trans (cg.of_eq i.2.2)
      have h2 : cg p (lastE a * ent (mon p a) k) (lastE a * (invM p (lastE a) * ent a k)) := (cg.refl p _).mul e
      have h3 := h1.mul (cg.refl p (ent a k))
      exact ((cg.of_eq (by omega)).trans h3.symm).trans ((cg.of_eq (by grind)).trans (h2.symm.trans (cg.of_eq (by omega))))
    exact ⟨_, m1.trans m⟩
  · rintro ⟨N, m⟩
    have m1 : Mu p (ent a) 1 (ent (mon p a)) := by
      refine .add (invM p (lastE a)) 0 (Nat.lt_succ_self 0) (.zero (f := fun _ => 0) fun _ => cg.refl _ _) fun k => ?_
      have e := mulR_cg (p := p) (c := invM p (lastE a)) (a := a) k
      rw [← mon_of na] at e
      have s : shf 0 (ent a) k = ent a k := by
        unfold shf
        rw [if_pos (Nat.zero_le _), Nat.sub_zero]
      rw [s]
      exact e.trans (cg.of_eq (by omega))
    exact ⟨_, m1.trans m⟩
/-- the state of the search for bare parts -/
structure Bps (p : Int) (a : Row) (d j : Nat) (L : Row) (T : List (Row × Nat)) : Prop where
  pol : Pol p L
  ne : L ≠ []
  le : L.length ≤ a.length
  nod : ∀ e g, 1 ≤ e → e < d → g ∈ onesL p e → ¬ Rem p L g []
  nodj : ∀ i g, i < j → (onesL p d)[i]? = some g → ¬ Rem p L g []
  e0 : T = [] → L = mon p a
  e1 : T ≠ [] → (2 ≤ T.length ∨ ∃ g n, T = [(g, n)] ∧ (2 ≤ n ∨ 2 ≤ L.length)) ∧ ∃ e g, 1 ≤ e ∧ 2 * e + 1 ≤ a.length ∧ g ∈ onesL p e ∧ Rem p a g []
theorem Bps.start (h5 : P5 p) {a : Row} (A : Pol p a) (na : a ≠ []) : Bps p a 1 0 (mon p a) [] :=
  ⟨mon_pol h5 A, ne_nil_len.mpr (by rw [mon_len]; exact ne_nil_len.mp na), by rw [mon_len]; exact Nat.le_refl _, fun e g h1 h2 => absurd h2 (by omega), fun i g h => absurd h (Nat.not_lt_zero i), fun _ => rfl, fun h => absurd rfl h⟩
theorem Bps.next {a L : Row} {d : Nat} {T : List (Row × Nat)} (b : Bps p a d (onesL p d).length L T) : Bps p a (d + 1) 0 L T := by
  refine ⟨b.pol, b.ne, b.le, fun e g h1 h2 hg => ?_, fun i g h => absurd h (Nat.not_lt_zero i), b.e0, b.e1⟩
  by_cases h : e < d
  · exact b.nod e g h1 h hg
  · have e2 : e = d := by omega
    subst e2
    obtain ⟨i, hi⟩ := List.getElem?_of_mem hg
    exact b.nodj i g (by
      have := List.getElem?_eq_some_iff.mp hi
      exact this.1) hi
/-- a turn: the j-th one of degree d is taken out, n times -/
theorem Bps.take (h5 : P5 p) {a L r g : Row} {d j n : Nat} {T : List (Row × Nat)} (A : Pol p a) (b : Bps p a d j L T) (hd : 1 ≤ d) (hw : 2 * d + 1 ≤ a.length) (hg : (onesL p d)[j]? = some g) (t : Tk p g L r n) : Bps p a d (j + 1) r (if 0 < n then T ++ [(g, n)] else T) := by
  have two := h5.two
  have gm := List.mem_of_getElem? hg
  have M := ones_mo two gm
  have f := t.facts h5 M b.pol b.ne
  obtain ⟨N, mu⟩ := f.mu
  have keep : ∀ {e : Nat} {q : Row}, Mo p e q → ¬ Rem p L q [] → ¬ Rem p r q [] := fun Mq h R => h ((rem_mu h5 Mq).mpr (by
    obtain ⟨N2, m2⟩ := (rem_mu h5 Mq).mp R
    exact ⟨_, mu.trans m2⟩))
  have flen := f.len
  refine ⟨f.pol, f.ne, by have := b.le; omega, fun e q h1 h2 hq => keep (ones_mo two hq) (b.nod e q h1 h2 hq), fun i q hi hq => ?_, fun h => ?_, fun h => ?_⟩
  · by_cases e : i = j
    · subst e
      rw [hg] at hq
      cases hq
      exact f.nod
    · exact keep (ones_mo two (List.mem_of_getElem? hq)) (b.nodj i q (by omega) hq)
  · by_cases h0 : 0 < n
    · rw [if_pos h0] at h
      simp at h
    · rw [if_neg h0] at h
      rw [f.zero (by omega)]
      exact b.e0 h
  · by_cases h0 : 0 < n
    · rw [if_pos h0]
      by_cases hT : T = []
      · subst hT
        have eL := b.e0 rfl
        have R := f.pos h0
        rw [eL] at R
        refine ⟨.inr ⟨g, n, rfl, ?_⟩, d, g, hd, hw, gm, (rem_mon h5 A M).mp R⟩
        by_cases h2 : 2 ≤ n
        · exact .inl h2
        · have e : n = 1 := by omega
          subst e
          have lL : L.length = a.length := by rw [eL, mon_len]
          exact .inr (by omega)
      · have pos : 0 < T.length := List.length_pos_iff.mpr hT
        exact ⟨.inl (by rw [List.length_append]; show 2 ≤ T.length + 1; omega), (b.e1 hT).2⟩
    · rw [if_neg h0] at h ⊢
      have z := f.zero (by omega)
      rw [z]
      exact b.e1 h
/-- how it ends -/
theorem Bps.bare (h5 : P5 p) {a L : Row} {d : Nat} {T : List (Row × Nat)} (A : Pol p a) (b : Bps p a d 0 L T) (hd : L.length < 2 * d + 1) :
    (∃ g, (if 2 ≤ L.length then T ++ [(L, 1)] else T) = [(g, 1)]) ↔ isBare p a := by
  have two := h5.two
  by_cases hT : T = []
  · subst hT
    have eL := b.e0 rfl
    have lL : L.length = a.length := by rw [eL, mon_len]
    constructor
    · rintro ⟨g, h⟩
      by_cases h2 : 2 ≤ L.length
      · refine ⟨by omega, fun e q h1 hw hq R => ?_⟩
        have n := b.nod e q h1 (by omega) hq
        rw [eL] at n
        exact n ((rem_mon h5 A (ones_mo two hq)).mpr R)
      · rw [if_neg h2] at h
        simp at h
    · intro h
      exact ⟨L, by rw [if_pos (by have := h.1; omega)]; rfl⟩
  · obtain ⟨h1, e, g, he, hw, hg, R⟩ := b.e1 hT
    constructor
    · rintro ⟨q, h⟩
      exfalso
      rcases h1 with h1 | ⟨g2, n, rfl, h1⟩
      · have := congrArg List.length h
        split at this
        · rw [List.length_append] at this
          have t2 : T.length + 1 = 1 := this
          omega
        · have t2 : T.length = 1 := this
          omega
      · split at h
        · simp at h
        · rename_i c
          simp at h
          have e := h.2
          omega
    · intro h
      exact absurd R (h.2 e g he hw hg)
end
end My

namespace My
/-- the way that the search goes -/
inductive Rn (p : Int) (a : Row) : Nat → Nat → Row → List (Row × Nat) → Prop
  | start : Rn p a 1 0 (mon p a) []
  | next {d : Nat} {L : Row} {T : List (Row × Nat)} (r : Rn p a d (onesL p d).length L T) : Rn p a (d + 1) 0 L T
  | take {d j n : Nat} {L r g : Row} {T : List (Row × Nat)} (b : Rn p a d j L T) (hw : 2 * d + 1 ≤ a.length) (hg : (onesL p d)[j]? = some g) (t : Tk p g L r n) : Rn p a d (j + 1) r (if 0 < n then T ++ [(g, n)] else T)
theorem Rn.pos {p : Int} {a L : Row} {d j : Nat} {T : List (Row × Nat)} (r : Rn p a d j L T) : 1 ≤ d := by
  induction r with
  | start => exact Nat.le_refl _
  | next _ ih => omega
  | take _ _ _ _ ih => exact ih
theorem Rn.bps {p : Int} (h5 : P5 p) {a L : Row} (A : Pol p a) (na : a ≠ []) {d j : Nat} {T : List (Row × Nat)} (r : Rn p a d j L T) : Bps p a d j L T := by
  induction r with
  | start => exact Bps.start h5 A na
  | next _ ih => exact ih.next
  | take b hw hg t ih => exact ih.take h5 A b.pos hw hg t
/-- how it ends -/
def Dn (p : Int) (a : Row) (T : List (Row × Nat)) : Prop := ∃ d L T0, Rn p a d 0 L T0 ∧ L.length < 2 * d + 1 ∧ T = if 2 ≤ L.length then T0 ++ [(L, 1)] else T0
theorem Dn.bare {p : Int} (h5 : P5 p) {a : Row} (A : Pol p a) (na : a ≠ []) {T : List (Row × Nat)} (h : Dn p a T) : (∃ g, T = [(g, 1)]) ↔ isBare p a := by
  obtain ⟨d, L, T0, r, hl, rfl⟩ := h
  exact (r.bps h5 A na).bare h5 A hl
end My

namespace My
/-! ### products of several, one behind the other -/
theorem cnv_lin1 (c : Int) (u v g : Nat → Int) : ∀ n k, cnvN n (fun j => u j + c * v j) g k = cnvN n u g k + c * cnvN n v g k
  | 0, k => by show (0 : Int) = 0 + c * 0; omega
  | n + 1, k => by
    show cnvN n (fun j => u j + c * v j) g k + (u n + c * v n) * shf n g k = (cnvN n u g k + u n * shf n g k) + c * (cnvN n v g k + v n * shf n g k)
    rw [cnv_lin1 c u v g n k]
    grind
theorem cnv_more {u g : Nat → Int} {n : Nat} (h : ∀ j, n ≤ j → u j = 0) : ∀ e k, cnvN (n + e) u g k = cnvN n u g k
  | 0, k => rfl
  | e + 1, k => by
    show cnvN (n + e) u g k + u (n + e) * shf (n + e) g k = _
    rw [cnv_more h e k, h (n + e) (by omega)]
    omega
theorem cnv_none {u g : Nat → Int} : ∀ n, (∀ j, j < n → u j = 0) → ∀ k, cnvN n u g k = 0
  | 0, _, k => rfl
  | n + 1, h, k => by
    show cnvN n u g k + u n * shf n g k = 0
    rw [cnv_none n (fun j hj => h j (by omega)) k, h n (by omega)]
    omega
theorem shf_lo {i j : Nat} {g : Nat → Int} (h : j < i) : shf i g j = 0 := if_neg (by omega)
theorem shf_at {i n : Nat} {g : Nat → Int} : shf i g (i + n) = g n := by
  unfold shf
  rw [if_pos (by omega), show i + n - i = n by omega]
theorem cnv_shf (la : Nat) (B C : Nat → Int) : ∀ n k, cnvN (la + n) (shf la B) C k = shf la (cnvN n B C) k
  | 0, k => by
    rw [Nat.add_zero, cnv_none la (fun j hj => shf_lo hj) k]
    unfold shf
    split <;> rfl
  | n + 1, k => by
    show cnvN (la + n) (shf la B) C k + shf la B (la + n) * shf (la + n) C k = _
    rw [cnv_shf la B C n k, shf_at, ← shf_shf]
    unfold shf
    by_cases h : la ≤ k
    · rw [if_pos h, if_pos h, if_pos h]
      rfl
    · rw [if_neg h, if_neg h, if_neg h]
      omega
theorem cnv_sup {A B : Nat → Int} {lb : Nat} (h : ∀ j, lb ≤ j → B j = 0) : ∀ la j, la + lb ≤ j → cnvN la A B j = 0
  | 0, j, _ => rfl
  | la + 1, j, hj => by
    show cnvN la A B j + A la * shf la B j = 0
    rw [cnv_sup h la j (by omega)]
    have e : shf la B j = 0 := by
      unfold shf
      rw [if_pos (by omega)]
      exact h _ (by omega)
    rw [e]
    omega
theorem cnv_assoc {A B C : Nat → Int} {lb : Nat} (h : ∀ j, lb ≤ j → B j = 0) : ∀ la k, cnvN la A (cnvN lb B C) k = cnvN (la + lb) (cnvN la A B) C k
  | 0, k => by
    show (0 : Int) = cnvN (0 + lb) (fun _ => 0) C k
    exact (cnv_none _ (fun _ _ => rfl) k).symm
  | la + 1, k => by
    have e : cnvN (la + 1) A B = fun j => cnvN la A B j + A la * shf la B j := rfl
    rw [e, cnv_lin1, show la + 1 + lb = (la + lb) + 1 by omega, cnv_more (fun j hj => cnv_sup h la j hj), cnv_more (n := la + lb) (u := shf la B) (fun j hj => by
      unfold shf
      rw [if_pos (by omega)]
      exact h _ (by omega)), cnv_shf, ← cnv_assoc h la k]
    rfl
theorem cnv_top {u g : Nat → Int} {t : Nat} (h : ∀ j, t < j → g j = 0) (n : Nat) : cnvN (n + 1) u g (n + t) = u n * g t := by
  show cnvN n u g (n + t) + u n * shf n g (n + t) = _
  rw [shf_at]
  by_cases hn : n = 0
  · subst hn
    show (0 : Int) + _ = _
    omega
  · obtain ⟨m, rfl⟩ : ∃ m, n = m + 1 := ⟨n - 1, by omega⟩
    have z : ∀ j, t + 1 ≤ j → g j = 0 := fun j hj => h j (by omega)
    have e : cnvN (m + 1) u g (m + 1 + t) = 0 := by
      show cnvN m u g (m + 1 + t) + u m * shf m g (m + 1 + t) = 0
      rw [cnv_sup z m _ (by omega), show m + 1 + t = m + (1 + t) by omega, shf_at, z _ (by omega)]
      omega
    rw [e]
    omega
theorem cnv_cong2 {p : Int} {u v g h : Nat → Int} (e : ∀ k, cg p (u k) (v k)) (e2 : ∀ k, cg p (g k) (h k)) : ∀ n k, cg p (cnvN n u g k) (cnvN n v h k)
  | 0, _ => cg.refl p 0
  | n + 1, k => by
    refine (cnv_cong2 e e2 n k).add ((e n).mul ?_)
    unfold shf
    split
    · exact e2 _
    · exact cg.refl p 0
/-- f times the rows, one behind the other, is r -/
inductive Ch (p : Int) : Row → List Row → Row → Prop
  | nil (f : Row) : Ch p f [] f
  | cons {f f1 g r : Row} {gs : List Row} (P : Pol p f1) (h : ∀ k, cg p (ent f1 k) (cnvN f.length (ent f) (ent g) k)) (t : Ch p f1 gs r) : Ch p f (g :: gs) r
theorem Ch.app {p : Int} {f r : Row} : ∀ {l1 l2 : List Row}, Ch p f (l1 ++ l2) r → ∃ m, Ch p f l1 m ∧ Ch p m l2 r
  | [], l2, h => ⟨f, .nil f, h⟩
  | g :: l1, l2, h => by
    cases h with
    | cons P h t =>
      obtain ⟨m, a, b⟩ := Ch.app t
      exact ⟨m, .cons P h a, b⟩
theorem Ch.join {p : Int} {f m r : Row} {l1 l2 : List Row} (a : Ch p f l1 m) (b : Ch p m l2 r) : Ch p f (l1 ++ l2) r := by
  induction a with
  | nil f => exact b
  | cons P h t ih => exact .cons P h (ih b)
theorem Ch.snoc {p : Int} {f m r g : Row} {l : List Row} (a : Ch p f l m) (P : Pol p r) (h : ∀ k, cg p (ent r k) (cnvN m.length (ent m) (ent g) k)) : Ch p f (l ++ [g]) r := a.join (.cons P h (.nil r))
theorem Ch.pol {p : Int} {f r : Row} {l : List Row} (a : Ch p f l r) : Pol p f → Pol p r := by
  induction a with
  | nil f => exact fun h => h
  | cons P h t ih => exact fun _ => ih P
/-- a product is no longer than both less one -/
theorem mul_len {p : Int} (hp : 0 < p) {f g r : Row} (R : Pol p r) (h : ∀ k, cg p (ent r k) (cnvN f.length (ent f) (ent g) k)) (hf : 1 ≤ f.length) (hg : 1 ≤ g.length) : r.length ≤ f.length + g.length - 1 := by
  refine Classical.byContradiction fun c => ?_
  have nr : r ≠ [] := ne_nil_len.mpr (by omega)
  have e := h (r.length - 1)
  obtain ⟨n, hn⟩ : ∃ n, f.length = n + 1 := ⟨f.length - 1, by omega⟩
  have z : cnvN f.length (ent f) (ent g) (r.length - 1) = 0 := by
    rw [hn]
    show cnvN n (ent f) (ent g) (r.length - 1) + ent f n * shf n (ent g) (r.length - 1) = 0
    rw [cnv_sup (lb := g.length) (fun j hj => ent_out hj) n _ (by omega)]
    have s : shf n (ent g) (r.length - 1) = 0 := by
      unfold shf
      rw [if_pos (by omega)]
      exact ent_out (by omega)
    rw [s]
    omega
  rw [z] at e
  have rr := last_rng hp R nr
  unfold lastE at rr
  have := e.eq (by omega) (by omega) (Int.le_refl _) hp
  omega
/-- as many of each as is told -/
def Fs (T : List (Row × Nat)) : List Row := T.flatMap fun x => List.replicate x.2 x.1
theorem Fs_app {S T : List (Row × Nat)} : Fs (S ++ T) = Fs S ++ Fs T := List.flatMap_append
theorem Fs_one {g : Row} {n : Nat} : Fs [(g, n)] = List.replicate n g := by
  unfold Fs
  simp
section
variable {p : Int}
theorem Tk.prod {g L r : Row} {n : Nat} {a : Nat → Int} (t : Tk p g L r n) : ∀ {f f' : Row}, (∀ k, cg p (a k) (cnvN f.length (ent f) (ent L) k)) → Ch p f (List.replicate n g) f' → ∀ k, cg p (a k) (cnvN f'.length (ent f') (ent r) k) := by
  induction t with
  | base R h =>
    intro f f' e c
    cases c
    exact e
  | @step L m r n R q t ih =>
    intro f f' e c
    rw [List.replicate_succ] at c
    cases c with
    | @cons _ f1 _ _ _ P h c =>
      refine ih (fun k => ?_) c
      have e1 : cg p (a k) (cnvN f.length (ent f) (cnvN g.length (ent g) (ent m)) k) := (e k).trans (cnv_cong2 (fun k => cg.refl p _) q.cv _ k)
      rw [cnv_assoc (fun j hj => ent_out hj)] at e1
      refine e1.trans ?_
      have e2 : ∀ k, cg p (cnvN f.length (ent f) (ent g) k) (ent f1 k) := fun k => (h k).symm
      refine (cnv_cong2 e2 (fun k => cg.refl p (ent m k)) _ k).trans ?_
      -- of the same length, or longer by noughts
      by_cases l : f1.length ≤ f.length + g.length
      · rw [show f.length + g.length = f1.length + (f.length + g.length - f1.length) by omega, cnv_more (fun j hj => ent_out hj)]
        exact cg.refl p _
      · refine Eq.subst (motive := fun z => cg p (cnvN (f.length + g.length) (ent f1) (ent m) k) z) (?_ : cnvN (f.length + g.length + (f1.length - (f.length + g.length))) (ent f1) (ent m) k = _) ?_
        · rw [show f.length + g.length + (f1.length - (f.length + g.length)) = f1.length by omega]
        · have z : ∀ j, f.length + g.length ≤ j → cg p (ent f1 j) 0 := fun j hj => by
            have := h j
            rw [cnv_sup (lb := g.length) (fun j hj => ent_out hj) f.length j hj] at this
            exact this
          generalize f1.length - (f.length + g.length) = d
          generalize f.length + g.length = N at *
          induction d with
          | zero => exact cg.refl p _
          | succ d ihd =>
            show cg p _ (cnvN (N + d) (ent f1) (ent m) k + ent f1 (N + d) * shf (N + d) (ent m) k)
            exact ((cg.of_eq (by omega)).trans (ihd.add ((z (N + d) (by omega)).symm.mul (cg.refl p (shf (N + d) (ent m) k)))))
theorem mon_back (h5 : P5 p) {a : Row} (A : Pol p a) (na : a ≠ []) (k : Nat) : cg p (ent a k) (lastE a * ent (mon p a) k) := by
  have i := mon_inv h5 A na
  have e := mulR_cg (p := p) (c := invM p (lastE a)) (a := a) k
  rw [← mon_of na] at e
  have h1 : cg p (invM p (lastE a) * lastE a) 1 := (cg.emod p _).symm.trans (cg.of_eq i.2.2)
  have h2 : cg p (lastE a * ent (mon p a) k) (lastE a * (invM p (lastE a) * ent a k)) := (cg.refl p _).mul e
  have h3 := h1.mul (cg.refl p (ent a k))
  exact ((cg.of_eq (by omega)).trans h3.symm).trans ((cg.of_eq (by grind)).trans h2.symm)
theorem cnv_one (c : Int) (g : Nat → Int) (k : Nat) : cnvN [c].length (ent [c]) g k = c * g k := by
  show (0 : Int) + c * shf 0 g k = c * g k
  rw [show shf 0 g k = g k by unfold shf; rw [if_pos (Nat.zero_le _), Nat.sub_zero]]
  omega
theorem Rn.prod (h5 : P5 p) {a : Row} (A : Pol p a) (na : a ≠ []) {d j : Nat} {L : Row} {T : List (Row × Nat)} (r : Rn p a d j L T) : ∀ f, Ch p [lastE a] (Fs T) f → ∀ k, cg p (ent a k) (cnvN f.length (ent f) (ent L) k) := by
  induction r with
  | start =>
    intro f c k
    cases c
    rw [cnv_one]
    exact mon_back h5 A na k
  | next _ ih => exact ih
  | @take d j n L r g T b hw hg t ih =>
    intro f' c
    by_cases h0 : 0 < n
    · rw [if_pos h0, Fs_app, Fs_one] at c
      obtain ⟨f, c1, c2⟩ := c.app
      exact t.prod (ih f c1) c2
    · rw [if_neg h0] at c
      have n0 : n = 0 := by omega
      subst n0
      exact t.prod (ih f' c) (.nil f')
/-! ### with 1 behind -/
theorem hds_all : ∀ d (g : Row), g.length = d → (∀ x ∈ g, 0 ≤ x ∧ x < p) → g ∈ hdsL p d
  | 0, g, h, _ => by
    rw [List.eq_nil_of_length_eq_zero h]
    simp [hdsL]
  | d + 1, g, h, hr => by
    have ng : g ≠ [] := ne_nil_len.mpr (by omega)
    have e : g = g.dropLast ++ [g.getLast ng] := (List.dropLast_concat_getLast ng).symm
    have m := hr _ (List.getLast_mem ng)
    have i := hds_all d g.dropLast (by rw [List.length_dropLast]; omega) fun x hx => hr x (by
      rw [List.dropLast_eq_take] at hx
      exact List.mem_of_mem_take hx)
    refine List.mem_flatMap.mpr ⟨g.dropLast, i, List.mem_map.mpr ⟨(g.getLast ng).toNat, List.mem_range.mpr (by omega), ?_⟩⟩
    conv => rhs; rw [e]
    rw [show (((g.getLast ng).toNat : Nat) : Int) = g.getLast ng by omega]
theorem ones_all {d : Nat} {g : Row} (M : Mo p d g) : g ∈ onesL p d := by
  have ng := M.ne
  have e : g = g.dropLast ++ [g.getLast ng] := (List.dropLast_concat_getLast ng).symm
  have l : g.getLast ng = 1 := by
    rw [List.getLast_eq_getElem, ← getD_el g 0 (by have := M.len; omega)]
    have := M.one
    have ln := M.len
    rw [show g.length - 1 = d by omega]
    exact this
  refine List.mem_map.mpr ⟨g.dropLast, hds_all d _ (by rw [List.length_dropLast, M.len]; omega) fun x hx => M.rng x (by
    rw [List.dropLast_eq_take] at hx
    exact List.mem_of_mem_take hx), ?_⟩
  rw [← l]
  exact e.symm
theorem rem_self (h5 : P5 p) {d : Nat} {g : Row} (M : Mo p d g) : Rem p g g [] := (rem_mu h5 M).mpr ⟨1, mu_self _⟩
theorem qt_mo (h5 : P5 p) {d : Nat} {g L m : Row} (M : Mo p d g) (q : Qt p L g m) (hL : lastE L = 1) (le : g.length ≤ L.length) : lastE m = 1 := by
  have two := h5.two
  have lg := M.len
  have lm := q.len
  have nm : m ≠ [] := ne_nil_len.mpr (by omega)
  have e := q.cv (L.length - 1)
  rw [show ent L (L.length - 1) = 1 from hL, lg, show L.length - 1 = d + (m.length - 1) by omega, cnv_top (t := m.length - 1) (fun j hj => ent_out (by omega)), M.one] at e
  have r := last_rng (show 0 < p by omega) q.pol nm
  unfold lastE at r ⊢
  exact ((e.trans (cg.of_eq (by omega))).eq (by omega) (by omega) (by omega) (by omega)).symm
theorem Tk.mo (h5 : P5 p) {d : Nat} {g L r : Row} {n : Nat} (M : Mo p d g) (t : Tk p g L r n) : Pol p L → L ≠ [] → lastE L = 1 → lastE r = 1 := by
  induction t with
  | base R h => exact fun _ _ h => h
  | @step L m r n R q t ih =>
    intro A na h1
    have ls := rem_short h5 M A na R
    exact ih q.pol (ne_nil_len.mpr (by rw [q.len]; omega)) (qt_mo h5 M q h1 ls)
theorem mo_of {L : Row} (A : Pol p L) (na : L ≠ []) (h : lastE L = 1) : Mo p (L.length - 1) L := ⟨A.rng, by have := ne_nil_len.mp na; omega, h⟩
/-! ### the order -/
inductive Lx : Row → Row → Prop
  | lt {x y : Int} {a b : Row} (h : x < y) : Lx (x :: a) (y :: b)
  | eq {x : Int} {a b : Row} (h : Lx a b) : Lx (x :: a) (x :: b)
theorem Lx.app {a b u v : Row} (h : Lx a b) : Lx (a ++ u) (b ++ v) := by
  induction h with
  | lt h => exact .lt h
  | eq _ ih => exact .eq ih
theorem Lx.pre {u v : Row} (h : Lx u v) : ∀ a : Row, Lx (a ++ u) (a ++ v)
  | [] => h
  | _ :: a => .eq (h.pre a)
theorem hds_lx : ∀ d, (hdsL p d).Pairwise Lx
  | 0 => List.pairwise_singleton _ _
  | d + 1 => by
    refine List.pairwise_flatMap.mpr ⟨fun h _ => ?_, (hds_lx d).imp fun {a b} ab x hx y hy => ?_⟩
    · refine List.pairwise_map.mpr (List.pairwise_lt_range.imp fun {i j} ij => ?_)
      exact (Lx.lt (by omega)).pre h
    · obtain ⟨i, _, rfl⟩ := List.mem_map.mp hx
      obtain ⟨j, _, rfl⟩ := List.mem_map.mp hy
      exact ab.app
theorem ones_lx (d : Nat) : (onesL p d).Pairwise Lx := List.pairwise_map.mpr ((hds_lx d).imp fun ab => ab.app)
theorem ones_lt {d i j : Nat} {g h : Row} (hi : (onesL p d)[i]? = some g) (hj : (onesL p d)[j]? = some h) (l : i < j) : Lx g h := by
  obtain ⟨a, rfl⟩ := List.getElem?_eq_some_iff.mp hi
  obtain ⟨b, rfl⟩ := List.getElem?_eq_some_iff.mp hj
  exact List.pairwise_iff_getElem.mp (ones_lx d) i j a b l
/-- ahead of: shorter, or as long and ahead as a list -/
def Lo (x y : Row × Nat) : Prop := x.1.length < y.1.length ∨ (x.1.length = y.1.length ∧ Lx x.1 y.1)
/-- what is told of each part -/
structure Pt (p : Int) (x : Row × Nat) : Prop where
  mo : Mo p (x.1.length - 1) x.1
  bare : isBare p x.1
  pos : 1 ≤ x.2
structure RnF (p : Int) (a : Row) (d j : Nat) (L : Row) (T : List (Row × Nat)) : Prop where
  one : lastE L = 1
  pt : ∀ x ∈ T, Pt p x
  lo : T.Pairwise Lo
  at_ : ∀ x ∈ T, x.1.length < d + 1 ∨ (x.1.length = d + 1 ∧ ∃ i, i < j ∧ (onesL p d)[i]? = some x.1)
  len : ((Fs T).map fun g => g.length - 1).sum + L.length = a.length
theorem sum_rep (n c : Nat) : (List.replicate n c).sum = n * c := List.sum_replicate_nat
theorem Rn.facts (h5 : P5 p) {a : Row} (A : Pol p a) (na : a ≠ []) {d j : Nat} {L : Row} {T : List (Row × Nat)} (r : Rn p a d j L T) : RnF p a d j L T := by
  have two := h5.two
  induction r with
  | start => exact ⟨by unfold lastE; rw [mon_len]; exact mon_last h5 A na, fun x hx => by simp at hx, .nil, fun x hx => by simp at hx, by rw [mon_len]; exact Nat.zero_add _⟩
  | @next d L T b ih =>
    refine ⟨ih.one, ih.pt, ih.lo, fun x hx => .inl ?_, ih.len⟩
    rcases ih.at_ x hx with h | h
    · omega
    · omega
  | @take d j n L r g T b hw hg t ih =>
    have B := b.bps h5 A na
    have gm := List.mem_of_getElem? hg
    have M := ones_mo two gm
    have lg := M.len
    have dp := b.pos
    have f := t.facts h5 M B.pol B.ne
    have one := t.mo h5 M B.pol B.ne ih.one
    by_cases h0 : 0 < n
    · rw [if_pos h0]
      have R := f.pos h0
      have ptg : Pt p (g, n) := by
        refine ⟨?_, ⟨by show 2 ≤ g.length; omega, fun e q h1 h2 hq R2 => ?_⟩, h0⟩
        · show Mo p (g.length - 1) g
          rw [lg, Nat.add_sub_cancel]
          exact M
        · have h2 : 2 * e + 1 ≤ g.length := h2
          have Mq := ones_mo two hq
          obtain ⟨N1, m1⟩ := (rem_mu h5 Mq).mp R2
          obtain ⟨N2, m2⟩ := (rem_mu h5 M).mp R
          exact B.nod e q h1 (by omega) hq ((rem_mu h5 Mq).mpr ⟨_, m2.trans m1⟩)
      refine ⟨one, fun x hx => ?_, ?_, fun x hx => ?_, ?_⟩
      · rcases List.mem_append.mp hx with h | h
        · exact ih.pt x h
        · rw [List.mem_singleton.mp h]
          exact ptg
      · refine List.pairwise_append.mpr ⟨ih.lo, List.pairwise_singleton _ _, fun x hx y hy => ?_⟩
        rw [List.mem_singleton.mp hy]
        rcases ih.at_ x hx with h | ⟨h, i, hi, hxi⟩
        · exact .inl (by show x.1.length < g.length; omega)
        · exact .inr ⟨by show x.1.length = g.length; omega, ones_lt hxi hg hi⟩
      · rcases List.mem_append.mp hx with h | h
        · rcases ih.at_ x h with h | ⟨h, i, hi, hxi⟩
          · exact .inl h
          · exact .inr ⟨h, i, by omega, hxi⟩
        · rw [List.mem_singleton.mp h]
          exact .inr ⟨lg, j, Nat.lt_succ_self j, hg⟩
      · rw [Fs_app, Fs_one, List.map_append, List.sum_append, List.map_replicate, sum_rep, lg, Nat.add_sub_cancel]
        have := f.len
        have := ih.len
        omega
    · rw [if_neg h0]
      have z := f.zero (by omega)
      rw [z]
      exact ⟨ih.one, ih.pt, ih.lo, fun x hx => by
        rcases ih.at_ x hx with h | ⟨h, i, hi, hxi⟩
        · exact .inl h
        · exact .inr ⟨h, i, by omega, hxi⟩, ih.len⟩
/-- all that is told of the parts -/
structure Parts (p : Int) (a : Row) (T : List (Row × Nat)) : Prop where
  pt : ∀ x ∈ T, Pt p x
  lo : T.Pairwise Lo
  len : ((Fs T).map fun g => g.length - 1).sum + 1 ≤ a.length
  prod : ∀ f, Ch p [lastE a] (Fs T) f → f = a
theorem cnv_id {f : Row} (k : Nat) : cnvN f.length (ent f) (ent [1]) k = ent f k := by
  have e : ent [1] = dlt 0 := by
    funext j
    unfold dlt
    by_cases h : j = 0
    · rw [if_pos h, h]
      rfl
    · rw [if_neg h]
      exact ent_out (by show 1 ≤ j; omega)
  rw [e, cnvN_dlt]
  by_cases h : k < f.length
  · rw [if_pos ⟨Nat.zero_le _, by omega⟩, Nat.sub_zero]
  · rw [if_neg (by omega), ent_out (by omega)]
theorem last_pol {a : Row} (hp : 0 < p) (A : Pol p a) (na : a ≠ []) : Pol p [lastE a] := by
  have r := last_rng hp A na
  refine ⟨fun x hx => ?_, fun _ => ?_⟩
  · rw [List.mem_singleton.mp hx]
    omega
  · show lastE a ≠ 0
    omega
theorem Dn.parts (h5 : P5 p) {a : Row} (A : Pol p a) (na : a ≠ []) {T : List (Row × Nat)} (h : Dn p a T) : Parts p a T := by
  have two := h5.two
  obtain ⟨d, L, T0, r, hl, rfl⟩ := h
  have B := r.bps h5 A na
  have f := r.facts h5 A na
  have lL := ne_nil_len.mp B.ne
  have ML := mo_of B.pol B.ne f.one
  by_cases h2 : 2 ≤ L.length
  · rw [if_pos h2]
    refine ⟨fun x hx => ?_, ?_, ?_, fun q c => ?_⟩
    · rcases List.mem_append.mp hx with h | h
      · exact f.pt x h
      · rw [List.mem_singleton.mp h]
        exact ⟨ML, ⟨h2, fun e g h1 h3 hg => B.nod e g h1 (by have h3 : 2 * e + 1 ≤ L.length := h3; omega) hg⟩, Nat.le_refl _⟩
    · refine List.pairwise_append.mpr ⟨f.lo, List.pairwise_singleton _ _, fun x hx y hy => ?_⟩
      rw [List.mem_singleton.mp hy]
      refine .inl ?_
      show x.1.length < L.length
      have lx : x.1.length < d + 1 := by
        rcases f.at_ x hx with h | ⟨_, i, hi, _⟩
        · exact h
        · omega
      refine Classical.byContradiction fun c => ?_
      exact B.nod (L.length - 1) L (by omega) (by omega) (ones_all ML) (rem_self h5 ML)
    · rw [Fs_app, Fs_one, List.map_append, List.sum_append, List.map_replicate, sum_rep]
      have := f.len
      omega
    · rw [Fs_app, Fs_one] at c
      obtain ⟨m, c1, c2⟩ := c.app
      have e := r.prod h5 A na m c1
      cases c2 with
      | cons P h t =>
        cases t
        exact pol_ext (by omega) P A fun k => (h k).trans (e k).symm
  · rw [if_neg h2]
    refine ⟨f.pt, f.lo, by have := f.len; omega, fun q c => ?_⟩
    have e := r.prod h5 A na q c
    have eL : L = [1] := by
      obtain ⟨x, hx⟩ := List.length_eq_one_iff.mp (show L.length = 1 by omega)
      have o := f.one
      rw [hx] at o ⊢
      rw [show x = 1 from o]
    rw [eL] at e
    have Q := c.pol (last_pol (by omega) A na)
    exact pol_ext (by omega) Q A fun k => ((e k).trans (cg.of_eq (cnv_id k))).symm
end
end My

namespace My
open PySem PySem.Spec PyProof.Rows L2
section
variable {P : Program} {w : World} {K : PySem.W.Frag} {mg : Str → Option Value} {base : Heap}
abbrev iv (m : List Int) : List V := m.map V.int

abbrev rf (rs : List Addr) : List V := rs.map V.ref

theorem same_new {H : Hp} {q : Addr} {o : HO} (h : H q = none) : Same H (upd H q o) := fun b x e => by
  rw [upd_ne (ne_of_none e h)]
  exact e

theorem same_upd {H H' : Hp} {q : Addr} {o : HO} (h : H q = none) (s : Same H H') : Same H (upd H' q o) := fun b x e => by
  rw [upd_ne (ne_of_none e h)]
  exact s b x e

theorem same_none {H H' : Hp} {q : Addr} (s : Same H H') (h : H' q = none) : H q = none := s.free h

/-- a list at its own place in the heap -/
abbrev IL (H : Hp) (a : Addr) (m : List Int) : Prop := H a = some (.lst (iv m))

theorem IL.sq {K : PySem.W.Frag} {H : Hp} {a : Addr} {m : List Int} (h : IL H a m) : SqL K H a (iv m) := SqL.of h

/-- a list of rows -/
structure Tab (H : Hp) (a : Addr) (rs : List Addr) (M : List Row) : Prop where
  at_ : H a = some (.lst (rf rs))
  len : rs.length = M.length
  row : ∀ (i : Nat) r m, rs[i]? = some r → M[i]? = some m → IL H r m

theorem Tab.same {H H' : Hp} {a : Addr} {rs : List Addr} {M : List Row} (t : Tab H a rs M) (s : Same H H') : Tab H' a rs M := ⟨s _ _ t.at_, t.len, fun i r m hr hm => s _ _ (t.row i r m hr hm)⟩

theorem iv_get {m : List Int} {i : Nat} {x : Int} (h : m[i]? = some x) : (iv m)[i]? = some (V.int x) := by
  rw [List.getElem?_map, h]
  rfl

theorem iv_ent {m : List Int} {i : Nat} (h : i < m.length) : (iv m)[i]? = some (V.int (ent m i)) := iv_get (ent_some h)

theorem rf_get {rs : List Addr} {i : Nat} {r : Addr} (h : rs[i]? = some r) : (rf rs)[i]? = some (V.ref r) := by
  rw [List.getElem?_map, h]
  rfl

theorem rf_inv {rs : List Addr} {i : Nat} {v : V} (h : (rf rs)[i]? = some v) : ∃ r, rs[i]? = some r ∧ v = .ref r := by
  rw [List.getElem?_map] at h
  cases e : rs[i]? with
  | none => rw [e] at h; cases h
  | some r => rw [e] at h; exact ⟨r, rfl, (Option.some.inj h).symm⟩

theorem iv_inv {m : List Int} {i : Nat} {v : V} (h : (iv m)[i]? = some v) : ∃ x, m[i]? = some x ∧ v = .int x := by
  rw [List.getElem?_map] at h
  cases e : m[i]? with
  | none => rw [e] at h; cases h
  | some r => rw [e] at h; exact ⟨r, rfl, (Option.some.inj h).symm⟩

theorem get_lt {α : Type} {l : List α} {i : Nat} {x : α} (h : l[i]? = some x) : i < l.length := (List.getElem?_eq_some_iff.mp h).1

theorem get_of {α : Type} {l : List α} {i : Nat} (h : i < l.length) : ∃ x, l[i]? = some x := ⟨l[i], List.getElem?_eq_getElem h⟩

/-- a list of ints that is being made at D -/
structure Mk (H : Hp) (D : Addr) (g : List Int) (i : Nat) (H' : Hp) : Prop where
  same : Same H H'
  at_ : H' D = some (.lst (iv (g.take i)))

theorem Mk.start {H : Hp} {D : Addr} {g : List Int} (h : H D = none) : Mk H D g 0 (upd H D (.lst [])) := ⟨same_new h, upd_same⟩

theorem Mk.step {H H' H2 : Hp} {D : Addr} {g : List Int} {i : Nat} {y : Int} (m : Mk H D g i H') (hD : H D = none) (s : Same H' H2) (e : g[i]? = some y) (hl : g.length ≤ 1000) :
    ∃ acc, H2 D = some (.lst acc) ∧ acc.length < sizeLine ∧ Mk H D g (i + 1) (upd H2 D (.lst (acc ++ [.int y]))) := by
  refine ⟨_, s _ _ m.at_, ?_, same_upd hD (m.same.trans s), ?_⟩
  · rw [List.length_map, List.length_take]
    exact small1000 (by omega)
  · rw [upd_same, List.take_add_one, e]
    simp

theorem Mk.done {H H' : Hp} {D : Addr} {g : List Int} {n : Nat} (m : Mk H D g n H') (h : n = g.length) : IL H' D g := by
  have := m.at_
  rw [h, List.take_length] at this
  exact this

/-- a list of rows that is being made at D: each row is new, or stands at the same place of rs -/
structure Mt (H : Hp) (D : Addr) (rs : List Addr) (G : List Row) (i : Nat) (H' : Hp) (qs : List Addr) : Prop where
  same : Same H H'
  at_ : H' D = some (.lst (rf qs))
  len : qs.length = i
  row : ∀ (j : Nat) q g, qs[j]? = some q → G[j]? = some g → IL H' q g
  src : ∀ (j : Nat) q, qs[j]? = some q → rs[j]? = some q ∨ H q = none
  nD : D ∉ qs
  nd : rs.Nodup → qs.Nodup

theorem Mt.start {H : Hp} {D : Addr} {rs : List Addr} {G : List Row} (h : H D = none) : Mt H D rs G 0 (upd H D (.lst [])) [] := ⟨same_new h, upd_same, rfl, fun j q g hq => by simp at hq, fun j q hq => by simp at hq, by simp, fun _ => List.nodup_nil⟩

theorem nodup_snoc {α : Type} {l : List α} {x : α} (h : l.Nodup) (hx : x ∉ l) : (l ++ [x]).Nodup := by
  refine List.nodup_append.mpr ⟨h, by simp, fun a ha b hb e => ?_⟩
  rw [List.mem_singleton.mp hb] at e
  exact hx (e ▸ ha)

theorem Mt.step {H H' H2 : Hp} {D : Addr} {rs : List Addr} {G : List Row} {i : Nat} {qs : List Addr} {q : Addr} {g : Row} (m : Mt H D rs G i H' qs) (hD : H D = none) (tr : ∀ r ∈ rs, ∃ o, H r = some o) (s : Same H' H2) (e : G[i]? = some g) (hq : IL H2 q g) (sr : rs[i]? = some q ∨ H' q = none) (hl : G.length ≤ 1000) :
    ∃ acc, H2 D = some (.lst acc) ∧ acc.length < sizeLine ∧ Mt H D rs G (i + 1) (upd H2 D (.lst (acc ++ [.ref q]))) (qs ++ [q]) := by
  have hi := get_lt e
  have ne : q ≠ D := by
    rcases sr with h | h
    · obtain ⟨o, ho⟩ := tr q (List.mem_of_getElem? h)
      exact ne_of_none ho hD
    · exact fun z => by
        rw [z, m.at_] at h
        cases h
  refine ⟨_, s _ _ m.at_, ?_, same_upd hD (m.same.trans s), ?_, ?_, fun j r h hr hh => ?_, fun j r hr => ?_, ?_, fun nd => ?_⟩
  · rw [List.length_map, m.len]
    exact small1000 (by omega)
  · rw [upd_same]
    simp
  · rw [List.length_append, m.len]
    rfl
  · by_cases hj : j < i
    · rw [List.getElem?_append_left (by rw [m.len]; exact hj)] at hr
      have z := m.row j r h hr hh
      have nr : r ≠ D := fun z => m.nD (z ▸ List.mem_of_getElem? hr)
      show (upd H2 D _) r = _
      rw [upd_ne nr]
      exact s _ _ z
    · have hj2 := get_lt hr
      rw [List.length_append, m.len] at hj2
      have ej : j = i := by simp at hj2; omega
      subst ej
      rw [List.getElem?_append_right (by rw [m.len]; omega), m.len, Nat.sub_self] at hr
      cases Option.some.inj hr
      rw [e] at hh
      cases hh
      show (upd H2 D _) q = _
      rw [upd_ne ne]
      exact hq
  · by_cases hj : j < i
    · rw [List.getElem?_append_left (by rw [m.len]; exact hj)] at hr
      exact m.src j r hr
    · have hj2 := get_lt hr
      rw [List.length_append, m.len] at hj2
      have ej : j = i := by simp at hj2; omega
      subst ej
      rw [List.getElem?_append_right (by rw [m.len]; omega), m.len, Nat.sub_self] at hr
      cases Option.some.inj hr
      rcases sr with h | h
      · exact .inl h
      · exact .inr (same_none m.same h)
  · intro h
    rcases List.mem_append.mp h with h | h
    · exact m.nD h
    · exact ne (List.mem_singleton.mp h).symm
  · refine nodup_snoc (m.nd nd) fun hm => ?_
    obtain ⟨j, hj⟩ := List.getElem?_of_mem hm
    have jl := get_lt hj
    rw [m.len] at jl
    rcases sr with h | h
    · rcases m.src j q hj with h2 | h2
      · have := nd_ix nd h h2
        omega
      · obtain ⟨o, ho⟩ := tr q (List.mem_of_getElem? h)
        rw [ho] at h2
        cases h2
    · obtain ⟨w, hw⟩ := get_of (l := G) (i := j) (by omega)
      have z : H' q = _ := m.row j q w hj hw
      rw [h] at z
      cases z

theorem Mt.tab {H H' : Hp} {D : Addr} {rs : List Addr} {G : List Row} {n : Nat} {qs : List Addr} (m : Mt H D rs G n H' qs) (h : n = G.length) : Tab H' D qs G := ⟨m.at_, m.len.trans h, m.row⟩

/-- a while by a word over a number that falls -/
theorem wh {c : TT} {tb : TS} {D : Ends} {σ : L2.St} {H : Hp} (Pv : Nat → L2.St → Hp → Prop) (m0 : Nat) (h0 : Pv m0 σ H)
    (hs : ∀ m σ H, Pv m σ H → c σ H fun b H1 => if b = true then ∃ N : L2.St → Hp → Prop, (∀ σ' H', N σ' H' → ∃ m', m' < m ∧ Pv m' σ' H') ∧ tb { D with nx := N, ct := N, bk := D.nx } σ H1 else D.nx σ H1) : tWhile c tb D σ H := ⟨Pv, ⟨m0, h0⟩, hs⟩

/-- a comprehension's turn without a test -/
theorem t_yes {te : TE} {σ : L2.St} {H : Hp} {Y : V → Hp → Prop} {N : Hp → Prop} (h : te σ H Y) : tYes σ H (fun b H3 => if b = true then te σ H3 Y else N H3) := iteT (B := N H) h

theorem ixL {X : Cx} (K : PySem.W.Frag) (h : X.K = K := by rfl) : IxR X (rIxL K) := h ▸ ix_list

theorem piZ {X : Cx} (K : PySem.W.Frag) {e e2 : Expr} {ta : TA} {p pos tpos : Pos} {elts : List Expr} {kk : Nat} (h : X.K = K) (hg : Gl X "zip") (hm : X.mg "zip" = none) (ha : PA X [e, e2] ta)
    (hs : starEach [e, e2] X.env = (false, eval e X.env) :: starEach [e2] X.env := by rfl) (hpl : (backTo pos (starEach [e2] X.env)).any (·.1) = false := by rfl) :
    PI X (.Tuple elts kk tpos) (.Call (.Name "zip" p) [e, e2] [] pos) (iZip K ta) := h ▸ pi_zip hg hm ha hs hpl

theorem piL {X : Cx} (K : PySem.W.Frag) {tg l : Expr} {tl : TE} (h : X.K = K) (hl : PE X l tl) : PI X tg l (iList K tl) := h ▸ pi_list hl

/-- the scope of a comprehension, and the expression that a statement hands back or stores -/
def lcScope : Expr → Scope
  | .ListComp _ _ sc _ => sc
  | _ => { kind := .function, names := [], isGenerator := false, isCoroutine := false }

def stE : Stmt → Expr
  | .Return (some e) _ => e
  | .Assign _ e _ => e
  | _ => .Name "" ⟨0, 0, 0, 0⟩

def stN (b : List Stmt) (i : Nat) : Stmt := b.getD i (.Pass ⟨0, 0, 0, 0⟩)

theorem tab_tracked {H : Hp} {a : Addr} {rs : List Addr} {M : List Row} (t : Tab H a rs M) : ∀ r ∈ rs, ∃ o, H r = some o := fun r hr => by
  obtain ⟨i, hi⟩ := List.getElem?_of_mem hr
  obtain ⟨m, hm⟩ := get_of (l := M) (i := i) (by have := get_lt hi; have := t.len; omega)
  exact ⟨_, t.row i r m hi hm⟩

/-- rests of one length -/
abbrev Wfs (p : Int) (n : Nat) (M : List Row) : Prop := ∀ m ∈ M, Wf p n m

theorem clearM_get {p : Int} {pl : Nat} {bm : Row} {M : List Row} {i : Nat} {m : Row} (h : M[i]? = some m) : (clearM p pl bm M)[i]? = some (lessR p m (ent m pl) bm) := by
  unfold clearM
  rw [List.getElem?_map, h]
  rfl

theorem lessR_get {p c x y : Int} {m bm : Row} {i : Nat} (h : m[i]? = some x) (h2 : bm[i]? = some y) : (lessR p m c bm)[i]? = some ((x - c * y) % p) := by
  unfold lessR
  rw [List.getElem?_zipWith, h, h2]

theorem clearM_len {p : Int} {pl : Nat} {b : Row} {M : List Row} : (clearM p pl b M).length = M.length := by
  unfold clearM
  rw [List.length_map]

theorem runM_len {p : Int} {inv : Int → Int} {rows : List Row} : ∀ k, (runM p inv rows k).1.length ≤ k ∧ (runM p inv rows k).2.length ≤ rows.length
  | 0 => ⟨Nat.le_refl _, Nat.le_refl _⟩
  | k + 1 => by
    have ih := runM_len (p := p) (inv := inv) (rows := rows) k
    show (stepM p inv k (runM p inv rows k)).1.length ≤ k + 1 ∧ (stepM p inv k (runM p inv rows k)).2.length ≤ rows.length
    unfold stepM
    split
    · exact ⟨by omega, ih.2⟩
    · refine ⟨?_, ?_⟩
      · show (clearM _ _ _ _ ++ [_]).length ≤ k + 1
        rw [List.length_append, clearM_len, List.length_singleton]
        omega
      · show (clearM _ _ _ _).length ≤ _
        rw [clearM_len]
        have := List.length_eraseIdx_le (runM p inv rows k).2 (by assumption)
        omega

theorem pick_is {pl j : Nat} {L : List Row} (hj : j < L.length) (h : ∀ i, i < j → ent (L.getD i []) pl = 0) (h2 : ent (L.getD j []) pl ≠ 0) : pick pl L = some j := by
  unfold pick
  refine List.findIdx?_eq_some_iff_getElem.mpr ⟨hj, ?_, fun i hi => ?_⟩
  · rw [getD_el L [] hj] at h2
    simpa using h2
  · have := h i hi
    rw [getD_el L [] (by omega)] at this
    simpa using this

theorem pick_non {pl : Nat} {L : List Row} (h : ∀ i, i < L.length → ent (L.getD i []) pl = 0) : pick pl L = none := by
  unfold pick
  refine List.findIdx?_eq_none_iff.mpr fun r hr => ?_
  obtain ⟨i, hi, rfl⟩ := List.getElem_of_mem hr
  have := h i hi
  rw [getD_el L [] hi] at this
  simpa using this

theorem getD_of {α : Type} {l : List α} {d x : α} {i : Nat} (h : l[i]? = some x) : l.getD i d = x := by
  rw [List.getD_eq_getElem?_getD, h]
  rfl

theorem rf_ne {H : Hp} {a r x : Addr} {rs : List Addr} {m : List Int} (h : H a = some (.lst (rf (x :: rs)))) (h2 : IL H r m) : r ≠ a := fun e => by
  rw [e, IL, h] at h2
  have z : rf (x :: rs) = iv m := HO.lst.inj (Option.some.inj h2)
  cases m with
  | nil => cases z
  | cons y m => exact V.noConfusion (List.cons.inj z).1

theorem Tab.upd {H : Hp} {a q : Addr} {o : HO} {rs : List Addr} {M : List Row} (t : Tab H a rs M) (h : a ≠ q) (h2 : ∀ r ∈ rs, r ≠ q) : Tab (upd H q o) a rs M :=
  ⟨by rw [upd_ne h]; exact t.at_, t.len, fun i r m hr hm => by
    show (L2.upd H q o) r = _
    rw [upd_ne (h2 r (List.mem_of_getElem? hr))]
    exact t.row i r m hr hm⟩

theorem seqIx {j n : Nat} (h : j < n) : seqIndex? (j : Int) n = some j := by
  unfold seqIndex?
  simp
  omega

theorem map_erase {α β : Type} {f : α → β} : ∀ (l : List α) (j : Nat), (l.map f).eraseIdx j = (l.eraseIdx j).map f
  | [], j => by simp
  | a :: l, 0 => rfl
  | a :: l, j + 1 => by
    show f a :: (l.map f).eraseIdx j = f a :: (l.eraseIdx j).map f
    rw [map_erase l j]

theorem Tab.erase {H : Hp} {a : Addr} {rs : List Addr} {M : List Row} {j : Nat} (t : Tab H a rs M) (hj : j < rs.length) : Tab (L2.upd H a (.lst ((rf rs).eraseIdx j))) a (rs.eraseIdx j) (M.eraseIdx j) := by
  have hne : ∀ r ∈ rs, r ≠ a := fun r hr => by
    obtain ⟨i, hi⟩ := List.getElem?_of_mem hr
    obtain ⟨m, hm⟩ := get_of (l := M) (i := i) (by have := get_lt hi; have := t.len; omega)
    have z := t.at_
    cases rs with
    | nil => simp at hr
    | cons x rs => exact rf_ne z (t.row i r m hi hm)
  refine ⟨?_, ?_, fun i r m hr hm => ?_⟩
  · rw [upd_same]
    show some (HO.lst ((rs.map V.ref).eraseIdx j)) = some (HO.lst ((rs.eraseIdx j).map V.ref))
    rw [map_erase]
  · rw [List.length_eraseIdx, List.length_eraseIdx, t.len]
  · show (L2.upd H a _) r = _
    rw [upd_ne (hne r (List.mem_of_mem_eraseIdx (List.mem_of_getElem? hr)))]
    rw [List.getElem?_eraseIdx] at hr hm
    by_cases h : i < j
    · rw [if_pos h] at hr hm
      exact t.row i r m hr hm
    · rw [if_neg h] at hr hm
      exact t.row (i + 1) r m hr hm

structure LowI (H H' : Hp) (fa la : Addr) (fs ls : List Addr) (F L : List Row) : Prop where
  same : Same H H'
  tf : Tab H' fa fs F
  tl : Tab H' la ls L
  nf : H fa = none
  nl : H la = none
  ne : fa ≠ la
  fresh : ∀ r ∈ fs, H r = none
  nd : fs.Nodup

theorem IL.ref {H : Hp} {a : Addr} {rs : List Addr} {M : List Row} (t : Tab H a rs M) {r : Addr} (h : r ∈ rs) : ∃ m, m ∈ M ∧ IL H r m := by
  obtain ⟨i, hi⟩ := List.getElem?_of_mem h
  obtain ⟨m, hm⟩ := get_of (l := M) (i := i) (by have := get_lt hi; have := t.len; omega)
  exact ⟨m, List.mem_of_getElem? hm, t.row i r m hi hm⟩

theorem step_name {i : Nat} {v : V} {σ : L2.St} {H : Hp} {Q : L2.St → Hp → Prop} (h : Q (σ.set i (some v)) H) : gName i v σ H Q := h

theorem step_seq {t u : TS} {D : Ends} {σ : L2.St} {H : Hp} (h : t { D with nx := u D } σ H) : tSeq t u D σ H := h

theorem step_asgC {v : V} {i : Nat} {D : Ends} {σ : L2.St} {H : Hp} (h : D.nx (σ.set i (some v)) H) : tAsg (tC v) (gName i) D σ H := h

/-- a rule's reading by a stronger one -/
theorem pe_imp {X : Cx} {e : Expr} {t : TE} (t' : TE) (h : PE X e t) (imp : ∀ σ H Q, t' σ H Q → t σ H Q) : PE X e t' := ⟨fun pins s σ H Q I q => h.run pins s σ H Q I (imp σ H Q q)⟩

theorem pt_imp {X : Cx} {e : Expr} {t : TT} (t' : TT) (h : PT X e t) (imp : ∀ σ H Q, t' σ H Q → t σ H Q) : PT X e t' := ⟨fun pins s σ H Q I q => h.run pins s σ H Q I (imp σ H Q q)⟩

theorem cLst {X : Cx} (K : PySem.W.Frag) (h : X.K = K) : CallR X (.type "list") (fun xs H Q => ∃ p ys, xs = [.ref p] ∧ (SqL K H p ys ∨ SqT K H p ys) ∧ ∀ l, H l = none → Q (.ref l) (L2.upd H l (.lst ys))) := h ▸ call_list_of

theorem cLen {X : Cx} (K : PySem.W.Frag) (h : X.K = K) : CallR X (.builtin "len") (fun xs H Q => ∃ p ys, xs = [.ref p] ∧ (SqL K H p ys ∨ SqT K H p ys) ∧ Q (.int ys.length) H) := h ▸ call_len_seq

/-- a drawer's bag, asked so often at most -/
def Bg (H : Hp) (a : Addr) (c : Nat) : Prop := ∃ x y : Int, H a = some (.lst [.int x, .int y]) ∧ 0 ≤ x ∧ 0 ≤ y ∧ y ≤ c ∧ (y = 0 ∨ x < 2147483647)

theorem Bg.mono {H : Hp} {a : Addr} {c d : Nat} (b : Bg H a c) (h : c ≤ d) : Bg H a d := by
  obtain ⟨x, y, h1, h2, h3, h4, h5⟩ := b
  exact ⟨x, y, h1, h2, h3, by omega, h5⟩

theorem Bg.same {H H' : Hp} {a : Addr} {c : Nat} (b : Bg H a c) (s : H' a = H a) : Bg H' a c := by
  obtain ⟨x, y, h1, h2⟩ := b
  exact ⟨x, y, s.trans h1, h2⟩

theorem Bg.ne {H : Hp} {a q : Addr} {c : Nat} (b : Bg H a c) (h : H q = none) : q ≠ a := by
  obtain ⟨x, y, h1, _⟩ := b
  exact fun e => by rw [e, h1] at h; cases h

/-- all but what stands at b is as it was -/
def Off (b : Addr) (H H' : Hp) : Prop := ∀ q o, q ≠ b → H q = some o → H' q = some o

theorem Off.refl (b : Addr) (H : Hp) : Off b H H := fun _ _ _ h => h

theorem Off.trans {b : Addr} {H H1 H2 : Hp} (x : Off b H H1) (y : Off b H1 H2) : Off b H H2 := fun q o n h => y q o n (x q o n h)

theorem Off.of {b : Addr} {H H' : Hp} (s : Same H H') : Off b H H' := fun q o _ h => s q o h

theorem Off.free {b q : Addr} {H H' : Hp} (x : Off b H H') (h : H' q = none) (n : q ≠ b) : H q = none := by
  cases e : H q with
  | none => rfl
  | some o =>
    rw [x q o n e] at h
    cases h

theorem Off.new {b q : Addr} {o : HO} {H H' : Hp} (x : Off b H H') (h : H q = none) : Off b H (upd H' q o) := fun r u n e => by
  rw [upd_ne (ne_of_none e h)]
  exact x r u n e

theorem Tab.push {H : Hp} {l q : Addr} {rs : List Addr} {M : List Row} {m : Row} (t : Tab H l rs M) (h : IL H q m) (n : q ≠ l) : Tab (L2.upd H l (.lst (rf rs ++ [.ref q]))) l (rs ++ [q]) (M ++ [m]) := by
  have hne : ∀ r ∈ rs, r ≠ l := fun r hr => by
    obtain ⟨m, _, hm⟩ := IL.ref t hr
    have z := t.at_
    cases rs with
    | nil => simp at hr
    | cons x rs => exact rf_ne z hm
  refine ⟨by rw [upd_same]; simp, by rw [List.length_append, List.length_append, t.len]; rfl, fun i r u hr hu => ?_⟩
  show (L2.upd H l _) r = _
  by_cases hi : i < rs.length
  · rw [List.getElem?_append_left hi] at hr
    rw [List.getElem?_append_left (by have := t.len; omega)] at hu
    rw [upd_ne (hne r (List.mem_of_getElem? hr))]
    exact t.row i r u hr hu
  · have h2 := get_lt hr
    rw [List.length_append, List.length_singleton] at h2
    have e : i = rs.length := by omega
    rw [List.getElem?_append_right (by omega), e, Nat.sub_self] at hr
    rw [List.getElem?_append_right (by have := t.len; omega), e, t.len, Nat.sub_self] at hu
    cases Option.some.inj hr
    cases Option.some.inj hu
    rw [upd_ne n]
    exact h

theorem Tab.off {b : Addr} {H H' : Hp} {a : Addr} {rs : List Addr} {M : List Row} (t : Tab H a rs M) (o : Off b H H') (n : a ≠ b) (n2 : ∀ r ∈ rs, r ≠ b) : Tab H' a rs M := ⟨o _ _ n t.at_, t.len, fun i r m hr hm => o _ _ (n2 r (List.mem_of_getElem? hr)) (t.row i r m hr hm)⟩

theorem mixR_get {p c x y : Int} {m bm : Row} {i : Nat} (h : m[i]? = some x) (h2 : bm[i]? = some y) : (mixR p c m bm)[i]? = some ((x + c * y) % p) := by
  unfold mixR
  rw [List.getElem?_zipWith, h, h2]

theorem mixR_wf {p c : Int} {n : Nat} {one other : Row} (hp : 0 < p) (h : Wf p n one) (h2 : Wf p n other) : Wf p n (mixR p c one other) := by
  have len : (mixR p c one other).length = n := by
    unfold mixR
    rw [List.length_zipWith, h.len, h2.len, Nat.min_self]
  refine ⟨len, fun x hx => ?_⟩
  obtain ⟨j, hj⟩ := List.getElem?_of_mem hx
  obtain ⟨a, ha⟩ := get_of (l := one) (i := j) (by have := get_lt hj; have := h.len; omega)
  obtain ⟨b, hb⟩ := get_of (l := other) (i := j) (by have := get_lt hj; have := h2.len; omega)
  rw [mixR_get ha hb] at hj
  rw [← Option.some.inj hj]
  exact ⟨Int.emod_nonneg _ (by omega), Int.emod_lt_of_pos _ hp⟩

theorem upd_upd {H : Hp} {a : Addr} {o u : HO} : upd (upd H a o) a u = upd H a u := by
  funext q
  by_cases h : q = a
  · rw [h, upd_same, upd_same]
  · rw [upd_ne h, upd_ne h, upd_ne h]

structure RowI (p : Int) (n : Nat) (b : Addr) (c : Nat) (H : Hp) (l : Addr) (rs : List Addr) (M : List Row) (H' : Hp) : Prop where
  off : Off b H H'
  tab : Tab H' l rs M
  wf : Wfs p n M
  fresh : ∀ r ∈ rs, H r = none
  bag : Bg H' b c

theorem runM_stop {p : Int} {inv : Int → Int} {rows : List Row} {k : Nat} (h : (runM p inv rows k).2 = []) : ∀ d, runM p inv rows (k + d) = runM p inv rows k
  | 0 => rfl
  | d + 1 => by
    show stepM p inv (k + d) (runM p inv rows (k + d)) = _
    rw [runM_stop h d]
    unfold stepM
    rw [h]
    rfl

def nzs (pl : Nat) (L : List Row) (i : Nat) : List Nat := (List.range i).filter fun k => decide (ent (L.getD k []) pl ≠ 0)

theorem nzs_succ {pl i : Nat} {L : List Row} : nzs pl L (i + 1) = nzs pl L i ++ (if ent (L.getD i []) pl ≠ 0 then [i] else []) := by
  unfold nzs
  rw [List.range_succ, List.filter_append]
  congr 1
  by_cases h : ent (L.getD i []) pl ≠ 0
  · rw [if_pos h, List.filter_cons_of_pos (by simpa using h)]
    rfl
  · rw [if_neg h, List.filter_cons_of_neg (by simpa using h)]
    rfl

theorem nzs_len {pl i : Nat} {L : List Row} : (nzs pl L i).length ≤ i := by
  have := List.length_filter_le (fun k => decide (ent (L.getD k []) pl ≠ 0)) (List.range i)
  rw [List.length_range] at this
  exact this

theorem pick_nil {pl : Nat} {L : List Row} (h : nzs pl L L.length = []) : pick pl L = none := pick_non fun i hi => by
  have := (List.filter_eq_nil_iff.mp h) i (List.mem_range.mpr hi)
  simpa using this

theorem pick_cons {pl j : Nat} {t : List Nat} {L : List Row} (h : nzs pl L L.length = j :: t) : j < L.length ∧ ent (L.getD j []) pl ≠ 0 ∧ pick pl L = some j := by
  have mj : j ∈ nzs pl L L.length := by rw [h]; exact List.mem_cons_self
  have mj2 := List.mem_filter.mp mj
  have hj := List.mem_range.mp mj2.1
  have nj : ent (L.getD j []) pl ≠ 0 := by simpa using mj2.2
  refine ⟨hj, nj, pick_is hj (fun i hi => ?_) nj⟩
  refine Classical.byContradiction fun c => ?_
  have mi : i ∈ nzs pl L L.length := List.mem_filter.mpr ⟨List.mem_range.mpr (by omega), by simpa using c⟩
  have pw : (nzs pl L L.length).Pairwise (· < ·) := List.Pairwise.filter _ List.pairwise_lt_range
  rw [h] at mi pw
  rcases List.mem_cons.mp mi with e | e
  · omega
  · have := (List.pairwise_cons.mp pw).1 i e
    omega

structure FormI (H H' : Hp) (fa la : Addr) (fs ls : List Addr) (F L : List Row) : Prop where
  same : Same H H'
  tf : Tab H' fa fs F
  tl : Tab H' la ls L
  nf : H fa = none
  nl : H la = none
  ne : fa ≠ la
  fresh : ∀ r ∈ fs, H r = none

def dRow (m : Row) : PyData := .list (m.map PyData.int)

def dTab (M : List Row) : PyData := .list (M.map dRow)

theorem dInts_lay : ∀ m : List Int, PyData.canLayAll0 (m.map PyData.int) = true
  | [] => rfl
  | x :: m => by
    show (PyData.canLay0 (.int x) && PyData.canLayAll0 (m.map PyData.int)) = true
    rw [dInts_lay m]
    rfl

theorem dInts_depth : ∀ m : List Int, PyData.depthAll (m.map PyData.int) = 0
  | [] => rfl
  | x :: m => by
    show max (PyData.depth (.int x)) (PyData.depthAll (m.map PyData.int)) = 0
    rw [dInts_depth m]
    rfl

theorem dRow_lay (m : Row) : (dRow m).canLay0 = true := dInts_lay m

theorem dRows_lay : ∀ M : List Row, PyData.canLayAll0 (M.map dRow) = true
  | [] => rfl
  | m :: M => by
    show (PyData.canLay0 (dRow m) && PyData.canLayAll0 (M.map dRow)) = true
    rw [dRows_lay M, dRow_lay m]
    rfl

theorem dRow_depth (m : Row) : (dRow m).depth = 1 := by
  show PyData.depthAll (m.map PyData.int) + 1 = 1
  rw [dInts_depth]

theorem dRows_depth : ∀ M : List Row, PyData.depthAll (M.map dRow) ≤ 1
  | [] => Nat.zero_le _
  | m :: M => by
    show max (PyData.depth (dRow m)) (PyData.depthAll (M.map dRow)) ≤ 1
    have := dRows_depth M
    have := dRow_depth m
    omega

theorem dRow_shaped (m : Row) : SeqAt.shaped (dRow m) = true := by
  show ((dRow m).canLay0 && decide ((dRow m).depth ≤ 64)) = true
  rw [dRow_lay, dRow_depth]
  rfl

theorem dTab_shaped (M : List Row) : SeqAt.shaped (dTab M) = true := by
  have h : (dTab M).depth ≤ 64 := by
    show PyData.depthAll (M.map dRow) + 1 ≤ 64
    have := dRows_depth M
    omega
  show ((dTab M).canLay0 && decide ((dTab M).depth ≤ 64)) = true
  rw [decide_eq_true h, show (dTab M).canLay0 = true from dRows_lay M]
  rfl

theorem dTab_eq (M : List Row) : PyData.eqv (dTab M) (dTab M) = true := SeqAt.eqv_refl _ (dRows_lay M)

theorem dRow_eq (m : Row) : PyData.eqv (dRow m) (dRow m) = true := SeqAt.eqv_refl _ (dRow_lay m)

theorem dpInts {K : PySem.W.Frag} {H : Hp} : ∀ m : List Int, DpAll K H (iv m) (m.map PyData.int)
  | [] => .nil
  | x :: m => .cons (.int x) (dpInts m)

theorem IL.dp {K : PySem.W.Frag} {H : Hp} {a : Addr} {m : Row} (h : IL H a m) : Dp K H (.ref a) (dRow m) := .lst (IL.sq h) (dpInts m)

theorem dpRows {K : PySem.W.Frag} {H : Hp} : ∀ (rs : List Addr) (M : List Row), rs.length = M.length → (∀ (i : Nat) r m, rs[i]? = some r → M[i]? = some m → IL H r m) → DpAll K H (rf rs) (M.map dRow)
  | [], [], _, _ => .nil
  | [], _ :: _, h, _ => by simp at h
  | _ :: _, [], h, _ => by simp at h
  | r :: rs, m :: M, h, hr => .cons (IL.dp (hr 0 r m rfl rfl)) (dpRows rs M (by simpa using h) fun i x y hx hy => hr (i + 1) x y hx hy)

theorem Tab.dp {K : PySem.W.Frag} {H : Hp} {a : Addr} {rs : List Addr} {M : List Row} (t : Tab H a rs M) : Dp K H (.ref a) (dTab M) := .lst (SqL.of t.at_) (dpRows rs M t.len t.row)

theorem Tab.rev {H : Hp} {a q : Addr} {rs : List Addr} {M : List Row} (t : Tab H a rs M) (h : H q = some (.lst (rf rs).reverse)) : Tab H q rs.reverse M.reverse := by
  refine ⟨by rw [h]; simp, by rw [List.length_reverse, List.length_reverse, t.len], fun i r m hr hm => ?_⟩
  have i1 := get_lt hr
  rw [List.length_reverse] at i1
  rw [List.getElem?_reverse i1] at hr
  rw [List.getElem?_reverse (by have := t.len; omega)] at hm
  rw [t.len] at hr
  exact t.row _ r m hr hm

/-- all but what stands at these places is as it was -/
def OffS (S : List Addr) (H H' : Hp) : Prop := ∀ b o, b ∉ S → H b = some o → H' b = some o

theorem Tab.offS {S : List Addr} {H H' : Hp} {a : Addr} {rs : List Addr} {M : List Row} (t : Tab H a rs M) (o : OffS S H H') (h : a ∉ S) (h2 : ∀ r ∈ rs, r ∉ S) : Tab H' a rs M :=
  ⟨o _ _ h t.at_, t.len, fun i r m hr hm => o _ _ (h2 r (List.mem_of_getElem? hr)) (t.row i r m hr hm)⟩

theorem cIsi {X : Cx} (K : PySem.W.Frag) (h : X.K = K) : CallR X (.builtin "isinstance") (rIsi K) := h ▸ call_isi

theorem cAll {X : Cx} (K : PySem.W.Frag) (h : X.K = K) (hc : X.calm = true) : CallR X (.builtin "all") (rAll K) := h ▸ cr_all hc

theorem Tab.fresh_off {H : Hp} {a b : Addr} {rs qs : List Addr} {M : List Row} (t : Tab H a rs M) (h : H b = none) (h2 : ∀ q ∈ qs, H q = none) : a ∉ b :: qs ∧ ∀ r ∈ rs, r ∉ b :: qs := by
  have key : ∀ r o, H r = some o → r ∉ b :: qs := fun r o e m => by
    rcases List.mem_cons.mp m with z | z
    · rw [z, h] at e
      cases e
    · rw [h2 r z] at e
      cases e
  refine ⟨key a _ t.at_, fun r hr => ?_⟩
  obtain ⟨m, _, hm⟩ := IL.ref t hr
  exact key r _ hm
end

section
variable {P : Program} {w : World} {K : PySem.W.Frag} {mg : Str → Option Value} {base : Heap}
theorem cSum {X : Cx} (K : PySem.W.Frag) (h : X.K = K) (hc : X.calm = true) : CallR X (.builtin "sum") (rSum K) := h ▸ cr_sum hc
theorem plain_ints : ∀ m : List Int, PyData.plainAll (m.map PyData.int) = true
  | [] => rfl
  | x :: m => by
    show (PyData.plain (.int x) && PyData.plainAll (m.map PyData.int)) = true
    rw [plain_ints m]
    rfl
/-- any(list of ints) -/
theorem cAnyI {X : Cx} (hc : X.calm = true) : CallR X (.builtin "any") (fun xs H Q => ∃ (a : Addr) (m : List Int), xs = [.ref a] ∧ IL H a m ∧ Q (.bl (m.any fun x => x != 0)) H) := by
  intro pins s σ H vs us Q I r h
  obtain ⟨a, m, rfl, hm, q⟩ := h
  obtain ⟨its, rv, hl, _⟩ := I.list (IL.sq (K := X.K) hm)
  obtain ⟨as, hr⟩ := Dp.readsAll I _ _ its (dpInts m) rv
  rw [Vals.ref1 r]
  refine PySem.W.any_list_data (I.ok.hd hc) hl.isList (by simpa using hr) (plain_ints m) (fun x hx => ?_) fun h' tk hk => ⟨.bl _, H, I.kept fun b o eo => hk b o eo, ?_, q⟩
  · obtain ⟨y, _, rfl⟩ := List.mem_map.mp hx
    trivial
  · show Value.bool _ = Value.bool _
    rw [List.any_map]
    rfl
theorem eqvAll_ints : ∀ a b : List Int, PyData.eqvAll (a.map PyData.int) (b.map PyData.int) = decide (a = b)
  | [], [] => rfl
  | [], y :: b => by
    rw [decide_eq_false (by simp)]
    rfl
  | x :: a, [] => by
    rw [decide_eq_false (by simp)]
    rfl
  | x :: a, y :: b => by
    show (PyData.eqv (.int x) (.int y) && PyData.eqvAll (a.map PyData.int) (b.map PyData.int)) = _
    rw [eqvAll_ints a b, show PyData.eqv (.int x) (.int y) = decide (x = y) from by simp [PyData.eqv]; rfl]
    by_cases h : x = y
    · by_cases h2 : a = b
      · simp [h, h2]
      · simp [h, h2]
    · simp [h]
theorem dRow_eqv (a b : Row) : PyData.eqv (dRow a) (dRow b) = decide (a = b) := by
  show PyData.eqv (.list _) (.list _) = _
  rw [PyData.eqv]
  exact eqvAll_ints a b
theorem rep_zeros (n : Nat) : (List.replicate (n : Int).toNat [V.int 0]).flatten = iv (zeros n) := by
  rw [Int.toNat_natCast]
  unfold zeros
  induction n with
  | zero => rfl
  | succ n ih =>
    rw [List.replicate_succ, List.flatten_cons, ih, List.replicate_succ]
    rfl
theorem all_flat (m : List Int) : (iv m).all flatV = true := List.all_eq_true.mpr fun v hv => by
  obtain ⟨x, _, rfl⟩ := List.mem_map.mp hv
  rfl
theorem low_ne {p : Int} {n : Nat} {F : List Row} {ls : List Nat} (L : Low p n F ls) {i : Nat} {r : Row} (h : F[i]? = some r) : ∃ l, ls[i]? = some l ∧ l < n ∧ (∀ j, j < l → ent r j = 0) ∧ ent r l = 1 := by
  obtain ⟨l, hl⟩ := get_of (l := ls) (i := i) (by have := get_lt h; have := L.dl.1; omega)
  refine ⟨l, hl, L.lt l (List.mem_of_getElem? hl), L.zb i r l h hl, ?_⟩
  rw [L.dl.2 i i r l h hl, if_pos rfl]
end

def lsI (ls : List Nat) : List Int := ls.map fun (l : Nat) => Int.ofNat l
theorem lsI_get {ls : List Nat} {i l : Nat} (h : ls[i]? = some l) : (lsI ls)[i]? = some (l : Int) := by
  unfold lsI
  rw [List.getElem?_map, h]
  rfl
theorem lsI_len (ls : List Nat) : (lsI ls).length = ls.length := List.length_map _
theorem inV_int (x : Int) : ∀ m : List Int, inV (.int x) (iv m) = decide (x ∈ m)
  | [] => rfl
  | y :: m => by
    show (eqV (.int y) (.int x) || inV (.int x) (iv m)) = _
    rw [inV_int x m, show eqV (.int y) (.int x) = (y == x) from rfl]
    by_cases h : x = y
    · subst h
      simp
    · have h2 : (y == x) = false := by simpa using fun e => h e.symm
      rw [h2]
      simp [h]
theorem lsI_mem {ls : List Nat} {i : Nat} : (i : Int) ∈ lsI ls ↔ i ∈ ls := by
  unfold lsI
  rw [List.mem_map]
  constructor
  · rintro ⟨l, hl, e⟩
    have : l = i := Int.ofNat.inj e
    exact this ▸ hl
  · intro h
    exact ⟨i, h, rfl⟩
theorem outs_succ {ls : List Nat} {i : Nat} : outs (i + 1) ls = outs i ls ++ (if i ∈ ls then [] else [i]) := by
  unfold outs
  rw [List.range_succ, List.filter_append]
  congr 1
  by_cases h : i ∈ ls
  · rw [if_pos h, List.filter_cons_of_neg (by simpa using h)]
    rfl
  · rw [if_neg h, List.filter_cons_of_pos (by simpa using h)]
    rfl
theorem drop_get {α : Type} {l : List α} {i : Nat} {x : α} (h : l[i]? = some x) : l.drop i = x :: l.drop (i + 1) := by
  rw [List.drop_eq_getElem_cons (get_lt h), show l[i]'(get_lt h) = x from Option.some.inj ((List.getElem?_eq_getElem (get_lt h)).symm.trans h)]
theorem ix_set {n : Nat} {i : Nat} (h : i < n) : ixN n (i : Int) = some i := by
  unfold ixN
  rw [if_pos (by omega), if_pos (by omega)]
  rfl
theorem IL.set {H : Hp} {z : Addr} {m : Row} {i : Nat} {x : Int} : IL (L2.upd H z (.lst ((iv m).set i (.int x)))) z (m.set i x) := by
  show (L2.upd H z _) z = _
  rw [upd_same]
  show some (HO.lst ((m.map V.int).set i (V.int x))) = some (HO.lst ((m.set i x).map V.int))
  rw [List.map_set]
def unitR (n i : Nat) : Row := (List.range n).map fun j => if i = j then 1 else 0
def idM (n : Nat) : List Row := (List.range n).map (unitR n)
theorem unitR_len {n i : Nat} : (unitR n i).length = n := by
  unfold unitR
  rw [List.length_map, List.length_range]
theorem unitR_get {n i j : Nat} (h : j < n) : (unitR n i)[j]? = some (if i = j then 1 else 0) := by
  unfold unitR
  rw [List.getElem?_map, List.getElem?_range h]
  rfl
theorem unitR_ent {n i j : Nat} (h : j < n) : ent (unitR n i) j = if i = j then 1 else 0 := by
  have a := ent_some (r := unitR n i) (j := j) (by rw [unitR_len]; exact h)
  rw [unitR_get h] at a
  exact (Option.some.inj a).symm
theorem unitR_wf {p : Int} (hp : 2 ≤ p) {n i : Nat} : Wf p n (unitR n i) := ⟨unitR_len, fun x hx => by
  obtain ⟨j, _, rfl⟩ := List.mem_map.mp hx
  split <;> omega⟩
theorem idM_get {n i : Nat} (h : i < n) : (idM n)[i]? = some (unitR n i) := by
  unfold idM
  rw [List.getElem?_map, List.getElem?_range h]
  rfl
theorem idM_len {n : Nat} : (idM n).length = n := by
  unfold idM
  rw [List.length_map, List.length_range]
theorem range_get {n i l : Nat} (h : (List.range n)[i]? = some l) : i < n ∧ l = i := by
  have h1 := get_lt h
  rw [List.length_range] at h1
  rw [List.getElem?_range h1] at h
  exact ⟨h1, (Option.some.inj h).symm⟩
theorem idM_low {p : Int} (hp : 2 ≤ p) {n : Nat} : Low p n (idM n) (List.range n) := by
  refine ⟨fun r hr => ?_, ⟨by rw [List.length_range, idM_len], fun i k r l hi hk => ?_⟩, fun l hl => List.mem_range.mp hl, List.pairwise_lt_range, fun i r l hi hl m hm => ?_⟩
  · obtain ⟨i, _, rfl⟩ := List.mem_map.mp hr
    exact unitR_wf hp
  · obtain ⟨h1, rfl⟩ := range_get hk
    have h2 := get_lt hi
    rw [idM_len] at h2
    rw [idM_get h2] at hi
    rw [← Option.some.inj hi]
    exact unitR_ent h1
  · obtain ⟨h1, rfl⟩ := range_get hl
    rw [idM_get h1] at hi
    rw [← Option.some.inj hi, unitR_ent (by omega), if_neg (by omega)]
theorem nil_low {p : Int} {n : Nat} : Low p n [] [] := ⟨fun r hr => by simp at hr, ⟨rfl, fun i k r l hi _ => by simp at hi⟩, fun l hl => by simp at hl, List.Pairwise.nil, fun i r l hi _ => by simp at hi⟩
theorem cInt {X : Cx} : CallR X (.type "int") (fun xs H Q => ∃ k, xs = [.bl k] ∧ Q (.int (if k = true then 1 else 0)) H) := by
  intro pins s σ H xs us Q I r h
  exact call_int1 pins s σ H xs us Q I r (.inr h)
theorem top_bound (z : Int) (hz : 0 ≤ z) (t : Int) (ht : 3 ≤ t) : 0 ≤ (if (if t < z then t else z) > 3 then (if t < z then t else z) else 3) ∧ (if (if t < z then t else z) > 3 then (if t < z then t else z) else 3) ≤ t := by
  by_cases h : t < z
  · rw [if_pos h]
    by_cases h2 : t > 3
    · rw [if_pos h2]; omega
    · rw [if_neg h2]; omega
  · rw [if_neg h]
    by_cases h2 : z > 3
    · rw [if_pos h2]; omega
    · rw [if_neg h2]; omega

theorem at_last {m : Row} (h : m ≠ []) : atI (iv m) (-1) = some (.int (lastE m)) := by
  have e : m = m.dropLast ++ [m.getLast h] := (List.dropLast_concat_getLast h).symm
  have l : m.getLast h = lastE m := by
    have hl := ne_nil_len.mp h
    unfold lastE
    rw [List.getLast_eq_getElem, ← getD_el m 0 (by omega)]
    rfl
  have e2 : iv m = iv m.dropLast ++ [.int (m.getLast h)] := by
    conv => lhs; rw [e]
    simp
  rw [e2, atI_last, l]
theorem iv_empty (m : Row) : (iv m).isEmpty = m.isEmpty := by cases m <;> rfl
theorem ent_take {m : Row} {e : Nat} (h : ∀ k, e ≤ k → ent m k = 0) (k : Nat) : ent (m.take e) k = ent m k := by
  by_cases hk : k < e
  · unfold ent
    rw [List.getD_eq_getElem?_getD, List.getD_eq_getElem?_getD, List.getElem?_take, if_pos hk]
  · rw [h k (by omega)]
    exact ent_out (by rw [List.length_take]; omega)
theorem cut_last (xs : List V) : cutV xs none (some (-1)) = xs.dropLast := by
  unfold cutV
  rw [HT.sIx_none, show HT.sIx xs.length xs.length (some (-1)) = xs.length - 1 by
    show (if ((-1 : Int)) < 0 then ((-1 : Int) + (xs.length : Int)).toNat else min ((-1 : Int)).toNat xs.length) = _
    rw [if_pos (by decide)]
    omega]
  rw [List.drop_zero, Nat.sub_zero, List.dropLast_eq_take]
theorem iv_dropLast (m : Row) : (iv m).dropLast = iv m.dropLast := by
  rw [List.dropLast_eq_take, List.dropLast_eq_take, List.length_map]
  show (m.map V.int).take (m.length - 1) = (m.take (m.length - 1)).map V.int
  rw [List.map_take]
theorem ent_dropLast {m : Row} (h : lastE m = 0) (k : Nat) : ent m.dropLast k = ent m k := by
  rw [List.dropLast_eq_take]
  refine ent_take (fun j hj => ?_) k
  by_cases e : j = m.length - 1
  · rw [e]
    exact h
  · exact ent_out (by omega)
theorem dropLast_rng {p : Int} {m : Row} (h : ∀ x ∈ m, 0 ≤ x ∧ x < p) : ∀ x ∈ m.dropLast, 0 ≤ x ∧ x < p := fun x hx => h x (by
  rw [List.dropLast_eq_take] at hx
  exact List.mem_of_mem_take hx)

section
variable {P : Program} {w : World} {K : PySem.W.Frag} {mg : Str → Option Value} {base : Heap}
/-- a def's call at one place, by its body there -/
theorem run_at {name qual : Str} {params : Arguments} {body : List Stmt} {scope : Scope} {dV kV doc pm cdv ct oc : Value} {an od : Option Addr} {osl : Array (Option Value)} {N ps : List Str} {k : Nat} {f : Addr} {A : Around} {fr : List Env} {s : Shared} {H : Hp} {args : Args} {us : List Value} {vs : List V} {Q : VK} {E : XK} {t : TS}
    (known : K.lookup f = some ⟨oc, od, .func (PySem.W.fnOf name qual params body scope dV kV doc pm an cdv ct), osl⟩) (cod : PySem.W.codeIn K cdv qual = true) (sco : FnScope N ps scope) (room : Room (k + 1) A) (env0 : Env0 P w K mg base A fr s H)
    (bnd : BindsTo s (PySem.W.fnOf name qual params body scope dV kV doc pm an cdv ct) args (ps.zip us)) (vals : Vals vs us) (many : vs.length = ps.length)
    (walk : PSs (cxOf CX0 P w K mg base N qual scope f cdv A fr s H E) body t) (read : t { nx := fun _ H' => Q .non H', rt := Q } (start N vs) H) :
    codeAny (model P w) A (.call (.ref f) args) (CR CX0 fr P w H s Q E) s := by
  have stays : ∀ b o, base.get? b = some o → s.heap.get? b = some o := fun b o z => (env0.bs b o z).1
  have inside : K.In s.heap := env0.mod.kin.keeps stays
  have free : s.heap.NoLimit := env0.mod.nolimit.keeps stays
  refine codeAny_call_function room.depth (inside _ _ known) rfl sco.co sco.gen rfl (PySem.W.codeRec_of inside cod) (bnd _ _ _ _ (wpAny_newFunctionEnv_cells sco.kind ?_ ?_))
  · rintro ⟨x, u⟩ hx
    have hp := sco.par x (List.of_mem_zip hx).1
    rcases hp with hp | hp
    · exact Or.inl hp
    · exact Or.inr ⟨hp, PySem.W.cellsFrom_some _ _ _ (Or.inl hp)⟩
  · rintro env rfl st ic
    refine ⟨free.keeps ic.toInCall.keep, codeAny_func ?_⟩
    have inv := inv_start (CX := CX0) (P := P) (w := w) (E := E) sco room.hd env0 many vals ic
    refine wpAny_mono (walk.run [] st (start N vs) H _ inv read) ?_ ?_
    · intro flow st' out
      cases flow with
      | brk =>
        obtain ⟨_, _, _, z⟩ := out
        exact z.elim
      | cont =>
        obtain ⟨_, _, _, z⟩ := out
        exact z.elim
      | next =>
        obtain ⟨σ2, H2, inv2, z⟩ := out
        exact ⟨.non, H2, inv2.os, inv2.bare, inv2.base, inv2.hok, rfl, z⟩
      | ret u =>
        obtain ⟨v, σ2, H2, inv2, rel, z⟩ := out
        exact ⟨v, H2, inv2.os, inv2.bare, inv2.base, inv2.hok, rel, z⟩
    · intro e st' out
      exact out
/-- the script's own heap: nothing is tracked but it -/
noncomputable def scriptH (K : PySem.W.Frag) (a : Addr) (o : Obj) (xs : List V) : Hp := fun b => if b = a ∧ K.lookup a = none then some (.frz o (.lst xs)) else none
/-- the law's call, where nothing is being shown yet -/
theorem law_at {mb : Str → Option Value} {fa a : Addr} {st : Shared} {vs : List Value} {ns : List Int}
    (inside : K.In st.heap) (glob : st.heap.Ns mainGlobals mg) (bltn : st.heap.Ns builtinsNs mb) (boot : ∀ x : Str, x ≠ "__name__" → mb x = bootBuiltins x) (free : st.heap.NoLimit) (gens : st.gens = #[])
    (obj : st.heap.get? a = some { cls := .type "list", data := .seq vs.toArray }) (nums : IntsAre vs ns) (short : ns.length ≤ sizeLine)
    (go : ∀ (base : Heap) (H : Hp), K.In base → base.Ns mainGlobals mg → Env0 P w K mg base callerA [] st H → Only H → SqL K H a (ns.map V.int) → codeAny (model P w) callerA (.call (.ref fa) ⟨[.ref a], []⟩) (CR CX0 [] P w H st (fun v _ => v = .bl true) fun _ _ _ => False) st) :
    codeAny (model P w) callerA (.call (.ref fa) ⟨[.ref a], []⟩) (fun r s' => r = .ok (.ret (.bool true)) ∧ OldK st.heap s'.heap ∧ s'.os = st.os ∧ AllBare s'.gens) st := by
  have vals : Vals (ns.map V.int) vs := vals_ints nums
  have many : vs.length = ns.length := nums.length
  obtain ⟨H, hH⟩ : ∃ H, H = scriptH K a { cls := .type "list", data := .seq vs.toArray } (ns.map V.int) := ⟨_, rfl⟩
  have off : ∀ {b : Addr}, b ≠ a → H b = none := fun {b} n => by
    rw [hH]
    exact if_neg fun z => n z.1
  have only : Only H := fun b => by
    rw [hH]
    unfold scriptH
    by_cases c : b = a ∧ K.lookup a = none
    · rw [if_pos c]
      exact Or.inr ⟨_, _, rfl⟩
    · rw [if_neg c]
      exact Or.inl rfl
  have own : ∀ b u, H b = some u → b = a ∧ K.lookup a = none ∧ u = .frz { cls := .type "list", data := .seq vs.toArray } (.lst (ns.map V.int)) := fun b u z => by
    rw [hH] at z
    unfold scriptH at z
    by_cases c : b = a ∧ K.lookup a = none
    · rw [if_pos c] at z
      exact ⟨c.1, c.2, (Option.some.inj z).symm⟩
    · rw [if_neg c] at z
      cases z
  have hok : HOk P w H st.heap := fun b u z => by
    obtain ⟨rfl, _, rfl⟩ := own b u z
    exact ⟨obj, by rw [List.length_map]; exact short, vs, _, vals, obj⟩
  have script : SqL K H a (ns.map V.int) := by
    cases c : K.lookup a with
    | none => exact Or.inl (Or.inr ⟨{ cls := .type "list", data := .seq vs.toArray }, by rw [hH]; exact if_pos ⟨rfl, c⟩⟩)
    | some o =>
      have same := inside a o c
      rw [obj] at same
      cases same
      exact Or.inr ⟨_, vs.toArray, _, c, rfl, rfl, rfl, by rw [List.size_toArray, many]; exact short, by simpa using vals⟩
  -- what the base keeps
  have kept : ∀ {b : Addr} {o : Obj}, st.heap.get? b = some o → H b = none → (hidT st.heap H).get? b = some o := fun z n => hidT_get z n
  have dict : ∀ {b : Addr} {m : Str → Option Value}, st.heap.Ns b m → (hidT st.heap H).Ns b m := fun {b m} z => by
    obtain ⟨o, es, ep, z1, z2, z3⟩ := z
    refine ⟨o, es, ep, kept z1 ?_, z2, z3⟩
    by_cases c : b = a
    · rw [c, obj] at z1
      cases z1
      have z4 : Data.seq vs.toArray _ = Data.dict es ep := z2
      cases z4
    · exact off c
  have inBase : K.In (hidT st.heap H) := fun b o z => kept (inside b o z) (by
    cases c : H b with
    | none => rfl
    | some u =>
      obtain ⟨rfl, c2, _⟩ := own b u c
      rw [c2] at z
      cases z)
  have lim : (hidT st.heap H).NoLimit := by
    obtain ⟨m, z1, z2⟩ := free
    exact ⟨m, dict z1, z2⟩
  have mod : Mod K mg (hidT st.heap H) := ⟨inBase, dict glob, ⟨mb, dict bltn, boot⟩, lim⟩
  have env0 : Env0 P w K mg (hidT st.heap H) callerA [] st H := { frames := rfl, mod := mod, bs := fun _ _ z => of_hidT z, bsz := Nat.le_of_eq (hidT_size _ _), funs := trivial, frf := fun b z => absurd (show b ∈ ([] : List Addr) from z) (by simp), hok := hok, bare := .of_eq gens }
  refine codeAny_mono (go _ H inBase (dict glob) env0 only script) ?_
  intro r s' out
  match r, out with
  | .ok (.ret u), out =>
    obtain ⟨v, H2, o1, o2, un, ok2, rel, (z : v = .bl true)⟩ := out
    subst z
    obtain rfl : u = Value.bool true := rel
    refine ⟨rfl, OldK.of_keep fun b o z => ?_, o1, o2⟩
    cases c : H b with
    | none => exact un.keep b o z c (fun q => absurd (show b ∈ ([] : List Addr) from q) (by simp)) (by simp)
    | some u =>
      obtain ⟨rfl, _, rfl⟩ := own b u c
      rw [obj] at z
      cases z
      exact (ok2 b _ (un.frzs b _ _ c)).1
  | .ok .next, out => exact out.elim
  | .ok .brk, out => exact out.elim
  | .ok .cont, out => exact out.elim
  | .error e, out => exact False.elim out
/-- the law keeps its word at the one place where it is called -/
def LwOk (P : Program) (w : World) (K : PySem.W.Frag) (mg : Str → Option Value) (base : Heap) (fa : Addr) : Prop := ∀ (st : Shared) (H : Hp) (a : Addr) (ns : List Int), ns.length ≤ 63 → Env0 P w K mg base callerA [] st H → SqL K H a (iv ns) →
  codeAny (model P w) callerA (.call (.ref fa) ⟨[.ref a], []⟩) (CR CX0 [] P w H st (fun v _ => v = .bl true) fun _ _ _ => False) st
theorem law_run {st : Stmt} {f : Addr} {fd : FuncData} {N : List Str} (F : Fun K "law" "law" st f fd) (S : FnScope N ["_law_script"] (defScope st)) (hb : ∀ (s : Shared) (v : Value), BindsTo s fd ⟨[v], []⟩ [("_law_script", v)])
    (hbody : ∀ (cdv : Value) (s : Shared) (H : Hp) (a : Addr) (ns : List Int), ns.length ≤ 63 → SqL K H a (iv ns) → Room 5 (callerA.deeper (envOfC "law" (defScope st) s.heap.objs.size f cdv)) →
      ∃ t, PSs (cxOf CX0 P w K mg base N "law" (defScope st) f cdv callerA [] s H (fun _ _ _ => False)).nox (defBody st) t ∧ t { nx := fun _ _ => V.non = V.bl true, rt := fun v _ => v = V.bl true } (L2.start N [.ref a]) H) : LwOk P w K mg base f := by
  intro s H a ns hl e0 sq
  obtain ⟨oc, od, kV, doc, pm, an, cdv, ct, osl, rfl, lk, hcd⟩ := F.ex
  have room : Room 6 callerA := ⟨rfl, by decide, by decide⟩
  obtain ⟨t, walk, read⟩ := hbody cdv s H a ns hl sq (room.deeper _)
  exact run_at (ps := ["_law_script"]) (us := [.ref a]) (vs := [.ref a]) (Q := fun v _ => v = .bl true) (E := fun _ _ _ => False) lk hcd S room e0 (hb s (.ref a)) (.cons rfl .nil) rfl walk.nox read
theorem walk_at {l : PySem.W.OpenLaw} {q : Program} {loose : List Str} {XP : (Str → Option Value) → Heap → Prop} {YP : World → Heap → Prop} {d : DefRec} {Kp : Params → PySem.W.Frag}
    (most : l.most = some 63) (plain : d.params.defaults = []) (inK : ∀ (w : World) (h : Heap), YP w h → (Kp w.params).In h)
    (go : ∀ (w : World) (mg : Str → Option Value) (fa : Addr) (h : Heap), (Kp w.params).In h → h.Ns mainGlobals mg → mg d.name = some (.ref fa) → ∀ base : Heap, (Kp w.params).In base → base.Ns mainGlobals mg → LwOk l.prog w (Kp w.params) mg base fa) :
    PySem.W.WalkO q loose XP YP l.row.toRowW d [] (fun f vs => PySem.call f vs) := by
  refine Att.attach_call most plain ?_
  intro w _ st mg mb fa _ _ _ _ a vs ns G Y _ _ _ named obj nums short gens
  have k := inK w _ Y
  refine law_at (mb := mb) k G.T.g G.T.b G.T.builtins G.T.nolimit gens obj nums (Nat.le_trans short (by rw [sizeLine_eq]; decide)) ?_
  intro base H inb nsb env0 _ sq
  exact go w mg fa _ k G.T.g named base inb nsb st H a ns short env0 sq
end

section
variable {P : Program} {w : World} {K : PySem.W.Frag} {mg : Str → Option Value} {base : Heap}
/-! things of any kind, each list and tuple at its own place -/
mutual
inductive Dh (H : Hp) : V → PyData → Prop
  | non : Dh H .non .none
  | bl (b : Bool) : Dh H (.bl b) (.bool b)
  | int (i : Int) : Dh H (.int i) (.int i)
  | str (x : Str) : Dh H (.str x) (.str x)
  | lst {a : Addr} {xs : List V} {ds : List PyData} : H a = some (.lst xs) → DhAll H xs ds → Dh H (.ref a) (.list ds)
  | tup {a : Addr} {xs : List V} {ds : List PyData} : H a = some (.tup xs) → DhAll H xs ds → Dh H (.ref a) (.tuple ds)
inductive DhAll (H : Hp) : List V → List PyData → Prop
  | nil : DhAll H [] []
  | cons {v : V} {vs : List V} {d : PyData} {ds : List PyData} : Dh H v d → DhAll H vs ds → DhAll H (v :: vs) (d :: ds)
end
mutual
theorem Dh.dp {H : Hp} : ∀ (d : PyData) (v : V), Dh H v d → Dp K H v d
  | .none, _, h => by cases h; exact .non
  | .bool b, _, h => by cases h; exact .bl b
  | .int i, _, h => by cases h; exact .int i
  | .str x, _, h => by cases h; exact .str x
  | .list ds, _, h => by
    cases h with
    | lst h1 h2 => exact .lst (SqL.of h1) (DhAll.dp ds _ h2)
  | .tuple ds, _, h => by
    cases h with
    | tup h1 h2 => exact .tup (SqT.of h1) (DhAll.dp ds _ h2)
  | .dict _, _, h => nomatch h
theorem DhAll.dp {H : Hp} : ∀ (ds : List PyData) (vs : List V), DhAll H vs ds → DpAll K H vs ds
  | [], _, h => by cases h; exact .nil
  | d :: ds, _, h => by
    cases h with
    | cons h1 h2 => exact .cons (Dh.dp d _ h1) (DhAll.dp ds _ h2)
end
mutual
theorem Dh.same {H H' : Hp} (s : Same H H') : ∀ (d : PyData) (v : V), Dh H v d → Dh H' v d
  | .none, _, h => by cases h; exact .non
  | .bool b, _, h => by cases h; exact .bl b
  | .int i, _, h => by cases h; exact .int i
  | .str x, _, h => by cases h; exact .str x
  | .list ds, _, h => by
    cases h with
    | lst h1 h2 => exact .lst (s _ _ h1) (DhAll.same s ds _ h2)
  | .tuple ds, _, h => by
    cases h with
    | tup h1 h2 => exact .tup (s _ _ h1) (DhAll.same s ds _ h2)
  | .dict _, _, h => nomatch h
theorem DhAll.same {H H' : Hp} (s : Same H H') : ∀ (ds : List PyData) (vs : List V), DhAll H vs ds → DhAll H' vs ds
  | [], _, h => by cases h; exact .nil
  | d :: ds, _, h => by
    cases h with
    | cons h1 h2 => exact .cons (Dh.same s d _ h1) (DhAll.same s ds _ h2)
end
theorem DhAll.len {H : Hp} : ∀ {vs : List V} {ds : List PyData}, DhAll H vs ds → vs.length = ds.length
  | _, _, .nil => rfl
  | _, _, .cons _ t => congrArg (· + 1) t.len
theorem DhAll.get {H : Hp} : ∀ {vs : List V} {ds : List PyData} {i : Nat} {v : V} {d : PyData}, DhAll H vs ds → vs[i]? = some v → ds[i]? = some d → Dh H v d
  | _, _, 0, _, _, .cons h _, h1, h2 => by
    simp at h1 h2
    rw [← h1, ← h2]
    exact h
  | _, _, i + 1, _, _, .cons _ t, h1, h2 => t.get (i := i) (by simpa using h1) (by simpa using h2)
theorem DhAll.app {H : Hp} : ∀ {vs us : List V} {ds es : List PyData}, DhAll H vs ds → DhAll H us es → DhAll H (vs ++ us) (ds ++ es)
  | _, _, _, _, .nil, h => h
  | _, _, _, _, .cons a t, h => .cons a (t.app h)
theorem DhAll.take {H : Hp} : ∀ {vs : List V} {ds : List PyData} (n : Nat), DhAll H vs ds → DhAll H (vs.take n) (ds.take n)
  | _, _, 0, _ => by rw [List.take_zero, List.take_zero]; exact .nil
  | _, _, _ + 1, .nil => .nil
  | _, _, n + 1, .cons a t => .cons a (t.take n)
theorem DhAll.drop {H : Hp} : ∀ {vs : List V} {ds : List PyData} (n : Nat), DhAll H vs ds → DhAll H (vs.drop n) (ds.drop n)
  | _, _, 0, h => h
  | _, _, _ + 1, .nil => .nil
  | _, _, n + 1, .cons _ t => t.drop n
theorem dhInts {H : Hp} : ∀ m : List Int, DhAll H (iv m) (m.map PyData.int)
  | [] => .nil
  | x :: m => .cons (.int x) (dhInts m)
theorem IL.dh {H : Hp} {a : Addr} {m : Row} (h : IL H a m) : Dh H (.ref a) (dRow m) := .lst h (dhInts m)
/-- the kind of a thing -/
def tyD : PyData → String
  | .none => "NoneType"
  | .bool _ => "bool"
  | .int _ => "int"
  | .str _ => "str"
  | .list _ => "list"
  | .tuple _ => "tuple"
  | .dict _ => "dict"
def isLD : PyData → Bool
  | .list _ => true
  | _ => false
def isTD : PyData → Bool
  | .tuple _ => true
  | _ => false
def isID : PyData → Bool
  | .int _ => true
  | .bool _ => true
  | _ => false
def isBD : PyData → Bool
  | .bool _ => true
  | _ => false
theorem Dh.ty {H : Hp} {v : V} {d : PyData} (h : Dh H v d) : TyX K H v (.type (tyD d)) := by
  cases h with
  | non => exact .base .non
  | bl b => exact .base (.bl b)
  | int i => exact .base (.int i)
  | str x => exact .base (.str x)
  | lst h1 _ => exact .base (.lst h1)
  | tup h1 _ => exact .base (.tup h1)
theorem kitL (d : PyData) : PySem.W.kitOne K (.type (tyD d)) (.type "list") = some (isLD d) := by
  cases d with
  | none => exact kit_ty (a := "NoneType") (b := "list") (r := false) (by decide +kernel)
  | bool _ => exact kit_ty (a := "bool") (b := "list") (r := false) (by decide +kernel)
  | int _ => exact kit_ty (a := "int") (b := "list") (r := false) (by decide +kernel)
  | str _ => exact kit_ty (a := "str") (b := "list") (r := false) (by decide +kernel)
  | list _ => exact kit_ty (a := "list") (b := "list") (r := true) (by decide +kernel)
  | tuple _ => exact kit_ty (a := "tuple") (b := "list") (r := false) (by decide +kernel)
  | dict _ => exact kit_ty (a := "dict") (b := "list") (r := false) (by decide +kernel)
theorem kitI (d : PyData) : PySem.W.kitOne K (.type (tyD d)) (.type "int") = some (isID d) := by
  cases d with
  | none => exact kit_ty (a := "NoneType") (b := "int") (r := false) (by decide +kernel)
  | bool _ => exact kit_ty (a := "bool") (b := "int") (r := true) (by decide +kernel)
  | int _ => exact kit_ty (a := "int") (b := "int") (r := true) (by decide +kernel)
  | str _ => exact kit_ty (a := "str") (b := "int") (r := false) (by decide +kernel)
  | list _ => exact kit_ty (a := "list") (b := "int") (r := false) (by decide +kernel)
  | tuple _ => exact kit_ty (a := "tuple") (b := "int") (r := false) (by decide +kernel)
  | dict _ => exact kit_ty (a := "dict") (b := "int") (r := false) (by decide +kernel)
theorem kitBo (d : PyData) : PySem.W.kitOne K (.type (tyD d)) (.type "bool") = some (isBD d) := by
  cases d with
  | none => exact kit_ty (a := "NoneType") (b := "bool") (r := false) (by decide +kernel)
  | bool _ => exact kit_ty (a := "bool") (b := "bool") (r := true) (by decide +kernel)
  | int _ => exact kit_ty (a := "int") (b := "bool") (r := false) (by decide +kernel)
  | str _ => exact kit_ty (a := "str") (b := "bool") (r := false) (by decide +kernel)
  | list _ => exact kit_ty (a := "list") (b := "bool") (r := false) (by decide +kernel)
  | tuple _ => exact kit_ty (a := "tuple") (b := "bool") (r := false) (by decide +kernel)
  | dict _ => exact kit_ty (a := "dict") (b := "bool") (r := false) (by decide +kernel)
/-! what may be shown -/
/-- as str tells it -/
def strT : PyData → Str
  | .str x => x
  | d => d.shown
structure Gd (n : Nat) (d : PyData) : Prop where
  show_ : d.showable = true
  nod : d.hasDict = false
  dep : d.depth ≤ n
  short : d.leavesShort 100 = true
  bulk : d.bulk ≤ 10000
theorem Gd.len {n : Nat} {d : PyData} (g : Gd n d) : d.shown.length ≤ sizeLine := by
  have := PyData.shown_le_bulk 100 (by decide) d g.short
  have := g.bulk
  rw [sizeLine_eq]
  omega
theorem cStrD {X : Cx} (hg : X.A.guards = some []) (hu : X.A.units + 100 < cLine) : CallR X (.type "str") (fun xs H Q => ∃ (v : V) (d : PyData), xs = [v] ∧ Dh H v d ∧ Gd 60 d ∧ Q (.str (strT d)) H) := by
  intro pins s σ H xs us Q I r h
  obtain ⟨v, d, rfl, dh, g, q⟩ := h
  obtain ⟨u, rfl, r1⟩ := vals1 r
  obtain ⟨as, rd⟩ := Dp.reads I d v u (dh.dp) r1
  cases dh with
  | non =>
    cases r1
    exact PySem.P.str_of_none ⟨.str _, H, I.tok _, ⟨_, rfl⟩, q⟩
  | bl b =>
    cases r1
    exact PySem.P.str_of_bool ⟨.str _, H, I.tok _, ⟨_, rfl⟩, q⟩
  | int i =>
    obtain ⟨t, rfl⟩ := r1
    exact PySem.P.str_of_int (by simpa [PyData.showable] using g.show_) ⟨.str _, H, I.tok _, ⟨_, rfl⟩, q⟩
  | str x =>
    obtain ⟨t, rfl⟩ := r1
    exact PySem.P.str_of_str ⟨.str x, H, I, ⟨t, rfl⟩, q⟩
  | lst h1 h2 =>
    cases r1
    exact PySem.str_of_reads rd g.show_ (fun z => by rw [g.nod] at z; cases z) hg (by have := g.dep; omega) (fun _ _ e => e) (fun h' u tk hk => ⟨.str _, H, I.kept hk, ⟨u, rfl⟩, q⟩) g.len
  | tup h1 h2 =>
    cases r1
    exact PySem.str_of_reads rd g.show_ (fun z => by rw [g.nod] at z; cases z) hg (by have := g.dep; omega) (fun _ _ e => e) (fun h' u tk hk => ⟨.str _, H, I.kept hk, ⟨u, rfl⟩, q⟩) g.len
end

section
variable {P : Program} {w : World} {K : PySem.W.Frag} {mg : Str → Option Value} {base : Heap}
/-- a rest below e -/
def restB (e : Int) : PyData → Bool
  | .int i => decide (0 ≤ i ∧ i < e)
  | _ => false
def restsB (e : Int) : PyData → Bool
  | .list ds => ds.all (restB e)
  | _ => false
def nzLast (ds : List PyData) : Bool :=
  match ds.getLast? with
  | some (.int i) => decide (i ≠ 0)
  | _ => true
def polyB (e : Int) : PyData → Bool
  | .list ds => ds.all (restB e) && nzLast ds
  | _ => false
theorem restB_inv {e : Int} {d : PyData} (h : restB e d = true) : ∃ i, d = .int i ∧ 0 ≤ i ∧ i < e := by
  cases d with
  | int i => exact ⟨i, rfl, of_decide_eq_true h⟩
  | _ => cases h
theorem all_rows {e : Int} {m : Row} (h : ∀ x ∈ m, 0 ≤ x ∧ x < e) : (m.map PyData.int).all (restB e) = true := List.all_eq_true.mpr fun d hd => by
  obtain ⟨x, hx, rfl⟩ := List.mem_map.mp hd
  exact decide_eq_true (h x hx)
theorem polyB_row {e : Int} {m : Row} (h : Pol e m) : polyB e (dRow m) = true := by
  show ((m.map PyData.int).all (restB e) && nzLast (m.map PyData.int)) = true
  rw [all_rows h.rng, Bool.true_and]
  unfold nzLast
  by_cases hm : m = []
  · rw [hm]
    rfl
  · have l := ne_nil_len.mp hm
    rw [List.getLast?_eq_getElem?, List.length_map, List.getElem?_map, ent_some (by omega)]
    exact decide_eq_true (h.last hm)
/-- all items so far -/
theorem all_take_succ {α : Type} {f : α → Bool} {l : List α} {i : Nat} {x : α} (h : l[i]? = some x) : (l.take (i + 1)).all f = ((l.take i).all f && f x) := by
  rw [List.take_add_one, h, List.all_append]
  simp
theorem ent_set2 {m : Row} {i : Nat} {x : Int} (h : i < m.length) (k : Nat) : ent (m.set i x) k = if k = i then x else ent m k := by
  unfold ent
  rw [List.getD_eq_getElem?_getD, List.getElem?_set]
  by_cases e : i = k
  · rw [if_pos e, if_pos h, if_pos e.symm]
    rfl
  · rw [if_neg e, if_neg (fun z => e z.symm), List.getD_eq_getElem?_getD]
theorem rng_set {p : Int} {m : Row} {i : Nat} {x : Int} (h : ∀ y ∈ m, 0 ≤ y ∧ y < p) (h0 : 0 ≤ x) (h1 : x < p) : ∀ y ∈ m.set i x, 0 ≤ y ∧ y < p := fun y hy => by
  rcases List.mem_or_eq_of_mem_set hy with z | z
  · exact h y z
  · rw [z]
    exact ⟨h0, h1⟩
end

section
variable {P : Program} {w : World} {K : PySem.W.Frag} {mg : Str → Option Value} {base : Heap}
/-- a small thing -/
structure Sm (n : Nat) (d : PyData) : Prop where
  show_ : d.showable = true
  nod : d.hasDict = false
  dep : d.depth ≤ n
  short : d.leavesShort 100 = true
  bulk : d.bulk ≤ 50
theorem sm_all {n : Nat} : ∀ {ds : List PyData}, (∀ d ∈ ds, Sm n d) → PyData.showableAll ds = true ∧ PyData.hasDictAll ds = false ∧ PyData.depthAll ds ≤ n ∧ PyData.leavesShortAll 100 ds = true ∧ PyData.bulkAll ds ≤ 51 * ds.length
  | [], _ => ⟨rfl, rfl, Nat.zero_le _, rfl, Nat.le_refl _⟩
  | d :: ds, h => by
    obtain ⟨a1, a2, a3, a4, a5⟩ := sm_all (ds := ds) fun e he => h e (List.mem_cons_of_mem _ he)
    have s := h d List.mem_cons_self
    refine ⟨?_, ?_, ?_, ?_, ?_⟩
    · show (d.showable && PyData.showableAll ds) = true
      rw [s.show_, a1]
      rfl
    · show (d.hasDict || PyData.hasDictAll ds) = false
      rw [s.nod, a2]
      rfl
    · show max d.depth (PyData.depthAll ds) ≤ n
      have := s.dep
      omega
    · show (d.leavesShort 100 && PyData.leavesShortAll 100 ds) = true
      rw [s.short, a4]
      rfl
    · show d.bulk + 1 + PyData.bulkAll ds ≤ 51 * (ds.length + 1)
      have := s.bulk
      omega
theorem Sm.gd {n : Nat} {d : PyData} (s : Sm n d) (h : n ≤ 60) : Gd 60 d := ⟨s.show_, s.nod, Nat.le_trans s.dep h, s.short, Nat.le_trans s.bulk (by decide)⟩
theorem gd_list {n : Nat} {ds : List PyData} (h : ∀ d ∈ ds, Sm n d) (hl : ds.length ≤ 150) (hn : n < 60) : Gd 60 (.list ds) := by
  obtain ⟨a1, a2, a3, a4, a5⟩ := sm_all h
  exact ⟨a1, a2, by show PyData.depthAll ds + 1 ≤ 60; omega, a4, by show PyData.bulkAll ds ≤ 10000; omega⟩
theorem gd_tuple {n : Nat} {ds : List PyData} (h : ∀ d ∈ ds, Sm n d) (hl : ds.length ≤ 150) (hn : n < 60) : Gd 60 (.tuple ds) := by
  obtain ⟨a1, a2, a3, a4, a5⟩ := sm_all h
  exact ⟨a1, a2, by show PyData.depthAll ds + 1 ≤ 60; omega, a4, by show PyData.bulkAll ds ≤ 10000; omega⟩
theorem sm_int {i : Int} (h : i.natAbs < 10 ^ 60) : Sm 0 (.int i) := by
  refine ⟨?_, rfl, Nat.le_refl _, ?_, Nat.zero_le _⟩
  · show decide (i.natAbs.log2 < 1920) = true
    refine decide_eq_true ?_
    have h2 : i.natAbs < 2 ^ 200 := Nat.lt_trans h (by decide +kernel)
    have := PySem.Flt.log2_lt_of (by decide) h2
    omega
  · show decide ((PyData.shown (.int i)).length ≤ 100) = true
    refine decide_eq_true ?_
    have e : (PyData.shown (.int i)).length = (toString i).length := PySem.ofString_length _
    have := int_text_length_le10 (k := 60) (by decide) h
    omega
theorem sm_small {i : Int} (h0 : -1000 ≤ i) (h1 : i ≤ 1000) : Sm 0 (.int i) := sm_int (Nat.lt_trans (m := 1001) (by omega) (by decide +kernel))
theorem sm_none : Sm 0 .none := ⟨rfl, rfl, Nat.le_refl _, rfl, Nat.zero_le _⟩
theorem sm_bool (b : Bool) : Sm 0 (.bool b) := ⟨rfl, rfl, Nat.le_refl _, rfl, Nat.zero_le _⟩
theorem Sm.mono {n m : Nat} {d : PyData} (s : Sm n d) (h : n ≤ m) : Sm m d := ⟨s.show_, s.nod, Nat.le_trans s.dep h, s.short, s.bulk⟩
theorem sm_row {p : Int} (hp : p ≤ 11) {m : Row} (h : ∀ x ∈ m, 0 ≤ x ∧ x < p) : ∀ d ∈ m.map PyData.int, Sm 0 d := fun d hd => by
  obtain ⟨x, hx, rfl⟩ := List.mem_map.mp hd
  have := h x hx
  exact sm_small (by omega) (by omega)
theorem gd_row {p : Int} (hp : p ≤ 11) {m : Row} (h : ∀ x ∈ m, 0 ≤ x ∧ x < p) (hl : m.length ≤ 150) : Gd 60 (dRow m) := gd_list (sm_row hp h) (by rw [List.length_map]; exact hl) (by decide)
/-- what is put in: twelve things -/
def oddV (p far : Int) (u t : Addr) : List V := [.int p, .int (-1), .bl true, .bl false, .non, .str "1", .int far, .int (0 - far), .ref u, .ref t, .int 0, .int (p - 1)]
def oddD (p far : Int) : List PyData := [.int p, .int (-1), .bool true, .bool false, .none, .str "1", .int far, .int (0 - far), .list [.int 1], .tuple [.int 1], .int 0, .int (p - 1)]
theorem odd_dh {H : Hp} {p far : Int} {u t : Addr} (hu : H u = some (.lst [.int 1])) (ht : H t = some (.tup [.int 1])) : DhAll H (oddV p far u t) (oddD p far) :=
  .cons (.int _) (.cons (.int _) (.cons (.bl _) (.cons (.bl _) (.cons .non (.cons (.str _) (.cons (.int _) (.cons (.int _) (.cons (.lst hu (.cons (.int 1) .nil)) (.cons (.tup ht (.cons (.int 1) .nil)) (.cons (.int _) (.cons (.int _) .nil)))))))))))
theorem sm_one : Sm 1 (.list [.int 1]) ∧ Sm 1 (.tuple [.int 1]) := by
  have s : ∀ d ∈ [PyData.int 1], Sm 0 d := fun d hd => by
    rw [List.mem_singleton.mp hd]
    exact sm_small (by decide) (by decide)
  obtain ⟨a1, a2, a3, a4, a5⟩ := sm_all s
  exact ⟨⟨a1, a2, by show PyData.depthAll [.int 1] + 1 ≤ 1; omega, a4, by show PyData.bulkAll [.int 1] ≤ 50; decide⟩, ⟨a1, a2, by show PyData.depthAll [.int 1] + 1 ≤ 1; omega, a4, by show PyData.bulkAll [.int 1] ≤ 50; decide⟩⟩
theorem sm_str1 : Sm 0 (.str "1") := ⟨rfl, rfl, Nat.le_refl _, by decide +kernel, by decide +kernel⟩
theorem sm_str0 : Sm 0 (.str "") := ⟨rfl, rfl, Nat.le_refl _, by decide +kernel, by decide +kernel⟩
theorem odd_sm {p far : Int} (h0 : 0 ≤ p) (hp : p ≤ 11) (hf : far.natAbs < 10 ^ 60) : ∀ d ∈ oddD p far, Sm 1 d := fun d hd => by
  unfold oddD at hd
  simp only [List.mem_cons, List.not_mem_nil, or_false] at hd
  have z := Nat.zero_le 1
  rcases hd with rfl | rfl | rfl | rfl | rfl | rfl | rfl | rfl | rfl | rfl | rfl | rfl
  · exact (sm_small (by omega) (by omega)).mono z
  · exact (sm_small (by decide) (by decide)).mono z
  · exact (sm_bool _).mono z
  · exact (sm_bool _).mono z
  · exact sm_none.mono z
  · exact sm_str1.mono z
  · exact (sm_int hf).mono z
  · exact (sm_int (by rw [Int.zero_sub, Int.natAbs_neg]; exact hf)).mono z
  · exact sm_one.1
  · exact sm_one.2
  · exact (sm_small (by decide) (by decide)).mono z
  · exact (sm_small (by omega) (by omega)).mono z
theorem rep_ints (n : Nat) (x : Int) : (List.replicate (n : Int).toNat [V.int x]).flatten = iv (List.replicate n x) := by
  rw [Int.toNat_natCast]
  induction n with
  | zero => rfl
  | succ n ih =>
    rw [List.replicate_succ, List.flatten_cons, ih, List.replicate_succ]
    rfl
theorem cut_take (xs : List V) (e : Nat) : cutV xs none (some (e : Int)) = xs.take e := by
  unfold cutV
  rw [show HT.sIx xs.length xs.length (some (e : Int)) = min e xs.length from HT.sIx_nat xs.length xs.length e, HT.sIx_none]
  show (xs.drop 0).take (min e xs.length - 0) = _
  rw [List.drop_zero, Nat.sub_zero, ← List.take_take, List.take_length]
theorem cut_drop (xs : List V) (e : Nat) : cutV xs (some (e : Int)) none = xs.drop e := by
  unfold cutV
  rw [show HT.sIx xs.length 0 (some (e : Int)) = min e xs.length from HT.sIx_nat xs.length 0 e, HT.sIx_none]
  by_cases h : e ≤ xs.length
  · rw [Nat.min_eq_left h]
    exact List.take_of_length_le (by rw [List.length_drop]; omega)
  · rw [Nat.min_eq_right (by omega), List.drop_length, List.drop_eq_nil_of_le (by omega)]
    simp
end

def topS (i : Nat) : Stmt := PySem.Challenge.pw_stillspans_k06_polynomials_known.main.body.getD i (.Pass ⟨0, 0, 0, 0⟩)
/-! ### is_whole -/
section
variable {P : Program} {w : World} {K : PySem.W.Frag} {mg : Str → Option Value} {base : Heap}
abbrev sIwh : Stmt := topS 1
theorem scIwh : FnScope ["thing"] ["thing"] (defScope sIwh) := ⟨rfl, rfl, rfl, by decide +kernel, rfl, by decide +kernel, by decide +kernel⟩
def wholeB : PyData → Bool
  | .int _ => true
  | _ => false
def spIwh : Sp := fun vs H Q _ => ∃ (v : V) (d : PyData), vs = [v] ∧ Dh H v d ∧ Q (.bl (wholeB d)) H
theorem ok_iwh {f : Addr} {fd : FuncData} {k : Nat} (F : Fun K "is_whole" "is_whole" sIwh f fd) (mi : mg "isinstance" = none) (mn : mg "int" = none) (mb : mg "bool" = none) : FnOk P w K mg base CX0 (k + 1) f fd ["thing"] spIwh := by
  refine F.ok scIwh (fun vs H Q E h => ?_) (fun cdv A outer s H vs Q E hr h => ?_)
  · obtain ⟨v, d, rfl, _⟩ := h
    rfl
  · obtain ⟨v, d, rfl, dh, q⟩ := h
    refine ⟨_, pss_one (ps_ret (pe_and (pe_callB call_isi (by rfl) mi (by decide +kernel) (pa_cons (pv 0) (pa_cons (pe_bltn (v := .ty "int") (by rfl) mn (by decide +kernel) rfl) pa_nil)))
      (pe_one (pe_not (pe_callB call_isi (by rfl) mi (by decide +kernel) (pa_cons (pv 0) (pa_cons (pe_bltn (v := .ty "bool") (by rfl) mb (by decide +kernel) rfl) pa_nil))))))), ?_⟩
    refine ⟨_, rfl, _, _, _, _, isID d, rfl, .ty "int", dh.ty, kitI d, isID d, rfl, ?_⟩
    cases dh with
    | int x =>
      refine iteT ?_
      refine ⟨_, rfl, _, _, _, _, false, rfl, .ty "bool", .base (.int x), kit_ty (by decide +kernel), false, rfl, q⟩
    | bl b =>
      refine iteT ?_
      refine ⟨_, rfl, _, _, _, _, true, rfl, .ty "bool", .base (.bl b), kit_ty (by decide +kernel), true, rfl, q⟩
    | non => exact iteF q
    | str x => exact iteF q
    | lst _ _ => exact iteF q
    | tup _ _ => exact iteF q
end

/-! ### is_below -/
section
variable {P : Program} {w : World} {K : PySem.W.Frag} {mg : Str → Option Value} {base : Heap}
abbrev sIbl : Stmt := topS 2
theorem scIbl : FnScope ["bound", "thing"] ["bound", "thing"] (defScope sIbl) := ⟨rfl, rfl, rfl, by decide +kernel, rfl, by decide +kernel, by decide +kernel⟩
def spIbl : Sp := fun vs H Q _ => ∃ (p : Int) (v : V) (d : PyData), vs = [.int p, v] ∧ Dh H v d ∧ Q (.bl (restB p d)) H
theorem ok_ibl {f fW : Addr} {fd fdW : FuncData} {k : Nat} (F : Fun K "is_below" "is_below" sIbl f fd)
    (GW : FnOk P w K mg base CX0 (k + 1) fW fdW ["thing"] spIwh) (bW : Binds K fdW ["thing"] []) (kW : PySem.W.keepIn K (.ref fW) = true) (mW : mg "is_whole" = some (.ref fW)) : FnOk P w K mg base CX0 (k + 2) f fd ["bound", "thing"] spIbl := by
  refine F.ok scIbl (fun vs H Q E h => ?_) (fun cdv A outer s H vs Q E hr h => ?_)
  · obtain ⟨p, v, d, rfl, _⟩ := h
    rfl
  · obtain ⟨p, v, d, rfl, dh, q⟩ := h
    refine ⟨_, pss_one (ps_ret (pe_and (pe_call GW hr (by rfl) mW kW bW .nil pass0 (pa_cons (pv 1) pa_nil))
        (pe_one (pe_chain op_le op_lt pe_int (pv 1) (pv 0))))), ?_⟩
    refine ⟨_, rfl, ⟨v, d, rfl, dh, ?_⟩⟩
    cases dh with
    | int x =>
      refine ⟨true, rfl, iteT ?_⟩
      refine ⟨_, rfl, _, _, rfl, rfl, decide (0 ≤ x), rfl, ?_⟩
      by_cases c : 0 ≤ x
      · rw [decide_eq_true c]
        refine iteT ?_
        refine ⟨_, rfl, _, _, rfl, rfl, ?_⟩
        have e2 : restB p (.int x) = decide (x < p) := decide_eq_decide.mpr ⟨fun z => z.2, fun z => ⟨c, z⟩⟩
        rw [e2] at q
        exact q
      · rw [decide_eq_false c]
        refine iteF ?_
        have e2 : restB p (.int x) = false := decide_eq_false fun z => c z.1
        rw [e2] at q
        exact q
    | bl b => exact ⟨false, rfl, iteF q⟩
    | non => exact ⟨false, rfl, iteF q⟩
    | str x => exact ⟨false, rfl, iteF q⟩
    | lst _ _ => exact ⟨false, rfl, iteF q⟩
    | tup _ _ => exact ⟨false, rfl, iteF q⟩
end

/-! ### is_rests -/
section
variable {P : Program} {w : World} {K : PySem.W.Frag} {mg : Str → Option Value} {base : Heap}
abbrev sRst : Stmt := topS 3
abbrev nRst : List Str := ["p", "thing", "number"]
theorem scRst : FnScope nRst ["p", "thing"] (defScope sRst) := ⟨rfl, rfl, rfl, by decide +kernel, rfl, by decide +kernel, by decide +kernel⟩
def spRst : Sp := fun vs H Q _ => ∃ (p : Int) (v : V) (d : PyData), vs = [.int p, v] ∧ Dh H v d ∧ d.bulk ≤ 10000 ∧ ∀ H', Same H H' → Q (.bl (restsB p d)) H'
theorem bulk_len : ∀ ds : List PyData, ds.length ≤ PyData.bulkAll ds
  | [] => Nat.le_refl _
  | d :: ds => by
    have := bulk_len ds
    show ds.length + 1 ≤ d.bulk + 1 + PyData.bulkAll ds
    omega
theorem bulk_mem : ∀ {ds : List PyData} {d : PyData}, d ∈ ds → d.bulk ≤ PyData.bulkAll ds
  | e :: ds, d, h => by
    rcases List.mem_cons.mp h with rfl | h
    · show d.bulk ≤ d.bulk + 1 + PyData.bulkAll ds
      omega
    · have := bulk_mem h
      show d.bulk ≤ e.bulk + 1 + PyData.bulkAll ds
      omega
theorem ok_rst {f fB : Addr} {fd fdB : FuncData} {k : Nat} (F : Fun K "is_rests" "is_rests" sRst f fd)
    (GB : FnOk P w K mg base CX0 (k + 2) fB fdB ["bound", "thing"] spIbl) (bB : Binds K fdB ["bound", "thing"] []) (kB : PySem.W.keepIn K (.ref fB) = true) (mB : mg "is_below" = some (.ref fB))
    (mi : mg "isinstance" = none) (mt : mg "list" = none) (ma : mg "all" = none) : FnOk P w K mg base CX0 (k + 3) f fd ["p", "thing"] spRst := by
  refine F.ok scRst (fun vs H Q E h => ?_) (fun cdv A outer s H vs Q E hr h => ?_)
  · obtain ⟨p, v, d, rfl, _⟩ := h
    rfl
  · obtain ⟨p, v, d, rfl, dh, hbk, q⟩ := h
    refine ⟨_, pss_cons (ps_if (pt_not (pt_val (pe_callB call_isi (by rfl) mi (by decide +kernel) (pa_cons (pv 1) (pa_cons (pe_bltn (v := .ty "list") (by rfl) mt (by decide +kernel) rfl) pa_nil))))) (pss_one (ps_ret pe_bl)) pss_nil)
      (pss_one (ps_ret (pe_callB (cr_all rfl) (by rfl) ma (by decide +kernel) (pa_cons (pe_lc (own := [("number", 2)]) (g := gName 2) (tt := tYes) (by rfl) scRst.nd (pi_list (pv 1)) (blkOk_by (own := [("number", 2)]) (N := nRst) (sc := defScope sRst) (by decide +kernel))
          (fun _ _ _ _ _ => pg_name (i := 2) scRst.nd rfl (Or.inl rfl)) (fun _ _ _ _ _ => pts_nil) (fun _ _ _ _ _ => pe_call GB hr (by rfl) mB kB bB .nil pass0 (pa_cons (pv 0) (pa_cons (pv 2) pa_nil)))) pa_nil)))), ?_⟩
    refine ⟨_, rfl, _, _, _, _, isLD d, rfl, .ty "list", dh.ty, kitL d, isLD d, rfl, ?_⟩
    cases dh with
    | lst h1 h2 =>
      rename_i a xs ds
      have bl : ds.length ≤ 10000 := Nat.le_trans (bulk_len ds) hbk
      refine iteF ?_
      refine ⟨_, rfl, a, rfl, ⟨_, SqL.of h1⟩, fun D hD => lc_it (walk_list (K := K) (a := a) (xs := xs)) (fun i H1 => Same H H1 ∧ H1 D = some (.lst (((ds.take i).map (restB p)).map V.bl))) ⟨same_new hD, upd_same⟩ (fun i H1 _ h => h.1.seq (SqL.of h1)) (fun i x H1 H2 hi hW y => ?_) (fun H1 hW => ?_)⟩
      · obtain ⟨rfl, hx⟩ := y
        obtain ⟨sm1, e1⟩ := hW
        obtain ⟨e, he⟩ := get_of (l := ds) (i := i) (by have := get_lt hx; have := h2.len; omega)
        have de := Dh.same sm1 e x (h2.get hx he)
        refine ⟨rfl, t_yes ?_⟩
        refine ⟨_, rfl, _, rfl, ⟨p, x, e, rfl, de, ?_⟩⟩
        refine ⟨_, e1, ?_, same_upd hD sm1, ?_⟩
        · rw [List.length_map, List.length_map, List.length_take, sizeLine_eq]
          omega
        · rw [upd_same, List.take_add_one, he]
          simp
      · obtain ⟨sm1, e1⟩ := hW
        rw [h2.len, List.take_length] at e1
        have q2 : Q (.bl (ds.all (restB p))) H1 := q H1 sm1
        refine ⟨D, ds.map (restB p), rfl, SqL.of e1, ?_⟩
        rw [List.all_map]
        exact q2
    | non => exact iteT (q H (Same.refl H))
    | bl b => exact iteT (q H (Same.refl H))
    | int i => exact iteT (q H (Same.refl H))
    | str x => exact iteT (q H (Same.refl H))
    | tup _ _ => exact iteT (q H (Same.refl H))
end

/-! ### is_poly -/
section
variable {P : Program} {w : World} {K : PySem.W.Frag} {mg : Str → Option Value} {base : Heap}
abbrev sIsp : Stmt := topS 5
theorem scIsp : FnScope ["p", "thing"] ["p", "thing"] (defScope sIsp) := ⟨rfl, rfl, rfl, by decide +kernel, rfl, by decide +kernel, by decide +kernel⟩
def spIsp : Sp := fun vs H Q _ => ∃ (p : Int) (v : V) (d : PyData), vs = [.int p, v] ∧ Dh H v d ∧ d.bulk ≤ 10000 ∧ ∀ H', Same H H' → Q (.bl (polyB p d)) H'
theorem last_at {p : Int} {xs : List V} {ds : List PyData} {H : Hp} (h : DhAll H xs ds) (hA : ds.all (restB p) = true) (hn : xs ≠ []) : ∃ i, atI xs (-1) = some (.int i) ∧ ds.getLast? = some (.int i) := by
  have l : 0 < xs.length := List.length_pos_iff.mpr hn
  obtain ⟨d, hd⟩ := get_of (l := ds) (i := ds.length - 1) (by have := h.len; omega)
  obtain ⟨v, hv⟩ := get_of (l := xs) (i := xs.length - 1) (by omega)
  obtain ⟨i, rfl, _⟩ := restB_inv (List.all_eq_true.mp hA d (List.mem_of_getElem? hd))
  have z := h.get (i := xs.length - 1) hv (by rw [h.len]; exact hd)
  cases z
  refine ⟨i, ?_, by rw [List.getLast?_eq_getElem?]; exact hd⟩
  have e : xs = xs.dropLast ++ [xs.getLast hn] := (List.dropLast_concat_getLast hn).symm
  have g : xs.getLast hn = .int i := by
    rw [List.getLast_eq_getElem]
    exact (List.getElem?_eq_some_iff.mp hv).2
  rw [e, g]
  exact atI_last _ _
theorem ok_isp {f fR : Addr} {fd fdR : FuncData} {k : Nat} (F : Fun K "is_poly" "is_poly" sIsp f fd)
    (GR : FnOk P w K mg base CX0 (k + 3) fR fdR ["p", "thing"] spRst) (bR : Binds K fdR ["p", "thing"] []) (kR : PySem.W.keepIn K (.ref fR) = true) (mR : mg "is_rests" = some (.ref fR)) : FnOk P w K mg base CX0 (k + 4) f fd ["p", "thing"] spIsp := by
  refine F.ok scIsp (fun vs H Q E h => ?_) (fun cdv A outer s H vs Q E hr h => ?_)
  · obtain ⟨p, v, d, rfl, _⟩ := h
    rfl
  · obtain ⟨p, v, d, rfl, dh, hbk, q⟩ := h
    refine ⟨_, pss_cons (ps_if (pt_not (pt_val (pe_call GR hr (by rfl) mR kR bR .nil pass0 (pa_cons (pv 0) (pa_cons (pv 1) pa_nil))))) (pss_one (ps_ret pe_bl)) pss_nil)
      (pss_one (ps_ret (pe_or (pe_notT (pv 1)) (pe_one (pe_cmpR op_ne (pe_ix ix_list (pv 1) (pe_un un_neg pe_int) (fun _ _ => rfl)) pe_int (nomark _)))))), ?_⟩
    refine ⟨_, rfl, _, rfl, ⟨p, v, d, rfl, dh, hbk, fun H1 s1 => ⟨restsB p d, rfl, ?_⟩⟩⟩
    replace q := q H1 s1
    cases hB : restsB p d with
    | false =>
      refine iteT ?_
      have e : polyB p d = false := by
        cases d with
        | list ds =>
          show (ds.all (restB p) && nzLast ds) = false
          rw [show ds.all (restB p) = false from hB]
          rfl
        | _ => rfl
      rw [e] at q
      exact q
    | true =>
      refine iteF ?_
      cases dh with
      | lst h1 h2 =>
        rename_i a xs ds
        have hA : ds.all (restB p) = true := hB
        have q2 : Q (.bl (ds.all (restB p) && nzLast ds)) H1 := q
        rw [hA, Bool.true_and] at q2
        refine ⟨_, rfl, _, .inl ⟨_, SqL.of (s1 _ _ h1), rfl⟩, _, rfl, ?_⟩
        by_cases hn : xs = []
        · subst hn
          have : ds = [] := List.eq_nil_of_length_eq_zero h2.len.symm
          subst this
          exact q2
        · have e : xs.isEmpty = false := by cases xs with
            | nil => exact absurd rfl hn
            | cons x xs => rfl
          rw [e]
          refine iteF ?_
          obtain ⟨i, a1, a2⟩ := last_at h2 hA hn
          refine ⟨_, rfl, _, rfl, a, _, _, _, rfl, rfl, SqL.of (s1 _ _ h1), a1, rfl, ?_⟩
          have e2 : nzLast ds = !decide (V.int i = V.int 0) := by
            unfold nzLast
            rw [a2]
            show decide (i ≠ 0) = _
            rw [decide_not]
            congr 1
            exact decide_eq_decide.mpr ⟨fun z => congrArg V.int z, V.int.inj⟩
          rw [e2] at q2
          exact q2
      | non => cases hB
      | bl b => cases hB
      | int i => cases hB
      | str x => cases hB
      | tup _ _ => cases hB
end

/-! ### _law_whole -/
section
variable {P : Program} {w : World} {K : PySem.W.Frag} {mg : Str → Option Value} {base : Heap}
abbrev sWhole : Stmt := topS 19
theorem scWhole : FnScope ["_law_thing", "_law_end"] ["_law_thing", "_law_end"] (defScope sWhole) := ⟨rfl, rfl, rfl, by decide +kernel, rfl, by decide +kernel, by decide +kernel⟩
def spWhD : Sp := fun vs H Q _ => ∃ (v : V) (d : PyData) (e : Int), vs = [v, .int e] ∧ Dh H v d ∧ Q (.bl (restB e d)) H
theorem ok_whd {f : Addr} {fd : FuncData} {k : Nat} (F : Fun K "_law_whole" "_law_whole" sWhole f fd) (mi : mg "isinstance" = none) (mn : mg "int" = none) (mb : mg "bool" = none) : FnOk P w K mg base CX0 (k + 1) f fd ["_law_thing", "_law_end"] spWhD := by
  refine F.ok scWhole (fun vs H Q E h => ?_) (fun cdv A outer s H vs Q E hr h => ?_)
  · obtain ⟨v, d, e, rfl, _⟩ := h
    rfl
  · obtain ⟨v, d, e, rfl, dh, q⟩ := h
    refine ⟨_, pss_one (ps_ret (pe_and (pe_callB call_isi (by rfl) mi (by decide +kernel) (pa_cons (pv 0) (pa_cons (pe_bltn (v := .ty "int") (by rfl) mn (by decide +kernel) rfl) pa_nil)))
      (pe_and (pe_not (pe_callB call_isi (by rfl) mi (by decide +kernel) (pa_cons (pv 0) (pa_cons (pe_bltn (v := .ty "bool") (by rfl) mb (by decide +kernel) rfl) pa_nil))))
        (pe_one (pe_chain op_le op_lt pe_int (pv 0) (pv 1)))))), ?_⟩
    refine ⟨_, rfl, _, _, _, _, isID d, rfl, .ty "int", dh.ty, kitI d, isID d, rfl, ?_⟩
    cases dh with
    | int x =>
      refine iteT ?_
      refine ⟨_, rfl, _, _, _, _, false, rfl, .ty "bool", .base (.int x), kit_ty (by decide +kernel), false, rfl, true, rfl, iteT ?_⟩
      refine ⟨_, rfl, _, _, rfl, rfl, decide (0 ≤ x), rfl, ?_⟩
      by_cases c : 0 ≤ x
      · rw [decide_eq_true c]
        refine iteT ?_
        refine ⟨_, rfl, _, _, rfl, rfl, ?_⟩
        have e2 : restB e (.int x) = decide (x < e) := decide_eq_decide.mpr ⟨fun z => z.2, fun z => ⟨c, z⟩⟩
        rw [e2] at q
        exact q
      · rw [decide_eq_false c]
        refine iteF ?_
        have e2 : restB e (.int x) = false := decide_eq_false fun z => c z.1
        rw [e2] at q
        exact q
    | bl b =>
      refine iteT ?_
      refine ⟨_, rfl, _, _, _, _, true, rfl, .ty "bool", .base (.bl b), kit_ty (by decide +kernel), true, rfl, false, rfl, iteF q⟩
    | non => exact iteF q
    | str x => exact iteF q
    | lst _ _ => exact iteF q
    | tup _ _ => exact iteF q
end

/-! ### _law_poly_like -/
section
variable {P : Program} {w : World} {K : PySem.W.Frag} {mg : Str → Option Value} {base : Heap}
abbrev sPlk : Stmt := topS 20
abbrev nPlk : List Str := ["_law_p", "_law_thing", "_law_number"]
theorem scPlk : FnScope nPlk ["_law_p", "_law_thing"] (defScope sPlk) := ⟨rfl, rfl, rfl, by decide +kernel, rfl, by decide +kernel, by decide +kernel⟩
def spPlD : Sp := fun vs H Q _ => ∃ (p : Int) (v : V) (d : PyData), vs = [.int p, v] ∧ Dh H v d ∧ d.bulk ≤ 10000 ∧ ∀ H', Same H H' → Q (.bl (polyB p d)) H'
theorem ok_pld {f fW : Addr} {fd fdW : FuncData} {k : Nat} (F : Fun K "_law_poly_like" "_law_poly_like" sPlk f fd)
    (GW : FnOk P w K mg base CX0 (k + 1) fW fdW ["_law_thing", "_law_end"] spWhD) (bW : Binds K fdW ["_law_thing", "_law_end"] []) (kW : PySem.W.keepIn K (.ref fW) = true) (mW : mg "_law_whole" = some (.ref fW))
    (mi : mg "isinstance" = none) (mt : mg "list" = none) (ml : mg "len" = none) (ma : mg "all" = none) : FnOk P w K mg base CX0 (k + 2) f fd ["_law_p", "_law_thing"] spPlD := by
  refine F.ok scPlk (fun vs H Q E h => ?_) (fun cdv A outer s H vs Q E hr h => ?_)
  · obtain ⟨p, v, d, rfl, _⟩ := h
    rfl
  · obtain ⟨p, v, d, rfl, dh, hbk, q⟩ := h
    refine ⟨_, pss_cons (ps_if (PW.pt (pw_or (pt_not (pt_val (pe_callB call_isi (by rfl) mi (by decide +kernel) (pa_cons (pv 1) (pa_cons (pe_bltn (v := .ty "list") (by rfl) mt (by decide +kernel) rfl) pa_nil))))) (pw_or1 (pt_not (pt_val (pe_callB (cr_all rfl) (by rfl) ma (by decide +kernel) (pa_cons (pe_lc (own := [("_law_number", 2)]) (g := gName 2) (tt := tYes) (by rfl) scPlk.nd (pi_list (pv 1)) (blkOk_by (own := [("_law_number", 2)]) (N := nPlk) (sc := defScope sPlk) (by decide +kernel))
          (fun _ _ _ _ _ => pg_name (i := 2) scPlk.nd rfl (Or.inl rfl)) (fun _ _ _ _ _ => pts_nil) (fun _ _ _ _ _ => pe_call GW hr (by rfl) mW kW bW .nil pass0 (pa_cons (pv 2) (pa_cons (pv 0) pa_nil)))) pa_nil))))))) (pss_one (ps_ret pe_bl)) pss_nil)
      (pss_one (ps_ret (pe_or (pe_cmpR op_eq (pe_callB call_len_seq (by rfl) ml PySem.boot_len (pa_cons (pv 1) pa_nil)) pe_int (nomark _)) (pe_one (pe_cmpR op_ne (pe_ix ix_list (pv 1) (pe_un un_neg pe_int) (fun _ _ => rfl)) pe_int (nomark _)))))), ?_⟩
    refine ⟨_, rfl, _, _, _, _, isLD d, rfl, .ty "list", dh.ty, kitL d, isLD d, rfl, ?_⟩
    cases dh with
    | lst h1 h2 =>
      rename_i a xs ds
      have bl : ds.length ≤ 10000 := Nat.le_trans (bulk_len ds) hbk
      refine iteF ?_
      refine ⟨_, rfl, a, rfl, ⟨_, SqL.of h1⟩, fun D hD => lc_it (walk_list (K := K) (a := a) (xs := xs)) (fun i H1 => Same H H1 ∧ H1 D = some (.lst (((ds.take i).map (restB p)).map V.bl))) ⟨same_new hD, upd_same⟩ (fun i H1 _ h => h.1.seq (SqL.of h1)) (fun i x H1 H2 hi hW y => ?_) (fun H1 hW => ?_)⟩
      · obtain ⟨rfl, hx⟩ := y
        obtain ⟨sm1, e1⟩ := hW
        obtain ⟨e, he⟩ := get_of (l := ds) (i := i) (by have := get_lt hx; have := h2.len; omega)
        have de := Dh.same sm1 e x (h2.get hx he)
        refine ⟨rfl, t_yes ?_⟩
        refine ⟨_, rfl, _, rfl, ⟨x, e, p, rfl, de, ?_⟩⟩
        refine ⟨_, e1, ?_, same_upd hD sm1, ?_⟩
        · rw [List.length_map, List.length_map, List.length_take, sizeLine_eq]
          omega
        · rw [upd_same, List.take_add_one, he]
          simp
      · obtain ⟨sm1, e1⟩ := hW
        rw [h2.len, List.take_length] at e1
        refine ⟨D, ds.map (restB p), rfl, SqL.of e1, ds.all (restB p), ?_, ?_⟩
        · rw [List.all_map]
          rfl
        have q2 : Q (.bl (ds.all (restB p) && nzLast ds)) H1 := q H1 sm1
        cases hA : ds.all (restB p) with
        | false =>
          rw [hA] at q2
          exact iteT q2
        | true =>
          rw [hA, Bool.true_and] at q2
          refine iteF ?_
          have h1' := sm1 _ _ h1
          refine ⟨_, rfl, a, _, rfl, .inl (SqL.of h1'), rfl, ?_⟩
          by_cases hn : xs = []
          · subst hn
            have : ds = [] := List.eq_nil_of_length_eq_zero h2.len.symm
            subst this
            exact ⟨true, rfl, iteT q2⟩
          · refine ⟨false, ?_, iteF ?_⟩
            · rw [decide_eq_false]
              intro z
              have z2 := V.int.inj z
              exact hn (List.eq_nil_of_length_eq_zero (by omega))
            · obtain ⟨i, a1, a2⟩ := last_at h2 hA hn
              refine ⟨_, rfl, _, rfl, a, _, _, _, rfl, rfl, SqL.of h1', a1, rfl, ?_⟩
              have e2 : nzLast ds = !decide (V.int i = V.int 0) := by
                unfold nzLast
                rw [a2]
                show decide (i ≠ 0) = _
                rw [decide_not]
                congr 1
                exact decide_eq_decide.mpr ⟨fun z => congrArg V.int z, V.int.inj⟩
              rw [e2] at q2
              exact q2
    | non => exact iteT (iteT (q H (Same.refl H)))
    | bl b => exact iteT (iteT (q H (Same.refl H)))
    | int i => exact iteT (iteT (q H (Same.refl H)))
    | str x => exact iteT (iteT (q H (Same.refl H)))
    | tup _ _ => exact iteT (iteT (q H (Same.refl H)))
end

/-! ### trimmed -/
section
variable {P : Program} {w : World} {K : PySem.W.Frag} {mg : Str → Option Value} {base : Heap}
abbrev sTrm : Stmt := topS 6
theorem scTrm : FnScope ["rests", "end"] ["rests"] (defScope sTrm) := ⟨rfl, rfl, rfl, by decide +kernel, rfl, by decide +kernel, by decide +kernel⟩
def spTrm : Sp := fun vs H Q _ => ∃ (p : Int) (a : Addr) (m : Row), vs = [.ref a] ∧ IL H a m ∧ (∀ x ∈ m, 0 ≤ x ∧ x < p) ∧ m.length ≤ 1000 ∧ ∀ H' q r, Same H H' → H q = none → IL H' q r → Pol p r → (∀ k, ent r k = ent m k) → r.length ≤ m.length → Q (.ref q) H'
theorem cut_end (xs : List V) (e : Nat) : cutV xs none (some (e : Int)) = xs.take e := by
  unfold cutV
  rw [show HT.sIx xs.length xs.length (some (e : Int)) = min e xs.length from HT.sIx_nat xs.length xs.length e, HT.sIx_none]
  show (xs.drop 0).take (min e xs.length - 0) = _
  rw [List.drop_zero, Nat.sub_zero, ← List.take_take, List.take_length]
theorem ok_trm {f : Addr} {fd : FuncData} {k : Nat} (F : Fun K "trimmed" "trimmed" sTrm f fd) (ml : mg "len" = none) : FnOk P w K mg base CX0 (k + 1) f fd ["rests"] spTrm := by
  refine F.ok scTrm (fun vs H Q E h => ?_) (fun cdv A outer s H vs Q E hr h => ?_)
  · obtain ⟨p, a, m, rfl, _⟩ := h
    rfl
  · obtain ⟨p, a, m, rfl, hm, hR, hl, q⟩ := h
    refine ⟨_, pss_cons (ps_set (i := 1) scTrm.nd rfl (.inl rfl) (pe_callB call_len_seq (by rfl) ml PySem.boot_len (pa_cons (pv 0) pa_nil)))
      (pss_cons (ps_while PassesOwn.never (pt_imp (fun σ H Q => ∃ (a : Addr) (m : Row) (e : Nat), σ[0]? = some (some (V.ref a)) ∧ σ[1]? = some (some (V.int (e : Int))) ∧ IL H a m ∧ e ≤ m.length ∧ Q (decide (0 < e ∧ ent m (e - 1) = 0)) H)
          (PW.pt (pw_and (pt_cmpR op_gt (pv 1) pe_int (nomark _)) (pw_and1 (pt_cmpR op_eq (pe_ix ix_list (pv 0) (pe_op op_sub (pv 1) pe_int) (fun _ _ => rfl)) pe_int (nomark _)))))
          (fun σ H Q h => by
            obtain ⟨a, m, e, e0, e1, hm, he, q⟩ := h
            refine ⟨_, e1, _, _, rfl, rfl, _, rfl, ?_⟩
            by_cases h0 : 0 < e
            · rw [decide_eq_true (show (0 : Int) < (e : Int) by omega)]
              refine iteT ?_
              refine ⟨_, e0, _, e1, _, _, rfl, rfl, a, _, _, _, rfl, rfl, IL.sq hm, at_of (j := e - 1) (by omega) (iv_ent (by omega)), rfl, _, rfl, ?_⟩
              rw [show decide (V.int (ent m (e - 1)) = V.int 0) = decide (0 < e ∧ ent m (e - 1) = 0) from decide_eq_decide.mpr ⟨fun z => ⟨h0, V.int.inj z⟩, fun z => congrArg V.int z.2⟩]
              exact q
            · rw [decide_eq_false (show ¬ (0 : Int) < (e : Int) by omega)]
              refine iteF ?_
              rw [decide_eq_false (fun z => h0 z.1)] at q
              exact q))
        (pss_one (ps_aug (i := 1) scTrm.nd rfl (.inl rfl) pe_int ip_sub)))
      (pss_one (ps_ret (pe_slice sl_list (pv 0) po_none (po_some (pv 1)))))), ?_⟩
    refine ⟨_, rfl, a, _, rfl, .inl (IL.sq hm), ?_⟩
    rw [show (iv m).length = m.length from List.length_map _]
    refine step_name ?_
    dsimp only
    refine step_seq ?_
    show tWhile _ _ _ [some (.ref a), some (.int (m.length : Int))] _
    refine wh (fun mm σ H' => H' = H ∧ ∃ e : Nat, σ = [some (.ref a), some (.int (e : Int))] ∧ mm = e ∧ e ≤ m.length ∧ ∀ k, e ≤ k → ent m k = 0) _ ⟨rfl, m.length, rfl, rfl, Nat.le_refl _, fun k hk => ent_out hk⟩ fun mm σ H' hW => ?_
    obtain ⟨rfl, e, rfl, rfl, he, hz⟩ := hW
    refine ⟨a, m, mm, rfl, rfl, hm, he, ite2 (fun c => ?_) (fun c => ?_)⟩
    · have c' := of_decide_eq_true c
      refine ⟨_, fun _ _ h => h, _, rfl, _, _, rfl, rfl, mm - 1, by omega, rfl, mm - 1, ?_, rfl, by omega, fun k hk => ?_⟩
      · show [some (V.ref a), some (V.int ((mm : Int) - 1))] = _
        rw [show (mm : Int) - 1 = ((mm - 1 : Nat) : Int) by omega]
      · by_cases e : k = mm - 1
        · rw [e]
          exact c'.2
        · exact hz k (by omega)
    · have c' : ¬ (0 < mm ∧ ent m (mm - 1) = 0) := of_decide_eq_false (Bool.eq_false_iff.mpr c)
      refine ⟨_, rfl, _, rfl, _, rfl, a, _, rfl, IL.sq hm, fun z nz => ?_⟩
      rw [cut_end]
      have il : IL (L2.upd H' z (.lst ((iv m).take mm))) z (m.take mm) := by
        show (L2.upd H' z _) z = _
        rw [upd_same]
        show some (HO.lst ((m.map V.int).take mm)) = some (HO.lst ((m.take mm).map V.int))
        rw [List.map_take]
      refine q _ z (m.take mm) (same_new nz) nz il ⟨fun x hx => hR x (List.mem_of_mem_take hx), fun hne hl0 => ?_⟩ (ent_take hz) (by rw [List.length_take]; omega)
      have hp := ne_nil_len.mp hne
      rw [List.length_take] at hp
      rw [List.length_take, ent_take hz, Nat.min_eq_left he] at hl0
      exact c' ⟨by omega, hl0⟩
end

/-! ### poly_sum -/
section
variable {P : Program} {w : World} {K : PySem.W.Frag} {mg : Str → Option Value} {base : Heap}
abbrev sPsm : Stmt := topS 7
theorem scPsm : FnScope ["p", "one", "other", "longer", "shorter", "total", "at", "rest"] ["p", "one", "other"] (defScope sPsm) := ⟨rfl, rfl, rfl, by decide +kernel, rfl, by decide +kernel, by decide +kernel⟩
def spPsm : Sp := fun vs H Q _ => ∃ (p : Int) (a b : Addr) (one other : Row), vs = [.int p, .ref a, .ref b] ∧ 0 < p ∧ IL H a one ∧ IL H b other ∧ Pol p one ∧ Pol p other ∧ one.length ≤ 100 ∧ other.length ≤ 100 ∧ ∀ H' q r, Same H H' → H q = none → IL H' q r → Pol p r → r.length ≤ 100 → (∀ k, cg p (ent r k) (ent one k + ent other k)) → Q (.ref q) H'
theorem ok_psm {f fT : Addr} {fd fdT : FuncData} {k : Nat} (F : Fun K "poly_sum" "poly_sum" sPsm f fd)
    (GT : FnOk P w K mg base CX0 (k + 1) fT fdT ["rests"] spTrm) (bT : Binds K fdT ["rests"] []) (kT : PySem.W.keepIn K (.ref fT) = true) (mT : mg "trimmed" = some (.ref fT))
    (ml : mg "len" = none) (mt : mg "list" = none) (me : mg "enumerate" = none) : FnOk P w K mg base CX0 (k + 2) f fd ["p", "one", "other"] spPsm := by
  refine F.ok scPsm (fun vs H Q E h => ?_) (fun cdv A outer s H vs Q E hr h => ?_)
  · obtain ⟨p, a, b, one, other, rfl, _⟩ := h
    rfl
  · obtain ⟨p, a, b, one, other, rfl, hp, ia, ib, A1, B1, la, lb, q⟩ := h
    refine ⟨_, C8.pss_cut (ps_asg (pe_ifExp (pt_cmpR op_ge (pe_callB call_len_seq (by rfl) ml PySem.boot_len (pa_cons (pv 1) pa_nil)) (pe_callB call_len_seq (by rfl) ml PySem.boot_len (pa_cons (pv 2) pa_nil)) (nomark _)) (pe_tup (pa_cons (pv 1) (pa_cons (pv 2) pa_nil))) (pe_tup (pa_cons (pv 2) (pa_cons (pv 1) pa_nil)))) (pg_tup (by rfl) (pgs_cons (pg_name (i := 3) scPsm.nd rfl (Or.inl rfl)) (pgs_cons (pg_name (i := 4) scPsm.nd rfl (Or.inl rfl)) pgs_nil))))
      (pss_cons (ps_set (i := 5) scPsm.nd rfl (.inl rfl) (pe_callTy call_list_of (by rfl) mt (by decide +kernel) (pa_cons (pv 3) pa_nil)))
      (pss_cons (ps_for PassesOwn.never rfl (pi_enum (by rfl) me (pa_cons (pv 4) pa_nil)) (pg_tup rfl (pgs_cons (pg_name (i := 6) scPsm.nd rfl (Or.inl rfl)) (pgs_cons (pg_name (i := 7) scPsm.nd rfl (Or.inl rfl)) pgs_nil)))
        (pss_one (ps_asg (pe_op op_mod (pe_op op_add (pe_ix ix_list (pv 5) (pv 6) (fun _ _ => rfl)) (pv 7)) (pv 0)) (pg_sub (pv 5) (pv 6) set_list (fun _ => rfl)))))
      (pss_one (ps_ret (pe_call GT hr (by rfl) mT kT bT .nil pass0 (pa_cons (pv 5) pa_nil)))))), ?_⟩
    refine ⟨fun σ' H' => ∃ (c d : Addr) (lo sh : Row), σ' = [some (.int p), some (.ref a), some (.ref b), some (.ref c), some (.ref d), none, none, none] ∧ Same H H' ∧ IL H' c lo ∧ IL H' d sh ∧ sh.length ≤ lo.length ∧ lo.length ≤ 100 ∧ (∀ x ∈ lo, 0 ≤ x ∧ x < p) ∧ (∀ x ∈ sh, 0 ≤ x ∧ x < p) ∧ ∀ k, ent lo k + ent sh k = ent one k + ent other k, ?_, fun σ' H' hW => ?_⟩
    · refine ⟨_, rfl, a, _, rfl, .inl (IL.sq ia), _, rfl, b, _, rfl, .inl (IL.sq ib), _, _, rfl, rfl, _, rfl, ?_⟩
      rw [List.length_map, List.length_map]
      refine ite2 (fun c => ?_) (fun c => ?_)
      · have c' : other.length ≤ one.length := by have := of_decide_eq_true c; omega
        refine ⟨_, rfl, _, rfl, (by show 2 ≤ sizeLine; decide), fun t nt => ?_⟩
        have s1 : Same H (L2.upd H t (.tup [.ref a, .ref b])) := same_new nt
        refine ⟨t, _, rfl, .inl (.inl upd_same), rfl, _, _, rfl, _, _, rfl, rfl, ?_⟩
        exact ⟨a, b, one, other, rfl, s1, s1 _ _ ia, s1 _ _ ib, c', la, A1.rng, B1.rng, fun k => rfl⟩
      · have c' : one.length ≤ other.length := by
          have : ¬ ((other.length : Int) ≤ (one.length : Int)) := fun z => c (decide_eq_true z)
          omega
        refine ⟨_, rfl, _, rfl, (by show 2 ≤ sizeLine; decide), fun t nt => ?_⟩
        have s1 : Same H (L2.upd H t (.tup [.ref b, .ref a])) := same_new nt
        refine ⟨t, _, rfl, .inl (.inl upd_same), rfl, _, _, rfl, _, _, rfl, rfl, ?_⟩
        exact ⟨b, a, other, one, rfl, s1, s1 _ _ ib, s1 _ _ ia, c', lb, B1.rng, A1.rng, fun k => by omega⟩
    · obtain ⟨c, d, lo, sh, rfl, sm, ic, id, le, lc, rc, rd, ev⟩ := hW
      refine ⟨_, rfl, c, _, rfl, .inl (IL.sq ic), fun z nz => ?_⟩
      have s1 : Same H' (L2.upd H' z (.lst (iv lo))) := same_new nz
      have iz : IL (L2.upd H' z (.lst (iv lo))) z lo := upd_same
      generalize L2.upd H' z (.lst (iv lo)) = H1 at *
      have id1 : IL H1 d sh := s1 _ _ id
      refine ⟨_, rfl, d, _, rfl, IL.sq id1, ?_⟩
      refine for_it (walk_enum (K := K) (a := d) (xs := iv sh)) (fun j σ H4 => ∃ L y6 y7, σ = [some (.int p), some (.ref a), some (.ref b), some (.ref c), some (.ref d), some (.ref z), y6, y7] ∧ Same H' H4 ∧ IL H4 z L ∧ L.length = lo.length ∧ (∀ x ∈ L, 0 ≤ x ∧ x < p) ∧ ∀ k, cg p (ent L k) (ent lo k + (if k < j then ent sh k else 0)))
        ⟨lo, none, none, rfl, s1, iz, rfl, rc, fun k => cg.of_eq (by rw [if_neg (by omega)]; omega)⟩ (fun j σ H4 _ h => ?_) (fun j x σ H4 H5 hj hW y => ?_) (fun σ H4 hW => ?_)
      · obtain ⟨_, _, _, _, sm4, _⟩ := h
        exact IL.sq (sm4 _ _ id)
      · obtain ⟨L, y6, y7, rfl, sm4, iL, lL, rL, eL⟩ := hW
        obtain ⟨T, x1, x2, rfl, nT, rfl, g1, g2⟩ := y
        cases Option.some.inj g1
        obtain ⟨v, hv, rfl⟩ := iv_inv g2
        have hjl : j < sh.length := by rw [List.length_map] at hj; exact hj
        have ez : v = ent sh j := by
          rw [ent_some hjl] at hv
          exact (Option.some.inj hv).symm
        have sT : Same H4 (L2.upd H4 T (.tup [.int (j : Int), .int v])) := same_new nT
        have iL5 : IL (L2.upd H4 T (.tup [.int (j : Int), .int v])) z L := sT _ _ iL
        have sm5 := sm4.trans sT
        refine ⟨T, _, rfl, .inl (.inl upd_same), rfl, _, _, rfl, _, _, rfl, rfl, ?_⟩
        generalize L2.upd H4 T (.tup [.int (j : Int), .int v]) = H6 at *
        have jin : j < L.length := by omega
        refine ⟨_, rfl, _, rfl, z, _, _, _, rfl, rfl, IL.sq iL5, at_of (j := j) rfl (iv_ent jin), _, rfl, _, _, rfl, rfl, _, rfl, _, _, rfl, rfl, hp, ?_⟩
        refine ⟨_, rfl, _, rfl, z, _, _, j, rfl, rfl, iL5, ix_set (by rw [List.length_map]; exact jin), ?_⟩
        refine ⟨L.set j ((ent L j + v) % p), _, _, rfl, same_upd nz sm5, IL.set, by rw [List.length_set, lL], rng_set rL (Int.emod_nonneg _ (by omega)) (Int.emod_lt_of_pos _ hp), fun k => ?_⟩
        rw [ent_set2 jin]
        by_cases e : k = j
        · rw [if_pos e, if_pos (by omega), e]
          have h4 := eL j
          rw [if_neg (by omega)] at h4
          refine (cg.emod p _).trans ?_
          have h5 := h4.add (cg.refl p v)
          exact h5.trans (cg.of_eq (by rw [ez]; omega))
        · rw [if_neg e]
          refine (eL k).trans (cg.of_eq ?_)
          by_cases h : k < j
          · rw [if_pos h, if_pos (by omega)]
          · rw [if_neg h, if_neg (by omega)]
      · obtain ⟨L, y6, y7, rfl, sm4, iL, lL, rL, eL⟩ := hW
        rw [List.length_map] at eL
        refine ⟨_, rfl, ⟨p, z, L, rfl, iL, rL, by omega, fun H5 u r s5 nu iu pr er lr => ?_⟩⟩
        refine q H5 u r (sm.trans (sm4.trans s5)) (same_none sm (same_none sm4 nu)) iu pr (by omega) fun k => ?_
        rw [er k, ← ev k]
        refine (eL k).trans (cg.of_eq ?_)
        by_cases h : k < sh.length
        · rw [if_pos h]
        · rw [if_neg h, ent_out (a := sh) (by omega)]
end

/-! ### poly_times -/
section
variable {P : Program} {w : World} {K : PySem.W.Frag} {mg : Str → Option Value} {base : Heap}
abbrev sPtm : Stmt := topS 8
theorem scPtm : FnScope ["p", "one", "other", "total", "at", "rest", "behind", "times"] ["p", "one", "other"] (defScope sPtm) := ⟨rfl, rfl, rfl, by decide +kernel, rfl, by decide +kernel, by decide +kernel⟩
def spPtm : Sp := fun vs H Q _ => ∃ (p : Int) (a b : Addr) (one other : Row), vs = [.int p, .ref a, .ref b] ∧ P5 p ∧ IL H a one ∧ IL H b other ∧ Pol p one ∧ Pol p other ∧ one.length ≤ 100 ∧ other.length ≤ 100 ∧ ∀ H' q r, Same H H' → H q = none → IL H' q r → Pol p r → r.length ≤ 200 → (∀ k, cg p (ent r k) (cnvN one.length (ent one) (ent other) k)) → Q (.ref q) H'
theorem ok_ptm {f : Addr} {fd : FuncData} {k : Nat} (F : Fun K "poly_times" "poly_times" sPtm f fd)
    (ml : mg "len" = none) (me : mg "enumerate" = none) : FnOk P w K mg base CX0 (k + 1) f fd ["p", "one", "other"] spPtm := by
  refine F.ok scPtm (fun vs H Q E h => ?_) (fun cdv A outer s H vs Q E hr h => ?_)
  · obtain ⟨p, a, b, one, other, rfl, _⟩ := h
    rfl
  · obtain ⟨p, a, b, one, other, rfl, h5, ia, ib, A1, B1, la, lb, q⟩ := h
    refine ⟨_, pss_cons (ps_if (PW.pt (pw_or (pt_not (pt_truth (pv 1) (by intro _; rfl))) (pw_or1 (pt_not (pt_truth (pv 2) (by intro _; rfl)))))) (pss_one (ps_ret (pe_lst pa_nil))) pss_nil)
      (pss_cons (ps_set (i := 3) scPtm.nd rfl (.inl rfl) (pe_op op_rep (pe_lst (pa_cons pe_int pa_nil)) (pe_op op_sub (pe_op op_add (pe_callB call_len_seq (by rfl) ml PySem.boot_len (pa_cons (pv 1) pa_nil)) (pe_callB call_len_seq (by rfl) ml PySem.boot_len (pa_cons (pv 2) pa_nil))) pe_int)))
      (pss_cons (ps_for PassesOwn.never rfl (pi_enum (by rfl) me (pa_cons (pv 1) pa_nil)) (pg_tup rfl (pgs_cons (pg_name (i := 4) scPtm.nd rfl (Or.inl rfl)) (pgs_cons (pg_name (i := 5) scPtm.nd rfl (Or.inl rfl)) pgs_nil)))
        (pss_one (ps_for PassesOwn.never rfl (pi_enum (by rfl) me (pa_cons (pv 2) pa_nil)) (pg_tup rfl (pgs_cons (pg_name (i := 6) scPtm.nd rfl (Or.inl rfl)) (pgs_cons (pg_name (i := 7) scPtm.nd rfl (Or.inl rfl)) pgs_nil)))
          (pss_one (ps_asg (pe_op op_mod (pe_op op_add (pe_ix ix_list (pv 3) (pe_op op_add (pv 4) (pv 6)) (fun _ _ => rfl)) (pe_op op_mul (pv 5) (pv 7))) (pv 0)) (pg_sub (pv 3) (pe_op op_add (pv 4) (pv 6)) set_list (fun _ => rfl)))))))
      (pss_one (ps_ret (pv 3))))), ?_⟩
    have two := h5.two
    have le := h5.le
    have zn : ∀ {u : Row}, u = [] → (iv u).isEmpty = true := fun e => by rw [e]; rfl
    have nn : ∀ {u : Row}, u ≠ [] → (iv u).isEmpty = false := fun {u} e => by
      rw [iv_empty]
      cases u with
      | nil => exact absurd rfl e
      | cons x xs => rfl
    have out : (one = [] ∨ other = []) → ∀ z, H z = none → Q (.ref z) (L2.upd H z (.lst [])) := fun h z nz => by
      refine q _ z [] (same_new nz) nz upd_same ⟨fun x hx => by simp at hx, fun h => absurd rfl h⟩ (Nat.zero_le _) fun k => ?_
      rw [ent_out (Nat.zero_le _)]
      rcases h with h | h
      · rw [h]
        exact cg.refl p 0
      · exact (cnvN_zero (fun j => cg.of_eq (by rw [h]; exact ent_out (Nat.zero_le _))) _ k).symm
    refine ⟨_, rfl, !(iv one).isEmpty, .inl ⟨_, IL.sq ia, rfl⟩, ?_⟩
    by_cases h1 : one = []
    · rw [zn h1]
      exact iteT (iteT ⟨Nat.zero_le _, fun z nz => out (.inl h1) z nz⟩)
    rw [nn h1]
    refine iteF ?_
    refine ⟨_, rfl, !(iv other).isEmpty, .inl ⟨_, IL.sq ib, rfl⟩, ?_⟩
    by_cases h2 : other = []
    · rw [zn h2]
      exact iteT ⟨Nat.zero_le _, fun z nz => out (.inr h2) z nz⟩
    rw [nn h2]
    refine iteF ?_
    have l1 := ne_nil_len.mp h1
    have l2 := ne_nil_len.mp h2
    refine ⟨(by show 1 ≤ sizeLine; decide), fun t1 nt1 => ?_⟩
    have s2 : Same H (L2.upd H t1 (.lst [.int 0])) := same_new nt1
    refine ⟨_, rfl, a, _, rfl, .inl (IL.sq (s2 _ _ ia)), _, rfl, b, _, rfl, .inl (IL.sq (s2 _ _ ib)), _, _, rfl, rfl, _, _, rfl, rfl, ?_⟩
    obtain ⟨d, hd⟩ : ∃ d, d = one.length + other.length - 1 := ⟨_, rfl⟩
    have ed : ((iv one).length : Int) + ((iv other).length : Int) - 1 = (d : Int) := by
      rw [List.length_map, List.length_map]
      omega
    dsimp only
    rw [ed]
    refine ⟨t1, (d : Int), _, rfl, rfl, upd_same, by omega, by omega, ?_, fun z nz => ?_⟩
    · rw [Int.toNat_natCast, List.length_singleton, Nat.one_mul]
      exact Nat.le_of_lt (small1000 (by omega))
    have s3 : Same H (L2.upd (L2.upd H t1 (.lst [.int 0])) z (.lst (List.replicate (d : Int).toNat [V.int 0]).flatten)) := s2.trans (same_new nz)
    have iz : IL (L2.upd (L2.upd H t1 (.lst [.int 0])) z (.lst (List.replicate (d : Int).toNat [V.int 0]).flatten)) z (zeros d) := by
      show (L2.upd _ z _) z = _
      rw [upd_same, rep_zeros]
    have nz1 : H z = none := same_none s2 nz
    generalize L2.upd (L2.upd H t1 (.lst [.int 0])) z (.lst (List.replicate (d : Int).toNat [V.int 0]).flatten) = H2 at *
    refine ⟨_, rfl, a, _, rfl, IL.sq (s3 _ _ ia), ?_⟩
    refine for_it (walk_enum (K := K) (a := a) (xs := iv one)) (fun i σ H4 => ∃ L y4 y5 y6 y7, σ = [some (.int p), some (.ref a), some (.ref b), some (.ref z), y4, y5, y6, y7] ∧ Same H H4 ∧ IL H4 z L ∧ L.length = d ∧ (∀ x ∈ L, 0 ≤ x ∧ x < p) ∧ ∀ k, cg p (ent L k) (cnvN i (ent one) (ent other) k))
      ⟨zeros d, none, none, none, none, rfl, s3, iz, zeros_len, (zeros_wf (show 0 < p by omega)).rng, fun k => cg.of_eq zeros_ent⟩ (fun i σ H4 _ h => ?_) (fun i x σ H4 H5 hi hW y => ?_) (fun σ H4 hW => ?_)
    · obtain ⟨_, _, _, _, _, _, sm4, _⟩ := h
      exact IL.sq (sm4 _ _ ia)
    · obtain ⟨L, y4, y5, y6, y7, rfl, sm4, iL, lL, rL, eL⟩ := hW
      obtain ⟨T, x1, x2, rfl, nT, rfl, g1, g2⟩ := y
      cases Option.some.inj g1
      obtain ⟨u, hu, rfl⟩ := iv_inv g2
      have hil : i < one.length := by rw [List.length_map] at hi; exact hi
      have eu : u = ent one i := by
        rw [ent_some hil] at hu
        exact (Option.some.inj hu).symm
      have ru := A1.rng u (List.mem_of_getElem? hu)
      have sT : Same H4 (L2.upd H4 T (.tup [.int (i : Int), .int u])) := same_new nT
      have iL5 : IL (L2.upd H4 T (.tup [.int (i : Int), .int u])) z L := sT _ _ iL
      have sm5 := sm4.trans sT
      refine ⟨T, _, rfl, .inl (.inl upd_same), rfl, _, _, rfl, _, _, rfl, rfl, ?_⟩
      generalize L2.upd H4 T (.tup [.int (i : Int), .int u]) = H6 at *
      refine ⟨_, rfl, b, _, rfl, IL.sq (sm5 _ _ ib), ?_⟩
      refine for_it (walk_enum (K := K) (a := b) (xs := iv other)) (fun j σ H7 => ∃ L2 y6 y7, σ = [some (.int p), some (.ref a), some (.ref b), some (.ref z), some (.int (i : Int)), some (.int u), y6, y7] ∧ Same H H7 ∧ IL H7 z L2 ∧ L2.length = d ∧ (∀ x ∈ L2, 0 ≤ x ∧ x < p) ∧ ∀ k, cg p (ent L2 k) (ent L k + (if i ≤ k ∧ k < i + j then u * ent other (k - i) else 0)))
        ⟨L, _, _, rfl, sm5, iL5, lL, rL, fun k => cg.of_eq (by rw [if_neg (by omega)]; omega)⟩ (fun j σ H7 _ h => ?_) (fun j x σ H7 H8 hj hW y => ?_) (fun σ H7 hW => ?_)
      · obtain ⟨_, _, _, _, sm7, _⟩ := h
        exact IL.sq (sm7 _ _ ib)
      · obtain ⟨L', y6, y7, rfl, sm7, iL7, lL7, rL7, eL7⟩ := hW
        obtain ⟨T, x1, x2, rfl, nT, rfl, g1, g2⟩ := y
        cases Option.some.inj g1
        obtain ⟨v, hv, rfl⟩ := iv_inv g2
        have hjl : j < other.length := by rw [List.length_map] at hj; exact hj
        have ev : v = ent other j := by
          rw [ent_some hjl] at hv
          exact (Option.some.inj hv).symm
        have rv := B1.rng v (List.mem_of_getElem? hv)
        have sT : Same H7 (L2.upd H7 T (.tup [.int (j : Int), .int v])) := same_new nT
        have iL8 : IL (L2.upd H7 T (.tup [.int (j : Int), .int v])) z L' := sT _ _ iL7
        have sm8 := sm7.trans sT
        refine ⟨T, _, rfl, .inl (.inl upd_same), rfl, _, _, rfl, _, _, rfl, rfl, ?_⟩
        generalize L2.upd H7 T (.tup [.int (j : Int), .int v]) = H9 at *
        have kin : i + j < L'.length := by omega
        have r0 := ent_rng (show 0 < p by omega) rL7 (i + j)
        refine ⟨_, rfl, _, rfl, _, rfl, _, _, rfl, rfl, z, _, _, _, rfl, rfl, IL.sq iL8, at_of (j := i + j) (by omega) (iv_ent kin), _, rfl, _, rfl, _, _, rfl, rfl, .inl ⟨by omega, by omega⟩, _, _, rfl, rfl, _, rfl, _, _, rfl, rfl, (by show 0 < p; omega), ?_⟩
        refine ⟨_, rfl, _, rfl, _, rfl, _, _, rfl, rfl, z, _, _, i + j, rfl, rfl, iL8, ?_, ?_⟩
        · rw [show (i : Int) + (j : Int) = ((i + j : Nat) : Int) by omega]
          exact ix_set (by rw [List.length_map]; exact kin)
        refine ⟨L'.set (i + j) ((ent L' (i + j) + u * v) % p), _, _, rfl, same_upd nz1 sm8, IL.set, by rw [List.length_set, lL7], rng_set rL7 (Int.emod_nonneg _ (by omega)) (Int.emod_lt_of_pos _ (by omega)), fun k => ?_⟩
        rw [ent_set2 kin]
        by_cases e : k = i + j
        · rw [if_pos e, if_pos (by omega), e]
          have h4 := eL7 (i + j)
          rw [if_neg (by omega)] at h4
          have h6 := (cg.emod p (ent L' (i + j) + u * v)).trans (h4.add (cg.refl p (u * v)))
          refine h6.trans (cg.of_eq ?_)
          rw [ev, show i + j - i = j by omega]
          omega
        · rw [if_neg e]
          refine (eL7 k).trans (cg.of_eq ?_)
          by_cases h : i ≤ k ∧ k < i + j
          · rw [if_pos h, if_pos (by omega)]
          · rw [if_neg h, if_neg (by omega)]
      · obtain ⟨L', y6, y7, rfl, sm7, iL7, lL7, rL7, eL7⟩ := hW
        rw [List.length_map] at eL7
        refine ⟨L', _, _, _, _, rfl, sm7, iL7, lL7, rL7, fun k => ?_⟩
        refine (eL7 k).trans (((eL k).add (cg.refl p _)).trans (cg.of_eq ?_))
        show cnvN i (ent one) (ent other) k + _ = cnvN i (ent one) (ent other) k + ent one i * shf i (ent other) k
        unfold shf
        by_cases h : i ≤ k
        · rw [if_pos h]
          by_cases h3 : k < i + other.length
          · rw [if_pos ⟨h, h3⟩, eu]
          · rw [if_neg (by omega), ent_out (a := other) (by omega)]
            omega
        · rw [if_neg h, if_neg (by omega)]
          omega
    · obtain ⟨L, y4, y5, y6, y7, rfl, sm4, iL, lL, rL, eL⟩ := hW
      rw [List.length_map] at eL
      refine ⟨_, rfl, q H4 z L sm4 nz1 iL ⟨rL, fun _ => ?_⟩ (by omega) eL⟩
      have e := eL (L.length - 1)
      obtain ⟨n, hn⟩ : ∃ n, one.length = n + 1 := ⟨one.length - 1, by omega⟩
      rw [hn, show L.length - 1 = n + (other.length - 1) by omega, cnv_top (t := other.length - 1) (fun j hj => ent_out (by omega))] at e
      rw [show L.length - 1 = n + (other.length - 1) by omega]
      intro z0
      rw [z0] at e
      have r1 := last_rng (show 0 < p by omega) A1 h1
      have r2 := last_rng (show 0 < p by omega) B1 h2
      unfold lastE at r1 r2
      rw [show one.length - 1 = n by omega] at r1
      exact unit_ne h5 r1.1 r1.2 r2.1 r2.2 e.symm
end

/-! ### _law_cell -/
section
variable {P : Program} {w : World} {K : PySem.W.Frag} {mg : Str → Option Value} {base : Heap}
abbrev sCell : Stmt := topS 10

theorem scCell : FnScope ["_law_script", "_law_k", "_law_seed"] ["_law_script", "_law_k"] (defScope sCell) := ⟨rfl, rfl, rfl, by decide +kernel, rfl, by decide +kernel, by decide +kernel⟩

def spCell (K : PySem.W.Frag) : Sp := fun vs H Q _ => ∃ (a : Addr) (ns : List Int) (k : Nat), vs = [.ref a, .int (k : Int)] ∧ SqL K H a (iv ns) ∧ k ≤ 1000 ∧ ∀ c : Int, Q (.int c) H

theorem ok_cell {f : Addr} {fd : FuncData} {k : Nat} (F : Fun K "_law_cell" "_law_cell" sCell f fd) (ml : mg "len" = none) : FnOk P w K mg base CX0 (k + 1) f fd ["_law_script", "_law_k"] (spCell K) := by
  refine F.ok scCell (fun vs H Q E h => ?_) (fun cdv A outer s H vs Q E hr h => ?_)
  · obtain ⟨a, ns, k, rfl, _⟩ := h
    rfl
  · obtain ⟨a, ns, k, rfl, hS, hk, q⟩ := h
    refine ⟨_, pss_cons (ps_if (pt_cmpR op_lt (pv 1) (pe_callB call_len_seq (by rfl) ml PySem.boot_len (pa_cons (pv 0) pa_nil)) (nomark _)) (pss_one (ps_ret (pe_ix ix_list (pv 0) (pv 1) (fun _ _ => rfl)))) pss_nil)
      (pss_cons (ps_set (i := 2) scCell.nd rfl (.inl rfl) (pe_op op_add (pe_op op_mul pe_int (pv 1)) pe_int))
      (C8.pss_cut (ps_if (pt_cmpR op_gt (pe_callB call_len_seq (by rfl) ml PySem.boot_len (pa_cons (pv 0) pa_nil)) pe_int (nomark _))
        (pss_one (ps_set (i := 2) scCell.nd rfl (.inl rfl) (pe_op op_add (pv 2) (pe_op op_mod (pe_ix ix_list (pv 0) (pe_op op_mod (pv 1) (pe_callB call_len_seq (by rfl) ml PySem.boot_len (pa_cons (pv 0) pa_nil))) (fun _ _ => rfl)) pe_int)))) pss_nil)
      (pss_one (ps_ret (pe_op op_mod (pe_op op_mul (pe_op op_mod (pe_op op_mul (pv 2) pe_int) pe_int) (pe_op op_add (pv 1) pe_int)) pe_int))))), ?_⟩
    have hl : (iv ns).length = ns.length := List.length_map _
    refine ⟨_, rfl, _, rfl, a, _, rfl, .inl hS, _, _, rfl, rfl, _, rfl, ?_⟩
    rw [hl]
    refine ite2 (fun c => ?_) (fun c => ?_)
    · have c' := of_decide_eq_true c
      exact ⟨_, rfl, _, rfl, a, _, _, _, rfl, rfl, hS, atI_nat (iv_ent (by omega)), q _⟩
    · refine ⟨_, rfl, _, _, rfl, rfl, .inl ⟨by omega, by omega⟩, _, _, rfl, rfl, ?_⟩
      refine ⟨fun σ' H' => ∃ sd : Int, σ' = [some (.ref a), some (.int (k : Int)), some (.int sd)] ∧ H' = H ∧ 0 ≤ sd ∧ sd < 100000000, ?_, fun σ' H' hW => ?_⟩
      · refine ⟨_, rfl, a, _, rfl, .inl hS, _, _, rfl, rfl, _, rfl, ?_⟩
        rw [hl]
        refine ite2 (fun c => ?_) (fun c => ?_)
        · have c' := of_decide_eq_true c
          have b1 := Int.emod_nonneg (k : Int) (show (ns.length : Int) ≠ 0 by omega)
          have b2 := Int.emod_lt_of_pos (k : Int) (show (0 : Int) < ns.length by omega)
          obtain ⟨j, hj⟩ := Int.eq_ofNat_of_zero_le b1
          have hjl : j < ns.length := by omega
          refine ⟨_, rfl, _, rfl, _, rfl, _, rfl, a, _, rfl, .inl hS, _, _, rfl, rfl, (by show (0 : Int) < ((iv ns).length : Int); rw [hl]; omega), a, _, _, _, rfl, rfl, hS, at_of (j := j) (by rw [← hj, hl]) (iv_ent hjl), _, _, rfl, rfl, (by show (0 : Int) < 65519; decide), _, _, rfl, rfl, ?_⟩
          have b3 := Int.emod_nonneg (ent ns j) (show (65519 : Int) ≠ 0 by decide)
          have b4 := Int.emod_lt_of_pos (ent ns j) (show (0 : Int) < 65519 by decide)
          exact ⟨_, rfl, rfl, by omega, by omega⟩
        · exact ⟨_, rfl, rfl, by omega, by omega⟩
      · obtain ⟨sd, rfl, rfl, h0, h1⟩ := hW
        refine ⟨_, rfl, _, _, rfl, rfl, .inl ⟨by omega, by omega⟩, _, _, rfl, rfl, (by show (0 : Int) < 65537; decide), _, rfl, _, _, rfl, rfl, _, _, rfl, rfl, .inr ⟨by omega, by omega⟩, _, _, rfl, rfl, (by show (0 : Int) < 65521; decide), q _⟩
end

/-! ### _law_bag -/
section
variable {P : Program} {w : World} {K : PySem.W.Frag} {mg : Str → Option Value} {base : Heap}
abbrev sBag : Stmt := topS 11

theorem scBag : FnScope ["_law_script", "_law_at", "_law_cell_here"] ["_law_script", "_law_at"] (defScope sBag) := ⟨rfl, rfl, rfl, by decide +kernel, rfl, by decide +kernel, by decide +kernel⟩

def spBag (K : PySem.W.Frag) : Sp := fun vs H Q _ => ∃ (a : Addr) (ns : List Int) (k : Nat), vs = [.ref a, .int (k : Int)] ∧ SqL K H a (iv ns) ∧ k ≤ 1000 ∧ ∀ q H', H q = none → Same H H' → Bg H' q 1001 → Q (.ref q) H'

theorem ok_bag {f fC : Addr} {fd fdC : FuncData} {k : Nat} (F : Fun K "_law_bag" "_law_bag" sBag f fd)
    (GC : FnOk P w K mg base CX0 (k + 1) fC fdC ["_law_script", "_law_k"] (spCell K)) (bC : Binds K fdC ["_law_script", "_law_k"] []) (kC : PySem.W.keepIn K (.ref fC) = true) (mC : mg "_law_cell" = some (.ref fC)) (ma : mg "abs" = none) :
    FnOk P w K mg base CX0 (k + 2) f fd ["_law_script", "_law_at"] (spBag K) := by
  refine F.ok scBag (fun vs H Q E h => ?_) (fun cdv A outer s H vs Q E hr h => ?_)
  · obtain ⟨a, ns, k, rfl, _⟩ := h
    rfl
  · obtain ⟨a, ns, k, rfl, hS, hk, q⟩ := h
    refine ⟨_, pss_cons (ps_set (i := 2) scBag.nd rfl (.inl rfl) (pe_call GC hr (by rfl) mC kC bC .nil pass0 (pa_cons (pv 0) (pa_cons (pv 1) pa_nil))))
      (pss_cons (ps_if (pt_cmpR op_ge (pe_callB call_abs (by rfl) ma (by decide +kernel) (pa_cons (pv 2) pa_nil)) (pe_op op_pow pe_int pe_int) (nomark _))
        (pss_one (ps_ret (pe_lst (pa_cons (pe_callB call_abs (by rfl) ma (by decide +kernel) (pa_cons (pv 2) pa_nil)) (pa_cons pe_int pa_nil))))) pss_nil)
      (pss_one (ps_ret (pe_lst (pa_cons (pe_op op_mod (pv 2) pe_int) (pa_cons (pe_op op_add (pv 1) pe_int) pa_nil)))))), ?_⟩
    refine ⟨_, rfl, _, rfl, ⟨a, ns, k, rfl, hS, hk, fun c => ?_⟩⟩
    refine ⟨_, rfl, _, rfl, _, _, rfl, rfl, ⟨by decide, by decide, by decide⟩, _, _, rfl, rfl, _, rfl, ?_⟩
    refine ite2 (fun _ => ?_) (fun _ => ?_)
    · refine ⟨_, rfl, _, rfl, (by show 2 ≤ sizeLine; decide), fun l nl => q l _ nl (same_new nl) ⟨_, 0, upd_same, ?_, by omega, by omega, .inl rfl⟩⟩
      split <;> omega
    · refine ⟨_, rfl, _, _, rfl, rfl, (by show (0 : Int) < 2147483647; decide), _, rfl, _, _, rfl, rfl, (by show 2 ≤ sizeLine; decide), fun l nl => q l _ nl (same_new nl) ⟨_, _, upd_same, Int.emod_nonneg _ (by decide), by omega, by omega, .inr (Int.emod_lt_of_pos _ (by decide))⟩⟩
end

/-! ### _law_take -/
section
variable {P : Program} {w : World} {K : PySem.W.Frag} {mg : Str → Option Value} {base : Heap}
abbrev sTake : Stmt := topS 12

theorem scTake : FnScope ["_law_bag_here", "_law_many", "_law_digit"] ["_law_bag_here", "_law_many"] (defScope sTake) := ⟨rfl, rfl, rfl, by decide +kernel, rfl, by decide +kernel, by decide +kernel⟩

def spTake : Sp := fun vs H Q _ => ∃ (b : Addr) (m : Int) (c : Nat), vs = [.ref b, .int m] ∧ 0 < m ∧ m < 1152921504606846976 ∧ Bg H b c ∧ c < 2 ^ 40 ∧ ∀ (d : Int) H', 0 ≤ d → d < m → Off b H H' → (∀ q, q ≠ b → H' q = H q) → Bg H' b (c + 1) → Q (.int d) H'

theorem ok_take {f : Addr} {fd : FuncData} {k : Nat} (F : Fun K "_law_take" "_law_take" sTake f fd) : FnOk P w K mg base CX0 (k + 1) f fd ["_law_bag_here", "_law_many"] spTake := by
  refine F.ok scTake (fun vs H Q E h => ?_) (fun cdv A outer s H vs Q E hr h => ?_)
  · obtain ⟨a, m, c, rfl, _⟩ := h
    rfl
  · obtain ⟨b, m, c, rfl, h0, h1, ⟨x, y, hb, hx, hy, hyc, hxy⟩, hc, q⟩ := h
    refine ⟨_, pss_cons (ps_if (pt_cmpR op_eq (pe_ix ix_list (pv 0) pe_int (fun _ _ => rfl)) pe_int (nomark _))
        (pss_cons (ps_set (i := 2) scTake.nd rfl (.inl rfl) (pe_op op_mod (pe_ix ix_list (pv 0) pe_int (fun _ _ => rfl)) (pv 1)))
        (pss_cons (ps_asg (pe_op op_fdivW (pe_ix ix_list (pv 0) pe_int (fun _ _ => rfl)) (pv 1)) (pg_sub (pv 0) pe_int set_list (fun _ => rfl)))
        (pss_one (ps_ret (pv 2))))) pss_nil)
      (pss_cons (ps_asg (pe_op op_mod (pe_op op_add (pe_op op_add (pe_op op_mul (pe_ix ix_list (pv 0) pe_int (fun _ _ => rfl)) pe_int) (pe_op op_mul (pe_op op_mul pe_int (pe_ix ix_list (pv 0) pe_int (fun _ _ => rfl))) (pe_ix ix_list (pv 0) pe_int (fun _ _ => rfl)))) pe_int) pe_int) (pg_sub (pv 0) pe_int set_list (fun _ => rfl)))
      (pss_cons (ps_asg (pe_op op_add (pe_ix ix_list (pv 0) pe_int (fun _ _ => rfl)) pe_int) (pg_sub (pv 0) pe_int set_list (fun _ => rfl)))
      (pss_one (ps_ret (pe_op op_mod (pe_op op_fdiv (pe_op op_mod (pe_op op_mul (pe_ix ix_list (pv 0) pe_int (fun _ _ => rfl)) pe_int) pe_int) pe_int) (pv 1)))))), ?_⟩
    refine ⟨_, rfl, b, _, _, _, rfl, rfl, SqL.of hb, atI_nat (j := 1) rfl, rfl, _, rfl, ite2 (fun e => ?_) (fun e => ?_)⟩
    · refine ⟨_, rfl, b, _, _, _, rfl, rfl, SqL.of hb, atI_nat (j := 0) rfl, _, rfl, _, _, rfl, rfl, h0, ?_⟩
      refine ⟨_, rfl, b, _, _, _, rfl, rfl, SqL.of hb, atI_nat (j := 0) rfl, _, rfl, _, _, rfl, rfl, wide_div (b := 60) h0 (by omega) (by decide) (by decide), _, rfl, b, _, _, 0, rfl, rfl, hb, rfl, ?_⟩
      have ey : y = 0 := V.int.inj (of_decide_eq_true e)
      refine ⟨_, rfl, q _ _ (Int.emod_nonneg _ (by omega)) (Int.emod_lt_of_pos _ h0) (fun r o n h => by rw [upd_ne n]; exact h) (fun r n => upd_ne n) ⟨_, y, upd_same, Int.ediv_nonneg hx (by omega), hy, by omega, .inl ey⟩⟩
    · have ny : y ≠ 0 := fun z => e (decide_eq_true (congrArg V.int z))
      have hx2 : x < 2147483647 := hxy.resolve_left ny
      refine ⟨_, rfl, b, _, _, _, rfl, rfl, SqL.of hb, atI_nat (j := 0) rfl, _, _, rfl, rfl, .inl ⟨by omega, by omega⟩, _, rfl, b, _, _, _, rfl, rfl, SqL.of hb, atI_nat (j := 1) rfl, _, _, rfl, rfl, .inl ⟨by omega, by omega⟩, _, rfl, b, _, _, _, rfl, rfl, SqL.of hb, atI_nat (j := 1) rfl, _, _, rfl, rfl, .inr ⟨by omega, by omega⟩, _, _, rfl, rfl, _, _, rfl, rfl, _, _, rfl, rfl, (by show (0 : Int) < 2147483647; decide), _, rfl, b, _, _, 0, rfl, rfl, hb, rfl, ?_⟩
      have m0 : ∀ z : Int, 0 ≤ z % 2147483647 := fun z => Int.emod_nonneg _ (by decide)
      have m1 : ∀ z : Int, z % 2147483647 < 2147483647 := fun z => Int.emod_lt_of_pos _ (by decide)
      dsimp only
      generalize hz : (x * 48271 + 7919 * y * y + 17) % 2147483647 = z at *
      have z0 : 0 ≤ z := hz ▸ m0 _
      have z1 : z < 2147483647 := hz ▸ m1 _
      have hb2 : (upd H b (.lst ([V.int x, V.int y].set 0 (.int z)))) b = some (.lst [.int z, .int y]) := upd_same
      refine ⟨_, rfl, b, _, _, _, rfl, rfl, SqL.of hb2, atI_nat (j := 1) rfl, _, _, rfl, rfl, _, rfl, b, _, _, 1, rfl, rfl, hb2, rfl, ?_⟩
      refine ⟨_, rfl, b, [.int z, .int (y + 1)], _, _, rfl, rfl, SqL.of upd_same, atI_nat (j := 0) rfl, _, _, rfl, rfl, .inl ⟨by omega, by omega⟩, _, _, rfl, rfl, (by show (0 : Int) < 2147483629; decide), _, _, rfl, rfl, ⟨by decide, by decide⟩, _, rfl, _, _, rfl, rfl, h0, ?_⟩
      exact q _ _ (Int.emod_nonneg _ (by omega)) (Int.emod_lt_of_pos _ h0) (fun r o n h => by rw [upd_ne n, upd_ne n]; exact h) (fun r n => by rw [upd_ne n, upd_ne n]) ⟨z, y + 1, upd_same, z0, by omega, by omega, .inr z1⟩
end

/-! ### _law_prime -/
section
variable {P : Program} {w : World} {K : PySem.W.Frag} {mg : Str → Option Value} {base : Heap}
abbrev sPrime : Stmt := topS 13

theorem scPrime : FnScope ["_law_bag_here"] ["_law_bag_here"] (defScope sPrime) := ⟨rfl, rfl, rfl, by decide +kernel, rfl, by decide +kernel, by decide +kernel⟩

def spPrime : Sp := fun vs H Q _ => ∃ (b : Addr) (c : Nat), vs = [.ref b] ∧ Bg H b c ∧ c < 2 ^ 40 ∧ ∀ p H', P5 p → Off b H H' → Bg H' b (c + 1) → Q (.int p) H'

theorem ok_prime {f fT : Addr} {fd fdT : FuncData} {k : Nat} (F : Fun K "_law_prime" "_law_prime" sPrime f fd)
    (GT : FnOk P w K mg base CX0 (k + 1) fT fdT ["_law_bag_here", "_law_many"] spTake) (bT : Binds K fdT ["_law_bag_here", "_law_many"] []) (kT : PySem.W.keepIn K (.ref fT) = true) (mT : mg "_law_take" = some (.ref fT)) :
    FnOk P w K mg base CX0 (k + 2) f fd ["_law_bag_here"] spPrime := by
  refine F.ok scPrime (fun vs H Q E h => ?_) (fun cdv A outer s H vs Q E hr h => ?_)
  · obtain ⟨a, c, rfl, _⟩ := h
    rfl
  · obtain ⟨b, c, rfl, hb, hc, q⟩ := h
    refine ⟨_, pss_one (ps_ret (pe_ix ix_list (pe_lst (pa_cons pe_int (pa_cons pe_int (pa_cons pe_int (pa_cons pe_int (pa_cons pe_int pa_nil)))))) (pe_call GT hr (by rfl) mT kT bT .nil pass0 (pa_cons (pv 0) (pa_cons pe_int pa_nil))) (fun _ _ => rfl))), ?_⟩
    refine ⟨(by show 5 ≤ sizeLine; decide), fun l nl => ?_⟩
    have nb := hb.ne nl
    refine ⟨_, rfl, ⟨b, 5, c, rfl, by decide, by decide, hb.same (upd_ne nb.symm), hc, fun d H' d0 d5 off hq hb' => ?_⟩⟩
    have hl : H' l = some (.lst [.int 2, .int 3, .int 5, .int 7, .int 11]) := off _ _ nb upd_same
    have off2 : Off b H H' := fun r o n e => off r o n (by rw [upd_ne (ne_of_none e nl)]; exact e)
    have cs : d = 0 ∨ d = 1 ∨ d = 2 ∨ d = 3 ∨ d = 4 := by omega
    rcases cs with rfl | rfl | rfl | rfl | rfl
    · exact ⟨l, _, _, _, rfl, rfl, SqL.of hl, atI_nat (j := 0) rfl, q _ _ (.inl rfl) off2 hb'⟩
    · exact ⟨l, _, _, _, rfl, rfl, SqL.of hl, atI_nat (j := 1) rfl, q _ _ (.inr (.inl rfl)) off2 hb'⟩
    · exact ⟨l, _, _, _, rfl, rfl, SqL.of hl, atI_nat (j := 2) rfl, q _ _ (.inr (.inr (.inl rfl))) off2 hb'⟩
    · exact ⟨l, _, _, _, rfl, rfl, SqL.of hl, atI_nat (j := 3) rfl, q _ _ (.inr (.inr (.inr (.inl rfl)))) off2 hb'⟩
    · exact ⟨l, _, _, _, rfl, rfl, SqL.of hl, atI_nat (j := 4) rfl, q _ _ (.inr (.inr (.inr (.inr rfl)))) off2 hb'⟩
end

/-! ### _law_poly -/
section
variable {P : Program} {w : World} {K : PySem.W.Frag} {mg : Str → Option Value} {base : Heap}
abbrev sPly : Stmt := topS 14
theorem scPly : FnScope ["_law_p", "_law_most", "_law_bag_here", "_law_numbers", "_law_k"] ["_law_p", "_law_most", "_law_bag_here"] (defScope sPly) := ⟨rfl, rfl, rfl, by decide +kernel, rfl, by decide +kernel, by decide +kernel⟩
def spPly : Sp := fun vs H Q _ => ∃ (p : Int) (most : Nat) (b : Addr) (c : Nat), vs = [.int p, .int (most : Int), .ref b] ∧ 0 < p ∧ p ≤ 11 ∧ most ≤ 50 ∧ Bg H b c ∧ c < 2 ^ 30 ∧ ∀ H' q r, Off b H H' → H q = none → IL H' q r → Pol p r → r.length ≤ most + 1 → Bg H' b (c + most + 2) → Q (.ref q) H'
theorem ok_ply {f fT : Addr} {fd fdT : FuncData} {k : Nat} (F : Fun K "_law_poly" "_law_poly" sPly f fd)
    (GT : FnOk P w K mg base CX0 (k + 1) fT fdT ["_law_bag_here", "_law_many"] spTake) (bT : Binds K fdT ["_law_bag_here", "_law_many"] []) (kT : PySem.W.keepIn K (.ref fT) = true) (mT : mg "_law_take" = some (.ref fT))
    (mr : mg "range" = none) (ml : mg "len" = none) : FnOk P w K mg base CX0 (k + 2) f fd ["_law_p", "_law_most", "_law_bag_here"] spPly := by
  refine F.ok scPly (fun vs H Q E h => ?_) (fun cdv A outer s H vs Q E hr h => ?_)
  · obtain ⟨p, most, b, c, rfl, _⟩ := h
    rfl
  · obtain ⟨p, most, b, c, rfl, hp, hp2, hm, hb, hc, q⟩ := h
    refine ⟨_, pss_cons (ps_set (i := 3) scPly.nd rfl (.inl rfl) (pe_lst pa_nil))
      (pss_cons (ps_for PassesOwn.never rfl (pi_range1 rfl mr (pa_cons (pe_call GT hr (by rfl) mT kT bT .nil pass0 (pa_cons (pv 2) (pa_cons (pe_op op_add (pv 1) pe_int) pa_nil))) pa_nil)) (pg_name (i := 4) scPly.nd rfl (Or.inl rfl))
        (pss_one (ps_expr (pe_bm PySem.F.plainAttrs_list PySem.F.slot_list_append PySem.F.type_list_append mt_append (pv 3) (pa_cons (pe_call GT hr (by rfl) mT kT bT .nil pass0 (pa_cons (pv 2) (pa_cons (pv 0) pa_nil))) pa_nil)))))
      (pss_cons (ps_while PassesOwn.never (pt_imp (fun σ H Q => ∃ (a : Addr) (m : Row), σ[3]? = some (some (V.ref a)) ∧ IL H a m ∧ Q (decide (m ≠ [] ∧ lastE m = 0)) H)
          (PW.pt (pw_and (pt_cmpR op_gt (pe_callB call_len_seq (by rfl) ml PySem.boot_len (pa_cons (pv 3) pa_nil)) pe_int (nomark _)) (pw_and1 (pt_cmpR op_eq (pe_ix ix_list (pv 3) (pe_un un_neg pe_int) (fun _ _ => rfl)) pe_int (nomark _)))))
          (fun σ H Q h => by
            obtain ⟨a, m, e, hm, q⟩ := h
            refine Exists.intro _ (And.intro e ?_)
            refine Exists.intro a ⟨_, rfl, .inl (IL.sq hm), _, _, rfl, rfl, _, rfl, ?_⟩
            rw [List.length_map]
            by_cases h0 : m = []
            · rw [decide_eq_false (show ¬ (0 : Int) < (m.length : Int) by rw [h0]; decide)]
              refine iteF ?_
              rw [decide_eq_false (fun z => z.1 h0)] at q
              exact q
            · rw [decide_eq_true (show (0 : Int) < (m.length : Int) by have := ne_nil_len.mp h0; omega)]
              refine iteT ?_
              refine Exists.intro _ (And.intro e ?_)
              refine Exists.intro _ ⟨rfl, a, _, _, _, rfl, rfl, IL.sq hm, at_last h0, rfl, _, rfl, ?_⟩
              rw [show decide (V.int (lastE m) = V.int 0) = decide (m ≠ [] ∧ lastE m = 0) from decide_eq_decide.mpr ⟨fun z => ⟨h0, V.int.inj z⟩, fun z => congrArg V.int z.2⟩]
              exact q))
        (pss_one (ps_expr (pe_bm0 PySem.F.plainAttrs_list PySem.F.slot_list_pop PySem.F.type_list_pop mt_pop (pv 3)))))
      (pss_one (ps_ret (pv 3))))), ?_⟩
    refine ⟨Nat.zero_le _, fun l nl => ?_⟩
    have nb := hb.ne nl
    refine ⟨_, rfl, _, rfl, _, _, rfl, rfl, ⟨b, (most : Int) + 2, c, rfl, by omega, by omega, hb.same (upd_ne nb.symm), by omega, fun d H1 d0 d1 off1 _ bag1 => ?_⟩⟩
    obtain ⟨D, rfl⟩ := Int.eq_ofNat_of_zero_le d0
    have il0 : IL H1 l [] := off1 _ _ nb upd_same
    have offA : Off b H H1 := fun r o n e => off1 r o n (by rw [upd_ne (ne_of_none e nl)]; exact e)
    refine ⟨(D : Int), rfl, by omega, by omega, ?_⟩
    refine for_range (lo := 0) (n := _) (fun i σ H' => ∃ m y4, σ = [some (.int p), some (.int (most : Int)), some (.ref b), some (.ref l), y4] ∧ Off b H H' ∧ IL H' l m ∧ m.length = i ∧ (∀ x ∈ m, 0 ≤ x ∧ x < p) ∧ Bg H' b (c + 1 + i)) ⟨[], none, rfl, offA, il0, rfl, fun x hx => by simp at hx, bag1⟩ (fun i σ H' hi hW => ?_) (fun σ H' hW => ?_)
    · rw [Int.toNat_natCast] at hi
      obtain ⟨m, y4, rfl, off, il, lm, rm, bag⟩ := hW
      refine ⟨_, rfl, .inl ⟨rfl, _, IL.sq il⟩, _, rfl, _, rfl, ⟨b, p, _, rfl, hp, by omega, bag, by omega, fun x H2 x0 x1 off2 _ bag2 => ?_⟩⟩
      have il2 : IL H2 l m := off2 _ _ nb il
      refine ⟨l, _, _, rfl, rfl, il2, by rw [List.length_map]; exact small1000 (by omega), ?_⟩
      refine ⟨m ++ [x], _, rfl, (off.trans off2).new nl, ?_, by rw [List.length_append, lm]; rfl, fun y hy => ?_, ?_⟩
      · show (L2.upd H2 l _) l = _
        rw [upd_same]
        simp
      · rcases List.mem_append.mp hy with h | h
        · exact rm y h
        · rw [List.mem_singleton.mp h]
          exact ⟨x0, x1⟩
      · exact (bag2.same (upd_ne nb.symm)).mono (by omega)
    · rw [Int.toNat_natCast] at hW
      obtain ⟨m, y4, rfl, off, il, lm, rm, bag⟩ := hW
      dsimp only
      refine step_seq ?_
      show tWhile _ _ _ [some (.int p), some (.int (most : Int)), some (.ref b), some (.ref l), y4] _
      refine wh (fun t σ H' => ∃ m, σ = [some (.int p), some (.int (most : Int)), some (.ref b), some (.ref l), y4] ∧ Off b H H' ∧ IL H' l m ∧ t = m.length ∧ m.length ≤ D ∧ (∀ x ∈ m, 0 ≤ x ∧ x < p) ∧ Bg H' b (c + 1 + D)) _ ⟨m, rfl, off, il, rfl, by omega, rm, bag⟩ fun t σ H2 hW => ?_
      obtain ⟨m, rfl, off, il, rfl, lm, rm, bag⟩ := hW
      refine ⟨l, m, rfl, il, ite2 (fun c1 => ?_) (fun c1 => ?_)⟩
      · have c2 := of_decide_eq_true c1
        have pos := ne_nil_len.mp c2.1
        refine ⟨_, fun _ _ h => h, _, rfl, .inl ⟨rfl, _, IL.sq il⟩, l, _, _, rfl, rfl, il, by rw [List.length_map]; exact iv_ent (by omega), ?_⟩
        refine ⟨m.dropLast.length, by rw [List.length_dropLast]; omega, m.dropLast, rfl, off.new nl, ?_, rfl, by rw [List.length_dropLast]; omega, dropLast_rng rm, bag.same (upd_ne nb.symm)⟩
        show (L2.upd H2 l _) l = _
        rw [upd_same, iv_dropLast]
      · have c2 : ¬ (m ≠ [] ∧ lastE m = 0) := of_decide_eq_false (Bool.eq_false_iff.mpr c1)
        exact ⟨_, rfl, q H2 l m off nl il ⟨rm, fun hn h0 => c2 ⟨hn, h0⟩⟩ (by omega) (bag.mono (by omega))⟩
end

/-! ### _law_degree -/
section
variable {P : Program} {w : World} {K : PySem.W.Frag} {mg : Str → Option Value} {base : Heap}
abbrev sDeg : Stmt := topS 15
theorem scDeg : FnScope ["_law_p"] ["_law_p"] (defScope sDeg) := ⟨rfl, rfl, rfl, by decide +kernel, rfl, by decide +kernel, by decide +kernel⟩
/-- the greatest degree by a prime -/
def degN (p : Int) : Nat := if p = 2 then 12 else if p = 3 then 8 else if p = 5 then 5 else if p = 7 then 4 else 3
theorem degN_ok {p : Int} (h : P5 p) : 3 ≤ degN p ∧ degN p ≤ 12 := by
  rcases h with rfl | rfl | rfl | rfl | rfl <;> decide
def spDeg : Sp := fun vs H Q _ => ∃ (p : Int), vs = [.int p] ∧ P5 p ∧ ∀ H', Same H H' → Q (.int (degN p : Int)) H'
def degK : List (Key × V) := [(.inl 2, .int 12), (.inl 3, .int 8), (.inl 5, .int 5), (.inl 7, .int 4), (.inl 11, .int 3)]
theorem ok_deg {f : Addr} {fd : FuncData} {k : Nat} (F : Fun K "_law_degree" "_law_degree" sDeg f fd) : FnOk P w K mg base CX0 (k + 1) f fd ["_law_p"] spDeg := by
  refine F.ok scDeg (fun vs H Q E h => ?_) (fun cdv A outer s H vs Q E hr h => ?_)
  · obtain ⟨p, rfl, _⟩ := h
    rfl
  · obtain ⟨p, rfl, h5, q⟩ := h
    refine ⟨_, pss_one (ps_ret (pe_dget (hu_of hr) (pe_disp (pps_cons pe_int pe_int (pps_cons pe_int pe_int (pps_cons pe_int pe_int (pps_cons pe_int pe_int (pps_cons pe_int pe_int pps_nil))))) (by rfl) (by rfl) (fun z => by cases z) (by decide)) (pv 0) (fun _ _ => rfl))), ?_⟩
    intro d hd
    refine ⟨upd_same, degK, rfl, by decide, ?_⟩
    have sm : Same H (L2.upd (L2.upd H d (.dK [])) d (.dK (mergeK [] degK))) := fun u o e => by
      rw [upd_ne (ne_of_none e hd), upd_ne (ne_of_none e hd)]
      exact e
    rcases h5 with rfl | rfl | rfl | rfl | rfl
    · exact ⟨_, rfl, d, .int ((12 : Nat) : Int), rfl, DGet.k (k := Sum.inl 2) upd_same, q _ sm⟩
    · exact ⟨_, rfl, d, .int ((8 : Nat) : Int), rfl, DGet.k (k := Sum.inl 3) upd_same, q _ sm⟩
    · exact ⟨_, rfl, d, .int ((5 : Nat) : Int), rfl, DGet.k (k := Sum.inl 5) upd_same, q _ sm⟩
    · exact ⟨_, rfl, d, .int ((4 : Nat) : Int), rfl, DGet.k (k := Sum.inl 7) upd_same, q _ sm⟩
    · exact ⟨_, rfl, d, .int ((3 : Nat) : Int), rfl, DGet.k (k := Sum.inl 11) upd_same, q _ sm⟩
end

/-! ### _law_trim -/
section
variable {P : Program} {w : World} {K : PySem.W.Frag} {mg : Str → Option Value} {base : Heap}
abbrev sLtr : Stmt := topS 16
theorem scLtr : FnScope ["_law_numbers"] ["_law_numbers"] (defScope sLtr) := ⟨rfl, rfl, rfl, by decide +kernel, rfl, by decide +kernel, by decide +kernel⟩
def spLtr : Sp := fun vs H Q _ => ∃ (p : Int) (a : Addr) (m : Row), vs = [.ref a] ∧ IL H a m ∧ (∀ x ∈ m, 0 ≤ x ∧ x < p) ∧ ∀ H' q r, Same H H' → IL H' q r → Pol p r → (∀ k, ent r k = ent m k) → r.length ≤ m.length → (q = a ∨ H q = none) → Q (.ref q) H'
theorem ok_ltr {f : Addr} {fd : FuncData} {k : Nat} (F : Fun K "_law_trim" "_law_trim" sLtr f fd) (ml : mg "len" = none) : FnOk P w K mg base CX0 (k + 1) f fd ["_law_numbers"] spLtr := by
  refine F.ok scLtr (fun vs H Q E h => ?_) (fun cdv A outer s H vs Q E hr h => ?_)
  · obtain ⟨p, a, m, rfl, _⟩ := h
    rfl
  · obtain ⟨p, a, m, rfl, hm, hR, q⟩ := h
    refine ⟨_, pss_cons (ps_while PassesOwn.never (pt_imp (fun σ H Q => ∃ (a : Addr) (m : Row), σ[0]? = some (some (V.ref a)) ∧ IL H a m ∧ Q (decide (m ≠ [] ∧ lastE m = 0)) H)
          (PW.pt (pw_and (pt_cmpR op_gt (pe_callB call_len_seq (by rfl) ml PySem.boot_len (pa_cons (pv 0) pa_nil)) pe_int (nomark _)) (pw_and1 (pt_cmpR op_eq (pe_ix ix_list (pv 0) (pe_un un_neg pe_int) (fun _ _ => rfl)) pe_int (nomark _)))))
          (fun σ H Q h => by
            obtain ⟨a, m, e, hm, q⟩ := h
            refine Exists.intro _ (And.intro e ?_)
            refine Exists.intro a ⟨_, rfl, .inl (IL.sq hm), _, _, rfl, rfl, _, rfl, ?_⟩
            rw [List.length_map]
            by_cases h0 : m = []
            · rw [decide_eq_false (show ¬ (0 : Int) < (m.length : Int) by rw [h0]; decide)]
              refine iteF ?_
              rw [decide_eq_false (fun z => z.1 h0)] at q
              exact q
            · rw [decide_eq_true (show (0 : Int) < (m.length : Int) by have := ne_nil_len.mp h0; omega)]
              refine iteT ?_
              refine Exists.intro _ (And.intro e ?_)
              refine Exists.intro _ ⟨rfl, a, _, _, _, rfl, rfl, IL.sq hm, at_last h0, rfl, _, rfl, ?_⟩
              rw [show decide (V.int (lastE m) = V.int 0) = decide (m ≠ [] ∧ lastE m = 0) from decide_eq_decide.mpr ⟨fun z => ⟨h0, V.int.inj z⟩, fun z => congrArg V.int z.2⟩]
              exact q))
        (pss_one (ps_set (i := 0) scLtr.nd rfl (.inl rfl) (pe_slice sl_list (pv 0) po_none (po_some (pe_un un_neg pe_int))))))
      (pss_one (ps_ret (pv 0))), ?_⟩
    refine step_seq ?_
    show tWhile _ _ _ [some (.ref a)] _
    refine wh (fun t σ H' => ∃ b r, σ = [some (.ref b)] ∧ Same H H' ∧ IL H' b r ∧ t = r.length ∧ r.length ≤ m.length ∧ (∀ x ∈ r, 0 ≤ x ∧ x < p) ∧ (∀ k, ent r k = ent m k) ∧ (b = a ∨ H b = none)) _ ⟨a, m, rfl, Same.refl H, hm, rfl, Nat.le_refl _, hR, fun _ => rfl, .inl rfl⟩ fun t σ H2 hW => ?_
    obtain ⟨b, r, rfl, sm, il, rfl, lr, rr, er, nw⟩ := hW
    refine ⟨b, r, rfl, il, ite2 (fun c1 => ?_) (fun c1 => ?_)⟩
    · have c2 := of_decide_eq_true c1
      have pos := ne_nil_len.mp c2.1
      refine ⟨_, fun _ _ h => h, _, rfl, _, rfl, _, rfl, b, _, rfl, IL.sq il, fun z nz => ?_⟩
      refine ⟨r.dropLast.length, by rw [List.length_dropLast]; omega, z, r.dropLast, rfl, sm.trans (same_new nz), ?_, rfl, by rw [List.length_dropLast]; omega, dropLast_rng rr, fun k => (ent_dropLast c2.2 k).trans (er k), .inr (same_none sm nz)⟩
      show (L2.upd H2 z _) z = _
      rw [upd_same, cut_last, iv_dropLast]
    · have c2 : ¬ (r ≠ [] ∧ lastE r = 0) := of_decide_eq_false (Bool.eq_false_iff.mpr c1)
      exact ⟨_, rfl, q H2 b r sm il ⟨rr, fun hn h0 => c2 ⟨hn, h0⟩⟩ er lr nw⟩
end

/-! ### _law_poly_times -/
section
variable {P : Program} {w : World} {K : PySem.W.Frag} {mg : Str → Option Value} {base : Heap}
abbrev sLpt : Stmt := topS 17
abbrev nLpt : List Str := ["_law_p", "_law_one", "_law_other", "_law_found", "_law_i", "_law_j"]
theorem scLpt : FnScope nLpt ["_law_p", "_law_one", "_law_other"] (defScope sLpt) := ⟨rfl, rfl, rfl, by decide +kernel, rfl, by decide +kernel, by decide +kernel⟩
/-- the product -/
def spLpt : Sp := fun vs H Q _ => ∃ (p : Int) (a b : Addr) (one other : Row), vs = [.int p, .ref a, .ref b] ∧ 0 < p ∧ p ≤ 11 ∧ IL H a one ∧ IL H b other ∧ (∀ x ∈ one, 0 ≤ x ∧ x < p) ∧ (∀ x ∈ other, 0 ≤ x ∧ x < p) ∧ one.length ≤ 50 ∧ other.length ≤ 50 ∧ ∀ H' q r, Same H H' → IL H' q r → Pol p r → r.length ≤ one.length + other.length → H q = none → (∀ k, cg p (ent r k) (cnvN one.length (ent one) (ent other) k)) → Q (.ref q) H'
theorem ok_lpt {f fT : Addr} {fd fdT : FuncData} {k : Nat} (F : Fun K "_law_poly_times" "_law_poly_times" sLpt f fd)
    (GT : FnOk P w K mg base CX0 (k + 1) fT fdT ["_law_numbers"] spLtr) (bT : Binds K fdT ["_law_numbers"] []) (kT : PySem.W.keepIn K (.ref fT) = true) (mT : mg "_law_trim" = some (.ref fT))
    (ml : mg "len" = none) (mr : mg "range" = none) : FnOk P w K mg base CX0 (k + 2) f fd ["_law_p", "_law_one", "_law_other"] spLpt := by
  refine F.ok scLpt (fun vs H Q E h => ?_) (fun cdv A outer s H vs Q E hr h => ?_)
  · obtain ⟨p, a, b, one, other, rfl, _⟩ := h
    rfl
  · obtain ⟨p, a, b, one, other, rfl, hp, hp2, ia, ib, ra, rb, la, lb, q⟩ := h
    refine ⟨_, pss_cons (ps_set (i := 3) scLpt.nd rfl (.inl rfl) (pe_op op_rep (pe_lst (pa_cons pe_int pa_nil)) (pe_op op_add (pe_callB call_len_seq (by rfl) ml PySem.boot_len (pa_cons (pv 1) pa_nil)) (pe_callB call_len_seq (by rfl) ml PySem.boot_len (pa_cons (pv 2) pa_nil)))))
      (pss_cons (ps_for PassesOwn.never rfl (pi_range1 rfl mr (pa_cons (pe_callB call_len_seq (by rfl) ml PySem.boot_len (pa_cons (pv 1) pa_nil)) pa_nil)) (pg_name (i := 4) scLpt.nd rfl (Or.inl rfl))
        (pss_one (ps_for PassesOwn.never rfl (pi_range1 rfl mr (pa_cons (pe_callB call_len_seq (by rfl) ml PySem.boot_len (pa_cons (pv 2) pa_nil)) pa_nil)) (pg_name (i := 5) scLpt.nd rfl (Or.inl rfl))
          (pss_one (ps_asg (pe_op op_mod (pe_op op_add (pe_ix ix_list (pv 3) (pe_op op_add (pv 4) (pv 5)) (fun _ _ => rfl)) (pe_op op_mul (pe_ix ix_list (pv 1) (pv 4) (fun _ _ => rfl)) (pe_ix ix_list (pv 2) (pv 5) (fun _ _ => rfl)))) (pv 0)) (pg_sub (pv 3) (pe_op op_add (pv 4) (pv 5)) set_list (fun _ => rfl)))))))
      (pss_one (ps_ret (pe_call GT hr (by rfl) mT kT bT .nil pass0 (pa_cons (pv 3) pa_nil))))), ?_⟩
    refine ⟨(by show 1 ≤ sizeLine; decide), fun l1 nl1 => ?_⟩
    have s1 : Same H (L2.upd H l1 (.lst [.int 0])) := same_new nl1
    refine ⟨_, rfl, a, _, rfl, .inl (IL.sq (s1 _ _ ia)), _, rfl, b, _, rfl, .inl (IL.sq (s1 _ _ ib)), _, _, rfl, rfl, ?_⟩
    have ed : ((iv one).length : Int) + ((iv other).length : Int) = ((one.length + other.length : Nat) : Int) := by
      rw [List.length_map, List.length_map]
      omega
    dsimp only
    rw [ed]
    generalize hd : one.length + other.length = d at *
    refine ⟨l1, (d : Int), _, rfl, rfl, upd_same, by omega, by omega, ?_, fun z nz => ?_⟩
    · rw [Int.toNat_natCast, List.length_singleton, Nat.one_mul]
      exact Nat.le_of_lt (small1000 (by omega))
    have s2 : Same H (L2.upd (L2.upd H l1 (.lst [.int 0])) z (.lst (List.replicate (d : Int).toNat [V.int 0]).flatten)) := s1.trans (same_new nz)
    have iz0 : IL (L2.upd (L2.upd H l1 (.lst [.int 0])) z (.lst (List.replicate (d : Int).toNat [V.int 0]).flatten)) z (zeros d) := by
      show (L2.upd _ z _) z = _
      rw [upd_same, rep_zeros]
    have nz0 : H z = none := same_none s1 nz
    generalize L2.upd (L2.upd H l1 (.lst [.int 0])) z (.lst (List.replicate (d : Int).toNat [V.int 0]).flatten) = H1 at *
    refine ⟨_, rfl, a, _, rfl, .inl (IL.sq (s2 _ _ ia)), _, rfl, by omega, (by rw [List.length_map]; omega), ?_⟩
    refine for_range (lo := 0) (n := _) (fun i σ H' => ∃ m y4 y5, σ = [some (.int p), some (.ref a), some (.ref b), some (.ref z), y4, y5] ∧ Same H H' ∧ IL H' z m ∧ m.length = d ∧ (∀ x ∈ m, 0 ≤ x ∧ x < p) ∧ ∀ k, cg p (ent m k) (cnvN i (ent one) (ent other) k)) ⟨zeros d, none, none, rfl, s2, iz0, zeros_len, (zeros_wf hp).rng, fun k => cg.of_eq zeros_ent⟩ (fun i σ H' hi hW => ?_) (fun σ H' hW => ?_)
    · rw [Int.toNat_natCast, List.length_map] at hi
      obtain ⟨m, y4, y5, rfl, sm, im, lm, rm, cm⟩ := hW
      have e0 : (0 : Int) + (i : Int) = (i : Int) := Int.zero_add _
      rw [e0]
      refine ⟨_, rfl, b, _, rfl, .inl (IL.sq (sm _ _ ib)), _, rfl, by omega, (by rw [List.length_map]; omega), ?_⟩
      refine for_range (lo := 0) (n := _) (fun j σ H' => ∃ m y5, σ = [some (.int p), some (.ref a), some (.ref b), some (.ref z), some (.int (i : Int)), y5] ∧ Same H H' ∧ IL H' z m ∧ m.length = d ∧ (∀ x ∈ m, 0 ≤ x ∧ x < p) ∧ ∀ k, cg p (ent m k) (cnvN i (ent one) (ent other) k + (if i ≤ k ∧ k < i + j then ent one i * ent other (k - i) else 0))) ⟨m, _, rfl, sm, im, lm, rm, fun k => by rw [if_neg (by omega), Int.add_zero]; exact cm k⟩ (fun j σ H2 hj hW => ?_) (fun σ H2 hW => ?_)
      · rw [Int.toNat_natCast, List.length_map] at hj
        obtain ⟨m, y5, rfl, sm, im, lm, rm, cm⟩ := hW
        have e1 : (0 : Int) + (j : Int) = (j : Int) := Int.zero_add _
        rw [e1]
        have kin : i + j < m.length := by omega
        have r1 := ent_rng hp ra i
        have e2 : (i : Int) + (j : Int) = ((i + j : Nat) : Int) := by omega
        refine ⟨_, rfl, _, rfl, _, rfl, _, _, rfl, rfl, z, _, _, _, rfl, rfl, IL.sq im, at_of (j := i + j) e2 (iv_ent kin), _, rfl, _, rfl, a, _, _, _, rfl, rfl, IL.sq (sm _ _ ia), atI_nat (iv_ent hi), _, rfl, _, rfl, b, _, _, _, rfl, rfl, IL.sq (sm _ _ ib), atI_nat (iv_ent hj), _, _, rfl, rfl, .inl ⟨by omega, by omega⟩, _, _, rfl, rfl, _, rfl, _, _, rfl, rfl, hp, ?_⟩
        refine ⟨_, rfl, _, rfl, _, rfl, _, _, rfl, rfl, z, _, _, i + j, rfl, rfl, im, ?_, ?_⟩
        · rw [e2]
          exact ix_set (by rw [List.length_map]; exact kin)
        exact ⟨m.set (i + j) ((ent m (i + j) + ent one i * ent other j) % p), _, rfl, same_upd nz0 sm, IL.set, by rw [List.length_set, lm], rng_set rm (Int.emod_nonneg _ (by omega)) (Int.emod_lt_of_pos _ hp), fun k => by
          rw [ent_set2 kin]
          by_cases h : k = i + j
          · rw [if_pos h, if_pos (by omega), h, show i + j - i = j by omega]
            have c0 := cm (i + j)
            rw [if_neg (by omega), Int.add_zero] at c0
            exact (cg.emod _ _).trans (c0.add (cg.refl p (ent one i * ent other j)))
          · rw [if_neg h]
            refine (cm k).trans (cg.of_eq ?_)
            by_cases h2 : i ≤ k ∧ k < i + j
            · rw [if_pos h2, if_pos (by omega)]
            · rw [if_neg h2, if_neg (by omega)]⟩
      · obtain ⟨m, y5, rfl, sm, im, lm, rm, cm⟩ := hW
        refine ⟨m, _, _, rfl, sm, im, lm, rm, fun k => (cm k).trans (cg.of_eq ?_)⟩
        show _ = cnvN i (ent one) (ent other) k + ent one i * shf i (ent other) k
        unfold shf
        rw [Int.toNat_natCast, List.length_map]
        by_cases h : i ≤ k
        · rw [if_pos h]
          by_cases h2 : k < i + other.length
          · rw [if_pos ⟨h, h2⟩]
          · rw [if_neg (by omega), ent_out (a := other) (by omega), Int.mul_zero]
        · rw [if_neg h, if_neg (by omega), Int.mul_zero]
    · obtain ⟨m, y4, y5, rfl, sm, im, lm, rm, cm⟩ := hW
      rw [Int.toNat_natCast, List.length_map] at cm
      refine ⟨_, rfl, ⟨p, z, m, rfl, im, rm, fun H5 z5 r s5 i5 pr er lr nw => ?_⟩⟩
      refine q H5 z5 r (sm.trans s5) i5 pr (by omega) ?_ (fun k => by rw [er k]; exact cm k)
      rcases nw with rfl | nw
      · exact nz0
      · exact same_none sm nw
end

/-! ### _law_poly_sum -/
section
variable {P : Program} {w : World} {K : PySem.W.Frag} {mg : Str → Option Value} {base : Heap}
abbrev sLps : Stmt := topS 18
abbrev nLps : List Str := ["_law_p", "_law_one", "_law_other", "_law_found", "_law_place", "_law_first"]
theorem scLps : FnScope nLps ["_law_p", "_law_one", "_law_other"] (defScope sLps) := ⟨rfl, rfl, rfl, by decide +kernel, rfl, by decide +kernel, by decide +kernel⟩
/-- the sum, place by place -/
def sumR (p : Int) (a b : Row) (n : Nat) : Row := (List.range n).map fun j => (ent a j + ent b j) % p
theorem sumR_len {p : Int} {a b : Row} {n : Nat} : (sumR p a b n).length = n := by
  unfold sumR
  rw [List.length_map, List.length_range]
theorem sumR_succ {p : Int} {a b : Row} {n : Nat} : sumR p a b (n + 1) = sumR p a b n ++ [(ent a n + ent b n) % p] := by
  unfold sumR
  rw [List.range_succ, List.map_append]
  rfl
theorem sumR_rng {p : Int} (hp : 0 < p) {a b : Row} {n : Nat} : ∀ x ∈ sumR p a b n, 0 ≤ x ∧ x < p := fun x hx => by
  obtain ⟨j, _, rfl⟩ := List.mem_map.mp hx
  exact ⟨Int.emod_nonneg _ (by omega), Int.emod_lt_of_pos _ hp⟩
theorem sumR_ent {p : Int} {a b : Row} {n : Nat} (ha : a.length ≤ n) (hb : b.length ≤ n) (k : Nat) : cg p (ent (sumR p a b n) k) (ent a k + ent b k) := by
  by_cases h : k < n
  · have e : ent (sumR p a b n) k = (ent a k + ent b k) % p := by
      unfold ent sumR
      rw [List.getD_eq_getElem?_getD, List.getElem?_map, List.getElem?_range h]
      rfl
    rw [e]
    exact cg.emod _ _
  · rw [ent_out (by rw [sumR_len]; omega), ent_out (a := a) (by omega), ent_out (a := b) (by omega)]
    exact cg.of_eq (by omega)
theorem cut_at (m : Row) (j : Nat) : cutV (iv m) (some (j : Int)) (some ((j : Int) + 1)) = iv ((m.drop j).take 1) := by
  unfold cutV
  rw [show (j : Int) + 1 = ((j + 1 : Nat) : Int) by omega]
  rw [show HT.sIx (iv m).length 0 (some (j : Int)) = min j (iv m).length from HT.sIx_nat (iv m).length 0 j, show HT.sIx (iv m).length (iv m).length (some ((j + 1 : Nat) : Int)) = min (j + 1) (iv m).length from HT.sIx_nat (iv m).length _ (j + 1)]
  show _ = ((m.drop j).take 1).map V.int
  rw [List.map_take, List.map_drop]
  show _ = ((iv m).drop j).take 1
  by_cases h : j < (iv m).length
  · rw [Nat.min_eq_left (by omega), Nat.min_eq_left (by omega), show j + 1 - j = 1 by omega]
  · rw [Nat.min_eq_right (by omega), Nat.min_eq_right (by omega), Nat.sub_self, List.drop_eq_nil_of_le (by omega), List.take_nil]
    rw [List.drop_eq_nil_of_le (by omega)]
    rfl
theorem sum_at (m : Row) (j : Nat) : ((m.drop j).take 1).sum = ent m j := by
  unfold ent
  rw [List.getD_eq_getElem?_getD]
  by_cases h : j < m.length
  · rw [List.drop_eq_getElem_cons h, List.getElem?_eq_getElem h]
    show m[j] + 0 = m[j]
    omega
  · rw [List.drop_eq_nil_of_le (by omega), List.getElem?_eq_none (by omega)]
    rfl
def spLps : Sp := fun vs H Q _ => ∃ (p : Int) (a b : Addr) (one other : Row), vs = [.int p, .ref a, .ref b] ∧ 0 < p ∧ p ≤ 11 ∧ IL H a one ∧ IL H b other ∧ (∀ x ∈ one, 0 ≤ x ∧ x < p) ∧ (∀ x ∈ other, 0 ≤ x ∧ x < p) ∧ one.length ≤ 200 ∧ other.length ≤ 200 ∧ ∀ H' q r, Same H H' → IL H' q r → Pol p r → r.length ≤ max one.length other.length → H q = none → (∀ k, cg p (ent r k) (ent one k + ent other k)) → Q (.ref q) H'
theorem ok_lps {f fT : Addr} {fd fdT : FuncData} {k : Nat} (F : Fun K "_law_poly_sum" "_law_poly_sum" sLps f fd)
    (GT : FnOk P w K mg base CX0 (k + 1) fT fdT ["_law_numbers"] spLtr) (bT : Binds K fdT ["_law_numbers"] []) (kT : PySem.W.keepIn K (.ref fT) = true) (mT : mg "_law_trim" = some (.ref fT))
    (ml : mg "len" = none) (mr : mg "range" = none) (mx : mg "max" = none) (ms : mg "sum" = none) : FnOk P w K mg base CX0 (k + 2) f fd ["_law_p", "_law_one", "_law_other"] spLps := by
  refine F.ok scLps (fun vs H Q E h => ?_) (fun cdv A outer s H vs Q E hr h => ?_)
  · obtain ⟨p, a, b, one, other, rfl, _⟩ := h
    rfl
  · obtain ⟨p, a, b, one, other, rfl, hp, hp2, ia, ib, ra, rb, la, lb, q⟩ := h
    refine ⟨_, pss_cons (ps_set (i := 3) scLps.nd rfl (.inl rfl) (pe_lst pa_nil))
      (pss_cons (ps_for PassesOwn.never rfl (pi_range1 rfl mr (pa_cons (pe_callB (call_max2 rfl) (by rfl) mx (by decide +kernel) (pa_cons (pe_callB call_len_seq (by rfl) ml PySem.boot_len (pa_cons (pv 1) pa_nil)) (pa_cons (pe_callB call_len_seq (by rfl) ml PySem.boot_len (pa_cons (pv 2) pa_nil)) pa_nil))) pa_nil)) (pg_name (i := 4) scLps.nd rfl (Or.inl rfl))
        (pss_cons (ps_set (i := 5) scLps.nd rfl (.inl rfl) (pe_callB (cr_sum rfl) (by rfl) ms (by decide +kernel) (pa_cons (pe_slice sl_list (pv 1) (po_some (pv 4)) (po_some (pe_op op_add (pv 4) pe_int))) pa_nil)))
        (pss_one (ps_expr (pe_bm PySem.F.plainAttrs_list PySem.F.slot_list_append PySem.F.type_list_append mt_append (pv 3) (pa_cons (pe_op op_mod (pe_op op_add (pv 5) (pe_callB (cr_sum rfl) (by rfl) ms (by decide +kernel) (pa_cons (pe_slice sl_list (pv 2) (po_some (pv 4)) (po_some (pe_op op_add (pv 4) pe_int))) pa_nil))) (pv 0)) pa_nil))))))
      (pss_one (ps_ret (pe_call GT hr (by rfl) mT kT bT .nil pass0 (pa_cons (pv 3) pa_nil))))), ?_⟩
    refine ⟨Nat.zero_le _, fun z nz => ?_⟩
    have s1 : Same H (L2.upd H z (.lst [])) := same_new nz
    have iz : IL (L2.upd H z (.lst [])) z [] := upd_same
    generalize L2.upd H z (.lst []) = H1 at *
    refine ⟨_, rfl, a, _, rfl, .inl (IL.sq (s1 _ _ ia)), _, rfl, b, _, rfl, .inl (IL.sq (s1 _ _ ib)), _, _, rfl, ?_⟩
    obtain ⟨n, hn⟩ : ∃ n, n = max one.length other.length := ⟨_, rfl⟩
    have en : (if ((iv other).length : Int) > ((iv one).length : Int) then ((iv other).length : Int) else ((iv one).length : Int)) = (n : Int) := by
      rw [List.length_map, List.length_map]
      split <;> omega
    rw [en]
    refine ⟨_, rfl, by omega, by omega, ?_⟩
    refine for_range (lo := 0) (n := _) (fun i σ H' => ∃ y4 y5, σ = [some (.int p), some (.ref a), some (.ref b), some (.ref z), y4, y5] ∧ Same H H' ∧ IL H' z (sumR p one other i)) ⟨none, none, rfl, s1, iz⟩ (fun i σ H' hi hW => ?_) (fun σ H' hW => ?_)
    · rw [Int.toNat_natCast] at hi
      obtain ⟨y4, y5, rfl, sm, im⟩ := hW
      have e0 : (0 : Int) + (i : Int) = (i : Int) := Int.zero_add _
      rw [e0]
      refine ⟨_, rfl, _, rfl, _, rfl, _, rfl, _, _, rfl, rfl, _, rfl, ?_⟩
      refine ⟨a, _, rfl, IL.sq (sm _ _ ia), fun D nD => ?_⟩
      dsimp only
      rw [cut_at]
      have s2 : Same H' (L2.upd H' D (.lst (iv ((one.drop i).take 1)))) := same_new nD
      have iD : IL (L2.upd H' D (.lst (iv ((one.drop i).take 1)))) D ((one.drop i).take 1) := upd_same
      generalize L2.upd H' D (.lst (iv ((one.drop i).take 1))) = H2 at *
      refine ⟨D, _, rfl, IL.sq iD, ?_⟩
      rw [sum_at]
      have iz2 : IL H2 z (sumR p one other i) := s2 _ _ im
      refine ⟨_, rfl, .inl ⟨rfl, _, IL.sq iz2⟩, _, rfl, _, rfl, _, rfl, _, rfl, _, rfl, _, _, rfl, rfl, _, rfl, b, _, rfl, IL.sq ((sm.trans s2) _ _ ib), fun D2 nD2 => ?_⟩
      dsimp only
      rw [cut_at]
      have s3 : Same H2 (L2.upd H2 D2 (.lst (iv ((other.drop i).take 1)))) := same_new nD2
      have iD2 : IL (L2.upd H2 D2 (.lst (iv ((other.drop i).take 1)))) D2 ((other.drop i).take 1) := upd_same
      generalize L2.upd H2 D2 (.lst (iv ((other.drop i).take 1))) = H3 at *
      refine ⟨D2, _, rfl, IL.sq iD2, ?_⟩
      rw [sum_at]
      have iz3 : IL H3 z (sumR p one other i) := s3 _ _ iz2
      refine ⟨_, _, rfl, rfl, _, rfl, _, _, rfl, rfl, hp, ?_⟩
      refine ⟨z, _, _, rfl, rfl, iz3, by rw [List.length_map, sumR_len]; exact small1000 (by omega), ?_⟩
      refine ⟨_, _, rfl, same_upd nz ((sm.trans s2).trans s3), ?_⟩
      show (L2.upd H3 z _) z = _
      rw [upd_same, sumR_succ]
      simp
    · obtain ⟨y4, y5, rfl, sm, im⟩ := hW
      rw [Int.toNat_natCast] at im
      refine ⟨_, rfl, ⟨p, z, _, rfl, im, sumR_rng hp, fun H5 z5 r s5 i5 pr er lr nw => ?_⟩⟩
      refine q H5 z5 r (sm.trans s5) i5 pr (by rw [sumR_len] at lr; omega) ?_ (fun k => by rw [er k]; exact sumR_ent (by omega) (by omega) k)
      rcases nw with rfl | nw
      · exact nz
      · exact same_none sm nw
end

/-! ### _law_things -/
section
variable {P : Program} {w : World} {K : PySem.W.Frag} {mg : Str → Option Value} {base : Heap}
abbrev sThg : Stmt := topS 21
abbrev nThg : List Str := ["_law_p", "_law_one", "_law_bag_here", "_law_far", "_law_odd", "_law_at", "_law_things_here"]
theorem scThg : FnScope nThg ["_law_p", "_law_one", "_law_bag_here"] (defScope sThg) := ⟨rfl, rfl, rfl, by decide +kernel, rfl, by decide +kernel, by decide +kernel⟩
def spThg : Sp := fun vs H Q _ => ∃ (p : Int) (a b : Addr) (c : Nat) (one : Row), vs = [.int p, .ref a, .ref b] ∧ P5 p ∧ IL H a one ∧ Pol p one ∧ one.length ≤ 20 ∧ Bg H b c ∧ c < 2 ^ 20 ∧ a ≠ b ∧
  ∀ H' q vs ds, Off b H H' → H' q = some (.lst vs) → DhAll H' vs ds → (∀ d ∈ ds, Gd 60 d) → vs.length ≤ 20 → Bg H' b (c + 3) → Q (.ref q) H'
theorem bg_keep {H H' : Hp} {a : Addr} {c : Nat} (b : Bg H a c) (s : Same H H') : Bg H' a c := by
  obtain ⟨x, y, h1, h2⟩ := b
  exact ⟨x, y, s _ _ h1, h2⟩
theorem ten18 : ((10 : Int) ^ ((18 : Int).toNat)) = 1000000000000000000 := by decide +kernel
theorem ten59 : ((10 : Int) ^ ((59 : Int).toNat)) = 100000000000000000000000000000000000000000000000000000000000 := by decide +kernel
theorem ten60 : (10 : Nat) ^ 60 = 1000000000000000000000000000000000000000000000000000000000000 := by decide +kernel
theorem ok_thg {f fT : Addr} {fd fdT : FuncData} {k : Nat} (F : Fun K "_law_things" "_law_things" sThg f fd)
    (GT : FnOk P w K mg base CX0 (k + 1) fT fdT ["_law_bag_here", "_law_many"] spTake) (bT : Binds K fdT ["_law_bag_here", "_law_many"] []) (kT : PySem.W.keepIn K (.ref fT) = true) (mT : mg "_law_take" = some (.ref fT))
    (ml : mg "len" = none) (mt : mg "tuple" = none) : FnOk P w K mg base CX0 (k + 2) f fd ["_law_p", "_law_one", "_law_bag_here"] spThg := by
  refine F.ok scThg (fun vs H Q E h => ?_) (fun cdv A outer s H vs Q E hr h => ?_)
  · obtain ⟨p, a, b, c, one, rfl, _⟩ := h
    rfl
  · obtain ⟨p, a, b, c, one, rfl, h5, ia, A1, la, bag, hc, nab, q⟩ := h
    refine ⟨_, pss_cons (ps_set (i := 3) scThg.nd rfl (.inl rfl) (pe_op op_add (pe_op op_pow pe_int pe_int) (pe_call GT hr (by rfl) mT kT bT .nil pass0 (pa_cons (pv 2) (pa_cons (pe_op op_pow pe_int pe_int) pa_nil)))))
      (pss_cons (ps_set (i := 4) scThg.nd rfl (.inl rfl) (pe_ix ix_list (pe_lst (pa_cons (pv 0) (pa_cons (pe_un un_neg pe_int) (pa_cons pe_bl (pa_cons pe_bl (pa_cons pe_non (pa_cons pe_str (pa_cons (pv 3) (pa_cons (pe_op op_sub pe_int (pv 3)) (pa_cons (pe_lst (pa_cons pe_int pa_nil)) (pa_cons (pe_tup (pa_cons pe_int pa_nil)) (pa_cons pe_int (pa_cons (pe_op op_sub (pv 0) pe_int) pa_nil))))))))))))) (pe_call GT hr (by rfl) mT kT bT .nil pass0 (pa_cons (pv 2) (pa_cons pe_int pa_nil))) (fun _ _ => rfl)))
      (pss_cons (ps_set (i := 5) scThg.nd rfl (.inl rfl) (pe_call GT hr (by rfl) mT kT bT .nil pass0 (pa_cons (pv 2) (pa_cons (pe_op op_add (pe_callB call_len_seq (by rfl) ml PySem.boot_len (pa_cons (pv 1) pa_nil)) pe_int) pa_nil))))
      (pss_cons (ps_set (i := 6) scThg.nd rfl (.inl rfl) (pe_lst (pa_cons (pv 1) (pa_cons (pe_op op_cat (pe_op op_cat (pe_slice sl_list (pv 1) po_none (po_some (pv 5))) (pe_lst (pa_cons (pv 4) pa_nil))) (pe_slice sl_list (pv 1) (po_some (pv 5)) po_none)) (pa_cons (pe_op op_cat (pv 1) (pe_lst (pa_cons pe_int pa_nil))) (pa_cons (pe_callTy call_tuple_of (by rfl) mt (by decide +kernel) (pa_cons (pv 1) pa_nil)) (pa_cons (pe_op op_cat (pv 1) (pe_lst (pa_cons (pv 4) pa_nil))) (pa_cons (pe_lst pa_nil) (pa_cons (pe_lst (pa_cons pe_int pa_nil)) (pa_cons (pe_lst (pa_cons pe_int pa_nil)) (pa_cons pe_non (pa_cons pe_str (pa_cons pe_int (pa_cons pe_bl pa_nil))))))))))))))
      (pss_one (ps_ret (pe_op op_cat (pv 6) (pe_lst (pa_cons (pe_op op_rep (pe_lst (pa_cons pe_int pa_nil)) pe_int) (pa_cons (pe_op op_rep (pe_lst (pa_cons pe_int pa_nil)) pe_int) pa_nil))))))))), ?_⟩
    have two := h5.two
    have le := h5.le
    refine ⟨_, _, rfl, rfl, ⟨by decide, by decide, by decide⟩, _, rfl, _, _, rfl, rfl, ⟨by decide, by decide, by decide⟩, ⟨b, _, c, rfl, by rw [ten18]; decide, by rw [ten18]; decide, bag, by omega, fun d1 H1 a1 b1 off1 _ bag1 => ?_⟩⟩
    rw [ten18] at b1
    refine ⟨_, _, rfl, rfl, ?_⟩
    rw [ten59]
    obtain ⟨far, hfar⟩ : ∃ far : Int, far = 100000000000000000000000000000000000000000000000000000000000 + d1 := ⟨_, rfl⟩
    have ff : far.natAbs < 10 ^ 60 := by rw [ten60]; omega
    dsimp only
    rw [← hfar]
    refine step_name ?_
    have ia1 : IL H1 a one := off1 _ _ nab ia
    refine ⟨_, rfl, _, rfl, _, rfl, _, rfl, _, _, rfl, rfl, (by show 1 ≤ sizeLine; decide), fun u nu => ?_⟩
    have s2 : Same H1 (L2.upd H1 u (.lst [.int 1])) := same_new nu
    have hu : (L2.upd H1 u (.lst [.int 1])) u = some (.lst [.int 1]) := upd_same
    have bag2 := bg_keep bag1 s2
    have nub : u ≠ b := bag1.ne nu
    have ia2 : IL (L2.upd H1 u (.lst [.int 1])) a one := s2 _ _ ia1
    have off2 := off1.trans (Off.of s2)
    generalize L2.upd H1 u (.lst [.int 1]) = H2 at *
    refine ⟨(by show 1 ≤ sizeLine; decide), fun t nt => ?_⟩
    have s3 : Same H2 (L2.upd H2 t (.tup [.int 1])) := same_new nt
    have ht : (L2.upd H2 t (.tup [.int 1])) t = some (.tup [.int 1]) := upd_same
    have hu3 := s3 _ _ hu
    have bag3 := bg_keep bag2 s3
    have ntb : t ≠ b := bag2.ne nt
    have ia3 : IL (L2.upd H2 t (.tup [.int 1])) a one := s3 _ _ ia2
    have off3 := off2.trans (Off.of s3)
    generalize L2.upd H2 t (.tup [.int 1]) = H3 at *
    refine ⟨_, rfl, _, _, rfl, rfl, (by show 12 ≤ sizeLine; decide), fun ol nol => ?_⟩
    have s4 : Same H3 (L2.upd H3 ol (.lst (oddV p far u t))) := same_new nol
    have hol : (L2.upd H3 ol (.lst (oddV p far u t))) ol = some (.lst (oddV p far u t)) := upd_same
    have nolb : ol ≠ b := bag3.ne nol
    have bag4 := bg_keep bag3 s4
    have hu4 := s4 _ _ hu3
    have ht4 := s4 _ _ ht
    have ia4 : IL (L2.upd H3 ol (.lst (oddV p far u t))) a one := s4 _ _ ia3
    have off4 := off3.trans (Off.of s4)
    refine ⟨_, rfl, ⟨b, 12, _, rfl, by decide, by decide, bag4, by omega, fun d2 H5 a2 b2 off5 _ bag5 => ?_⟩⟩
    have hol5 := off5 _ _ nolb hol
    have hu5 := off5 _ _ nub hu4
    have ht5 := off5 _ _ ntb ht4
    have ia5 : IL H5 a one := off5 _ _ nab ia4
    have off05 := off4.trans off5
    obtain ⟨n2, rfl⟩ := Int.eq_ofNat_of_zero_le a2
    obtain ⟨ov, hov⟩ := get_of (l := oddV p far u t) (i := n2) (by show n2 < 12; omega)
    obtain ⟨od, hod⟩ := get_of (l := oddD p far) (i := n2) (by show n2 < 12; omega)
    refine ⟨ol, _, _, _, rfl, rfl, SqL.of hol5, at_of (j := n2) rfl hov, ?_⟩
    have dov5 : Dh H5 ov od := (odd_dh hu5 ht5).get hov hod
    have smo : Sm 1 od := odd_sm (by omega) le ff od (List.mem_of_getElem? hod)
    refine ⟨_, rfl, _, rfl, a, _, rfl, .inl (IL.sq ia5), _, _, rfl, rfl, ⟨b, _, _, rfl, by omega, by rw [List.length_map]; omega, bag5, by omega, fun d3 H6 a3 b3 off6 _ bag6 => ?_⟩⟩
    rw [List.length_map] at b3
    obtain ⟨n3, rfl⟩ := Int.eq_ofNat_of_zero_le a3
    have ia6 : IL H6 a one := off6 _ _ nab ia5
    have off06 := off05.trans off6
    have hu6 := off6 _ _ nub hu5
    have ht6 := off6 _ _ ntb ht5
    have dov : Dh H6 ov od := (odd_dh hu6 ht6).get hov hod
    have bagZ := bag6
    have sZ : Same H6 H6 := Same.refl H6
    have ia : IL H6 a one := ia6
    clear dov5 hu5 ht5 hol5 ia5 ia4 ia3 ia2 ia1 hu4 ht4 hu3 ht hu bag1 bag2 bag3 bag4 bag5 bag6 s2 s3 s4 hol
    have acc : DhAll H6 [] [] := .nil
    replace acc := acc.app (.cons (ia.dh : Dh _ (.ref a) (dRow one)) .nil)
    refine ⟨_, rfl, _, rfl, _, rfl, _, rfl, a, _, rfl, IL.sq ia, fun u1 nu1 => ?_⟩
    rw [cut_take]
    have s7 : Same H6 (L2.upd H6 u1 (.lst ((iv one).take n3))) := same_new nu1
    have hu1 : (L2.upd H6 u1 (.lst ((iv one).take n3))) u1 = some (.lst ((iv one).take n3)) := upd_same
    replace ia : IL (L2.upd H6 u1 (.lst ((iv one).take n3))) a one := s7 _ _ ia
    replace acc := DhAll.same s7 _ _ acc
    replace dov := Dh.same s7 _ _ dov
    replace bagZ := bg_keep bagZ s7
    replace sZ := sZ.trans s7
    generalize L2.upd H6 u1 (.lst ((iv one).take n3)) = H7 at *
    refine ⟨_, rfl, (by show 1 ≤ sizeLine; decide), fun u2 nu2 => ?_⟩
    have s8 : Same H7 (L2.upd H7 u2 (.lst [ov])) := same_new nu2
    have hu2 : (L2.upd H7 u2 (.lst [ov])) u2 = some (.lst [ov]) := upd_same
    replace hu1 := s8 _ _ hu1
    replace ia : IL (L2.upd H7 u2 (.lst [ov])) a one := s8 _ _ ia
    replace acc := DhAll.same s8 _ _ acc
    replace dov := Dh.same s8 _ _ dov
    replace bagZ := bg_keep bagZ s8
    replace sZ := sZ.trans s8
    generalize L2.upd H7 u2 (.lst [ov]) = H8 at *
    refine ⟨u1, u2, _, _, rfl, rfl, hu1, hu2, (by rw [List.length_take, List.length_map, sizeLine_eq]; show _ + 1 ≤ _; omega), fun u3 nu3 => ?_⟩
    have s9 : Same H8 (L2.upd H8 u3 (.lst (((iv one).take n3) ++ [ov]))) := same_new nu3
    have hu3 : (L2.upd H8 u3 (.lst (((iv one).take n3) ++ [ov]))) u3 = some (.lst (((iv one).take n3) ++ [ov])) := upd_same
    replace hu1 := s9 _ _ hu1
    replace hu2 := s9 _ _ hu2
    replace ia : IL (L2.upd H8 u3 (.lst (((iv one).take n3) ++ [ov]))) a one := s9 _ _ ia
    replace acc := DhAll.same s9 _ _ acc
    replace dov := Dh.same s9 _ _ dov
    replace bagZ := bg_keep bagZ s9
    replace sZ := sZ.trans s9
    generalize L2.upd H8 u3 (.lst (((iv one).take n3) ++ [ov])) = H9 at *
    refine ⟨_, rfl, _, rfl, _, rfl, a, _, rfl, IL.sq ia, fun u4 nu4 => ?_⟩
    rw [cut_drop]
    have s10 : Same H9 (L2.upd H9 u4 (.lst ((iv one).drop n3))) := same_new nu4
    have hu4 : (L2.upd H9 u4 (.lst ((iv one).drop n3))) u4 = some (.lst ((iv one).drop n3)) := upd_same
    replace hu1 := s10 _ _ hu1
    replace hu2 := s10 _ _ hu2
    replace hu3 := s10 _ _ hu3
    replace ia : IL (L2.upd H9 u4 (.lst ((iv one).drop n3))) a one := s10 _ _ ia
    replace acc := DhAll.same s10 _ _ acc
    replace dov := Dh.same s10 _ _ dov
    replace bagZ := bg_keep bagZ s10
    replace sZ := sZ.trans s10
    generalize L2.upd H9 u4 (.lst ((iv one).drop n3)) = H10 at *
    refine ⟨u3, u4, _, _, rfl, rfl, hu3, hu4, (by rw [List.length_append, List.length_take, List.length_drop, List.length_map, sizeLine_eq]; show _ + 1 + _ ≤ _; omega), fun u5 nu5 => ?_⟩
    have s11 : Same H10 (L2.upd H10 u5 (.lst (((iv one).take n3) ++ [ov] ++ ((iv one).drop n3)))) := same_new nu5
    have hu5 : (L2.upd H10 u5 (.lst (((iv one).take n3) ++ [ov] ++ ((iv one).drop n3)))) u5 = some (.lst (((iv one).take n3) ++ [ov] ++ ((iv one).drop n3))) := upd_same
    replace hu1 := s11 _ _ hu1
    replace hu2 := s11 _ _ hu2
    replace hu3 := s11 _ _ hu3
    replace hu4 := s11 _ _ hu4
    replace ia : IL (L2.upd H10 u5 (.lst (((iv one).take n3) ++ [ov] ++ ((iv one).drop n3)))) a one := s11 _ _ ia
    replace acc := DhAll.same s11 _ _ acc
    replace dov := Dh.same s11 _ _ dov
    replace bagZ := bg_keep bagZ s11
    replace sZ := sZ.trans s11
    generalize L2.upd H10 u5 (.lst (((iv one).take n3) ++ [ov] ++ ((iv one).drop n3))) = H11 at *
    replace acc := acc.app (.cons (.lst hu5 ((((dhInts one).take n3).app (.cons dov .nil)).app ((dhInts one).drop n3)) : Dh _ (.ref u5) (.list ((one.map PyData.int).take n3 ++ [od] ++ (one.map PyData.int).drop n3))) .nil)
    refine ⟨_, rfl, (by show 1 ≤ sizeLine; decide), fun u6 nu6 => ?_⟩
    have s12 : Same H11 (L2.upd H11 u6 (.lst [.int 0])) := same_new nu6
    have hu6 : (L2.upd H11 u6 (.lst [.int 0])) u6 = some (.lst [.int 0]) := upd_same
    replace ia : IL (L2.upd H11 u6 (.lst [.int 0])) a one := s12 _ _ ia
    replace acc := DhAll.same s12 _ _ acc
    replace dov := Dh.same s12 _ _ dov
    replace bagZ := bg_keep bagZ s12
    replace sZ := sZ.trans s12
    generalize L2.upd H11 u6 (.lst [.int 0]) = H12 at *
    refine ⟨a, u6, _, _, rfl, rfl, ia, hu6, (by rw [List.length_map, sizeLine_eq]; show _ + 1 ≤ _; omega), fun u7 nu7 => ?_⟩
    have s13 : Same H12 (L2.upd H12 u7 (.lst (iv one ++ [.int 0]))) := same_new nu7
    have hu7 : (L2.upd H12 u7 (.lst (iv one ++ [.int 0]))) u7 = some (.lst (iv one ++ [.int 0])) := upd_same
    replace hu6 := s13 _ _ hu6
    replace ia : IL (L2.upd H12 u7 (.lst (iv one ++ [.int 0]))) a one := s13 _ _ ia
    replace acc := DhAll.same s13 _ _ acc
    replace dov := Dh.same s13 _ _ dov
    replace bagZ := bg_keep bagZ s13
    replace sZ := sZ.trans s13
    generalize L2.upd H12 u7 (.lst (iv one ++ [.int 0])) = H13 at *
    replace acc := acc.app (.cons (.lst hu7 ((dhInts one).app (.cons (.int 0) .nil)) : Dh _ (.ref u7) (.list (one.map PyData.int ++ [.int 0]))) .nil)
    refine ⟨_, rfl, a, _, rfl, .inl ⟨IL.sq ia, fun u8 nu8 => ?_⟩⟩
    have s14 : Same H13 (L2.upd H13 u8 (.tup (iv one))) := same_new nu8
    have hu8 : (L2.upd H13 u8 (.tup (iv one))) u8 = some (.tup (iv one)) := upd_same
    replace ia : IL (L2.upd H13 u8 (.tup (iv one))) a one := s14 _ _ ia
    replace acc := DhAll.same s14 _ _ acc
    replace dov := Dh.same s14 _ _ dov
    replace bagZ := bg_keep bagZ s14
    replace sZ := sZ.trans s14
    generalize L2.upd H13 u8 (.tup (iv one)) = H14 at *
    replace acc := acc.app (.cons (.tup hu8 (dhInts one) : Dh _ (.ref u8) (.tuple (one.map PyData.int))) .nil)
    refine ⟨_, rfl, _, rfl, (by show 1 ≤ sizeLine; decide), fun u9 nu9 => ?_⟩
    have s15 : Same H14 (L2.upd H14 u9 (.lst [ov])) := same_new nu9
    have hu9 : (L2.upd H14 u9 (.lst [ov])) u9 = some (.lst [ov]) := upd_same
    replace ia : IL (L2.upd H14 u9 (.lst [ov])) a one := s15 _ _ ia
    replace acc := DhAll.same s15 _ _ acc
    replace dov := Dh.same s15 _ _ dov
    replace bagZ := bg_keep bagZ s15
    replace sZ := sZ.trans s15
    generalize L2.upd H14 u9 (.lst [ov]) = H15 at *
    refine ⟨a, u9, _, _, rfl, rfl, ia, hu9, (by rw [List.length_map, sizeLine_eq]; show _ + 1 ≤ _; omega), fun u10 nu10 => ?_⟩
    have s16 : Same H15 (L2.upd H15 u10 (.lst (iv one ++ [ov]))) := same_new nu10
    have hu10 : (L2.upd H15 u10 (.lst (iv one ++ [ov]))) u10 = some (.lst (iv one ++ [ov])) := upd_same
    replace hu9 := s16 _ _ hu9
    replace ia : IL (L2.upd H15 u10 (.lst (iv one ++ [ov]))) a one := s16 _ _ ia
    replace acc := DhAll.same s16 _ _ acc
    replace dov := Dh.same s16 _ _ dov
    replace bagZ := bg_keep bagZ s16
    replace sZ := sZ.trans s16
    generalize L2.upd H15 u10 (.lst (iv one ++ [ov])) = H16 at *
    replace acc := acc.app (.cons (.lst hu10 ((dhInts one).app (.cons dov .nil)) : Dh _ (.ref u10) (.list (one.map PyData.int ++ [od]))) .nil)
    refine ⟨Nat.zero_le _, fun u11 nu11 => ?_⟩
    have s17 : Same H16 (L2.upd H16 u11 (.lst [])) := same_new nu11
    have hu11 : (L2.upd H16 u11 (.lst [])) u11 = some (.lst []) := upd_same
    replace ia : IL (L2.upd H16 u11 (.lst [])) a one := s17 _ _ ia
    replace acc := DhAll.same s17 _ _ acc
    replace dov := Dh.same s17 _ _ dov
    replace bagZ := bg_keep bagZ s17
    replace sZ := sZ.trans s17
    generalize L2.upd H16 u11 (.lst []) = H17 at *
    replace acc := acc.app (.cons (.lst hu11 .nil : Dh _ (.ref u11) (.list [])) .nil)
    refine ⟨(by show 1 ≤ sizeLine; decide), fun u12 nu12 => ?_⟩
    have s18 : Same H17 (L2.upd H17 u12 (.lst [.int 0])) := same_new nu12
    have hu12 : (L2.upd H17 u12 (.lst [.int 0])) u12 = some (.lst [.int 0]) := upd_same
    replace ia : IL (L2.upd H17 u12 (.lst [.int 0])) a one := s18 _ _ ia
    replace acc := DhAll.same s18 _ _ acc
    replace dov := Dh.same s18 _ _ dov
    replace bagZ := bg_keep bagZ s18
    replace sZ := sZ.trans s18
    generalize L2.upd H17 u12 (.lst [.int 0]) = H18 at *
    replace acc := acc.app (.cons (.lst hu12 (.cons (.int 0) .nil) : Dh _ (.ref u12) (.list [.int 0])) .nil)
    refine ⟨(by show 1 ≤ sizeLine; decide), fun u13 nu13 => ?_⟩
    have s19 : Same H18 (L2.upd H18 u13 (.lst [.int 1])) := same_new nu13
    have hu13 : (L2.upd H18 u13 (.lst [.int 1])) u13 = some (.lst [.int 1]) := upd_same
    replace ia : IL (L2.upd H18 u13 (.lst [.int 1])) a one := s19 _ _ ia
    replace acc := DhAll.same s19 _ _ acc
    replace dov := Dh.same s19 _ _ dov
    replace bagZ := bg_keep bagZ s19
    replace sZ := sZ.trans s19
    generalize L2.upd H18 u13 (.lst [.int 1]) = H19 at *
    replace acc := acc.app (.cons (.lst hu13 (.cons (.int 1) .nil) : Dh _ (.ref u13) (.list [.int 1])) .nil)
    replace acc := acc.app (.cons (.non : Dh _ .non .none) .nil)
    replace acc := acc.app (.cons (.str "" : Dh _ (.str "") (.str "")) .nil)
    replace acc := acc.app (.cons (.int 0 : Dh _ (.int 0) (.int 0)) .nil)
    replace acc := acc.app (.cons (.bl true : Dh _ (.bl true) (.bool true)) .nil)
    refine ⟨(by show 12 ≤ sizeLine; decide), fun th nth => ?_⟩
    have s20 : Same H19 (L2.upd H19 th (.lst [.ref a, .ref u5, .ref u7, .ref u8, .ref u10, .ref u11, .ref u12, .ref u13, .non, .str "", .int 0, .bl true])) := same_new nth
    have hth : (L2.upd H19 th (.lst [.ref a, .ref u5, .ref u7, .ref u8, .ref u10, .ref u11, .ref u12, .ref u13, .non, .str "", .int 0, .bl true])) th = some (.lst [.ref a, .ref u5, .ref u7, .ref u8, .ref u10, .ref u11, .ref u12, .ref u13, .non, .str "", .int 0, .bl true]) := upd_same
    replace ia : IL (L2.upd H19 th (.lst [.ref a, .ref u5, .ref u7, .ref u8, .ref u10, .ref u11, .ref u12, .ref u13, .non, .str "", .int 0, .bl true])) a one := s20 _ _ ia
    replace acc := DhAll.same s20 _ _ acc
    replace dov := Dh.same s20 _ _ dov
    replace bagZ := bg_keep bagZ s20
    replace sZ := sZ.trans s20
    generalize L2.upd H19 th (.lst [.ref a, .ref u5, .ref u7, .ref u8, .ref u10, .ref u11, .ref u12, .ref u13, .non, .str "", .int 0, .bl true]) = H20 at *
    refine ⟨_, rfl, (by show 1 ≤ sizeLine; decide), fun v1 nv1 => ?_⟩
    have s21 : Same H20 (L2.upd H20 v1 (.lst [.int 1])) := same_new nv1
    have hv1 : (L2.upd H20 v1 (.lst [.int 1])) v1 = some (.lst [.int 1]) := upd_same
    replace hth := s21 _ _ hth
    replace ia : IL (L2.upd H20 v1 (.lst [.int 1])) a one := s21 _ _ ia
    replace acc := DhAll.same s21 _ _ acc
    replace dov := Dh.same s21 _ _ dov
    replace bagZ := bg_keep bagZ s21
    replace sZ := sZ.trans s21
    generalize L2.upd H20 v1 (.lst [.int 1]) = H21 at *
    refine ⟨v1, 40, _, rfl, rfl, hv1, by decide, by decide, (by rw [sizeLine_eq]; decide), fun v2 nv2 => ?_⟩
    have s22 : Same H21 (L2.upd H21 v2 (.lst (List.replicate (40 : Int).toNat [V.int 1]).flatten)) := same_new nv2
    have hv2 : (L2.upd H21 v2 (.lst (List.replicate (40 : Int).toNat [V.int 1]).flatten)) v2 = some (.lst (List.replicate (40 : Int).toNat [V.int 1]).flatten) := upd_same
    replace hth := s22 _ _ hth
    replace hv1 := s22 _ _ hv1
    replace ia : IL (L2.upd H21 v2 (.lst (List.replicate (40 : Int).toNat [V.int 1]).flatten)) a one := s22 _ _ ia
    replace acc := DhAll.same s22 _ _ acc
    replace dov := Dh.same s22 _ _ dov
    replace bagZ := bg_keep bagZ s22
    replace sZ := sZ.trans s22
    generalize L2.upd H21 v2 (.lst (List.replicate (40 : Int).toNat [V.int 1]).flatten) = H22 at *
    replace acc := acc.app (.cons (.lst (by rw [← rep_ints 40 1]; exact hv2) (dhInts _) : Dh _ (.ref v2) (dRow (List.replicate 40 1))) .nil)
    refine ⟨(by show 1 ≤ sizeLine; decide), fun v3 nv3 => ?_⟩
    have s23 : Same H22 (L2.upd H22 v3 (.lst [.int 0])) := same_new nv3
    have hv3 : (L2.upd H22 v3 (.lst [.int 0])) v3 = some (.lst [.int 0]) := upd_same
    replace hth := s23 _ _ hth
    replace ia : IL (L2.upd H22 v3 (.lst [.int 0])) a one := s23 _ _ ia
    replace acc := DhAll.same s23 _ _ acc
    replace dov := Dh.same s23 _ _ dov
    replace bagZ := bg_keep bagZ s23
    replace sZ := sZ.trans s23
    generalize L2.upd H22 v3 (.lst [.int 0]) = H23 at *
    refine ⟨v3, 3, _, rfl, rfl, hv3, by decide, by decide, (by rw [sizeLine_eq]; decide), fun v4 nv4 => ?_⟩
    have s24 : Same H23 (L2.upd H23 v4 (.lst (List.replicate (3 : Int).toNat [V.int 0]).flatten)) := same_new nv4
    have hv4 : (L2.upd H23 v4 (.lst (List.replicate (3 : Int).toNat [V.int 0]).flatten)) v4 = some (.lst (List.replicate (3 : Int).toNat [V.int 0]).flatten) := upd_same
    replace hth := s24 _ _ hth
    replace hv3 := s24 _ _ hv3
    replace ia : IL (L2.upd H23 v4 (.lst (List.replicate (3 : Int).toNat [V.int 0]).flatten)) a one := s24 _ _ ia
    replace acc := DhAll.same s24 _ _ acc
    replace dov := Dh.same s24 _ _ dov
    replace bagZ := bg_keep bagZ s24
    replace sZ := sZ.trans s24
    generalize L2.upd H23 v4 (.lst (List.replicate (3 : Int).toNat [V.int 0]).flatten) = H24 at *
    replace acc := acc.app (.cons (.lst (by rw [← rep_ints 3 0]; exact hv4) (dhInts _) : Dh _ (.ref v4) (dRow (List.replicate 3 0))) .nil)
    refine ⟨(by show 2 ≤ sizeLine; decide), fun v5 nv5 => ?_⟩
    have s25 : Same H24 (L2.upd H24 v5 (.lst [.ref v2, .ref v4])) := same_new nv5
    have hv5 : (L2.upd H24 v5 (.lst [.ref v2, .ref v4])) v5 = some (.lst [.ref v2, .ref v4]) := upd_same
    replace hth := s25 _ _ hth
    replace ia : IL (L2.upd H24 v5 (.lst [.ref v2, .ref v4])) a one := s25 _ _ ia
    replace acc := DhAll.same s25 _ _ acc
    replace dov := Dh.same s25 _ _ dov
    replace bagZ := bg_keep bagZ s25
    replace sZ := sZ.trans s25
    generalize L2.upd H24 v5 (.lst [.ref v2, .ref v4]) = H25 at *
    refine ⟨th, v5, _, _, rfl, rfl, hth, hv5, (by show 14 ≤ sizeLine; decide), fun res nres => ?_⟩
    have s26 : Same H25 (L2.upd H25 res (.lst ([.ref a, .ref u5, .ref u7, .ref u8, .ref u10, .ref u11, .ref u12, .ref u13, .non, .str "", .int 0, .bl true] ++ [.ref v2, .ref v4]))) := same_new nres
    have hres : (L2.upd H25 res (.lst ([.ref a, .ref u5, .ref u7, .ref u8, .ref u10, .ref u11, .ref u12, .ref u13, .non, .str "", .int 0, .bl true] ++ [.ref v2, .ref v4]))) res = some (.lst ([.ref a, .ref u5, .ref u7, .ref u8, .ref u10, .ref u11, .ref u12, .ref u13, .non, .str "", .int 0, .bl true] ++ [.ref v2, .ref v4])) := upd_same
    replace hth := s26 _ _ hth
    replace hv5 := s26 _ _ hv5
    replace ia : IL (L2.upd H25 res (.lst ([.ref a, .ref u5, .ref u7, .ref u8, .ref u10, .ref u11, .ref u12, .ref u13, .non, .str "", .int 0, .bl true] ++ [.ref v2, .ref v4]))) a one := s26 _ _ ia
    replace acc := DhAll.same s26 _ _ acc
    replace dov := Dh.same s26 _ _ dov
    replace bagZ := bg_keep bagZ s26
    replace sZ := sZ.trans s26
    generalize L2.upd H25 res (.lst ([.ref a, .ref u5, .ref u7, .ref u8, .ref u10, .ref u11, .ref u12, .ref u13, .non, .str "", .int 0, .bl true] ++ [.ref v2, .ref v4])) = H26 at *
    refine q H26 res _ _ (off06.trans (Off.of sZ)) hres acc (fun d hd => ?_) (by show 14 ≤ 20; decide) (bagZ.mono (by omega))
    have r1 := sm_row le A1.rng
    have z1 : ∀ d ∈ one.map PyData.int, Sm 1 d := fun d hd => (r1 d hd).mono (by decide)
    have l1 : (one.map PyData.int).length ≤ 20 := by rw [List.length_map]; exact la
    simp only [List.append_eq, List.nil_append, List.cons_append, List.mem_cons, List.not_mem_nil, or_false, List.append_assoc] at hd
    rcases hd with rfl | rfl | rfl | rfl | rfl | rfl | rfl | rfl | rfl | rfl | rfl | rfl | rfl | rfl
    · exact gd_row le A1.rng (by omega)
    · refine gd_list (n := 1) (fun d hd => ?_) ?_ (by decide)
      · simp only [List.mem_append, List.mem_cons, List.not_mem_nil, or_false] at hd
        rcases hd with h | rfl | h
        · exact z1 d (List.mem_of_mem_take h)
        · exact smo
        · exact z1 d (List.mem_of_mem_drop h)
      · simp only [List.length_append, List.length_take, List.length_drop, List.length_cons, List.length_nil]
        omega
    · refine gd_list (n := 1) (fun d hd => ?_) (by rw [List.length_append]; show _ + 1 ≤ _; omega) (by decide)
      rcases List.mem_append.mp hd with h | h
      · exact z1 d h
      · rw [List.mem_singleton.mp h]
        exact (sm_small (by decide) (by decide)).mono (by decide)
    · exact gd_tuple (n := 1) z1 (by omega) (by decide)
    · refine gd_list (n := 1) (fun d hd => ?_) (by rw [List.length_append]; show _ + 1 ≤ _; omega) (by decide)
      rcases List.mem_append.mp hd with h | h
      · exact z1 d h
      · rw [List.mem_singleton.mp h]
        exact smo
    · exact gd_row (p := 2) (m := []) (by decide) (by decide) (by decide)
    · exact gd_row (p := 2) (m := [0]) (by decide) (by decide) (by decide)
    · exact gd_row (p := 2) (m := [1]) (by decide) (by decide) (by decide)
    · exact sm_none.gd (by decide)
    · exact sm_str0.gd (by decide)
    · exact (sm_small (by decide) (by decide)).gd (by decide)
    · exact (sm_bool true).gd (by decide)
    · exact gd_row (p := 2) (m := List.replicate 40 1) (by decide) (by decide) (by decide)
    · exact gd_row (p := 2) (m := List.replicate 3 0) (by decide) (by decide) (by decide)
end

/-! ### _law_right -/
section
variable {P : Program} {w : World} {K : PySem.W.Frag} {mg : Str → Option Value} {base : Heap}
abbrev sRg6 : Stmt := topS 22
abbrev nRg6 : List Str := ["_law_p", "_law_one", "_law_other", "_law_handed", "_law_told", "_law_poly_here"]
theorem scRg6 : FnScope nRg6 ["_law_p", "_law_one", "_law_other"] (defScope sRg6) := ⟨rfl, rfl, rfl, by decide +kernel, rfl, by decide +kernel, by decide +kernel⟩
theorem tab2 {H : Hp} {z a b : Addr} {u v : Row} (hz : H z = some (.lst [.ref a, .ref b])) (ha : IL H a u) (hb : IL H b v) : Tab H z [a, b] [u, v] := by
  refine ⟨hz, rfl, fun i r m hr hm => ?_⟩
  match i with
  | 0 =>
    simp at hr hm
    rw [← hr, ← hm]
    exact ha
  | 1 =>
    simp at hr hm
    rw [← hr, ← hm]
    exact hb
  | i + 2 => simp at hr
theorem bulk_ints : ∀ m : List Int, PyData.bulkAll (m.map PyData.int) = m.length
  | [] => rfl
  | x :: m => by
    show 0 + 1 + PyData.bulkAll (m.map PyData.int) = m.length + 1
    rw [bulk_ints m]
    omega
def spRg6 : Sp := fun vs H Q _ => ∃ (p : Int) (a b : Addr) (one other : Row), vs = [.int p, .ref a, .ref b] ∧ P5 p ∧ IL H a one ∧ IL H b other ∧ Pol p one ∧ Pol p other ∧ one.length ≤ 20 ∧ other.length ≤ 20 ∧ ∀ H', Same H H' → Q (.bl true) H'
theorem ok_rg6 {f fS fT fK fU fV : Addr} {fd fdS fdT fdK fdU fdV : FuncData} {k : Nat} (F : Fun K "_law_right" "_law_right" sRg6 f fd)
    (GS : FnOk P w K mg base CX0 (k + 2) fS fdS ["p", "one", "other"] spPsm) (bS : Binds K fdS ["p", "one", "other"] []) (kS : PySem.W.keepIn K (.ref fS) = true) (mS : mg "poly_sum" = some (.ref fS))
    (GT : FnOk P w K mg base CX0 (k + 2) fT fdT ["p", "one", "other"] spPtm) (bT : Binds K fdT ["p", "one", "other"] []) (kT : PySem.W.keepIn K (.ref fT) = true) (mT : mg "poly_times" = some (.ref fT))
    (GK : FnOk P w K mg base CX0 (k + 2) fK fdK ["_law_p", "_law_thing"] spPlD) (bK : Binds K fdK ["_law_p", "_law_thing"] []) (kK : PySem.W.keepIn K (.ref fK) = true) (mK : mg "_law_poly_like" = some (.ref fK))
    (GU : FnOk P w K mg base CX0 (k + 2) fU fdU ["_law_p", "_law_one", "_law_other"] spLps) (bU : Binds K fdU ["_law_p", "_law_one", "_law_other"] []) (kU : PySem.W.keepIn K (.ref fU) = true) (mU : mg "_law_poly_sum" = some (.ref fU))
    (GV : FnOk P w K mg base CX0 (k + 2) fV fdV ["_law_p", "_law_one", "_law_other"] spLpt) (bV : Binds K fdV ["_law_p", "_law_one", "_law_other"] []) (kV : PySem.W.keepIn K (.ref fV) = true) (mV : mg "_law_poly_times" = some (.ref fV))
    (mt : mg "list" = none) (ma : mg "all" = none) : FnOk P w K mg base CX0 (k + 3) f fd ["_law_p", "_law_one", "_law_other"] spRg6 := by
  refine F.ok scRg6 (fun vs H Q E h => ?_) (fun cdv A outer s H vs Q E hr h => ?_)
  · obtain ⟨p, a, b, one, other, rfl, _⟩ := h
    rfl
  · obtain ⟨p, a, b, one, other, rfl, h5, ia, ib, A1, B1, la, lb, q⟩ := h
    refine ⟨_, pss_cons (ps_set (i := 3) scRg6.nd rfl (.inl rfl) (pe_lst (pa_cons (pe_callTy call_list_of (by rfl) mt (by decide +kernel) (pa_cons (pv 1) pa_nil)) (pa_cons (pe_callTy call_list_of (by rfl) mt (by decide +kernel) (pa_cons (pv 2) pa_nil)) pa_nil))))
      (pss_cons (ps_set (i := 4) scRg6.nd rfl (.inl rfl) (pe_lst (pa_cons (pe_call GS hr (by rfl) mS kS bS .nil pass0 (pa_cons (pv 0) (pa_cons (pe_ix ix_list (pv 3) pe_int (fun _ _ => rfl)) (pa_cons (pe_ix ix_list (pv 3) pe_int (fun _ _ => rfl)) pa_nil))))
        (pa_cons (pe_call GT hr (by rfl) mT kT bT .nil pass0 (pa_cons (pv 0) (pa_cons (pe_ix ix_list (pv 3) pe_int (fun _ _ => rfl)) (pa_cons (pe_ix ix_list (pv 3) pe_int (fun _ _ => rfl)) pa_nil)))) pa_nil))))
      (pss_cons (ps_if (PW.pt (pw_or (pt_not (pt_val (pe_callB (cr_all rfl) (by rfl) ma (by decide +kernel) (pa_cons
          (pe_lc (own := [("_law_poly_here", 5)]) (g := gName 5) (tt := tYes) (by rfl) scRg6.nd (pi_list (pv 4)) (blkOk_by (own := [("_law_poly_here", 5)]) (N := nRg6) (sc := defScope sRg6) (by decide +kernel))
            (fun _ _ _ _ _ => pg_name (i := 5) scRg6.nd rfl (Or.inl rfl)) (fun _ _ _ _ _ => pts_nil) (fun _ _ _ _ _ => pe_call GK hr (by rfl) mK kK bK .nil pass0 (pa_cons (pv 0) (pa_cons (pv 5) pa_nil)))) pa_nil))))
          (pw_or1 (pt_cmpR (op_neD hr.units) (pv 3) (pe_lst (pa_cons (pv 1) (pa_cons (pv 2) pa_nil))) (nomark _))))) (pss_one (ps_ret pe_bl)) pss_nil)
      (pss_cons (ps_if (pt_cmpR (op_neD hr.units) (pv 4) (pe_lst (pa_cons (pe_call GU hr (by rfl) mU kU bU .nil pass0 (pa_cons (pv 0) (pa_cons (pv 1) (pa_cons (pv 2) pa_nil)))) (pa_cons (pe_call GV hr (by rfl) mV kV bV .nil pass0 (pa_cons (pv 0) (pa_cons (pv 1) (pa_cons (pv 2) pa_nil)))) pa_nil))) (nomark _)) (pss_one (ps_ret pe_bl)) pss_nil)
      (pss_cons (ps_for PassesOwn.never rfl (pi_list (pv 4)) (pg_name (i := 5) scRg6.nd rfl (Or.inl rfl))
        (pss_one (ps_expr (pe_bm PySem.F.plainAttrs_list PySem.F.slot_list_append PySem.F.type_list_append mt_append (pv 5) (pa_cons pe_int pa_nil)))))
      (pss_one (ps_ret (pe_cmpR (op_eqD hr.units) (pv 3) (pe_lst (pa_cons (pv 1) (pa_cons (pv 2) pa_nil))) (nomark _)))))))), ?_⟩
    have two := h5.two
    have le := h5.le
    refine ⟨_, rfl, a, _, rfl, .inl (IL.sq ia), fun h1 n1 => ?_⟩
    have s1 : Same H (L2.upd H h1 (.lst (iv one))) := same_new n1
    have i1 : IL (L2.upd H h1 (.lst (iv one))) h1 one := upd_same
    generalize L2.upd H h1 (.lst (iv one)) = H1 at *
    refine ⟨_, rfl, b, _, rfl, .inl (IL.sq (s1 _ _ ib)), fun h2 n2 => ?_⟩
    have s2 : Same H1 (L2.upd H1 h2 (.lst (iv other))) := same_new n2
    have i2 : IL (L2.upd H1 h2 (.lst (iv other))) h2 other := upd_same
    generalize L2.upd H1 h2 (.lst (iv other)) = H2 at *
    refine ⟨(by show 2 ≤ sizeLine; decide), fun hd nhd => ?_⟩
    have s3 : Same H2 (L2.upd H2 hd (.lst [.ref h1, .ref h2])) := same_new nhd
    have eh : (L2.upd H2 hd (.lst [.ref h1, .ref h2])) hd = some (.lst [.ref h1, .ref h2]) := upd_same
    have j1 := s3 _ _ (s2 _ _ i1)
    have j2 := s3 _ _ i2
    have ja := s3 _ _ (s2 _ _ (s1 _ _ ia))
    have jb := s3 _ _ (s2 _ _ (s1 _ _ ib))
    have sH : Same H (L2.upd H2 hd (.lst [.ref h1, .ref h2])) := (s1.trans s2).trans s3
    generalize L2.upd H2 hd (.lst [.ref h1, .ref h2]) = H3 at *
    have tH := tab2 eh j1 j2
    refine ⟨_, rfl, _, rfl, hd, _, _, _, rfl, rfl, SqL.of eh, atI_nat (j := 0) rfl, _, rfl, hd, _, _, _, rfl, rfl, SqL.of eh, atI_nat (j := 1) rfl, ⟨p, h1, h2, one, other, rfl, by omega, j1, j2, A1, B1, by omega, by omega, fun H4 q1 r1 s4 m1 k1 pr1 lr1 c1 => ?_⟩⟩
    have eh4 := s4 _ _ eh
    refine ⟨_, rfl, _, rfl, hd, _, _, _, rfl, rfl, SqL.of eh4, atI_nat (j := 0) rfl, _, rfl, hd, _, _, _, rfl, rfl, SqL.of eh4, atI_nat (j := 1) rfl, ⟨p, h1, h2, one, other, rfl, h5, s4 _ _ j1, s4 _ _ j2, A1, B1, by omega, by omega, fun H5 q2 r2 s5 m2 k2 pr2 lr2 c2 => ?_⟩⟩
    refine ⟨(by show 2 ≤ sizeLine; decide), fun td ntd => ?_⟩
    have s6 : Same H5 (L2.upd H5 td (.lst [.ref q1, .ref q2])) := same_new ntd
    have etd : (L2.upd H5 td (.lst [.ref q1, .ref q2])) td = some (.lst [.ref q1, .ref q2]) := upd_same
    have k15 : IL H5 q1 r1 := s5 _ _ k1
    have ntq1 : q1 ≠ td := ne_of_none k15 ntd
    have ntq2 : q2 ≠ td := ne_of_none k2 ntd
    have nq12 : q1 ≠ q2 := ne_of_none k1 m2
    have k16 := s6 _ _ k15
    have k26 := s6 _ _ k2
    have s36 := (s4.trans s5).trans s6
    have m23 := same_none s4 m2
    generalize L2.upd H5 td (.lst [.ref q1, .ref q2]) = H6 at *
    have tT := tab2 etd k16 k26
    have pp : ∀ m ∈ [r1, r2], Pol p m ∧ m.length ≤ 200 := fun m hm => by
      simp only [List.mem_cons, List.not_mem_nil, or_false] at hm
      rcases hm with rfl | rfl
      · exact ⟨pr1, by omega⟩
      · exact ⟨pr2, lr2⟩
    refine ⟨_, rfl, td, rfl, ⟨_, SqL.of etd⟩, fun D hD => lc_it (walk_list (K := K) (a := td) (xs := rf [q1, q2])) (fun i H7 => Same H6 H7 ∧ H7 D = some (.lst (List.replicate i (.bl true)))) ⟨same_new hD, upd_same⟩ (fun i H7 _ h => h.1.seq (SqL.of etd)) (fun i x H7 H8 hi hW y => ?_) (fun H7 hW => ?_)⟩
    · obtain ⟨rfl, hx⟩ := y
      obtain ⟨sm, e⟩ := hW
      obtain ⟨r, hr', rfl⟩ := rf_inv hx
      obtain ⟨m, hm⟩ := get_of (l := [r1, r2]) (i := i) hi
      have im : IL H8 r m := sm _ _ (tT.row i r m hr' hm)
      obtain ⟨pm, lm⟩ := pp m (List.mem_of_getElem? hm)
      refine ⟨rfl, t_yes ?_⟩
      refine ⟨_, rfl, _, rfl, ⟨p, .ref r, dRow m, rfl, im.dh, by show PyData.bulkAll (m.map PyData.int) ≤ 10000; rw [bulk_ints]; omega, fun H9 s9 => ?_⟩⟩
      rw [polyB_row pm]
      refine ⟨_, s9 _ _ e, by rw [List.length_replicate]; exact small1000 (by have : i < 2 := hi; omega), same_upd hD (sm.trans s9), ?_⟩
      rw [upd_same, List.replicate_succ']
    obtain ⟨s7, e7⟩ := hW
    refine ⟨D, List.replicate (rf [q1, q2]).length true, rfl, SqL.of (by rw [e7, List.map_replicate]), true, ?_, iteF ?_⟩
    · rw [List.all_replicate]
      simp
    have s37 := s36.trans s7
    have tH7 := tH.same s37
    refine ⟨_, rfl, _, rfl, _, rfl, (by show 2 ≤ sizeLine; decide), fun z nz => ?_⟩
    have s8 : Same H7 (L2.upd H7 z (.lst [.ref a, .ref b])) := same_new nz
    have ez : (L2.upd H7 z (.lst [.ref a, .ref b])) z = some (.lst [.ref a, .ref b]) := upd_same
    generalize L2.upd H7 z (.lst [.ref a, .ref b]) = H8 at *
    have s38 := s37.trans s8
    have tZ := tab2 ez (s38 _ _ ja) (s38 _ _ jb)
    have tH8 := tH.same s38
    refine ⟨_, _, tH8.dp, tZ.dp, dTab_shaped _, dTab_shaped _, false, by rw [dTab_eq]; rfl, iteF ?_⟩
    have s68 := s7.trans s8
    -- as reckoned
    refine ⟨_, rfl, _, rfl, _, rfl, _, rfl, ⟨p, a, b, one, other, rfl, by omega, by omega, s38 _ _ ja, s38 _ _ jb, A1.rng, B1.rng, by omega, by omega, fun H9 u1 t1 s9 ku1 pu1 _ _ cu1 => ?_⟩⟩
    refine ⟨_, rfl, _, rfl, _, rfl, ⟨p, a, b, one, other, rfl, by omega, by omega, s9 _ _ (s38 _ _ ja), s9 _ _ (s38 _ _ jb), A1.rng, B1.rng, by omega, by omega, fun H10 u2 t2 s10 ku2 pu2 _ _ cu2 => ?_⟩⟩
    refine ⟨(by show 2 ≤ sizeLine; decide), fun y ny => ?_⟩
    have s11 : Same H10 (L2.upd H10 y (.lst [.ref u1, .ref u2])) := same_new ny
    have ey : (L2.upd H10 y (.lst [.ref u1, .ref u2])) y = some (.lst [.ref u1, .ref u2]) := upd_same
    generalize L2.upd H10 y (.lst [.ref u1, .ref u2]) = H11 at *
    have s611 := ((s68.trans s9).trans s10).trans s11
    have e1 : t1 = r1 := pol_ext (by omega) pu1 pr1 fun k => (cu1 k).trans (c1 k).symm
    have e2 : t2 = r2 := pol_ext (by omega) pu2 pr2 fun k => (cu2 k).trans (c2 k).symm
    subst e1 e2
    have tY := tab2 ey (s11 _ _ (s10 _ _ ku1)) (s11 _ _ ku2)
    have tT11 := tT.same s611
    refine ⟨_, _, tT11.dp, tY.dp, dTab_shaped _, dTab_shaped _, false, by rw [dTab_eq]; rfl, iteF ?_⟩
    have etd11 := s611 _ _ etd
    refine ⟨_, rfl, td, rfl, ⟨_, SqL.of etd11⟩, ?_⟩
    refine for_list (K := K) (a := td) (xs := rf [q1, q2]) (fun i σ H12 => ∃ y5, σ = [some (.int p), some (.ref a), some (.ref b), some (.ref hd), some (.ref td), y5] ∧ Same H3 H12 ∧ H12 td = some (.lst (rf [q1, q2])) ∧ (∃ m, IL H12 q1 m ∧ m.length ≤ 200 + i) ∧ (∃ m, IL H12 q2 m ∧ m.length ≤ 200 + i))
      ⟨none, rfl, s36.trans s611, etd11, ⟨_, s611 _ _ k16, by omega⟩, ⟨_, s611 _ _ k26, by omega⟩⟩ (fun i σ H12 _ hW => ?_) (fun i x σ H12 hx hW => ?_) (fun σ H12 hW => ?_)
    · obtain ⟨y5, rfl, _, e, _⟩ := hW
      exact SqL.of e
    · obtain ⟨y5, rfl, sm, e, ⟨w1, iw1, lw1⟩, ⟨w2, iw2, lw2⟩⟩ := hW
      obtain ⟨r, hr', rfl⟩ := rf_inv hx
      have hi : i < 2 := get_lt hr'
      have hm := List.mem_of_getElem? hr'
      simp only [List.mem_cons, List.not_mem_nil, or_false] at hm
      rcases hm with rfl | rfl
      · refine ⟨_, rfl, .inl ⟨rfl, _, IL.sq iw1⟩, r, _, _, rfl, rfl, iw1, by rw [List.length_map]; exact small1000 (by omega), ?_⟩
        refine ⟨_, rfl, same_upd m1 sm, by rw [upd_ne ntq1.symm]; exact e, ⟨w1 ++ [1], ?_, by rw [List.length_append, List.length_singleton]; omega⟩, ⟨w2, ?_, by omega⟩⟩
        · show (L2.upd H12 r _) r = _
          rw [upd_same]
          simp
        · show (L2.upd H12 r _) q2 = _
          rw [upd_ne nq12.symm]
          exact iw2
      · refine ⟨_, rfl, .inl ⟨rfl, _, IL.sq iw2⟩, r, _, _, rfl, rfl, iw2, by rw [List.length_map]; exact small1000 (by omega), ?_⟩
        refine ⟨_, rfl, same_upd m23 sm, by rw [upd_ne ntq2.symm]; exact e, ⟨w1, ?_, by omega⟩, ⟨w2 ++ [1], ?_, by rw [List.length_append, List.length_singleton]; omega⟩⟩
        · show (L2.upd H12 r _) q1 = _
          rw [upd_ne nq12]
          exact iw1
        · show (L2.upd H12 r _) r = _
          rw [upd_same]
          simp
    · obtain ⟨y5, rfl, sm, e, _⟩ := hW
      refine ⟨_, rfl, _, rfl, _, rfl, (by show 2 ≤ sizeLine; decide), fun z nz => ?_⟩
      have s13 : Same H12 (L2.upd H12 z (.lst [.ref a, .ref b])) := same_new nz
      have ez : (L2.upd H12 z (.lst [.ref a, .ref b])) z = some (.lst [.ref a, .ref b]) := upd_same
      generalize L2.upd H12 z (.lst [.ref a, .ref b]) = H13 at *
      have sA := sm.trans s13
      have tZ := tab2 ez (sA _ _ ja) (sA _ _ jb)
      have tHA := tH.same sA
      refine ⟨_, _, tHA.dp, tZ.dp, dTab_shaped _, dTab_shaped _, ?_⟩
      rw [dTab_eq]
      exact q _ (sH.trans sA)
end

/-! ### law_k06 -/
section
variable {P : Program} {w : World} {K : PySem.W.Frag} {mg : Str → Option Value} {base : Heap}
abbrev sLaw : Stmt := topS 23
abbrev nLaw : List Str := ["_law_script", "_law_k", "_law_bag_here", "_law_p", "_law_one", "_law_other", "_law_thing", "_law_due", "_law_kept", "_law_told", "_law_first", "_law_second"]
theorem scLaw : FnScope nLaw ["_law_script"] (defScope sLaw) := ⟨rfl, rfl, rfl, by decide +kernel, rfl, by decide +kernel, by decide +kernel⟩
/-- a pair of polynomials -/
def Okq (p : Int) (H : Hp) (t : Addr) : Prop := ∃ (x y : Addr) (u v : Row), H t = some (.tup [.ref x, .ref y]) ∧ IL H x u ∧ IL H y v ∧ Pol p u ∧ Pol p v ∧ u.length ≤ 20 ∧ v.length ≤ 20
theorem Okq.same {p : Int} {H H' : Hp} {t : Addr} (o : Okq p H t) (s : Same H H') : Okq p H' t := by
  obtain ⟨x, y, u, v, h, a, b, c⟩ := o
  exact ⟨x, y, u, v, s _ _ h, s _ _ a, s _ _ b, c⟩
theorem pol_nil {p : Int} : Pol p [] := ⟨fun x hx => by simp at hx, fun h => absurd rfl h⟩
theorem pol_one {p : Int} (h : 1 < p) : Pol p [1] := ⟨fun x hx => by simp at hx; omega, fun _ => by show ent [1] 0 ≠ 0; decide⟩
theorem ok_law {f fB fP fG fD fH fL fI fR : Addr} {fd fdB fdP fdG fdD fdH fdL fdI fdR : FuncData} (F : Fun K "law" "law" sLaw f fd) (hb : ∀ (s : Shared) (v : Value), BindsTo s fd ⟨[v], []⟩ [("_law_script", v)])
    (GB : FnOk P w K mg base CX0 5 fB fdB ["_law_script", "_law_at"] (spBag K)) (bB : Binds K fdB ["_law_script", "_law_at"] []) (kB : PySem.W.keepIn K (.ref fB) = true) (mB : mg "_law_bag" = some (.ref fB))
    (GP : FnOk P w K mg base CX0 5 fP fdP ["_law_bag_here"] spPrime) (bP : Binds K fdP ["_law_bag_here"] []) (kP : PySem.W.keepIn K (.ref fP) = true) (mP : mg "_law_prime" = some (.ref fP))
    (GG : FnOk P w K mg base CX0 5 fG fdG ["_law_p", "_law_most", "_law_bag_here"] spPly) (bG : Binds K fdG ["_law_p", "_law_most", "_law_bag_here"] []) (kG : PySem.W.keepIn K (.ref fG) = true) (mG : mg "_law_poly" = some (.ref fG))
    (GD : FnOk P w K mg base CX0 5 fD fdD ["_law_p"] spDeg) (bD : Binds K fdD ["_law_p"] []) (kD : PySem.W.keepIn K (.ref fD) = true) (mD : mg "_law_degree" = some (.ref fD))
    (GH : FnOk P w K mg base CX0 5 fH fdH ["_law_p", "_law_one", "_law_bag_here"] spThg) (bH : Binds K fdH ["_law_p", "_law_one", "_law_bag_here"] []) (kH : PySem.W.keepIn K (.ref fH) = true) (mH : mg "_law_things" = some (.ref fH))
    (GL : FnOk P w K mg base CX0 5 fL fdL ["_law_p", "_law_thing"] spPlD) (bL : Binds K fdL ["_law_p", "_law_thing"] []) (kL : PySem.W.keepIn K (.ref fL) = true) (mL : mg "_law_poly_like" = some (.ref fL))
    (GI : FnOk P w K mg base CX0 5 fI fdI ["p", "thing"] spIsp) (bI : Binds K fdI ["p", "thing"] []) (kI : PySem.W.keepIn K (.ref fI) = true) (mI : mg "is_poly" = some (.ref fI))
    (GR : FnOk P w K mg base CX0 5 fR fdR ["_law_p", "_law_one", "_law_other"] spRg6) (bR : Binds K fdR ["_law_p", "_law_one", "_law_other"] []) (kR : PySem.W.keepIn K (.ref fR) = true) (mR : mg "_law_right" = some (.ref fR))
    (ml : mg "len" = none) (mr : mg "range" = none) (mx : mg "max" = none) (mn : mg "min" = none) (mi : mg "isinstance" = none) (mb : mg "bool" = none) (ms : mg "str" = none) : LwOk P w K mg base f := by
  refine law_run F scLaw hb fun cdv s H a ns h63 hS hr => ?_
  have hu : (callerA.deeper (envOfC "law" (defScope sLaw) s.heap.objs.size f cdv)).units + 100 < cLine := by have := hr.un; omega
  refine ⟨_, pss_cons (ps_for PassesOwn.never rfl (pi_range1 rfl mr (pa_cons (pe_callB (call_max2 rfl) (by rfl) mx (by decide +kernel) (pa_cons pe_int (pa_cons (pe_callB (call_min2 rfl) (by rfl) mn (by decide +kernel) (pa_cons (pe_callB call_len_seq (by rfl) ml PySem.boot_len (pa_cons (pv 0) pa_nil)) (pa_cons pe_int pa_nil))) pa_nil))) pa_nil)) (pg_name (i := 1) scLaw.nd rfl (Or.inl rfl))
        (pss_cons (ps_set (i := 2) scLaw.nd rfl (.inl rfl) (pe_call GB hr (by rfl) mB kB bB .nil pass0 (pa_cons (pv 0) (pa_cons (pv 1) pa_nil))))
        (pss_cons (ps_set (i := 3) scLaw.nd rfl (.inl rfl) (pe_call GP hr (by rfl) mP kP bP .nil pass0 (pa_cons (pv 2) pa_nil)))
        (pss_cons (ps_set (i := 4) scLaw.nd rfl (.inl rfl) (pe_call GG hr (by rfl) mG kG bG .nil pass0 (pa_cons (pv 3) (pa_cons (pe_call GD hr (by rfl) mD kD bD .nil pass0 (pa_cons (pv 3) pa_nil)) (pa_cons (pv 2) pa_nil)))))
        (pss_cons (ps_set (i := 5) scLaw.nd rfl (.inl rfl) (pe_call GG hr (by rfl) mG kG bG .nil pass0 (pa_cons (pv 3) (pa_cons (pe_call GD hr (by rfl) mD kD bD .nil pass0 (pa_cons (pv 3) pa_nil)) (pa_cons (pv 2) pa_nil)))))
        (pss_cons (ps_for PassesOwn.never rfl (pi_list (pe_call GH hr (by rfl) mH kH bH .nil pass0 (pa_cons (pv 3) (pa_cons (pv 4) (pa_cons (pv 2) pa_nil))))) (pg_name (i := 6) scLaw.nd rfl (Or.inl rfl)) (pss_cons (ps_par (i := 7) (j := 8) (by rfl) scLaw.nd rfl rfl (by decide) rfl rfl (pa_cons (pe_call GL hr (by rfl) mL kL bL .nil pass0 (pa_cons (pv 3) (pa_cons (pv 6) pa_nil))) (pa_cons (pe_callTy (cStrD rfl hu) (by rfl) ms (by decide +kernel) (pa_cons (pv 6) pa_nil)) pa_nil)) (by rfl))
        (pss_cons (ps_set (i := 9) scLaw.nd rfl (.inl rfl) (pe_call GI hr (by rfl) mI kI bI .nil pass0 (pa_cons (pv 3) (pa_cons (pv 6) pa_nil))))
        (pss_one (ps_if (PW.pt (pw_or (pt_not (pt_val (pe_callB call_isi (by rfl) mi (by decide +kernel) (pa_cons (pv 9) (pa_cons (pe_bltn (v := .ty "bool") (by rfl) mb (by decide +kernel) rfl) pa_nil))))) (pw_or (pt_cmpR op_ne (pv 9) (pv 7) (nomark _)) (pw_or1 (pt_cmpR op_ne (pe_callTy (cStrD rfl hu) (by rfl) ms (by decide +kernel) (pa_cons (pv 6) pa_nil)) (pv 8) (nomark _)))))) (pss_one (ps_ret pe_bl)) pss_nil)))))
        (pss_one (ps_for PassesOwn.never rfl (pi_list (pe_lst (pa_cons (pe_tup (pa_cons (pv 4) (pa_cons (pv 5) pa_nil))) (pa_cons (pe_tup (pa_cons (pv 5) (pa_cons (pv 4) pa_nil))) (pa_cons (pe_tup (pa_cons (pv 4) (pa_cons (pe_lst pa_nil) pa_nil))) (pa_cons (pe_tup (pa_cons (pe_lst (pa_cons pe_int pa_nil)) (pa_cons (pv 4) pa_nil))) (pa_cons (pe_tup (pa_cons (pe_lst pa_nil) (pa_cons (pe_lst pa_nil) pa_nil))) (pa_cons (pe_tup (pa_cons (pv 4) (pa_cons (pv 4) pa_nil))) pa_nil)))))))) (pg_tup rfl (pgs_cons (pg_name (i := 10) scLaw.nd rfl (Or.inl rfl)) (pgs_cons (pg_name (i := 11) scLaw.nd rfl (Or.inl rfl)) pgs_nil))) (pss_one (ps_if (pt_not (pt_val (pe_call GR hr (by rfl) mR kR bR .nil pass0 (pa_cons (pv 3) (pa_cons (pv 10) (pa_cons (pv 11) pa_nil)))))) (pss_one (ps_ret pe_bl)) pss_nil))))))))))
      (pss_one (ps_ret pe_bl)), ?_⟩
  refine ⟨_, rfl, a, _, rfl, .inl hS, _, _, rfl, _, _, rfl, ?_⟩
  have bb := top_bound ((iv ns).length : Int) (by omega) 8 (by decide)
  generalize (if (if (8 : Int) < ((iv ns).length : Int) then 8 else ((iv ns).length : Int)) > 3 then (if (8 : Int) < ((iv ns).length : Int) then 8 else ((iv ns).length : Int)) else 3) = top at *
  refine ⟨top, rfl, by omega, by omega, ?_⟩
  refine for_range (lo := 0) (n := top.toNat) (fun i σ H' => ∃ y1 y2 y3 y4 y5 y6 y7 y8 y9 y10 y11, σ = [some (.ref a), y1, y2, y3, y4, y5, y6, y7, y8, y9, y10, y11] ∧ Same H H') ⟨none, none, none, none, none, none, none, none, none, none, none, rfl, Same.refl H⟩ (fun i σ H0 hi hW => ?_) (fun σ H' hW => ?_)
  · obtain ⟨y1, y2, y3, y4, y5, y6, y7, y8, y9, y10, y11, rfl, s0⟩ := hW
    have iz : (0 : Int) + (i : Int) = (i : Int) := Int.zero_add _
    rw [iz]
    refine ⟨_, rfl, _, rfl, ⟨a, ns, i, rfl, s0.seq hS, by omega, fun b H1 nb s1 bag1 => ?_⟩⟩
    refine ⟨_, rfl, ⟨b, 1001, rfl, bag1, by decide, fun p H2 hp off2 bag2 => ?_⟩⟩
    obtain ⟨dg1, dg2⟩ := degN_ok hp
    have two := hp.two
    have le := hp.le
    have sm : ∀ {H'}, Off b H1 H' → Same H H' := fun {H'} o x u e => o x u (ne_of_none (s0 x u e) nb) (s1 x u (s0 x u e))
    -- one
    refine ⟨_, rfl, _, rfl, ⟨p, rfl, hp, fun H3 s3 => ?_⟩⟩
    have off3 : Off b H1 H3 := off2.trans (Off.of s3)
    have bag3 : Bg H3 b 1002 := bg_keep bag2 s3
    refine ⟨_, rfl, ⟨p, degN p, b, 1002, rfl, by omega, by omega, by omega, bag3, by decide, fun H4 xo ro off4 nxo ixo pro lro bag4 => ?_⟩⟩
    have off4' : Off b H1 H4 := off3.trans off4
    have nob : xo ≠ b := bag3.ne nxo
    -- other
    refine ⟨_, rfl, _, rfl, ⟨p, rfl, hp, fun H5 s5 => ?_⟩⟩
    have bag5 := bg_keep bag4 s5
    refine ⟨_, rfl, ⟨p, degN p, b, _, rfl, by omega, by omega, by omega, bag5, by omega, fun H6 xt rt off6 nxt ixt prt lrt bag6 => ?_⟩⟩
    have ntb : xt ≠ b := bag5.ne nxt
    have off46 : Off b H4 H6 := (Off.of s5).trans off6
    have ixo6 : IL H6 xo ro := off46 _ _ nob ixo
    have off16 : Off b H1 H6 := off4'.trans off46
    -- the things
    refine ⟨_, rfl, _, rfl, _, rfl, ⟨p, xo, b, _, ro, rfl, hp, ixo6, pro, by omega, bag6, by omega, nob, fun H7 th vs ds off7 hth dth gth lth bag7 => ?_⟩⟩
    have ixo7 : IL H7 xo ro := off7 _ _ nob ixo6
    have ixt7 : IL H7 xt rt := off7 _ _ ntb ixt
    have off17 := off16.trans off7
    refine ⟨th, rfl, ⟨_, SqL.of hth⟩, ?_⟩
    refine for_list (K := K) (a := th) (xs := vs) (fun j σ H' => ∃ y6 y7 y8 y9, σ = [some (.ref a), some (.int (i : Int)), some (.ref b), some (.int p), some (.ref xo), some (.ref xt), y6, y7, y8, y9, y10, y11] ∧ Same H7 H') ⟨_, _, _, _, rfl, Same.refl H7⟩ (fun j σ H' _ hW => ?_) (fun j x σ H' hx hW => ?_) (fun σ H' hW => ?_)
    · obtain ⟨_, _, _, _, _, sm2⟩ := hW
      exact sm2.seq (SqL.of hth)
    · obtain ⟨z6, z7, z8, z9, rfl, sm2⟩ := hW
      obtain ⟨d, hd⟩ := get_of (l := ds) (i := j) (by have := get_lt hx; have := dth.len; omega)
      have dx := Dh.same sm2 d x (dth.get hx hd)
      have gd := gth d (List.mem_of_getElem? hd)
      refine ⟨_, rfl, _, rfl, ⟨p, x, d, rfl, dx, gd.bulk, fun H8 s8 => ?_⟩⟩
      have dx8 := Dh.same s8 d x dx
      refine ⟨_, rfl, x, d, rfl, dx8, gd, ?_⟩
      refine ⟨_, _, rfl, ?_⟩
      refine ⟨_, rfl, _, rfl, ⟨p, x, d, rfl, dx8, gd.bulk, fun H9 s9 => ?_⟩⟩
      have dx9 := Dh.same s9 d x dx8
      refine ⟨_, rfl, _, _, _, _, true, rfl, .ty "bool", .base (.bl _), kit_ty (by decide +kernel), true, rfl, iteF ?_⟩
      refine ⟨_, rfl, _, rfl, rfl, false, ?_, iteF ?_⟩
      · show V.bl (!decide (V.bl (polyB p d) = V.bl (polyB p d))) = _
        rw [decide_eq_true rfl]
        rfl
      refine ⟨_, rfl, x, d, rfl, dx9, gd, _, rfl, rfl, false, ?_, iteF ?_⟩
      · show V.bl (!decide (V.str (strT d) = V.str (strT d))) = _
        rw [decide_eq_true rfl]
        rfl
      exact ⟨_, _, _, _, rfl, (sm2.trans s8).trans s9⟩
    · obtain ⟨z6, z7, z8, z9, rfl, sm7⟩ := hW
      have ixo9 : IL H' xo ro := sm7 _ _ ixo7
      have ixt : IL H' xt rt := sm7 _ _ ixt7
      have sH9 : Same H H' := (sm off17).trans sm7
      generalize H' = H9 at *
      refine ⟨_, rfl, _, rfl, (by show 2 ≤ sizeLine; decide), fun p1 np1 => ?_⟩
      have u1 : Same H9 (L2.upd H9 p1 (.tup [.ref xo, .ref xt])) := same_new np1
      have v1 := u1
      have o1 : Okq p (L2.upd H9 p1 (.tup [.ref xo, .ref xt])) p1 := ⟨xo, xt, ro, rt, upd_same, (v1 _ _ ixo9), (v1 _ _ ixt), pro, prt, (by omega), (by omega)⟩
      generalize L2.upd H9 p1 (.tup [.ref xo, .ref xt]) = J1 at *
      refine ⟨_, rfl, _, rfl, (by show 2 ≤ sizeLine; decide), fun p2 np2 => ?_⟩
      have u2 : Same J1 (L2.upd J1 p2 (.tup [.ref xt, .ref xo])) := same_new np2
      have v2 := v1.trans u2
      have o2 : Okq p (L2.upd J1 p2 (.tup [.ref xt, .ref xo])) p2 := ⟨xt, xo, rt, ro, upd_same, (v2 _ _ ixt), (v2 _ _ ixo9), prt, pro, (by omega), (by omega)⟩
      generalize L2.upd J1 p2 (.tup [.ref xt, .ref xo]) = J2 at *
      refine ⟨_, rfl, Nat.zero_le _, fun ea nea => ?_⟩
      have u3 : Same J2 (L2.upd J2 ea (.lst [])) := same_new nea
      have v3 := v2.trans u3
      have iea : IL (L2.upd J2 ea (.lst [])) ea [] := upd_same
      generalize L2.upd J2 ea (.lst []) = J3 at *
      refine ⟨(by show 2 ≤ sizeLine; decide), fun p3 np3 => ?_⟩
      have u4 : Same J3 (L2.upd J3 p3 (.tup [.ref xo, .ref ea])) := same_new np3
      have v4 := v3.trans u4
      have o3 : Okq p (L2.upd J3 p3 (.tup [.ref xo, .ref ea])) p3 := ⟨xo, ea, ro, [], upd_same, (v4 _ _ ixo9), (u4 _ _ iea), pro, pol_nil, (by omega), (Nat.zero_le _)⟩
      generalize L2.upd J3 p3 (.tup [.ref xo, .ref ea]) = J4 at *
      refine ⟨(by show 1 ≤ sizeLine; decide), fun ee nee => ?_⟩
      have u5 : Same J4 (L2.upd J4 ee (.lst [.int 1])) := same_new nee
      have v5 := v4.trans u5
      have iee : IL (L2.upd J4 ee (.lst [.int 1])) ee [1] := upd_same
      generalize L2.upd J4 ee (.lst [.int 1]) = J5 at *
      refine ⟨_, rfl, (by show 2 ≤ sizeLine; decide), fun p4 np4 => ?_⟩
      have u6 : Same J5 (L2.upd J5 p4 (.tup [.ref ee, .ref xo])) := same_new np4
      have v6 := v5.trans u6
      have o4 : Okq p (L2.upd J5 p4 (.tup [.ref ee, .ref xo])) p4 := ⟨ee, xo, [1], ro, upd_same, (u6 _ _ iee), (v6 _ _ ixo9), (pol_one (by omega)), pro, (by decide), (by omega)⟩
      generalize L2.upd J5 p4 (.tup [.ref ee, .ref xo]) = J6 at *
      refine ⟨Nat.zero_le _, fun ec nec => ?_⟩
      have u7 : Same J6 (L2.upd J6 ec (.lst [])) := same_new nec
      have v7 := v6.trans u7
      have iec : IL (L2.upd J6 ec (.lst [])) ec [] := upd_same
      generalize L2.upd J6 ec (.lst []) = J7 at *
      refine ⟨Nat.zero_le _, fun ed ned => ?_⟩
      have u8 : Same J7 (L2.upd J7 ed (.lst [])) := same_new ned
      have v8 := v7.trans u8
      have ied : IL (L2.upd J7 ed (.lst [])) ed [] := upd_same
      generalize L2.upd J7 ed (.lst []) = J8 at *
      refine ⟨(by show 2 ≤ sizeLine; decide), fun p5 np5 => ?_⟩
      have u9 : Same J8 (L2.upd J8 p5 (.tup [.ref ec, .ref ed])) := same_new np5
      have v9 := v8.trans u9
      have o5 : Okq p (L2.upd J8 p5 (.tup [.ref ec, .ref ed])) p5 := ⟨ec, ed, [], [], upd_same, (u9 _ _ (u8 _ _ iec)), (u9 _ _ ied), pol_nil, pol_nil, (Nat.zero_le _), (Nat.zero_le _)⟩
      generalize L2.upd J8 p5 (.tup [.ref ec, .ref ed]) = J9 at *
      refine ⟨_, rfl, _, rfl, (by show 2 ≤ sizeLine; decide), fun p6 np6 => ?_⟩
      have u10 : Same J9 (L2.upd J9 p6 (.tup [.ref xo, .ref xo])) := same_new np6
      have v10 := v9.trans u10
      have o6 : Okq p (L2.upd J9 p6 (.tup [.ref xo, .ref xo])) p6 := ⟨xo, xo, ro, ro, upd_same, (v10 _ _ ixo9), (v10 _ _ ixo9), pro, pro, (by omega), (by omega)⟩
      generalize L2.upd J9 p6 (.tup [.ref xo, .ref xo]) = J10 at *
      refine ⟨(by show 6 ≤ sizeLine; decide), fun l nl => ?_⟩
      have ul : Same J10 (L2.upd J10 l (.lst [.ref p1, .ref p2, .ref p3, .ref p4, .ref p5, .ref p6])) := same_new nl
      have el : (L2.upd J10 l (.lst [.ref p1, .ref p2, .ref p3, .ref p4, .ref p5, .ref p6])) l = some (.lst (rf [p1, p2, p3, p4, p5, p6])) := upd_same
      have okAll : ∀ t ∈ [p1, p2, p3, p4, p5, p6], Okq p (L2.upd J10 l (.lst [.ref p1, .ref p2, .ref p3, .ref p4, .ref p5, .ref p6])) t := fun t ht => by
        simp only [List.mem_cons, List.not_mem_nil, or_false] at ht
        rcases ht with rfl | rfl | rfl | rfl | rfl | rfl
        · exact ((((((((((o1.same u2).same u3).same u4).same u5).same u6).same u7).same u8).same u9).same u10).same ul)
        · exact (((((((((o2.same u3).same u4).same u5).same u6).same u7).same u8).same u9).same u10).same ul)
        · exact (((((((o3.same u5).same u6).same u7).same u8).same u9).same u10).same ul)
        · exact (((((o4.same u7).same u8).same u9).same u10).same ul)
        · exact ((o5.same u10).same ul)
        · exact (o6.same ul)
      have sL : Same H (L2.upd J10 l (.lst [.ref p1, .ref p2, .ref p3, .ref p4, .ref p5, .ref p6])) := (sH9.trans v10).trans ul
      generalize L2.upd J10 l (.lst [.ref p1, .ref p2, .ref p3, .ref p4, .ref p5, .ref p6]) = I at *
      refine ⟨l, rfl, ⟨_, SqL.of el⟩, for_list (K := K) (a := l) (xs := rf [p1, p2, p3, p4, p5, p6]) (fun j σ H' => ∃ w10 w11, σ = [some (.ref a), some (.int (i : Int)), some (.ref b), some (.int p), some (.ref xo), some (.ref xt), z6, z7, z8, z9, w10, w11] ∧ Same I H') ⟨_, _, rfl, Same.refl I⟩ (fun j σ H' _ hW => ?_) (fun j x σ H' hx hW => ?_) (fun σ H' hW => ?_)⟩
      · obtain ⟨_, _, _, sm2⟩ := hW
        exact sm2.seq (SqL.of el)
      · obtain ⟨w10, w11, rfl, sm2⟩ := hW
        obtain ⟨t, ht, rfl⟩ := rf_inv hx
        have tm : t ∈ [p1, p2, p3, p4, p5, p6] := List.mem_of_getElem? ht
        obtain ⟨x, y, u, v, et, tx, ty, L1, M1, lu, lv⟩ := (okAll t tm).same sm2
        refine ⟨t, _, rfl, .inl (.inl et), rfl, _, _, rfl, _, _, rfl, rfl, ?_⟩
        exact ⟨_, rfl, _, rfl, _, rfl, ⟨p, x, y, u, v, rfl, hp, tx, ty, L1, M1, lu, lv, fun H12 s12 => ⟨true, rfl, iteF ⟨_, _, rfl, sm2.trans s12⟩⟩⟩⟩
      · obtain ⟨w10, w11, rfl, sm2⟩ := hW
        exact ⟨_, _, _, _, _, _, _, _, _, _, _, rfl, sL.trans sm2⟩
  · rfl
end

theorem all_mk {l : PySem.W.OpenLaw} {w : World} {K : PySem.W.Frag} {h : Heap} {mg : Str → Option Value} {fa f0 f1 f2 f3 f4 f5 f6 f7 f8 f9 f10 f11 f12 f13 f14 f15 f16 f17 f18 f19 f20 : Addr} (X : K.In h) (G : h.Ns mainGlobals mg) (hfa : mg "law" = some (.ref fa))
    {od0 an0 od1 an1 od2 an2 od3 an3 od4 an4 od5 an5 od6 an6 od7 an7 od8 an8 od9 an9 od10 an10 od11 an11 od12 an12 od13 an13 od14 an14 od15 an15 od16 an16 od17 an17 od18 an18 od19 an19 od20 an20 : Option Addr} {sl0 sl1 sl2 sl3 sl4 sl5 sl6 sl7 sl8 sl9 sl10 sl11 sl12 sl13 sl14 sl15 sl16 sl17 sl18 sl19 sl20 : Array (Option Value)} {oc0 kV0 dc0 pm0 cd0 ct0 oc1 kV1 dc1 pm1 cd1 ct1 oc2 kV2 dc2 pm2 cd2 ct2 oc3 kV3 dc3 pm3 cd3 ct3 oc4 kV4 dc4 pm4 cd4 ct4 oc5 kV5 dc5 pm5 cd5 ct5 oc6 kV6 dc6 pm6 cd6 ct6 oc7 kV7 dc7 pm7 cd7 ct7 oc8 kV8 dc8 pm8 cd8 ct8 oc9 kV9 dc9 pm9 cd9 ct9 oc10 kV10 dc10 pm10 cd10 ct10 oc11 kV11 dc11 pm11 cd11 ct11 oc12 kV12 dc12 pm12 cd12 ct12 oc13 kV13 dc13 pm13 cd13 ct13 oc14 kV14 dc14 pm14 cd14 ct14 oc15 kV15 dc15 pm15 cd15 ct15 oc16 kV16 dc16 pm16 cd16 ct16 oc17 kV17 dc17 pm17 cd17 ct17 oc18 kV18 dc18 pm18 cd18 ct18 oc19 kV19 dc19 pm19 cd19 ct19 oc20 kV20 dc20 pm20 cd20 ct20 : Value}
    (a0 : PySem.W.nsIn K mainGlobals "is_whole" = some (some (.ref f0))) (l0 : K.lookup f0 = some ⟨oc0, od0, .func (PySem.W.fnOf "is_whole" "is_whole" (defArgs sIwh) (defBody sIwh) (defScope sIwh) .none kV0 dc0 pm0 an0 cd0 ct0), sl0⟩) (c0 : PySem.W.codeIn K cd0 "is_whole" = true) (k0 : PySem.W.keepIn K (.ref f0) = true)
    (a1 : PySem.W.nsIn K mainGlobals "is_below" = some (some (.ref f1))) (l1 : K.lookup f1 = some ⟨oc1, od1, .func (PySem.W.fnOf "is_below" "is_below" (defArgs sIbl) (defBody sIbl) (defScope sIbl) .none kV1 dc1 pm1 an1 cd1 ct1), sl1⟩) (c1 : PySem.W.codeIn K cd1 "is_below" = true) (k1 : PySem.W.keepIn K (.ref f1) = true)
    (a2 : PySem.W.nsIn K mainGlobals "is_rests" = some (some (.ref f2))) (l2 : K.lookup f2 = some ⟨oc2, od2, .func (PySem.W.fnOf "is_rests" "is_rests" (defArgs sRst) (defBody sRst) (defScope sRst) .none kV2 dc2 pm2 an2 cd2 ct2), sl2⟩) (c2 : PySem.W.codeIn K cd2 "is_rests" = true) (k2 : PySem.W.keepIn K (.ref f2) = true)
    (a3 : PySem.W.nsIn K mainGlobals "is_poly" = some (some (.ref f3))) (l3 : K.lookup f3 = some ⟨oc3, od3, .func (PySem.W.fnOf "is_poly" "is_poly" (defArgs sIsp) (defBody sIsp) (defScope sIsp) .none kV3 dc3 pm3 an3 cd3 ct3), sl3⟩) (c3 : PySem.W.codeIn K cd3 "is_poly" = true) (k3 : PySem.W.keepIn K (.ref f3) = true)
    (a4 : PySem.W.nsIn K mainGlobals "trimmed" = some (some (.ref f4))) (l4 : K.lookup f4 = some ⟨oc4, od4, .func (PySem.W.fnOf "trimmed" "trimmed" (defArgs sTrm) (defBody sTrm) (defScope sTrm) .none kV4 dc4 pm4 an4 cd4 ct4), sl4⟩) (c4 : PySem.W.codeIn K cd4 "trimmed" = true) (k4 : PySem.W.keepIn K (.ref f4) = true)
    (a5 : PySem.W.nsIn K mainGlobals "poly_sum" = some (some (.ref f5))) (l5 : K.lookup f5 = some ⟨oc5, od5, .func (PySem.W.fnOf "poly_sum" "poly_sum" (defArgs sPsm) (defBody sPsm) (defScope sPsm) .none kV5 dc5 pm5 an5 cd5 ct5), sl5⟩) (c5 : PySem.W.codeIn K cd5 "poly_sum" = true) (k5 : PySem.W.keepIn K (.ref f5) = true)
    (a6 : PySem.W.nsIn K mainGlobals "poly_times" = some (some (.ref f6))) (l6 : K.lookup f6 = some ⟨oc6, od6, .func (PySem.W.fnOf "poly_times" "poly_times" (defArgs sPtm) (defBody sPtm) (defScope sPtm) .none kV6 dc6 pm6 an6 cd6 ct6), sl6⟩) (c6 : PySem.W.codeIn K cd6 "poly_times" = true) (k6 : PySem.W.keepIn K (.ref f6) = true)
    (a7 : PySem.W.nsIn K mainGlobals "_law_cell" = some (some (.ref f7))) (l7 : K.lookup f7 = some ⟨oc7, od7, .func (PySem.W.fnOf "_law_cell" "_law_cell" (defArgs sCell) (defBody sCell) (defScope sCell) .none kV7 dc7 pm7 an7 cd7 ct7), sl7⟩) (c7 : PySem.W.codeIn K cd7 "_law_cell" = true) (k7 : PySem.W.keepIn K (.ref f7) = true)
    (a8 : PySem.W.nsIn K mainGlobals "_law_bag" = some (some (.ref f8))) (l8 : K.lookup f8 = some ⟨oc8, od8, .func (PySem.W.fnOf "_law_bag" "_law_bag" (defArgs sBag) (defBody sBag) (defScope sBag) .none kV8 dc8 pm8 an8 cd8 ct8), sl8⟩) (c8 : PySem.W.codeIn K cd8 "_law_bag" = true) (k8 : PySem.W.keepIn K (.ref f8) = true)
    (a9 : PySem.W.nsIn K mainGlobals "_law_take" = some (some (.ref f9))) (l9 : K.lookup f9 = some ⟨oc9, od9, .func (PySem.W.fnOf "_law_take" "_law_take" (defArgs sTake) (defBody sTake) (defScope sTake) .none kV9 dc9 pm9 an9 cd9 ct9), sl9⟩) (c9 : PySem.W.codeIn K cd9 "_law_take" = true) (k9 : PySem.W.keepIn K (.ref f9) = true)
    (a10 : PySem.W.nsIn K mainGlobals "_law_prime" = some (some (.ref f10))) (l10 : K.lookup f10 = some ⟨oc10, od10, .func (PySem.W.fnOf "_law_prime" "_law_prime" (defArgs sPrime) (defBody sPrime) (defScope sPrime) .none kV10 dc10 pm10 an10 cd10 ct10), sl10⟩) (c10 : PySem.W.codeIn K cd10 "_law_prime" = true) (k10 : PySem.W.keepIn K (.ref f10) = true)
    (a11 : PySem.W.nsIn K mainGlobals "_law_poly" = some (some (.ref f11))) (l11 : K.lookup f11 = some ⟨oc11, od11, .func (PySem.W.fnOf "_law_poly" "_law_poly" (defArgs sPly) (defBody sPly) (defScope sPly) .none kV11 dc11 pm11 an11 cd11 ct11), sl11⟩) (c11 : PySem.W.codeIn K cd11 "_law_poly" = true) (k11 : PySem.W.keepIn K (.ref f11) = true)
    (a12 : PySem.W.nsIn K mainGlobals "_law_degree" = some (some (.ref f12))) (l12 : K.lookup f12 = some ⟨oc12, od12, .func (PySem.W.fnOf "_law_degree" "_law_degree" (defArgs sDeg) (defBody sDeg) (defScope sDeg) .none kV12 dc12 pm12 an12 cd12 ct12), sl12⟩) (c12 : PySem.W.codeIn K cd12 "_law_degree" = true) (k12 : PySem.W.keepIn K (.ref f12) = true)
    (a13 : PySem.W.nsIn K mainGlobals "_law_trim" = some (some (.ref f13))) (l13 : K.lookup f13 = some ⟨oc13, od13, .func (PySem.W.fnOf "_law_trim" "_law_trim" (defArgs sLtr) (defBody sLtr) (defScope sLtr) .none kV13 dc13 pm13 an13 cd13 ct13), sl13⟩) (c13 : PySem.W.codeIn K cd13 "_law_trim" = true) (k13 : PySem.W.keepIn K (.ref f13) = true)
    (a14 : PySem.W.nsIn K mainGlobals "_law_poly_times" = some (some (.ref f14))) (l14 : K.lookup f14 = some ⟨oc14, od14, .func (PySem.W.fnOf "_law_poly_times" "_law_poly_times" (defArgs sLpt) (defBody sLpt) (defScope sLpt) .none kV14 dc14 pm14 an14 cd14 ct14), sl14⟩) (c14 : PySem.W.codeIn K cd14 "_law_poly_times" = true) (k14 : PySem.W.keepIn K (.ref f14) = true)
    (a15 : PySem.W.nsIn K mainGlobals "_law_poly_sum" = some (some (.ref f15))) (l15 : K.lookup f15 = some ⟨oc15, od15, .func (PySem.W.fnOf "_law_poly_sum" "_law_poly_sum" (defArgs sLps) (defBody sLps) (defScope sLps) .none kV15 dc15 pm15 an15 cd15 ct15), sl15⟩) (c15 : PySem.W.codeIn K cd15 "_law_poly_sum" = true) (k15 : PySem.W.keepIn K (.ref f15) = true)
    (a16 : PySem.W.nsIn K mainGlobals "_law_whole" = some (some (.ref f16))) (l16 : K.lookup f16 = some ⟨oc16, od16, .func (PySem.W.fnOf "_law_whole" "_law_whole" (defArgs sWhole) (defBody sWhole) (defScope sWhole) .none kV16 dc16 pm16 an16 cd16 ct16), sl16⟩) (c16 : PySem.W.codeIn K cd16 "_law_whole" = true) (k16 : PySem.W.keepIn K (.ref f16) = true)
    (a17 : PySem.W.nsIn K mainGlobals "_law_poly_like" = some (some (.ref f17))) (l17 : K.lookup f17 = some ⟨oc17, od17, .func (PySem.W.fnOf "_law_poly_like" "_law_poly_like" (defArgs sPlk) (defBody sPlk) (defScope sPlk) .none kV17 dc17 pm17 an17 cd17 ct17), sl17⟩) (c17 : PySem.W.codeIn K cd17 "_law_poly_like" = true) (k17 : PySem.W.keepIn K (.ref f17) = true)
    (a18 : PySem.W.nsIn K mainGlobals "_law_things" = some (some (.ref f18))) (l18 : K.lookup f18 = some ⟨oc18, od18, .func (PySem.W.fnOf "_law_things" "_law_things" (defArgs sThg) (defBody sThg) (defScope sThg) .none kV18 dc18 pm18 an18 cd18 ct18), sl18⟩) (c18 : PySem.W.codeIn K cd18 "_law_things" = true) (k18 : PySem.W.keepIn K (.ref f18) = true)
    (a19 : PySem.W.nsIn K mainGlobals "_law_right" = some (some (.ref f19))) (l19 : K.lookup f19 = some ⟨oc19, od19, .func (PySem.W.fnOf "_law_right" "_law_right" (defArgs sRg6) (defBody sRg6) (defScope sRg6) .none kV19 dc19 pm19 an19 cd19 ct19), sl19⟩) (c19 : PySem.W.codeIn K cd19 "_law_right" = true) (k19 : PySem.W.keepIn K (.ref f19) = true)
    (a20 : PySem.W.nsIn K mainGlobals "law" = some (some (.ref f20))) (l20 : K.lookup f20 = some ⟨oc20, od20, .func (PySem.W.fnOf "law" "law" (defArgs sLaw) (defBody sLaw) (defScope sLaw) .none kV20 dc20 pm20 an20 cd20 ct20), sl20⟩) (c20 : PySem.W.codeIn K cd20 "law" = true) (k20 : PySem.W.keepIn K (.ref f20) = true)
    (z_len : PySem.W.nsIn K mainGlobals "len" = some none) (z_range : PySem.W.nsIn K mainGlobals "range" = some none) (z_list : PySem.W.nsIn K mainGlobals "list" = some none) (z_max : PySem.W.nsIn K mainGlobals "max" = some none) (z_min : PySem.W.nsIn K mainGlobals "min" = some none) (z_abs : PySem.W.nsIn K mainGlobals "abs" = some none) (z_int : PySem.W.nsIn K mainGlobals "int" = some none) (z_isinstance : PySem.W.nsIn K mainGlobals "isinstance" = some none) (z_bool : PySem.W.nsIn K mainGlobals "bool" = some none) (z_all : PySem.W.nsIn K mainGlobals "all" = some none) (z_enumerate : PySem.W.nsIn K mainGlobals "enumerate" = some none) (z_sum : PySem.W.nsIn K mainGlobals "sum" = some none) (z_tuple : PySem.W.nsIn K mainGlobals "tuple" = some none) (z_str : PySem.W.nsIn K mainGlobals "str" = some none) :
    ∀ base : Heap, K.In base → base.Ns mainGlobals mg → LwOk l.prog w K mg base fa := by
  have e := hfa.symm.trans (PySem.W.mg_of X G a20)
  cases e
  have F0 := fun_mk (st := sIwh) l0 c0 k0
  have F1 := fun_mk (st := sIbl) l1 c1 k1
  have F2 := fun_mk (st := sRst) l2 c2 k2
  have F3 := fun_mk (st := sIsp) l3 c3 k3
  have F4 := fun_mk (st := sTrm) l4 c4 k4
  have F5 := fun_mk (st := sPsm) l5 c5 k5
  have F6 := fun_mk (st := sPtm) l6 c6 k6
  have F7 := fun_mk (st := sCell) l7 c7 k7
  have F8 := fun_mk (st := sBag) l8 c8 k8
  have F9 := fun_mk (st := sTake) l9 c9 k9
  have F10 := fun_mk (st := sPrime) l10 c10 k10
  have F11 := fun_mk (st := sPly) l11 c11 k11
  have F12 := fun_mk (st := sDeg) l12 c12 k12
  have F13 := fun_mk (st := sLtr) l13 c13 k13
  have F14 := fun_mk (st := sLpt) l14 c14 k14
  have F15 := fun_mk (st := sLps) l15 c15 k15
  have F16 := fun_mk (st := sWhole) l16 c16 k16
  have F17 := fun_mk (st := sPlk) l17 c17 k17
  have F18 := fun_mk (st := sThg) l18 c18 k18
  have F19 := fun_mk (st := sRg6) l19 c19 k19
  have F20 := fun_mk (st := sLaw) l20 c20 k20
  have b0 := F0.binds (ps := ["thing"]) fun _ _ _ _ _ _ us hl => match us, hl with | [_], _ => rfl
  have b1 := F1.binds (ps := ["bound", "thing"]) fun _ _ _ _ _ _ us hl => match us, hl with | [_, _], _ => rfl
  have b2 := F2.binds (ps := ["p", "thing"]) fun _ _ _ _ _ _ us hl => match us, hl with | [_, _], _ => rfl
  have b3 := F3.binds (ps := ["p", "thing"]) fun _ _ _ _ _ _ us hl => match us, hl with | [_, _], _ => rfl
  have b4 := F4.binds (ps := ["rests"]) fun _ _ _ _ _ _ us hl => match us, hl with | [_], _ => rfl
  have b5 := F5.binds (ps := ["p", "one", "other"]) fun _ _ _ _ _ _ us hl => match us, hl with | [_, _, _], _ => rfl
  have b6 := F6.binds (ps := ["p", "one", "other"]) fun _ _ _ _ _ _ us hl => match us, hl with | [_, _, _], _ => rfl
  have b7 := F7.binds (ps := ["_law_script", "_law_k"]) fun _ _ _ _ _ _ us hl => match us, hl with | [_, _], _ => rfl
  have b8 := F8.binds (ps := ["_law_script", "_law_at"]) fun _ _ _ _ _ _ us hl => match us, hl with | [_, _], _ => rfl
  have b9 := F9.binds (ps := ["_law_bag_here", "_law_many"]) fun _ _ _ _ _ _ us hl => match us, hl with | [_, _], _ => rfl
  have b10 := F10.binds (ps := ["_law_bag_here"]) fun _ _ _ _ _ _ us hl => match us, hl with | [_], _ => rfl
  have b11 := F11.binds (ps := ["_law_p", "_law_most", "_law_bag_here"]) fun _ _ _ _ _ _ us hl => match us, hl with | [_, _, _], _ => rfl
  have b12 := F12.binds (ps := ["_law_p"]) fun _ _ _ _ _ _ us hl => match us, hl with | [_], _ => rfl
  have b13 := F13.binds (ps := ["_law_numbers"]) fun _ _ _ _ _ _ us hl => match us, hl with | [_], _ => rfl
  have b14 := F14.binds (ps := ["_law_p", "_law_one", "_law_other"]) fun _ _ _ _ _ _ us hl => match us, hl with | [_, _, _], _ => rfl
  have b15 := F15.binds (ps := ["_law_p", "_law_one", "_law_other"]) fun _ _ _ _ _ _ us hl => match us, hl with | [_, _, _], _ => rfl
  have b16 := F16.binds (ps := ["_law_thing", "_law_end"]) fun _ _ _ _ _ _ us hl => match us, hl with | [_, _], _ => rfl
  have b17 := F17.binds (ps := ["_law_p", "_law_thing"]) fun _ _ _ _ _ _ us hl => match us, hl with | [_, _], _ => rfl
  have b18 := F18.binds (ps := ["_law_p", "_law_one", "_law_bag_here"]) fun _ _ _ _ _ _ us hl => match us, hl with | [_, _, _], _ => rfl
  have b19 := F19.binds (ps := ["_law_p", "_law_one", "_law_other"]) fun _ _ _ _ _ _ us hl => match us, hl with | [_, _, _], _ => rfl
  have g0 := PySem.W.mg_of X G a0
  have g1 := PySem.W.mg_of X G a1
  have g2 := PySem.W.mg_of X G a2
  have g3 := PySem.W.mg_of X G a3
  have g4 := PySem.W.mg_of X G a4
  have g5 := PySem.W.mg_of X G a5
  have g6 := PySem.W.mg_of X G a6
  have g7 := PySem.W.mg_of X G a7
  have g8 := PySem.W.mg_of X G a8
  have g9 := PySem.W.mg_of X G a9
  have g10 := PySem.W.mg_of X G a10
  have g11 := PySem.W.mg_of X G a11
  have g12 := PySem.W.mg_of X G a12
  have g13 := PySem.W.mg_of X G a13
  have g14 := PySem.W.mg_of X G a14
  have g15 := PySem.W.mg_of X G a15
  have g16 := PySem.W.mg_of X G a16
  have g17 := PySem.W.mg_of X G a17
  have g18 := PySem.W.mg_of X G a18
  have g19 := PySem.W.mg_of X G a19
  have m_len := PySem.W.mg_none_of X G z_len
  have m_range := PySem.W.mg_none_of X G z_range
  have m_list := PySem.W.mg_none_of X G z_list
  have m_max := PySem.W.mg_none_of X G z_max
  have m_min := PySem.W.mg_none_of X G z_min
  have m_abs := PySem.W.mg_none_of X G z_abs
  have m_int := PySem.W.mg_none_of X G z_int
  have m_isinstance := PySem.W.mg_none_of X G z_isinstance
  have m_bool := PySem.W.mg_none_of X G z_bool
  have m_all := PySem.W.mg_none_of X G z_all
  have m_enumerate := PySem.W.mg_none_of X G z_enumerate
  have m_sum := PySem.W.mg_none_of X G z_sum
  have m_tuple := PySem.W.mg_none_of X G z_tuple
  have m_str := PySem.W.mg_none_of X G z_str
  intro base _ _
  have G7_4 : FnOk l.prog w K mg base CX0 4 f7 _ _ (spCell K) := ok_cell F7  m_len
  have G8_5 : FnOk l.prog w K mg base CX0 5 f8 _ _ (spBag K) := ok_bag F8 G7_4 b7 k7 g7 m_abs
  have G9_4 : FnOk l.prog w K mg base CX0 4 f9 _ _ spTake := ok_take F9  
  have G10_5 : FnOk l.prog w K mg base CX0 5 f10 _ _ spPrime := ok_prime F10 G9_4 b9 k9 g9 
  have G11_5 : FnOk l.prog w K mg base CX0 5 f11 _ _ spPly := ok_ply F11 G9_4 b9 k9 g9 m_range m_len
  have G12_5 : FnOk l.prog w K mg base CX0 5 f12 _ _ spDeg := ok_deg F12  
  have G18_5 : FnOk l.prog w K mg base CX0 5 f18 _ _ spThg := ok_thg F18 G9_4 b9 k9 g9 m_len m_tuple
  have G16_4 : FnOk l.prog w K mg base CX0 4 f16 _ _ spWhD := ok_whd F16  m_isinstance m_int m_bool
  have G17_5 : FnOk l.prog w K mg base CX0 5 f17 _ _ spPlD := ok_pld F17 G16_4 b16 k16 g16 m_isinstance m_list m_len m_all
  have G0_2 : FnOk l.prog w K mg base CX0 2 f0 _ _ spIwh := ok_iwh F0  m_isinstance m_int m_bool
  have G1_3 : FnOk l.prog w K mg base CX0 3 f1 _ _ spIbl := ok_ibl F1 G0_2 b0 k0 g0 
  have G2_4 : FnOk l.prog w K mg base CX0 4 f2 _ _ spRst := ok_rst F2 G1_3 b1 k1 g1 m_isinstance m_list m_all
  have G3_5 : FnOk l.prog w K mg base CX0 5 f3 _ _ spIsp := ok_isp F3 G2_4 b2 k2 g2 
  have G4_3 : FnOk l.prog w K mg base CX0 3 f4 _ _ spTrm := ok_trm F4  m_len
  have G5_4 : FnOk l.prog w K mg base CX0 4 f5 _ _ spPsm := ok_psm F5 G4_3 b4 k4 g4 m_len m_list m_enumerate
  have G6_4 : FnOk l.prog w K mg base CX0 4 f6 _ _ spPtm := ok_ptm F6  m_len m_enumerate
  have G16_3 : FnOk l.prog w K mg base CX0 3 f16 _ _ spWhD := ok_whd F16  m_isinstance m_int m_bool
  have G17_4 : FnOk l.prog w K mg base CX0 4 f17 _ _ spPlD := ok_pld F17 G16_3 b16 k16 g16 m_isinstance m_list m_len m_all
  have G13_3 : FnOk l.prog w K mg base CX0 3 f13 _ _ spLtr := ok_ltr F13  m_len
  have G15_4 : FnOk l.prog w K mg base CX0 4 f15 _ _ spLps := ok_lps F15 G13_3 b13 k13 g13 m_len m_range m_max m_sum
  have G14_4 : FnOk l.prog w K mg base CX0 4 f14 _ _ spLpt := ok_lpt F14 G13_3 b13 k13 g13 m_len m_range
  have G19_5 : FnOk l.prog w K mg base CX0 5 f19 _ _ spRg6 := ok_rg6 F19 G5_4 b5 k5 g5 G6_4 b6 k6 g6 G17_4 b17 k17 g17 G15_4 b15 k15 g15 G14_4 b14 k14 g14 m_list m_all
  exact ok_law F20 (fun s v => .of_eq rfl) G8_5 b8 k8 g8 G10_5 b10 k10 g10 G11_5 b11 k11 g11 G12_5 b12 k12 g12 G18_5 b18 k18 g18 G17_5 b17 k17 g17 G3_5 b3 k3 g3 G19_5 b19 k19 g19 m_len m_range m_max m_min m_isinstance m_bool m_str
end My
open PySem PySem.W PyProof.Rows
set_option maxRecDepth 100000 in
set_option maxHeartbeats 0 in
theorem PySem.Challenge.cw_stillspans_k06_polynomials_known_holds : PySem.Challenge.rw_stillspans_k06_polynomials_known.Holds := by
  w_on; o_law; k_head; (case hw => w_witness2)
  k_fill
  refine My.walk_at (l := PySem.Challenge.rw_stillspans_k06_polynomials_known) rfl rfl (fun w h Y => PySem.W.kIn_of Y) ?F
  case F =>
    intro w mg fa h KX G hmg
    refine' My.all_mk KX G hmg ?a0 ?l0 ?c0 ?k0 ?a1 ?l1 ?c1 ?k1 ?a2 ?l2 ?c2 ?k2 ?a3 ?l3 ?c3 ?k3 ?a4 ?l4 ?c4 ?k4 ?a5 ?l5 ?c5 ?k5 ?a6 ?l6 ?c6 ?k6 ?a7 ?l7 ?c7 ?k7 ?a8 ?l8 ?c8 ?k8 ?a9 ?l9 ?c9 ?k9 ?a10 ?l10 ?c10 ?k10 ?a11 ?l11 ?c11 ?k11 ?a12 ?l12 ?c12 ?k12 ?a13 ?l13 ?c13 ?k13 ?a14 ?l14 ?c14 ?k14 ?a15 ?l15 ?c15 ?k15 ?a16 ?l16 ?c16 ?k16 ?a17 ?l17 ?c17 ?k17 ?a18 ?l18 ?c18 ?k18 ?a19 ?l19 ?c19 ?k19 ?a20 ?l20 ?c20 ?k20 ?z_len ?z_range ?z_list ?z_max ?z_min ?z_abs ?z_int ?z_isinstance ?z_bool ?z_all ?z_enumerate ?z_sum ?z_tuple ?z_str
    (case a0 => k_is)
    (case l0 => k_is)
    (case c0 => k_is)
    (case k0 => k_is)
    (case a1 => k_is)
    (case l1 => k_is)
    (case c1 => k_is)
    (case k1 => k_is)
    (case a2 => k_is)
    (case l2 => k_is)
    (case c2 => k_is)
    (case k2 => k_is)
    (case a3 => k_is)
    (case l3 => k_is)
    (case c3 => k_is)
    (case k3 => k_is)
    (case a4 => k_is)
    (case l4 => k_is)
    (case c4 => k_is)
    (case k4 => k_is)
    (case a5 => k_is)
    (case l5 => k_is)
    (case c5 => k_is)
    (case k5 => k_is)
    (case a6 => k_is)
    (case l6 => k_is)
    (case c6 => k_is)
    (case k6 => k_is)
    (case a7 => k_is)
    (case l7 => k_is)
    (case c7 => k_is)
    (case k7 => k_is)
    (case a8 => k_is)
    (case l8 => k_is)
    (case c8 => k_is)
    (case k8 => k_is)
    (case a9 => k_is)
    (case l9 => k_is)
    (case c9 => k_is)
    (case k9 => k_is)
    (case a10 => k_is)
    (case l10 => k_is)
    (case c10 => k_is)
    (case k10 => k_is)
    (case a11 => k_is)
    (case l11 => k_is)
    (case c11 => k_is)
    (case k11 => k_is)
    (case a12 => k_is)
    (case l12 => k_is)
    (case c12 => k_is)
    (case k12 => k_is)
    (case a13 => k_is)
    (case l13 => k_is)
    (case c13 => k_is)
    (case k13 => k_is)
    (case a14 => k_is)
    (case l14 => k_is)
    (case c14 => k_is)
    (case k14 => k_is)
    (case a15 => k_is)
    (case l15 => k_is)
    (case c15 => k_is)
    (case k15 => k_is)
    (case a16 => k_is)
    (case l16 => k_is)
    (case c16 => k_is)
    (case k16 => k_is)
    (case a17 => k_is)
    (case l17 => k_is)
    (case c17 => k_is)
    (case k17 => k_is)
    (case a18 => k_is)
    (case l18 => k_is)
    (case c18 => k_is)
    (case k18 => k_is)
    (case a19 => k_is)
    (case l19 => k_is)
    (case c19 => k_is)
    (case k19 => k_is)
    (case a20 => k_is)
    (case l20 => k_is)
    (case c20 => k_is)
    (case k20 => k_is)
    (case z_len => k_is)
    (case z_range => k_is)
    (case z_list => k_is)
    (case z_max => k_is)
    (case z_min => k_is)
    (case z_abs => k_is)
    (case z_int => k_is)
    (case z_isinstance => k_is)
    (case z_bool => k_is)
    (case z_all => k_is)
    (case z_enumerate => k_is)
    (case z_sum => k_is)
    (case z_tuple => k_is)
    (case z_str => k_is)
