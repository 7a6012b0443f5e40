import PyProof.Rows.All
import Wide.All
import OpenK.AllK
import Wide.FinOn
import HandS.ForMost
import HandS.Exc
import HandS.ExcOwn
import HandS.WordsExc
import HandS.SortKw
import HandS.SortInts
import HandS.SortRule
import HandS.TupSets
import HandS.DictTup
import HandS.Conv
import HandS.Zip
import HandS.Small
import HandS.Strs
import HandS.SetFor
import HandS.Walk
import HandS.OwnEq
import HandS.TryOnly
import HandS.IsInst
import HandS.Property
import HandS.TupAny
import HandS.TupMul
import HandS.Deep
import HandS.Lambda
import PyProof.StrOps2
import KE.GoesMore
import HandS.Style
import KE.DataMinMax
import KE.SortData
import HandS.EndTab
import HandS.ExcIs
import KE.DataFind
import KE.SortKeyHeap
import PyProof.Rows.TupDisplay
import KE.KDictDisplayH
import KE.KNestM
import PySem.Challenge.RW_wovenframes_k00_boards_refused
set_option Elab.async false
set_option linter.all false
set_option maxRecDepth 100000
set_option maxHeartbeats 4000000
/-! ## PM -/
namespace PM
/-! Walks, distances, least chains: plain mathematics over a list of pairs. -/
inductive Wk (ps : List (Int × Int)) : Int → Nat → Int → Prop
  | nil (a : Int) : Wk ps a 0 a
  | snoc {a : Int} {k : Nat} {b c : Int} : Wk ps a k b → (b, c) ∈ ps → Wk ps a (k + 1) c
def Ds (ps : List (Int × Int)) (a : Int) (d : Nat) (x : Int) : Prop := Wk ps a d x ∧ ∀ j, j < d → ¬ Wk ps a j x
section
variable {ps qs : List (Int × Int)} {a b c x t : Int} {k d j : Nat}
theorem Wk.zero (h : Wk ps a 0 x) : x = a := by cases h; rfl
theorem Wk.prev (h : Wk ps a (k + 1) x) : ∃ b, Wk ps a k b ∧ (b, x) ∈ ps := by cases h with | snoc h e => exact ⟨_, h, e⟩
theorem Wk.cons (e : (a, b) ∈ ps) (h : Wk ps b k c) : Wk ps a (k + 1) c := by
  induction h with
  | nil => exact .snoc (.nil a) e
  | snoc _ e2 ih => exact .snoc ih e2
theorem Wk.next : ∀ {k : Nat} {x : Int}, Wk ps a (k + 1) x → ∃ b, (a, b) ∈ ps ∧ Wk ps b k x
  | 0, x, h => by
    obtain ⟨b, h1, h2⟩ := h.prev
    rw [h1.zero] at h2
    exact ⟨x, h2, .nil x⟩
  | k + 1, x, h => by
    obtain ⟨b, h1, h2⟩ := h.prev
    obtain ⟨c, h3, h4⟩ := Wk.next h1
    exact ⟨c, h3, .snoc h4 h2⟩
theorem Wk.rev (hq : ∀ x y, (x, y) ∈ ps → (y, x) ∈ qs) (h : Wk ps a k x) : Wk qs x k a := by
  induction h with
  | nil => exact .nil _
  | snoc _ e ih => exact Wk.cons (hq _ _ e) ih
theorem Ds.prev (h : Ds ps a (k + 1) x) : ∃ b, Ds ps a k b ∧ (b, x) ∈ ps := by
  obtain ⟨b, h1, h2⟩ := h.1.prev
  exact ⟨b, ⟨h1, fun j hj w => h.2 (j + 1) (by omega) (.snoc w h2)⟩, h2⟩
theorem Ds.of_wk (h : Wk ps a j x) : ∃ d, d ≤ j ∧ Ds ps a d x := by
  induction j using Nat.strongRecOn with
  | ind j ih =>
    by_cases hx : ∃ i, i < j ∧ Wk ps a i x
    · obtain ⟨i, hi, w⟩ := hx
      obtain ⟨d, hd, e⟩ := ih i hi w
      exact ⟨d, by omega, e⟩
    · exact ⟨j, Nat.le_refl _, h, fun i hi w => hx ⟨i, hi, w⟩⟩
theorem Ds.down (h : Ds ps a k x) (hd : d ≤ k) : ∃ b, Ds ps a d b := by
  induction k generalizing x with
  | zero => exact ⟨x, by rw [show d = 0 by omega]; exact h⟩
  | succ k ih =>
    by_cases e : d = k + 1
    · subst e; exact ⟨x, h⟩
    · obtain ⟨b, h1, _⟩ := h.prev
      exact ih h1 (by omega)
theorem Ds.uniq (h : Ds ps a d x) (h2 : Ds ps a k x) : d = k := by
  rcases Nat.lt_trichotomy d k with e | e | e
  · exact absurd h.1 (h2.2 d e)
  · exact e
  · exact absurd h2.1 (h.2 k e)
theorem Ds.zero : Ds ps a 0 x ↔ x = a := by
  constructor
  · intro h; exact h.1.zero
  · rintro rfl; exact ⟨.nil _, fun j hj => by omega⟩
/-- a level of a search by breadth -/
structure Lv (ps : List (Int × Int)) (a : Int) (d : Nat) (K E : List Int) : Prop where
  nd : K.Nodup
  kn : ∀ x, x ∈ K ↔ ∃ j, j ≤ d ∧ Wk ps a j x
  ed : ∀ x, x ∈ E ↔ Ds ps a d x
theorem Lv.start : Lv ps a 0 [a] [a] := ⟨List.pairwise_singleton _ _, fun x => by
  rw [List.mem_singleton]
  constructor
  · rintro rfl; exact ⟨0, Nat.le_refl _, .nil _⟩
  · rintro ⟨j, hj, w⟩
    rw [show j = 0 by omega] at w
    exact w.zero, fun x => by rw [List.mem_singleton, Ds.zero]⟩
theorem Lv.sub {K E : List Int} (h : Lv ps a d K E) : ∀ e ∈ E, e ∈ K := fun e he => (h.kn e).mpr ⟨d, Nat.le_refl _, ((h.ed e).mp he).1⟩
theorem Lv.next {K E F : List Int} (h : Lv ps a d K E) (nd : (K ++ F).Nodup) (hF : ∀ x, x ∈ F ↔ x ∉ K ∧ ∃ e, e ∈ E ∧ (e, x) ∈ ps) : Lv ps a (d + 1) (K ++ F) F := by
  have hD : ∀ x, x ∈ F ↔ Ds ps a (d + 1) x := fun x => by
    rw [hF]
    constructor
    · rintro ⟨n, e, he, hp⟩
      exact ⟨.snoc ((h.ed e).mp he).1 hp, fun j hj w => n ((h.kn x).mpr ⟨j, by omega, w⟩)⟩
    · intro hx
      obtain ⟨b, h1, h2⟩ := hx.prev
      refine ⟨fun hk => ?_, b, (h.ed b).mpr h1, h2⟩
      obtain ⟨j, hj, w⟩ := (h.kn x).mp hk
      exact hx.2 j (by omega) w
  refine ⟨nd, fun x => ?_, hD⟩
  rw [List.mem_append, h.kn, hD]
  constructor
  · rintro (⟨j, hj, w⟩ | hx)
    · exact ⟨j, by omega, w⟩
    · exact ⟨d + 1, Nat.le_refl _, hx.1⟩
  · rintro ⟨j, hj, w⟩
    obtain ⟨i, hi, w2⟩ := Ds.of_wk w
    by_cases e : i = d + 1
    · subst e; exact .inr w2
    · exact .inl ⟨i, by omega, w2.1⟩
theorem Lv.all {K : List Int} (h : Lv ps a d K []) : ∀ x, x ∈ K ↔ ∃ j, Wk ps a j x := fun x => by
  constructor
  · intro hx; obtain ⟨j, _, w⟩ := (h.kn x).mp hx; exact ⟨j, w⟩
  · rintro ⟨j, w⟩
    obtain ⟨i, _, w2⟩ := Ds.of_wk w
    by_cases e : i ≤ d
    · exact (h.kn x).mpr ⟨i, e, w2.1⟩
    · obtain ⟨b, hb⟩ := w2.down (d := d) (by omega)
      cases (h.ed b).mpr hb
end
/-! ### a dict of numbers -/
def getI : List Int → List Int → Int → Option Int
  | k :: ks, v :: vs, a => if k = a then some v else getI ks vs a
  | _, _, _ => none
theorem getI_app_old {a b v : Int} : ∀ {K V : List Int}, K.length = V.length → a ∈ K → getI (K ++ [b]) (V ++ [v]) a = getI K V a
  | [], _, _, h => by cases h
  | _ :: _, [], h, _ => by cases h
  | k :: K, w :: V, hl, h => by
    show (if k = a then some w else getI (K ++ [b]) (V ++ [v]) a) = if k = a then some w else getI K V a
    by_cases e : k = a
    · rw [if_pos e, if_pos e]
    · rw [if_neg e, if_neg e]
      rcases List.mem_cons.mp h with z | z
      · exact absurd z.symm e
      · exact getI_app_old (by simpa using hl) z
theorem getI_app_new {b v : Int} : ∀ {K V : List Int}, K.length = V.length → b ∉ K → getI (K ++ [b]) (V ++ [v]) b = some v
  | [], [], _, _ => by simp [getI]
  | [], _ :: _, h, _ => by cases h
  | _ :: _, [], h, _ => by cases h
  | k :: K, w :: V, hl, h => by
    show (if k = b then some w else getI (K ++ [b]) (V ++ [v]) b) = some v
    rw [if_neg (fun e => h (by rw [e]; exact List.mem_cons_self))]
    exact getI_app_new (by simpa using hl) fun z => h (List.mem_cons_of_mem _ z)
theorem getI_mem {a v : Int} : ∀ {K V : List Int}, getI K V a = some v → a ∈ K
  | [], _, h => by simp [getI] at h
  | _ :: _, [], h => by simp [getI] at h
  | k :: K, w :: V, h => by
    rw [getI] at h
    by_cases e : k = a
    · subst e; exact List.mem_cons_self
    · rw [if_neg e] at h; exact List.mem_cons_of_mem _ (getI_mem h)
/-- one pair of a turn -/
def pstep (E : List Int) (s : List Int × List Int × List Int) (p : Int × Int) : List Int × List Int × List Int :=
  if p.1 ∈ E ∧ p.2 ∉ s.1 then (s.1 ++ [p.2], s.2.1 ++ [(getI s.1 s.2.1 p.1).getD 0 + 1], s.2.2 ++ [p.2]) else s
/-- what a turn has come to -/
structure Tn (E K0 V0 : List Int) (d : Int) (done : List (Int × Int)) (K V F : List Int) : Prop where
  kf : K = K0 ++ F
  ln : K.length = V.length
  nd : K.Nodup
  fr : ∀ x, x ∈ F ↔ x ∉ K0 ∧ ∃ e, e ∈ E ∧ (e, x) ∈ done
  old : ∀ x, x ∈ K0 → getI K V x = getI K0 V0 x
  new : ∀ x, x ∈ F → getI K V x = some (d + 1)
theorem nodup_snoc {x : Int} {l : List Int} (h : l.Nodup) (n : x ∉ l) : (l ++ [x]).Nodup := List.nodup_append.mpr ⟨h, List.pairwise_singleton _ _, fun a ha b hb e => n (by rw [List.mem_singleton.mp hb] at e; exact e ▸ ha)⟩
theorem Tn.step {E K0 V0 K V F : List Int} {d : Int} {done : List (Int × Int)} {p : Int × Int} (h : Tn E K0 V0 d done K V F) (hE : ∀ e ∈ E, e ∈ K0 ∧ getI K0 V0 e = some d) :
    Tn E K0 V0 d (done ++ [p]) (pstep E (K, V, F) p).1 (pstep E (K, V, F) p).2.1 (pstep E (K, V, F) p).2.2 := by
  unfold pstep
  by_cases c : p.1 ∈ E ∧ p.2 ∉ K
  · rw [if_pos c]
    obtain ⟨c1, c2⟩ := c
    obtain ⟨e1, e2⟩ := hE _ c1
    have e3 : getI K V p.1 = some d := (h.old _ e1).trans e2
    have n0 : p.2 ∉ K0 := fun z => c2 (by rw [h.kf]; exact List.mem_append_left _ z)
    refine ⟨by show K ++ [p.2] = K0 ++ (F ++ [p.2]); rw [h.kf, List.append_assoc], by show (K ++ [p.2]).length = (V ++ [_]).length; rw [List.length_append, List.length_append, h.ln]; rfl, nodup_snoc h.nd c2, fun x => ?_, fun x hx => ?_, fun x hx => ?_⟩
    · show x ∈ F ++ [p.2] ↔ _
      rw [List.mem_append, List.mem_singleton, h.fr]
      constructor
      · rintro (⟨n, e, he, hp⟩ | rfl)
        · exact ⟨n, e, he, List.mem_append_left _ hp⟩
        · exact ⟨n0, p.1, c1, List.mem_append_right _ (List.mem_singleton.mpr rfl)⟩
      · rintro ⟨n, e, he, hp⟩
        rcases List.mem_append.mp hp with hp | hp
        · exact .inl ⟨n, e, he, hp⟩
        · rw [← List.mem_singleton.mp hp]; exact .inr rfl
    · show getI (K ++ [p.2]) (V ++ [_]) x = _
      rw [getI_app_old h.ln (by rw [h.kf]; exact List.mem_append_left _ hx)]
      exact h.old x hx
    · show getI (K ++ [p.2]) (V ++ [(getI K V p.1).getD 0 + 1]) x = _
      rw [e3]
      rcases List.mem_append.mp hx with hx | hx
      · rw [getI_app_old h.ln (by rw [h.kf]; exact List.mem_append_right _ hx)]
        exact h.new x hx
      · rw [List.mem_singleton.mp hx, getI_app_new h.ln c2]; rfl
  · rw [if_neg c]
    refine ⟨h.kf, h.ln, h.nd, fun x => ?_, h.old, h.new⟩
    rw [h.fr]
    constructor
    · rintro ⟨n, e, he, hp⟩; exact ⟨n, e, he, List.mem_append_left _ hp⟩
    · rintro ⟨n, e, he, hp⟩
      rcases List.mem_append.mp hp with hp | hp
      · exact ⟨n, e, he, hp⟩
      · have := List.mem_singleton.mp hp
        subst this
        have hk : x ∈ K := Classical.byContradiction fun z => c ⟨he, z⟩
        rw [h.kf] at hk
        rcases List.mem_append.mp hk with hk | hk
        · exact absurd hk n
        · exact (h.fr x).mp hk
theorem Tn.run {E K0 V0 : List Int} {d : Int} (hE : ∀ e ∈ E, e ∈ K0 ∧ getI K0 V0 e = some d) : ∀ (todo done : List (Int × Int)) {K V F : List Int}, Tn E K0 V0 d done K V F →
    Tn E K0 V0 d (done ++ todo) (todo.foldl (pstep E) (K, V, F)).1 (todo.foldl (pstep E) (K, V, F)).2.1 (todo.foldl (pstep E) (K, V, F)).2.2
  | [], done, K, V, F, h => by rw [List.append_nil]; exact h
  | p :: todo, done, K, V, F, h => by
    have h2 := Tn.run hE todo (done ++ [p]) (h.step (p := p) hE)
    rw [List.append_assoc] at h2
    exact h2
/-- the values of a level -/
def Vs (ps : List (Int × Int)) (a : Int) (K V : List Int) : Prop := K.length = V.length ∧ ∀ x, x ∈ K → ∃ j : Nat, getI K V x = some (j : Int) ∧ Ds ps a j x
theorem level_turn {ps : List (Int × Int)} {a : Int} {d : Nat} {K V E : List Int} (h : Lv ps a d K E) (hv : Vs ps a K V) :
    ∃ F W, ps.foldl (pstep E) (K, V, []) = (K ++ F, W, F) ∧ Lv ps a (d + 1) (K ++ F) F ∧ Vs ps a (K ++ F) W := by
  have hE : ∀ e ∈ E, e ∈ K ∧ getI K V e = some (d : Int) := fun e he => by
    have hk := h.sub e he
    obtain ⟨j, h1, h2⟩ := hv.2 e hk
    rw [h2.uniq ((h.ed e).mp he)] at h1
    exact ⟨hk, h1⟩
  have t := Tn.run hE ps [] (K := K) (V := V) (F := []) ⟨by simp, hv.1, h.nd, fun x => ⟨(fun z => by cases z), (fun ⟨_, e, _, z⟩ => by cases z)⟩, fun _ _ => rfl, fun x z => by cases z⟩
  rw [List.nil_append] at t
  have l := h.next (F := (ps.foldl (pstep E) (K, V, [])).2.2) (by rw [← t.kf]; exact t.nd) t.fr
  refine ⟨_, (ps.foldl (pstep E) (K, V, [])).2.1, by rw [← t.kf], l, ?_, fun x hx => ?_⟩
  · rw [← t.kf]; exact t.ln
  · rw [← t.kf] at hx ⊢
    rw [t.kf] at hx
    rcases List.mem_append.mp hx with hx | hx
    · obtain ⟨j, h1, h2⟩ := hv.2 x hx
      exact ⟨j, (t.old x hx).trans h1, h2⟩
    · exact ⟨d + 1, (t.new x hx).trans (by simp), (l.ed x).mp hx⟩
end PM

/-! ## PM2 -/
namespace PM
section
variable {ps qs : List (Int × Int)} {a b c x t u v : Int} {k d j r : Nat}
/-! ### a search by a pile -/
def kstep (u : Int) (s : List Int × List Int) (p : Int × Int) : List Int × List Int := if p.1 = u ∧ p.2 ∉ s.1 then (s.1 ++ [p.2], s.2 ++ [p.2]) else s
structure Pile (ps : List (Int × Int)) (a : Int) (K L : List Int) : Prop where
  nd : K.Nodup
  st : a ∈ K
  wk : ∀ x ∈ K, ∃ j, Wk ps a j x
  sb : ∀ x ∈ L, x ∈ K
  cl : ∀ x ∈ K, x ∉ L → ∀ y, (x, y) ∈ ps → y ∈ K
theorem Pile.start : Pile ps a [a] [a] := ⟨List.pairwise_singleton _ _, List.mem_singleton.mpr rfl, fun x hx => ⟨0, by rw [List.mem_singleton.mp hx]; exact .nil _⟩, fun x hx => hx, fun x hx n => absurd hx n⟩
/-- within the turn of u -/
structure PTurn (ps : List (Int × Int)) (a u : Int) (done : List (Int × Int)) (K L : List Int) : Prop where
  nd : K.Nodup
  st : a ∈ K
  wk : ∀ x ∈ K, ∃ j, Wk ps a j x
  sb : ∀ x ∈ L, x ∈ K
  um : u ∈ K
  cl : ∀ x ∈ K, x ∉ L → x ≠ u → ∀ y, (x, y) ∈ ps → y ∈ K
  dn : ∀ y, (u, y) ∈ done → y ∈ K
theorem PTurn.step {done : List (Int × Int)} {K L : List Int} {p : Int × Int} (h : PTurn ps a u done K L) (hp : p ∈ ps) : PTurn ps a u (done ++ [p]) (kstep u (K, L) p).1 (kstep u (K, L) p).2 := by
  unfold kstep
  by_cases c : p.1 = u ∧ p.2 ∉ K
  · rw [if_pos c]
    refine ⟨nodup_snoc h.nd c.2, List.mem_append_left _ h.st, fun x hx => ?_, fun x hx => ?_, List.mem_append_left _ h.um, fun x hx n1 n2 y hy => ?_, fun y hy => ?_⟩
    · rcases List.mem_append.mp hx with hx | hx
      · exact h.wk x hx
      · obtain ⟨j, w⟩ := h.wk u h.um
        rw [List.mem_singleton.mp hx]
        exact ⟨j + 1, .snoc w (by rw [← c.1]; exact hp)⟩
    · rcases List.mem_append.mp hx with hx | hx
      · exact List.mem_append_left _ (h.sb x hx)
      · exact List.mem_append_right _ hx
    · rcases List.mem_append.mp hx with hx | hx
      · exact List.mem_append_left _ (h.cl x hx (fun z => n1 (List.mem_append_left _ z)) n2 y hy)
      · exact absurd (List.mem_append_right _ hx) n1
    · rcases List.mem_append.mp hy with hy | hy
      · exact List.mem_append_left _ (h.dn y hy)
      · rw [← List.mem_singleton.mp hy]; exact List.mem_append_right _ (List.mem_singleton.mpr rfl)
  · rw [if_neg c]
    refine ⟨h.nd, h.st, h.wk, h.sb, h.um, h.cl, fun y hy => ?_⟩
    rcases List.mem_append.mp hy with hy | hy
    · exact h.dn y hy
    · have e := List.mem_singleton.mp hy
      subst e
      exact Classical.byContradiction fun z => c ⟨rfl, z⟩
theorem PTurn.run : ∀ (todo done : List (Int × Int)) {K L : List Int}, (∀ p ∈ todo, p ∈ ps) → PTurn ps a u done K L → PTurn ps a u (done ++ todo) (todo.foldl (kstep u) (K, L)).1 (todo.foldl (kstep u) (K, L)).2
  | [], done, K, L, _, h => by rw [List.append_nil]; exact h
  | p :: todo, done, K, L, hp, h => by
    have := PTurn.run todo (done ++ [p]) (fun q hq => hp q (List.mem_cons_of_mem _ hq)) (h.step (hp p List.mem_cons_self))
    rw [List.append_assoc] at this
    exact this
theorem kstep_len {u : Int} {K L : List Int} {p : Int × Int} : (kstep u (K, L) p).1.length + L.length = (kstep u (K, L) p).2.length + K.length := by
  unfold kstep
  split
  · show (K ++ [p.2]).length + L.length = (L ++ [p.2]).length + K.length
    rw [List.length_append, List.length_append]; show _ + 1 + _ = _ + 1 + _; omega
  · show K.length + L.length = L.length + K.length; omega
theorem krun_len {u : Int} : ∀ (todo : List (Int × Int)) {K L : List Int}, (todo.foldl (kstep u) (K, L)).1.length + L.length = (todo.foldl (kstep u) (K, L)).2.length + K.length
  | [], K, L => by show K.length + L.length = L.length + K.length; omega
  | p :: todo, K, L => by
    have h1 := kstep_len (u := u) (K := K) (L := L) (p := p)
    have h2 := krun_len (u := u) todo (K := (kstep u (K, L) p).1) (L := (kstep u (K, L) p).2)
    rw [show ((kstep u (K, L) p).1, (kstep u (K, L) p).2) = kstep u (K, L) p from rfl] at h2
    show (todo.foldl (kstep u) (kstep u (K, L) p)).1.length + L.length = (todo.foldl (kstep u) (kstep u (K, L) p)).2.length + K.length
    omega
theorem pile_turn {K L : List Int} (h : Pile ps a K (L ++ [u])) : Pile ps a (ps.foldl (kstep u) (K, L)).1 (ps.foldl (kstep u) (K, L)).2 := by
  have hu : u ∈ K := h.sb u (List.mem_append_right _ (List.mem_singleton.mpr rfl))
  have t : PTurn ps a u [] K L := ⟨h.nd, h.st, h.wk, fun x hx => h.sb x (List.mem_append_left _ hx), hu, fun x hx n1 n2 y hy => h.cl x hx (fun z => by
    rcases List.mem_append.mp z with z | z
    · exact n1 z
    · exact n2 (List.mem_singleton.mp z)) y hy, fun y hy => by cases hy⟩
  have t2 := PTurn.run ps [] (fun _ h => h) t
  rw [List.nil_append] at t2
  refine ⟨t2.nd, t2.st, t2.wk, t2.sb, fun x hx n y hy => ?_⟩
  by_cases e : x = u
  · subst e; exact t2.dn y hy
  · exact t2.cl x hx n e y hy
theorem Pile.all {K : List Int} (h : Pile ps a K []) : ∀ x, x ∈ K ↔ ∃ j, Wk ps a j x := fun x => by
  constructor
  · exact h.wk x
  · rintro ⟨j, w⟩
    induction w with
    | nil => exact h.st
    | snoc w e ih => exact h.cl _ ih (fun z => by cases z) _ e
/-! ### chains as lists -/
inductive Pt (ps : List (Int × Int)) : Int → List Int → Int → Prop
  | one (a : Int) : Pt ps a [a] a
  | cons {a b c : Int} {l : List Int} : (a, b) ∈ ps → Pt ps b l c → Pt ps a (a :: l) c
theorem Pt.len {l : List Int} (h : Pt ps a l c) : ∃ k, l.length = k + 1 ∧ Wk ps a k c := by
  induction h with
  | one a => exact ⟨0, rfl, .nil a⟩
  | cons e _ ih =>
    obtain ⟨k, h1, h2⟩ := ih
    exact ⟨k + 1, by rw [List.length_cons, h1], Wk.cons e h2⟩
theorem Pt.snoc {l : List Int} (h : Pt ps a l b) (e : (b, c) ∈ ps) : Pt ps a (l ++ [c]) c := by
  induction h with
  | one a => exact .cons e (.one c)
  | cons e2 _ ih => exact .cons e2 (ih e)
theorem Pt.unsnoc {l : List Int} (h : Pt ps a l c) : ∀ {k : Nat}, l.length = k + 2 → ∃ l0 b, l = l0 ++ [c] ∧ Pt ps a l0 b ∧ (b, c) ∈ ps ∧ l0.length = k + 1 := by
  induction h with
  | one a => intro k hk; simp at hk
  | @cons a b c l e h ih =>
    intro k hk
    rw [List.length_cons] at hk
    cases k with
    | zero =>
      obtain ⟨x, rfl⟩ : ∃ x, l = [x] := by
        match l, hk with
        | [x], _ => exact ⟨x, rfl⟩
      cases h with
      | one _ => exact ⟨[a], a, rfl, .one a, e, rfl⟩
      | cons _ h2 => cases h2
    | succ k =>
      obtain ⟨l0, b2, h1, h2, h3, h4⟩ := ih (k := k) (by omega)
      subst h1
      exact ⟨a :: l0, b2, rfl, .cons e h2, h3, by rw [List.length_cons, h4]⟩
/-- places from the left -/
def lexle : List Int → List Int → Prop
  | x :: xs, y :: ys => x < y ∨ (x = y ∧ lexle xs ys)
  | _, _ => True
theorem lexle_refl : ∀ l, lexle l l
  | [] => True.intro
  | _ :: l => .inr ⟨rfl, lexle_refl l⟩
theorem lexle_trans : ∀ {l m n : List Int}, l.length = m.length → m.length = n.length → lexle l m → lexle m n → lexle l n
  | [], [], [], _, _, _, _ => True.intro
  | x :: l, y :: m, z :: n, h1, h2, a, b => by
    rcases a with a | ⟨rfl, a⟩
    · rcases b with b | ⟨rfl, b⟩
      · exact .inl (Int.lt_trans a b)
      · exact .inl a
    · rcases b with b | ⟨rfl, b⟩
      · exact .inl b
      · exact .inr ⟨rfl, lexle_trans (by simpa using h1) (by simpa using h2) a b⟩
theorem lexle_anti : ∀ {l m : List Int}, l.length = m.length → lexle l m → lexle m l → l = m
  | [], [], _, _, _ => rfl
  | x :: l, y :: m, h, a, b => by
    rcases a with a | ⟨rfl, a⟩
    · rcases b with b | ⟨rfl, b⟩
      · omega
      · omega
    · rcases b with b | ⟨_, b⟩
      · omega
      · rw [lexle_anti (by simpa using h) a b]
theorem lexle_app : ∀ {l m n p : List Int}, l.length = m.length → lexle l m → lexle n p → lexle (l ++ n) (m ++ p)
  | [], [], _, _, _, _, h => h
  | x :: l, y :: m, n, p, e, a, b => by
    rcases a with a | ⟨rfl, a⟩
    · exact .inl a
    · exact .inr ⟨rfl, lexle_app (by simpa using e) a b⟩
/-- of core's order -/
theorem lexle_of : ∀ {l m : List Int}, l.length = m.length → ¬ m < l → lexle l m
  | [], [], _, _ => True.intro
  | x :: l, y :: m, e, h => by
    rw [List.cons_lt_cons_iff] at h
    by_cases h1 : x < y
    · exact .inl h1
    · have h2 : x = y := by
        have : ¬ y < x := fun z => h (.inl z)
        omega
      subst h2
      exact .inr ⟨rfl, lexle_of (by simpa using e) fun z => h (.inr ⟨rfl, z⟩)⟩
end
end PM

/-! ## PM3 -/
namespace PM
section
variable {ps qs : List (Int × Int)} {a b c x t u v : Int} {k d j r : Nat}
theorem Wk.pt (h : Wk ps a k c) : ∃ l, Pt ps a l c ∧ l.length = k + 1 := by
  induction h with
  | nil => exact ⟨[a], .one a, rfl⟩
  | snoc _ e ih =>
    obtain ⟨l, h1, h2⟩ := ih
    exact ⟨_, h1.snoc e, by rw [List.length_append, h2]; rfl⟩
theorem Pt.wk {l : List Int} (h : Pt ps a l c) (hl : l.length = k + 1) : Wk ps a k c := by
  obtain ⟨j, h1, h2⟩ := h.len
  rw [show k = j by omega]; exact h2
theorem Pt.head {l : List Int} (h : Pt ps a l c) : ∃ m, l = a :: m := by
  cases h with
  | one _ => exact ⟨_, rfl⟩
  | cons _ _ => exact ⟨_, rfl⟩
theorem Pt.last {l : List Int} (h : Pt ps a l c) : l.getLast? = some c := by
  induction h with
  | one a => rfl
  | @cons a b c l e h ih =>
    obtain ⟨m, rfl⟩ := h.head
    rw [List.getLast?_cons_cons]; exact ih
/-- the least shortest chain -/
def Best (ps : List (Int × Int)) (a t : Int) (l : List Int) : Prop := Pt ps a l t ∧ (∀ m, Pt ps a m t → l.length ≤ m.length) ∧ ∀ m, Pt ps a m t → m.length = l.length → lexle l m
theorem Best.uniq {l m : List Int} (h : Best ps a t l) (h2 : Best ps a t m) : l = m := by
  have e : l.length = m.length := by have := h.2.1 m h2.1; have := h2.2.1 l h.1; omega
  exact lexle_anti e (h.2.2 m h2.1 e.symm) (h2.2.2 l h.1 e)
/-! ### step by step to the nearer one -/
/-- both ways round -/
def Tur (ps qs : List (Int × Int)) : Prop := ∀ x y, (x, y) ∈ qs ↔ (y, x) ∈ ps
theorem Tur.wk (h : Tur ps qs) : Wk qs t k x ↔ Wk ps x k t := ⟨fun w => w.rev fun a b e => (h a b).mp e, fun w => w.rev fun a b e => (h b a).mpr e⟩
/-- so many steps to t, none fewer -/
def To (ps : List (Int × Int)) (t : Int) (r : Nat) (u : Int) : Prop := Wk ps u r t ∧ ∀ j, j < r → ¬ Wk ps u j t
theorem Tur.ds (h : Tur ps qs) : Ds qs t r u ↔ To ps t r u := by
  unfold Ds To
  rw [h.wk]
  constructor
  · rintro ⟨a, b⟩; exact ⟨a, fun j hj w => b j hj (h.wk.mpr w)⟩
  · rintro ⟨a, b⟩; exact ⟨a, fun j hj w => b j hj (h.wk.mp w)⟩
theorem To.next (h : To ps t (r + 1) u) : ∃ b, (u, b) ∈ ps ∧ To ps t r b := by
  obtain ⟨b, h1, h2⟩ := h.1.next
  exact ⟨b, h1, h2, fun j hj w => h.2 (j + 1) (by omega) (Wk.cons h1 w)⟩
/-- v is the least next one that is nearer -/
def Least (ps : List (Int × Int)) (t : Int) (r : Nat) (u v : Int) : Prop := (u, v) ∈ ps ∧ To ps t r v ∧ ∀ b, (u, b) ∈ ps → To ps t r b → v ≤ b
inductive Grd (ps : List (Int × Int)) (t : Int) : Nat → Int → List Int → Prop
  | zero : Grd ps t 0 t [t]
  | succ {r : Nat} {u v : Int} {l : List Int} : Least ps t r u v → Grd ps t r v l → Grd ps t (r + 1) u (u :: l)
theorem Grd.len {l : List Int} (h : Grd ps t r u l) : l.length = r + 1 := by
  induction h with
  | zero => rfl
  | succ _ _ ih => rw [List.length_cons, ih]
theorem Grd.pt {l : List Int} (h : Grd ps t r u l) : Pt ps u l t := by
  induction h with
  | zero => exact .one t
  | succ h _ ih => exact .cons h.1 ih
theorem Grd.least {l : List Int} (h : Grd ps t r u l) (hu : To ps t r u) : ∀ m, Pt ps u m t → m.length = r + 1 → lexle l m := by
  induction h with
  | zero =>
    intro m hm hl
    obtain ⟨n, rfl⟩ := hm.head
    match n, hl with
    | [], _ => exact lexle_refl _
  | @succ r u v l h hg ih =>
    intro m hm hl
    cases hm with
    | one _ => simp at hl
    | @cons _ b _ m e hm =>
      have hl2 : m.length = r + 1 := by simpa using hl
      have hb : To ps t r b := ⟨hm.wk hl2, fun j hj w => hu.2 (j + 1) (by omega) (Wk.cons e w)⟩
      have hv := h.2.2 b e hb
      refine .inr ⟨rfl, ?_⟩
      obtain ⟨n, rfl⟩ := hm.head
      obtain ⟨l', rfl⟩ := hg.pt.head
      by_cases hvb : v < b
      · exact .inl hvb
      · have : v = b := by omega
        subst this
        exact ih h.2.1 _ hm hl2
theorem Grd.best {l : List Int} (h : Grd ps t r u l) (hu : To ps t r u) : Best ps u t l := by
  refine ⟨h.pt, fun m hm => ?_, fun m hm hl => h.least hu m hm (by rw [hl, h.len])⟩
  obtain ⟨k, h1, h2⟩ := hm.len
  rw [h.len, h1]
  have : ¬ k < r := fun z => hu.2 k z h2
  omega
/-! ### layer by layer, the lesser chains first -/
def lst (l : List Int) : Int := l.getLast?.getD 0
theorem lst_snoc (l : List Int) (x : Int) : lst (l ++ [x]) = x := by unfold lst; rw [List.getLast?_append]; rfl
theorem Pt.lst {l : List Int} (h : Pt ps a l c) : PM.lst l = c := by unfold PM.lst; rw [h.last]; rfl
structure Ly (ps : List (Int × Int)) (a : Int) (d : Nat) (K : List Int) (L : List (List Int)) : Prop where
  lv : Lv ps a d K (L.map PM.lst)
  nd : (L.map PM.lst).Nodup
  pt : ∀ c ∈ L, Pt ps a c (PM.lst c) ∧ c.length = d + 1
  ls : ∀ c ∈ L, ∀ m, Pt ps a m (PM.lst c) → m.length = d + 1 → lexle c m
theorem Ly.start : Ly ps a 0 [a] [[a]] := ⟨Lv.start, List.pairwise_singleton _ _, fun c hc => by rw [List.mem_singleton.mp hc]; exact ⟨.one a, rfl⟩, fun c hc m hm hl => by
  rw [List.mem_singleton.mp hc] at hm ⊢
  obtain ⟨n, rfl⟩ := hm.head
  match n, hl with
  | [], _ => exact lexle_refl _⟩
def cstep (c : List Int) (s : List Int × List (List Int)) (p : Int × Int) : List Int × List (List Int) := if p.1 = PM.lst c ∧ p.2 ∉ s.1 then (s.1 ++ [p.2], s.2 ++ [c ++ [p.2]]) else s
def cturn (ps : List (Int × Int)) (s : List Int × List (List Int)) (c : List Int) : List Int × List (List Int) := ps.foldl (cstep c) s
/-- what the turns of some chains, and of the pairs done of one more, have come to -/
structure LTn (ps : List (Int × Int)) (K0 : List Int) (C : List (List Int)) (c : List Int) (done : List (Int × Int)) (K : List Int) (M : List (List Int)) : Prop where
  kf : K = K0 ++ M.map PM.lst
  nd : K.Nodup
  mm : ∀ m ∈ M, ∃ c', (c' ∈ C ∨ c' = c) ∧ ∃ s, m = c' ++ [s] ∧ (PM.lst c', s) ∈ ps ∧ s ∉ K0 ∧ ∀ c2 ∈ C, (PM.lst c2, s) ∈ ps → lexle c' c2
  al : ∀ c2 ∈ C, ∀ y, (PM.lst c2, y) ∈ ps → y ∈ K
  dn : ∀ y, (PM.lst c, y) ∈ done → y ∈ K
theorem LTn.step {K0 K : List Int} {C M : List (List Int)} {c : List Int} {done : List (Int × Int)} {p : Int × Int} (h : LTn ps K0 C c done K M) (hp : p ∈ ps) : LTn ps K0 C c (done ++ [p]) (cstep c (K, M) p).1 (cstep c (K, M) p).2 := by
  unfold cstep
  by_cases e : p.1 = PM.lst c ∧ p.2 ∉ K
  · rw [if_pos e]
    obtain ⟨e1, e2⟩ := e
    have n0 : p.2 ∉ K0 := fun z => e2 (by rw [h.kf]; exact List.mem_append_left _ z)
    have nc : ∀ c2 ∈ C, (PM.lst c2, p.2) ∉ ps := fun c2 hc z => e2 (h.al c2 hc _ z)
    refine ⟨by show K ++ [p.2] = K0 ++ (M ++ [c ++ [p.2]]).map PM.lst; rw [List.map_append, h.kf, List.append_assoc]; show _ = _ ++ (_ ++ [PM.lst (c ++ [p.2])]); rw [lst_snoc], nodup_snoc h.nd e2, fun m hm => ?_, fun c2 hc y hy => List.mem_append_left _ (h.al c2 hc y hy), fun y hy => ?_⟩
    · rcases List.mem_append.mp hm with hm | hm
      · exact h.mm m hm
      · rw [List.mem_singleton.mp hm]
        exact ⟨c, .inr rfl, p.2, rfl, by rw [← e1]; exact hp, n0, fun c2 hc z => absurd z (nc c2 hc)⟩
    · rcases List.mem_append.mp hy with hy | hy
      · exact List.mem_append_left _ (h.dn y hy)
      · rw [← List.mem_singleton.mp hy]; exact List.mem_append_right _ (List.mem_singleton.mpr rfl)
  · rw [if_neg e]
    refine ⟨h.kf, h.nd, h.mm, h.al, fun y hy => ?_⟩
    rcases List.mem_append.mp hy with hy | hy
    · exact h.dn y hy
    · have z := List.mem_singleton.mp hy
      subst z
      exact Classical.byContradiction fun z => e ⟨rfl, z⟩
theorem LTn.run {K0 : List Int} {C : List (List Int)} {c : List Int} : ∀ (todo done : List (Int × Int)) {K : List Int} {M : List (List Int)}, (∀ p ∈ todo, p ∈ ps) → LTn ps K0 C c done K M → LTn ps K0 C c (done ++ todo) (todo.foldl (cstep c) (K, M)).1 (todo.foldl (cstep c) (K, M)).2
  | [], done, K, M, _, h => by rw [List.append_nil]; exact h
  | p :: todo, done, K, M, hp, h => by
    have := LTn.run todo (done ++ [p]) (fun q hq => hp q (List.mem_cons_of_mem _ hq)) (h.step (hp p List.mem_cons_self))
    rw [List.append_assoc] at this
    exact this
/-- all chains of C are done -/
structure LCn (ps : List (Int × Int)) (K0 : List Int) (C : List (List Int)) (K : List Int) (M : List (List Int)) : Prop where
  kf : K = K0 ++ M.map PM.lst
  nd : K.Nodup
  mm : ∀ m ∈ M, ∃ c' ∈ C, ∃ s, m = c' ++ [s] ∧ (PM.lst c', s) ∈ ps ∧ s ∉ K0 ∧ ∀ c2 ∈ C, (PM.lst c2, s) ∈ ps → lexle c' c2
  al : ∀ c2 ∈ C, ∀ y, (PM.lst c2, y) ∈ ps → y ∈ K
theorem LCn.turn {K0 K : List Int} {C M : List (List Int)} {c : List Int} (h : LCn ps K0 C K M) (hc : ∀ c2 ∈ C, lexle c2 c) : LCn ps K0 (C ++ [c]) (cturn ps (K, M) c).1 (cturn ps (K, M) c).2 := by
  have t : LTn ps K0 C c [] K M := ⟨h.kf, h.nd, fun m hm => by
    obtain ⟨c', h1, s, h2, h3, h4, h5⟩ := h.mm m hm
    exact ⟨c', .inl h1, s, h2, h3, h4, h5⟩, h.al, fun y hy => by cases hy⟩
  have t2 := LTn.run ps [] (fun _ h => h) t
  rw [List.nil_append] at t2
  refine ⟨t2.kf, t2.nd, fun m hm => ?_, fun c2 hc2 y hy => ?_⟩
  · obtain ⟨c', h1, s, h2, h3, h4, h5⟩ := t2.mm m hm
    refine ⟨c', ?_, s, h2, h3, h4, fun c2 hc2 hs => ?_⟩
    · rcases h1 with h1 | rfl
      · exact List.mem_append_left _ h1
      · exact List.mem_append_right _ (List.mem_singleton.mpr rfl)
    · rcases List.mem_append.mp hc2 with hc2 | hc2
      · exact h5 c2 hc2 hs
      · rw [List.mem_singleton.mp hc2]
        rcases h1 with h1 | rfl
        · exact hc c' h1
        · exact lexle_refl _
  · rcases List.mem_append.mp hc2 with hc2 | hc2
    · exact t2.al c2 hc2 y hy
    · rw [List.mem_singleton.mp hc2] at hy
      exact t2.dn y hy
theorem LCn.run {K0 : List Int} : ∀ (todo C : List (List Int)) {K : List Int} {M : List (List Int)}, (C ++ todo).Pairwise lexle → LCn ps K0 C K M → LCn ps K0 (C ++ todo) (todo.foldl (cturn ps) (K, M)).1 (todo.foldl (cturn ps) (K, M)).2
  | [], C, K, M, _, h => by rw [List.append_nil]; exact h
  | c :: todo, C, K, M, hs, h => by
    have hc : ∀ c2 ∈ C, lexle c2 c := fun c2 h2 => (List.pairwise_append.mp hs).2.2 c2 h2 c List.mem_cons_self
    have := LCn.run todo (C ++ [c]) (by rw [List.append_assoc]; exact hs) (h.turn hc)
    rw [List.append_assoc] at this
    exact this
theorem Ly.next {K : List Int} {L S : List (List Int)} (h : Ly ps a d K L) (hp : S.Perm L) (hs : S.Pairwise lexle) : Ly ps a (d + 1) (S.foldl (cturn ps) (K, [])).1 (S.foldl (cturn ps) (K, [])).2 := by
  have z := LCn.run (ps := ps) (K0 := K) S [] (K := K) (M := []) hs ⟨by simp, h.lv.nd, (fun m hm => by cases hm), (fun c hc => by cases hc)⟩
  rw [List.nil_append] at z
  generalize (S.foldl (cturn ps) (K, [])).1 = K2 at z ⊢
  generalize (S.foldl (cturn ps) (K, [])).2 = M at z ⊢
  have nd2 : (K ++ M.map PM.lst).Nodup := by rw [← z.kf]; exact z.nd
  have hF : ∀ x, x ∈ M.map PM.lst ↔ x ∉ K ∧ ∃ e, e ∈ L.map PM.lst ∧ (e, x) ∈ ps := fun x => by
    constructor
    · intro hx
      obtain ⟨m, hm, rfl⟩ := List.mem_map.mp hx
      obtain ⟨c', h1, s, rfl, h3, h4, _⟩ := z.mm m hm
      rw [lst_snoc]
      exact ⟨h4, _, List.mem_map_of_mem (hp.mem_iff.mp h1), h3⟩
    · rintro ⟨n, e, he, hx⟩
      obtain ⟨c2, hc2, rfl⟩ := List.mem_map.mp he
      have hk := z.al c2 (hp.mem_iff.mpr hc2) x hx
      rw [z.kf] at hk
      rcases List.mem_append.mp hk with hk | hk
      · exact absurd hk n
      · exact hk
  have lv := h.lv.next nd2 hF
  refine ⟨by rw [z.kf]; exact lv, (List.nodup_append.mp nd2).2.1, fun m hm => ?_, fun m hm l hl len => ?_⟩
  · obtain ⟨c', h1, s, rfl, h3, h4, _⟩ := z.mm m hm
    obtain ⟨p1, p2⟩ := h.pt c' (hp.mem_iff.mp h1)
    rw [lst_snoc]
    exact ⟨p1.snoc h3, by rw [List.length_append, p2]; rfl⟩
  · obtain ⟨c', h1, s, rfl, h3, h4, h5⟩ := z.mm m hm
    have hs' : Ds ps a (d + 1) s := (lv.ed s).mp (List.mem_map.mpr ⟨_, hm, lst_snoc _ _⟩)
    rw [lst_snoc] at hl
    obtain ⟨l0, b, rfl, q1, q2, q3⟩ := hl.unsnoc (k := d) len
    have hb : Ds ps a d b := ⟨q1.wk q3, fun j hj w => hs'.2 (j + 1) (by omega) (.snoc w q2)⟩
    obtain ⟨c2, hc2, rfl⟩ := List.mem_map.mp ((h.lv.ed b).mpr hb)
    have l1 := h5 c2 (hp.mem_iff.mpr hc2) q2
    have l2 := h.ls c2 hc2 l0 q1 q3
    have p1 := (h.pt c' (hp.mem_iff.mp h1)).2
    have p2 := (h.pt c2 hc2).2
    exact lexle_app (by rw [p1, q3]) (lexle_trans (by rw [p1, p2]) (by rw [p2, q3]) l1 l2) (lexle_refl _)
theorem Ly.best {K : List Int} {L : List (List Int)} {c : List Int} (h : Ly ps a d K L) (hc : c ∈ L) : Best ps a (PM.lst c) c := by
  obtain ⟨p1, p2⟩ := h.pt c hc
  have hd : Ds ps a d (PM.lst c) := (h.lv.ed _).mp (List.mem_map_of_mem hc)
  refine ⟨p1, fun m hm => ?_, fun m hm hl => h.ls c hc m hm (by rw [hl, p2])⟩
  obtain ⟨k, h1, h2⟩ := hm.len
  rw [p2, h1]
  have : ¬ k < d := fun z => hd.2 k z h2
  omega
theorem Ly.good {K : List Int} {L : List (List Int)} (h : Ly ps a d K L) : (L.filter fun c => decide (PM.lst c = t)) = [] ∨ ∃ c, c ∈ L ∧ PM.lst c = t ∧ (L.filter fun c => decide (PM.lst c = t)) = [c] := by
  have nd := h.nd
  clear h
  induction L with
  | nil => exact .inl rfl
  | cons c L ih =>
    rw [List.map_cons, List.nodup_cons] at nd
    by_cases e : PM.lst c = t
    · refine .inr ⟨c, List.mem_cons_self, e, ?_⟩
      rw [List.filter_cons_of_pos (by rw [decide_eq_true e])]
      have : (L.filter fun c => decide (PM.lst c = t)) = [] := List.filter_eq_nil_iff.mpr fun x hx z => nd.1 (by
        rw [e, ← of_decide_eq_true z]; exact List.mem_map_of_mem hx)
      rw [this]
    · rw [List.filter_cons_of_neg (by simpa using e)]
      rcases ih nd.2 with h | ⟨c', h1, h2, h3⟩
      · exact .inl h
      · exact .inr ⟨c', List.mem_cons_of_mem _ h1, h2, h3⟩
end
end PM

/-! ## PM4 -/
/-! Pure maths: closed lots, made of the threads that lead to one; lots in order of size. -/
namespace PM
/-! ### the order: the smaller first, those of one size ascending -/
def leK (a b : List Int) : Bool := decide (a.length < b.length ∨ (a.length = b.length ∧ ¬ b < a))
theorem leK_iff {a b : List Int} : leK a b = true ↔ a.length < b.length ∨ (a.length = b.length ∧ ¬ b < a) := decide_eq_true_iff
theorem leK_total (a b : List Int) : (leK a b || leK b a) = true := by
  rw [Bool.or_eq_true, leK_iff, leK_iff]
  rcases Nat.lt_trichotomy a.length b.length with h | h | h
  · exact .inl (.inl h)
  · by_cases l : b < a
    · exact .inr (.inr ⟨h.symm, fun z => List.lt_irrefl _ (List.lt_trans l z)⟩)
    · exact .inl (.inr ⟨h, l⟩)
  · exact .inr (.inl h)
theorem leK_trans (a b c : List Int) (h1 : leK a b = true) (h2 : leK b c = true) : leK a c = true := by
  rw [leK_iff] at h1 h2 ⊢
  rcases h1 with h1 | ⟨e1, h1⟩ <;> rcases h2 with h2 | ⟨e2, h2⟩
  · exact .inl (by omega)
  · exact .inl (by omega)
  · exact .inl (by omega)
  · exact .inr ⟨by omega, List.not_lt.mpr (List.le_trans (List.not_lt.mp h1) (List.not_lt.mp h2))⟩
theorem leK_anti {a b : List Int} (h1 : leK a b = true) (h2 : leK b a = true) : a = b := by
  rw [leK_iff] at h1 h2
  rcases h1 with h1 | ⟨e1, h1⟩ <;> rcases h2 with h2 | ⟨e2, h2⟩
  · omega
  · omega
  · omega
  · exact List.le_antisymm (List.not_lt.mp h1) (List.not_lt.mp h2)
theorem leK_len {a b : List Int} (h : leK a b = true) : a.length ≤ b.length := by
  rw [leK_iff] at h
  rcases h with h | ⟨h, _⟩ <;> omega
def ordK (L : List (List Int)) : List (List Int) := L.mergeSort leK
theorem ordK_perm (L : List (List Int)) : (ordK L).Perm L := List.mergeSort_perm L leK
theorem ordK_pw (L : List (List Int)) : (ordK L).Pairwise fun a b => leK a b = true := List.pairwise_mergeSort leK_trans leK_total L
theorem pw_uniq : ∀ {L M : List (List Int)}, (L.Pairwise fun a b => leK a b = true) → (M.Pairwise fun a b => leK a b = true) → L.Perm M → L = M
  | [], M, _, _, p => (List.nil_perm.mp p).symm
  | a :: L, [], _, _, p => absurd (List.perm_nil.mp p) (by simp)
  | a :: L, b :: M, h1, h2, p => by
    obtain ⟨a1, a2⟩ := List.pairwise_cons.mp h1
    obtain ⟨b1, b2⟩ := List.pairwise_cons.mp h2
    have e : a = b := by
      have ha : a ∈ b :: M := p.mem_iff.mp List.mem_cons_self
      have hb : b ∈ a :: L := p.mem_iff.mpr List.mem_cons_self
      rcases List.mem_cons.mp ha with e | ha
      · exact e
      · rcases List.mem_cons.mp hb with e | hb
        · exact e.symm
        · exact leK_anti (a1 b hb) (b1 a ha)
    subst e
    rw [pw_uniq a2 b2 ((List.perm_cons a).mp p)]
theorem nodup_perm {α : Type} : ∀ {L M : List α}, L.Nodup → M.Nodup → (∀ x, x ∈ L ↔ x ∈ M) → L.Perm M
  | [], M, _, _, h => by
    cases M with
    | nil => exact .nil
    | cons b M => exact absurd ((h b).mpr List.mem_cons_self) (by simp)
  | a :: L, M, h1, h2, h => by
    obtain ⟨l, r, rfl⟩ := List.append_of_mem ((h a).mp List.mem_cons_self)
    obtain ⟨n1, n2⟩ := List.nodup_cons.mp h1
    have p := List.perm_middle (a := a) (l₁ := l) (l₂ := r)
    have h2' := p.nodup_iff.mp h2
    obtain ⟨m1, m2⟩ := List.nodup_cons.mp h2'
    refine (List.Perm.cons a (nodup_perm n2 m2 fun x => ?_)).trans p.symm
    have hx := h x
    rw [p.mem_iff, List.mem_cons, List.mem_cons] at hx
    constructor
    · intro z
      rcases hx.mp (.inr z) with e | q
      · subst e; exact absurd z n1
      · exact q
    · intro z
      rcases hx.mpr (.inr z) with e | q
      · subst e; exact absurd z m1
      · exact q
theorem strictI_uniq : ∀ {L M : List Int}, L.Pairwise (· < ·) → M.Pairwise (· < ·) → (∀ x, x ∈ L ↔ x ∈ M) → L = M
  | [], M, _, _, h => by
    cases M with
    | nil => rfl
    | cons b M => exact absurd ((h b).mpr List.mem_cons_self) (by simp)
  | a :: L, [], _, _, h => absurd ((h a).mp List.mem_cons_self) (by simp)
  | a :: L, b :: M, h1, h2, h => by
    obtain ⟨a1, a2⟩ := List.pairwise_cons.mp h1
    obtain ⟨b1, b2⟩ := List.pairwise_cons.mp h2
    have e : a = b := by
      rcases List.mem_cons.mp ((h a).mp List.mem_cons_self) with e | ha
      · exact e
      · rcases List.mem_cons.mp ((h b).mpr List.mem_cons_self) with e | hb
        · exact e.symm
        · have := a1 b hb; have := b1 a ha; omega
    subst e
    rw [strictI_uniq a2 b2 fun x => ⟨fun hx => ?_, fun hx => ?_⟩]
    · rcases List.mem_cons.mp ((h x).mp (List.mem_cons_of_mem _ hx)) with e | q
      · have := a1 x hx; omega
      · exact q
    · rcases List.mem_cons.mp ((h x).mpr (List.mem_cons_of_mem _ hx)) with e | q
      · have := b1 x hx; omega
      · exact q
/-! ### threads that lead to one -/
def Ld (ps : List (Int × Int)) (a b : Int) : Prop := ∃ k, Wk ps a k b
theorem Ld.refl {ps : List (Int × Int)} (a : Int) : Ld ps a a := ⟨0, .nil a⟩
theorem Ld.step {ps : List (Int × Int)} {a b c : Int} (h : Ld ps a b) (e : (b, c) ∈ ps) : Ld ps a c := by
  obtain ⟨k, w⟩ := h
  exact ⟨k + 1, .snoc w e⟩
theorem Ld.trans {ps : List (Int × Int)} {a b c : Int} (h : Ld ps a b) (h2 : Ld ps b c) : Ld ps a c := by
  obtain ⟨k, w⟩ := h2
  induction w with
  | nil => exact h
  | snoc w e ih => exact ih.step e
theorem Ld.one {ps : List (Int × Int)} {a b : Int} (e : (a, b) ∈ ps) : Ld ps a b := (Ld.refl a).step e
def rg (n : Nat) : List Int := (List.range n).map fun (k : Nat) => (k : Int)
theorem rg_sorted (n : Nat) : (rg n).Pairwise (· < ·) := by
  unfold rg
  rw [List.pairwise_map]
  exact List.pairwise_lt_range.imp fun h => by omega
theorem mem_rg {n : Nat} {x : Int} : x ∈ rg n ↔ 0 ≤ x ∧ x < (n : Int) := by
  unfold rg
  rw [List.mem_map]
  constructor
  · rintro ⟨k, hk, rfl⟩
    have := List.mem_range.mp hk
    omega
  · intro h
    exact ⟨x.toNat, List.mem_range.mpr (by omega), by omega⟩
noncomputable def sel (n : Nat) (P : Int → Prop) : List Int := (rg n).filter fun x => @decide (P x) (Classical.propDecidable _)
theorem sel_sorted (n : Nat) (P : Int → Prop) : (sel n P).Pairwise (· < ·) := (rg_sorted n).filter _
theorem mem_sel {n : Nat} {P : Int → Prop} {x : Int} : x ∈ sel n P ↔ (0 ≤ x ∧ x < (n : Int)) ∧ P x := by
  unfold sel
  rw [List.mem_filter, mem_rg]
  exact and_congr_right fun _ => @decide_eq_true_iff _ (Classical.propDecidable _)
/-- a closed lot -/
structure Clo (ps : List (Int × Int)) (n : Nat) (L : List Int) : Prop where
  up : L.Pairwise (· < ·)
  rg : ∀ x ∈ L, 0 ≤ x ∧ x < (n : Int)
  cl : ∀ a b, (a, b) ∈ ps → b ∈ L → a ∈ L
theorem Clo.ld {ps : List (Int × Int)} {n : Nat} {L : List Int} (h : Clo ps n L) {a b : Int} (hb : b ∈ L) (l : Ld ps a b) : a ∈ L := by
  obtain ⟨k, w⟩ := l
  induction w with
  | nil => exact hb
  | snoc w e ih => exact ih (h.cl _ _ e hb)
theorem length_le_of {L M : List Int} (h1 : L.Pairwise (· < ·)) (h2 : ∀ x ∈ L, x ∈ M) : L.length ≤ M.length := by
  induction L generalizing M with
  | nil => exact Nat.zero_le _
  | cons a L ih =>
    obtain ⟨a1, a2⟩ := List.pairwise_cons.mp h1
    have ha := h2 a List.mem_cons_self
    have : L.length ≤ (M.erase a).length := ih a2 fun x hx => (List.mem_erase_of_ne (by have := a1 x hx; omega)).mpr (h2 x (List.mem_cons_of_mem _ hx))
    rw [List.length_erase_of_mem ha] at this
    have : 0 < M.length := List.length_pos_of_mem ha
    rw [List.length_cons]; omega
theorem eq_of_sub {L M : List Int} (h1 : L.Pairwise (· < ·)) (h2 : M.Pairwise (· < ·)) (h : ∀ x ∈ L, x ∈ M) (hl : M.length ≤ L.length) : L = M := by
  refine strictI_uniq h1 h2 fun x => ⟨h x, fun hx => ?_⟩
  by_cases c : x ∈ L
  · exact c
  · exfalso
    have : L.length ≤ (M.erase x).length := length_le_of h1 fun y hy => (List.mem_erase_of_ne (fun e => by subst e; exact c hy)).mpr (h y hy)
    rw [List.length_erase_of_mem hx] at this
    have : 0 < M.length := List.length_pos_of_mem hx
    omega
/-! ### all lots -/
def subs : Nat → List (List Int)
  | 0 => [[]]
  | k + 1 => subs k ++ (subs k).map fun L => L ++ [(k : Int)]
theorem subs_len : ∀ n, (subs n).length = 2 ^ n
  | 0 => rfl
  | n + 1 => by rw [subs, List.length_append, List.length_map, subs_len n, Nat.pow_succ]; omega
theorem pw_snoc {L : List Int} {x : Int} : (L ++ [x]).Pairwise (· < ·) ↔ L.Pairwise (· < ·) ∧ ∀ y ∈ L, y < x := by
  rw [List.pairwise_append]
  constructor
  · rintro ⟨h, _, h2⟩; exact ⟨h, fun y hy => h2 y hy x List.mem_cons_self⟩
  · rintro ⟨h, h2⟩; exact ⟨h, List.pairwise_singleton _ _, fun y hy z hz => by rw [List.mem_singleton.mp hz]; exact h2 y hy⟩
theorem mem_subs : ∀ {n : Nat} {L : List Int}, L ∈ subs n ↔ L.Pairwise (· < ·) ∧ ∀ x ∈ L, 0 ≤ x ∧ x < (n : Int)
  | 0, L => by
    rw [subs, List.mem_singleton]
    constructor
    · rintro rfl; exact ⟨.nil, fun _ h => by cases h⟩
    · rintro ⟨_, h⟩
      cases L with
      | nil => rfl
      | cons a L => have := h a List.mem_cons_self; omega
  | n + 1, L => by
    rw [subs, List.mem_append, List.mem_map, mem_subs]
    constructor
    · rintro (⟨h1, h2⟩ | ⟨M, hM, rfl⟩)
      · exact ⟨h1, fun x hx => by have := h2 x hx; omega⟩
      · obtain ⟨h1, h2⟩ := mem_subs.mp hM
        refine ⟨pw_snoc.mpr ⟨h1, fun y hy => (h2 y hy).2⟩, fun x hx => ?_⟩
        rcases List.mem_append.mp hx with hx | hx
        · have := h2 x hx; omega
        · rw [List.mem_singleton.mp hx]; omega
    · rintro ⟨h1, h2⟩
      by_cases c : (n : Int) ∈ L
      · right
        have hne : L ≠ [] := by rintro rfl; cases c
        obtain ⟨M, x, rfl⟩ : ∃ M x, L = M ++ [x] := ⟨L.dropLast, L.getLast hne, (List.dropLast_concat_getLast hne).symm⟩
        obtain ⟨p1, p2⟩ := pw_snoc.mp h1
        have hx : x = (n : Int) := by
          rcases List.mem_append.mp c with c | c
          · have := p2 _ c; have := h2 x (List.mem_append_right _ List.mem_cons_self); omega
          · exact (List.mem_singleton.mp c).symm
        subst hx
        exact ⟨M, mem_subs.mpr ⟨p1, fun y hy => ⟨(h2 y (List.mem_append_left _ hy)).1, p2 y hy⟩⟩, rfl⟩
      · left
        refine ⟨h1, fun x hx => ?_⟩
        have := h2 x hx
        have : x ≠ (n : Int) := fun e => c (e ▸ hx)
        omega
theorem subs_nodup : ∀ n, (subs n).Nodup
  | 0 => List.pairwise_singleton _ _
  | n + 1 => by
    rw [subs]
    refine List.nodup_append.mpr ⟨subs_nodup n, ?_, fun a ha b hb e => ?_⟩
    · exact List.pairwise_map.mpr ((subs_nodup n).imp fun h e => h (List.append_cancel_right e))
    · obtain ⟨M, hM, rfl⟩ := List.mem_map.mp hb
      subst e
      have := (mem_subs.mp ha).2 (n : Int) (List.mem_append_right _ List.mem_cons_self)
      omega
/-! ### closed lots, one thread after the other -/
theorem ex_cons {α : Type} {p : α → Prop} {a : α} {l : List α} : (∃ x ∈ a :: l, p x) ↔ p a ∨ ∃ x ∈ l, p x := by
  constructor
  · rintro ⟨x, hx, h⟩
    rcases List.mem_cons.mp hx with rfl | hx
    · exact .inl h
    · exact .inr ⟨x, hx, h⟩
  · rintro (h | ⟨x, hx, h⟩)
    · exact ⟨a, List.mem_cons_self, h⟩
    · exact ⟨x, List.mem_cons_of_mem _ hx, h⟩
def kput (K : List (List Int)) (U : List Int) : List (List Int) := if U ∈ K then K else K ++ [U]
theorem mem_kput {K : List (List Int)} {U L : List Int} : L ∈ kput K U ↔ L ∈ K ∨ L = U := by
  unfold kput
  split
  · rename_i h
    exact ⟨.inl, fun z => z.elim id fun e => e ▸ h⟩
  · rw [List.mem_append, List.mem_singleton]
theorem kput_nd {K : List (List Int)} {U : List Int} (h : K.Nodup) : (kput K U).Nodup := by
  unfold kput
  split
  · exact h
  · rename_i c
    exact List.nodup_append.mpr ⟨h, List.pairwise_singleton _ _, fun a ha b hb e => by rw [List.mem_singleton.mp hb] at e; exact c (e ▸ ha)⟩
theorem kput_len {K : List (List Int)} {U : List Int} : (kput K U).length ≤ K.length + 1 := by
  unfold kput
  split
  · omega
  · rw [List.length_append]; exact Nat.le_refl _
def kturn (f : List Int → List Int) (S K : List (List Int)) : List (List Int) := S.foldl (fun K' L => kput K' (f L)) K
theorem mem_kturn {f : List Int → List Int} : ∀ {S K : List (List Int)} {L : List Int}, L ∈ kturn f S K ↔ L ∈ K ∨ ∃ M ∈ S, L = f M
  | [], K, L => by simp [kturn]
  | a :: S, K, L => by
    show L ∈ kturn f S (kput K (f a)) ↔ _
    rw [mem_kturn, mem_kput, ex_cons, or_assoc]
theorem kturn_nd {f : List Int → List Int} : ∀ {S K : List (List Int)}, K.Nodup → (kturn f S K).Nodup
  | [], K, h => h
  | a :: S, K, h => kturn_nd (S := S) (kput_nd h)
theorem kturn_len {f : List Int → List Int} : ∀ {S K : List (List Int)}, (kturn f S K).length ≤ K.length + S.length
  | [], K => Nat.le_refl _
  | a :: S, K => by
    have h := kturn_len (f := f) (S := S) (K := kput K (f a))
    have h2 := kput_len (K := K) (U := f a)
    show (kturn f S (kput K (f a))).length ≤ _
    rw [List.length_cons]; omega
def kall (g : Nat → List Int → List Int) : Nat → List (List Int)
  | 0 => [[]]
  | t + 1 => kturn (g t) (kall g t) (kall g t)
theorem kall_nd {g : Nat → List Int → List Int} : ∀ t, (kall g t).Nodup
  | 0 => List.pairwise_singleton _ _
  | t + 1 => kturn_nd (kall_nd t)
theorem kall_len {g : Nat → List Int → List Int} : ∀ t, (kall g t).length ≤ 2 ^ t
  | 0 => Nat.le_refl _
  | t + 1 => by
    have h := kturn_len (f := g t) (S := kall g t) (K := kall g t)
    have h2 := kall_len (g := g) t
    rw [kall, Nat.pow_succ]; omega
structure Join (ps : List (Int × Int)) (n : Nat) (g : Nat → List Int → List Int) : Prop where
  so : ∀ t L, (g t L).Pairwise (· < ·)
  me : ∀ t L x, x ∈ g t L ↔ x ∈ L ∨ ((0 ≤ x ∧ x < (n : Int)) ∧ Ld ps x t)
theorem kall_mem {ps : List (Int × Int)} {n : Nat} {g : Nat → List Int → List Int} (J : Join ps n g) : ∀ (t : Nat) {L : List Int},
    L ∈ kall g t ↔ L.Pairwise (· < ·) ∧ ∃ S : List Int, (∀ s ∈ S, 0 ≤ s ∧ s < (t : Int)) ∧ ∀ x, x ∈ L ↔ (0 ≤ x ∧ x < (n : Int)) ∧ ∃ s ∈ S, Ld ps x s
  | 0, L => by
    rw [kall, List.mem_singleton]
    constructor
    · rintro rfl; exact ⟨.nil, [], (fun _ h => by cases h), fun x => ⟨fun h => (List.not_mem_nil h).elim, fun h => by obtain ⟨_, s, hs, _⟩ := h; exact (List.not_mem_nil hs).elim⟩⟩
    · rintro ⟨_, S, hS, h⟩
      cases L with
      | nil => rfl
      | cons a L =>
        obtain ⟨_, s, hs, _⟩ := (h a).mp List.mem_cons_self
        have := hS s hs
        omega
  | t + 1, L => by
    rw [kall, mem_kturn]
    constructor
    · rintro (h | ⟨M, hM, rfl⟩)
      · obtain ⟨h1, S, h2, h3⟩ := (kall_mem J t).mp h
        exact ⟨h1, S, fun s hs => by have := h2 s hs; omega, h3⟩
      · obtain ⟨h1, S, h2, h3⟩ := (kall_mem J t).mp hM
        refine ⟨J.so _ _, (t : Int) :: S, fun s hs => ?_, fun x => ?_⟩
        · rcases List.mem_cons.mp hs with rfl | hs
          · omega
          · have := h2 s hs; omega
        · rw [J.me, h3, ex_cons]
          constructor
          · rintro (⟨r, z⟩ | ⟨r, z⟩)
            · exact ⟨r, .inr z⟩
            · exact ⟨r, .inl z⟩
          · rintro ⟨r, z | z⟩
            · exact .inr ⟨r, z⟩
            · exact .inl ⟨r, z⟩
    · rintro ⟨h1, S, h2, h3⟩
      by_cases c : (t : Int) ∈ S
      · right
        refine ⟨sel n fun x => ∃ s ∈ S.filter (fun s => decide (s ≠ (t : Int))), Ld ps x s, (kall_mem J t).mpr ⟨sel_sorted _ _, S.filter (fun s => decide (s ≠ (t : Int))), fun s hs => ?_, fun x => mem_sel⟩, strictI_uniq h1 (J.so _ _) fun x => ?_⟩
        · obtain ⟨hs, hne⟩ := List.mem_filter.mp hs
          have := h2 s hs
          have := of_decide_eq_true hne
          omega
        · rw [J.me, mem_sel, h3]
          constructor
          · rintro ⟨r, s, hs, l⟩
            by_cases e : s = (t : Int)
            · exact .inr ⟨r, e ▸ l⟩
            · exact .inl ⟨r, s, List.mem_filter.mpr ⟨hs, decide_eq_true e⟩, l⟩
          · rintro (⟨r, s, hs, l⟩ | ⟨r, l⟩)
            · exact ⟨r, s, (List.mem_filter.mp hs).1, l⟩
            · exact ⟨r, _, c, l⟩
      · left
        refine (kall_mem J t).mpr ⟨h1, S, fun s hs => ?_, h3⟩
        have := h2 s hs
        have : s ≠ (t : Int) := fun e => c (e ▸ hs)
        omega
theorem kall_clo {ps : List (Int × Int)} {n : Nat} {g : Nat → List Int → List Int} (J : Join ps n g) (hr : ∀ p ∈ ps, (0 ≤ p.1 ∧ p.1 < (n : Int)) ∧ 0 ≤ p.2 ∧ p.2 < (n : Int)) {L : List Int} : L ∈ kall g n ↔ Clo ps n L := by
  rw [kall_mem J]
  constructor
  · rintro ⟨h1, S, h2, h3⟩
    refine ⟨h1, fun x hx => ((h3 x).mp hx).1, fun a b e hb => ?_⟩
    obtain ⟨_, s, hs, l⟩ := (h3 b).mp hb
    exact (h3 a).mpr ⟨(hr _ e).1, s, hs, (Ld.one e).trans l⟩
  · intro h
    refine ⟨h.up, L, h.rg, fun x => ⟨fun hx => ⟨h.rg x hx, x, hx, .refl x⟩, fun ⟨_, s, hs, l⟩ => h.ld hs l⟩⟩
/-- the closed lots, the smaller first -/
def closL (cl : List Int → Bool) (n : Nat) : List (List Int) := (ordK (subs n)).filter cl
theorem mem_closL {ps : List (Int × Int)} {n : Nat} {cl : List Int → Bool} (hc : ∀ L, cl L = true ↔ ∀ a b, (a, b) ∈ ps → b ∈ L → a ∈ L) {L : List Int} : L ∈ closL cl n ↔ Clo ps n L := by
  unfold closL
  rw [List.mem_filter, (ordK_perm _).mem_iff, mem_subs, hc]
  exact ⟨fun h => ⟨h.1.1, h.1.2, h.2⟩, fun h => ⟨⟨h.up, h.rg⟩, h.cl⟩⟩
theorem closL_pw (cl : List Int → Bool) (n : Nat) : (closL cl n).Pairwise fun a b => leK a b = true := (ordK_pw _).filter _
theorem closL_nd (cl : List Int → Bool) (n : Nat) : (closL cl n).Nodup := ((ordK_perm _).nodup_iff.mpr (subs_nodup n)).filter _
theorem closL_len (cl : List Int → Bool) (n : Nat) : (closL cl n).length ≤ 2 ^ n := by
  have h := List.length_filter_le cl (ordK (subs n))
  rw [(ordK_perm _).length_eq, subs_len] at h
  exact h
theorem kall_ord {ps : List (Int × Int)} {n : Nat} {g : Nat → List Int → List Int} {cl : List Int → Bool} (J : Join ps n g) (hr : ∀ p ∈ ps, (0 ≤ p.1 ∧ p.1 < (n : Int)) ∧ 0 ≤ p.2 ∧ p.2 < (n : Int)) (hc : ∀ L, cl L = true ↔ ∀ a b, (a, b) ∈ ps → b ∈ L → a ∈ L) :
    ordK (kall g n) = closL cl n :=
  pw_uniq (ordK_pw _) (closL_pw _ _) ((ordK_perm _).trans (nodup_perm (kall_nd n) (closL_nd _ _) fun L => (kall_clo J hr).trans (mem_closL hc).symm))
end PM

/-! ## WFA -/
/-! Own layer, part A: plain data, what a value stands for, the state of a frame, what an expression comes to. -/
namespace WF
open PySem PySem.Spec PyProof.Rows L2

inductive D where
  | non | bl (b : Bool) | int (i : Int) | str (s : Str) | tup (xs : List D) | lst (xs : List D)
  | ins (c : Nat) (fs : List D) | row | ty (n : String) | cls (c : Nat) | dct (t : Bool) (ks vs : List D) | scr | ptr (a : Addr) | ktup (xs : List D) | lam (i : Nat)
  deriving Inhabited
/-- a dict's key as data -/
def keyD : Key → D
  | .inl i => .int i
  | .inr s => .str s

structure Gam where
  K : PySem.W.Frag
  R : Addr
  S : Addr
  ns : List Int
  cls : Nat → Addr
  fld : Nat → List Str
  T : List (Addr × Str)
  L : Nat → Addr → Addr → Addr → Heap → Prop
  Lq : Nat → Str
  Ld : Nat → Bool

structure Row where
  i : Int
  s : Int
  q : Int

def RowAt (Γ : Gam) (H : Hp) (ρ : Row) : Prop := H Γ.R = some (.lst [.ref Γ.S, .int ρ.i, .int ρ.s, .int ρ.q]) ∧ SqL Γ.K H Γ.S (Γ.ns.map V.int) ∧ Γ.S ≠ Γ.R ∧ LamX.Tabs Γ.T H

mutual
inductive Rp (Γ : Gam) (H : Hp) : V → D → Prop
  | non : Rp Γ H .non .non
  | bl (b : Bool) : Rp Γ H (.bl b) (.bl b)
  | int (i : Int) : Rp Γ H (.int i) (.int i)
  | str (s : Str) : Rp Γ H (.str s) (.str s)
  | ty (n : String) : Rp Γ H (.ty n) (.ty n)
  | row : Rp Γ H (.ref Γ.R) .row
  | scr : Rp Γ H (.ref Γ.S) .scr
  | ptr (a : Addr) : Rp Γ H (.ref a) (.ptr a)
  | lam {f c' T : Addr} {i : Nat} : H f = some (.ext (Γ.L i f c' T)) → H c' = some (LamX.CodeO c' (Γ.Lq i)) → (Γ.Ld i = true → H T = some (.tup [.int 0])) → Rp Γ H (.ref f) (.lam i)
  | tup {a : Addr} {xs : List V} {ds : List D} : H a = some (.tup xs) → RpAll Γ H xs ds → Rp Γ H (.ref a) (.tup ds)
  | ktup {a : Addr} {xs : List V} {ds : List D} : (∀ H', SqT Γ.K H' a xs) → RpAll Γ H xs ds → Rp Γ H (.ref a) (.ktup ds)
  | lst {a : Addr} {xs : List V} {ds : List D} : a ≠ Γ.R → H a = some (.lst xs) → RpAll Γ H xs ds → Rp Γ H (.ref a) (.lst ds)
  | cls (c : Nat) : Rp Γ H (.ref (Γ.cls c)) (.cls c)
  | dK {a : Addr} {kvs : List (Key × V)} {vs : List D} : a ≠ Γ.R → H a = some (.dK kvs) → RpAll Γ H (kvs.map (·.2)) vs → Rp Γ H (.ref a) (.dct false (kvs.map fun kv => keyD kv.1) vs)
  | dT {a : Addr} {kvs : List (List Key × V)} {vs : List D} : a ≠ Γ.R → H a = some (.dT kvs) → RpAll Γ H (kvs.map (·.2)) vs → Rp Γ H (.ref a) (.dct true (kvs.map fun kv => .tup (kv.1.map keyD)) vs)
  | ins {a dx : Addr} {c : Nat} {fs : List (Str × V)} {ds : List D} : H a = some (.ins (Γ.cls c) dx fs) → fs.map (·.1) = Γ.fld c → RpAll Γ H (fs.map (·.2)) ds → Rp Γ H (.ref a) (.ins c ds)
inductive RpAll (Γ : Gam) (H : Hp) : List V → List D → Prop
  | nil : RpAll Γ H [] []
  | cons {v : V} {vs : List V} {d : D} {ds : List D} : Rp Γ H v d → RpAll Γ H vs ds → RpAll Γ H (v :: vs) (d :: ds)
end

/-- all is kept, the row's own list apart -/
def Xr (Γ : Gam) (H H' : Hp) : Prop := ∀ a o, H a = some o → H' a = some o ∨ (a = Γ.R ∧ ∃ xs, o = .lst xs) ∨ ∃ ps ps', o = .tbl ps ∧ H' a = some (.tbl ps')
/-- all is kept, the row's own list and the tables apart -/
def Xq (Γ : Gam) (H H' : Hp) : Prop := ∀ a o, H a = some o → H' a = some o ∨ (a = Γ.R ∧ ∃ xs, o = .lst xs) ∨ ∃ ps, o = .tbl ps
def Ex (H H' : Hp) : Prop := ∀ a o, H a = some o → H' a = some o
/-- a part of the heap, without the row -/
def Vw (Γ : Gam) (G H : Hp) : Prop := (G Γ.R = none ∧ ∀ a ps, G a ≠ some (.tbl ps)) ∧ Ex G H

section
variable {Γ : Gam} {H H1 H2 G G1 G2 : Hp} {v : V} {d : D} {vs : List V} {ds : List D} {ρ ρ' : Row} {a : Addr} {o : HO}
theorem Ex.refl (H : Hp) : Ex H H := fun _ _ h => h
theorem Ex.trans (a : Ex H H1) (b : Ex H1 H2) : Ex H H2 := fun x o h => b x o (a x o h)
theorem Ex.new {p : Addr} {o : HO} (h : H p = none) : Ex H (upd H p o) := fun a u e => by rw [upd_ne (ne_of_none e h)]; exact e
theorem Ex.xr (h : Ex H H1) : Xr Γ H H1 := fun a o e => .inl (h a o e)
theorem Xr.refl (H : Hp) : Xr Γ H H := fun _ _ h => .inl h
theorem Xr.trans (a : Xr Γ H H1) (b : Xr Γ H1 H2) : Xr Γ H H2 := fun x o h => by
  rcases a x o h with e | e | ⟨ps, ps', e, e2⟩
  · exact b x o e
  · exact .inr (.inl e)
  · rcases b x _ e2 with z | ⟨_, xs, z⟩ | ⟨p1, p2, z, z2⟩
    · exact .inr (.inr ⟨ps, ps', e, z⟩)
    · cases z
    · exact .inr (.inr ⟨ps, p2, e, z2⟩)
theorem Xr.none (x : Xr Γ H H1) (r : RowAt Γ H1 ρ) {a : Addr} (e : H1 a = none) : H a = none := by
  cases q : H a with
  | none => rfl
  | some o =>
    rcases x a o q with z | ⟨z, _⟩ | ⟨_, _, _, z⟩
    · rw [e] at z; cases z
    · subst z; rw [r.1] at e; cases e
    · rw [e] at z; cases z
theorem Ex.none (x : Ex H H1) {a : Addr} (e : H1 a = none) : H a = none := by
  cases q : H a with
  | none => rfl
  | some o => rw [x a o q] at e; cases e
theorem Vw.mono (w : Vw Γ G H) (x : Xr Γ H H1) : Vw Γ G H1 := ⟨w.1, fun a o e => by
  rcases x a o (w.2 a o e) with z | ⟨z, _⟩ | ⟨ps, _, z, _⟩
  · exact z
  · subst z; rw [w.1.1] at e; cases e
  · subst z; exact absurd e (w.1.2 a ps)⟩
theorem Xr.rdT (x : Xr Γ H H1) {xs : List V} (h : Rd H a (.tup xs)) : Rd H1 a (.tup xs) := by
  rcases h with h | ⟨ob, h⟩
  · rcases x a _ h with z | ⟨_, _, z⟩ | ⟨_, _, z, _⟩
    · exact .inl z
    · cases z
    · cases z
  · rcases x a _ h with z | ⟨_, _, z⟩ | ⟨_, _, z, _⟩
    · exact .inr ⟨ob, z⟩
    · cases z
    · cases z
theorem Xr.sqT {K : PySem.W.Frag} (x : Xr Γ H H1) {xs : List V} (h : SqT K H a xs) : SqT K H1 a xs := by
  rcases h with h | h
  · exact .inl (x.rdT h)
  · exact .inr h
mutual
theorem Rp.monoQ (x : Xq Γ H H1) : ∀ {v d}, Rp Γ H v d → Rp Γ H1 v d
  | _, _, .non => .non
  | _, _, .bl b => .bl b
  | _, _, .int i => .int i
  | _, _, .str s => .str s
  | _, _, .ty n => .ty n
  | _, _, .row => .row
  | _, _, .scr => .scr
  | _, _, .ptr a => .ptr a
  | _, _, .lam h1 h2 h3 => .lam (by
      rcases x _ _ h1 with z | ⟨_, _, z⟩ | ⟨_, z⟩
      · exact z
      · cases z
      · cases z) (by
      rcases x _ _ h2 with z | ⟨_, _, z⟩ | ⟨_, z⟩
      · exact z
      · cases z
      · cases z) (fun d => by
      rcases x _ _ (h3 d) with z | ⟨_, _, z⟩ | ⟨_, z⟩
      · exact z
      · cases z
      · cases z)
  | _, _, .cls c => .cls c
  | _, _, .dK n h r => .dK n (by
      rcases x _ _ h with z | ⟨z, _⟩ | ⟨_, z⟩
      · exact z
      · exact absurd z n
      · cases z) (RpAll.monoQ x r)
  | _, _, .dT n h r => .dT n (by
      rcases x _ _ h with z | ⟨z, _⟩ | ⟨_, z⟩
      · exact z
      · exact absurd z n
      · cases z) (RpAll.monoQ x r)
  | _, _, .tup h r => .tup (by
      rcases x _ _ h with z | ⟨_, _, z⟩ | ⟨_, z⟩
      · exact z
      · cases z
      · cases z) (RpAll.monoQ x r)
  | _, _, .ktup h r => .ktup h (RpAll.monoQ x r)
  | _, _, .lst n h r => .lst n (by
      rcases x _ _ h with z | ⟨z, _⟩ | ⟨_, z⟩
      · exact z
      · exact absurd z n
      · cases z) (RpAll.monoQ x r)
  | _, _, .ins h f r => .ins (by
      rcases x _ _ h with z | ⟨_, _, z⟩ | ⟨_, z⟩
      · exact z
      · cases z
      · cases z) f (RpAll.monoQ x r)
theorem RpAll.monoQ (x : Xq Γ H H1) : ∀ {vs ds}, RpAll Γ H vs ds → RpAll Γ H1 vs ds
  | _, _, .nil => .nil
  | _, _, .cons h r => .cons (Rp.monoQ x h) (RpAll.monoQ x r)
end
theorem Xr.q (x : Xr Γ H H1) : Xq Γ H H1 := fun a o e => by
  rcases x a o e with z | z | ⟨ps, _, z, _⟩
  · exact .inl z
  · exact .inr (.inl z)
  · exact .inr (.inr ⟨ps, z⟩)
theorem Rp.mono (x : Xr Γ H H1) {v d} (h : Rp Γ H v d) : Rp Γ H1 v d := h.monoQ x.q
theorem RpAll.mono (x : Xr Γ H H1) {vs ds} (h : RpAll Γ H vs ds) : RpAll Γ H1 vs ds := h.monoQ x.q
theorem RpAll.length : ∀ {vs ds}, RpAll Γ H vs ds → vs.length = ds.length
  | _, _, .nil => rfl
  | _, _, .cons _ r => by rw [List.length_cons, List.length_cons, RpAll.length r]
theorem RpAll.get : ∀ {vs ds} {i : Nat} {d : D}, RpAll Γ H vs ds → ds[i]? = some d → ∃ v, vs[i]? = some v ∧ Rp Γ H v d
  | _, _, _, _, .nil, e => by simp at e
  | _, _, 0, _, .cons h _, e => by simp at e; subst e; exact ⟨_, rfl, h⟩
  | _, _, i + 1, d, .cons _ r, e => by
    obtain ⟨u, h1, h2⟩ := RpAll.get (i := i) (d := d) r (by simpa using e)
    exact ⟨u, by simpa using h1, h2⟩
theorem RpAll.getV : ∀ {vs ds} {i : Nat} {v : V}, RpAll Γ H vs ds → vs[i]? = some v → ∃ d, ds[i]? = some d ∧ Rp Γ H v d
  | _, _, _, _, .nil, e => by simp at e
  | _, _, 0, _, .cons h _, e => by simp at e; subst e; exact ⟨_, rfl, h⟩
  | _, _, i + 1, d, .cons _ r, e => by
    obtain ⟨u, h1, h2⟩ := RpAll.getV (i := i) (v := d) r (by simpa using e)
    exact ⟨u, by simpa using h1, h2⟩
theorem RpAll.append : ∀ {vs ds vs' ds'}, RpAll Γ H vs ds → RpAll Γ H vs' ds' → RpAll Γ H (vs ++ vs') (ds ++ ds')
  | _, _, _, _, .nil, s => s
  | _, _, _, _, .cons h r, s => .cons h (RpAll.append r s)
theorem RpAll.drop : ∀ {vs ds} (n : Nat), RpAll Γ H vs ds → RpAll Γ H (vs.drop n) (ds.drop n)
  | _, _, 0, r => r
  | _, _, _ + 1, .nil => .nil
  | _, _, n + 1, .cons _ r => RpAll.drop n r
theorem RpAll.take : ∀ {vs ds} (n : Nat), RpAll Γ H vs ds → RpAll Γ H (vs.take n) (ds.take n)
  | _, _, 0, _ => .nil
  | _, _, _ + 1, .nil => .nil
  | _, _, n + 1, .cons h r => .cons h (RpAll.take n r)
theorem RpAll.set (h : Rp Γ H v d) : ∀ {vs ds} (i : Nat), RpAll Γ H vs ds → RpAll Γ H (vs.set i v) (ds.set i d)
  | _, _, _, .nil => .nil
  | _, _, 0, .cons _ r => .cons h r
  | _, _, i + 1, .cons q r => .cons q (RpAll.set h i r)
theorem RpAll.cons_of {ds : List D} (h : RpAll Γ H vs (d :: ds)) : ∃ v r, vs = v :: r ∧ Rp Γ H v d ∧ RpAll Γ H r ds := by
  cases h with
  | cons h r => exact ⟨_, _, rfl, h, r⟩

/-! ### what can be changed -/
def Mu : HO → Bool
  | .lst _ => true
  | .dK _ => true
  | .dT _ => true
  | .set _ _ => true
  | .ext _ => true
  | .tbl _ => true
  | _ => false
mutual
def imm : D → Bool
  | .tup xs => immAll xs
  | .ktup xs => immAll xs
  | .lst _ => false
  | .ins _ fs => immAll fs
  | .non => true
  | .bl _ => true
  | .int _ => true
  | .str _ => true
  | .row => true
  | .scr => true
  | .ptr _ => true
  | .lam _ => false
  | .ty _ => true
  | .cls _ => true
  | .dct _ _ _ => false
def immAll : List D → Bool
  | [] => true
  | x :: xs => imm x && immAll xs
end
theorem immAll_eq : ∀ xs : List D, immAll xs = xs.all imm
  | [] => rfl
  | x :: xs => by rw [immAll, immAll_eq xs]; rfl
@[simp] theorem imm_ints (ns : List Int) : imm (.tup (ns.map D.int)) = true := by
  rw [imm, immAll_eq, List.all_map]
  exact List.all_eq_true.mpr fun _ _ => rfl
/-- what cannot be changed of a heap -/
def still (Γ : Gam) (H : Hp) : Hp := fun a => if a = Γ.R then none else match H a with
  | some o => if Mu o then none else some o
  | none => none
theorem still_some {a : Addr} {o : HO} (e : still Γ H a = some o) : H a = some o ∧ Mu o = false ∧ a ≠ Γ.R := by
  unfold still at e
  split at e
  · cases e
  · rename_i hn
    split at e
    · rename_i u hu
      split at e
      · cases e
      · rename_i hm
        cases e
        exact ⟨hu, by simpa using hm, hn⟩
    · cases e
theorem still_of {a : Addr} {o : HO} (e : H a = some o) (h : Mu o = false) (n : a ≠ Γ.R) : still Γ H a = some o := by
  unfold still
  rw [if_neg n, e]
  show (if Mu o = true then none else some o) = some o
  rw [h]; rfl
theorem still_vw : Vw Γ (still Γ H) H := ⟨⟨by unfold still; rw [if_pos rfl], fun a ps e => by have := (still_some e).2.1; cases this⟩, fun a o e => (still_some e).1⟩
theorem still_mu {a : Addr} {o : HO} (e : still Γ H a = some o) (m : Mu o = true) : False := by
  rw [(still_some e).2.1] at m; cases m
theorem row_ne (r : RowAt Γ H ρ) {a : Addr} {o : HO} (e : H a = some o) (h : ∀ xs, o ≠ .lst xs) : a ≠ Γ.R := by
  rintro rfl
  rw [r.1] at e
  cases e
  exact h _ rfl
mutual
theorem Rp.still (r : RowAt Γ H ρ) : ∀ {v d}, Rp Γ H v d → imm d = true → Rp Γ (still Γ H) v d
  | _, _, .non, _ => .non
  | _, _, .bl b, _ => .bl b
  | _, _, .int i, _ => .int i
  | _, _, .str s, _ => .str s
  | _, _, .ty n, _ => .ty n
  | _, _, .row, _ => .row
  | _, _, .scr, _ => .scr
  | _, _, .ptr a, _ => .ptr a
  | _, _, .lam _ _ _, m => by rw [imm] at m; cases m
  | _, _, .cls c, _ => .cls c
  | _, _, .dK _ _ _, m => by rw [imm] at m; cases m
  | _, _, .dT _ _ _, m => by rw [imm] at m; cases m
  | _, _, .tup h q, m => .tup (still_of h rfl (row_ne r h (by intro _ z; cases z))) (RpAll.still r q (by rw [imm] at m; exact m))
  | _, _, .ktup h q, m => .ktup h (RpAll.still r q (by rw [imm] at m; exact m))
  | _, _, .lst _ _ _, m => by rw [imm] at m; cases m
  | _, _, .ins h f q, m => .ins (still_of h rfl (row_ne r h (by intro _ z; cases z))) f (RpAll.still r q (by rw [imm] at m; exact m))
theorem RpAll.still (r : RowAt Γ H ρ) : ∀ {vs ds}, RpAll Γ H vs ds → immAll ds = true → RpAll Γ (still Γ H) vs ds
  | _, _, .nil, _ => .nil
  | _, _, .cons h q, m => by
    rw [immAll, Bool.and_eq_true] at m
    exact .cons (Rp.still r h m.1) (RpAll.still r q m.2)
end

/-- where a frame began -/
def Bw (Γ : Gam) (B H : Hp) : Prop := B Γ.R = none ∧ Xr Γ B H
theorem Bw.mono {B : Hp} (b : Bw Γ B H) (x : Xr Γ H H1) : Bw Γ B H1 := ⟨b.1, b.2.trans x⟩
theorem Bw.gone {B : Hp} (b : Bw Γ B H) {a : Addr} (e : H a = none) : B a = none := by
  cases q : B a with
  | none => rfl
  | some o =>
    rcases b.2 a o q with z | ⟨z, _⟩ | ⟨_, _, _, z⟩
    · rw [e] at z; cases z
    · subst z; rw [b.1] at q; cases q
    · rw [e] at z; cases z
theorem Vw.bw (w : Vw Γ G H) : Bw Γ G H := ⟨w.1.1, w.2.xr⟩
/-! ### two parts together -/
def un (G1 G2 : Hp) : Hp := fun a => match G1 a with
  | some o => some o
  | none => G2 a
theorem un_l : Ex G1 (un G1 G2) := fun a o e => by unfold un; rw [e]
theorem un_r (w1 : Ex G1 H) (w2 : Ex G2 H) : Ex G2 (un G1 G2) := fun a o e => by
  unfold un
  cases q : G1 a with
  | none => exact e
  | some u =>
    have h1 := w1 a u q
    rw [w2 a o e] at h1
    exact h1.symm ▸ rfl
theorem un_some {a : Addr} {o : HO} (e : un G1 G2 a = some o) : G1 a = some o ∨ G2 a = some o := by
  unfold un at e
  split at e
  · rename_i u hu; cases e; exact .inl hu
  · exact .inr e
theorem un_vw (w1 : Vw Γ G1 H) (w2 : Vw Γ G2 H) : Vw Γ (un G1 G2) H := ⟨⟨by unfold un; rw [w1.1.1]; exact w2.1.1, fun a ps e => by
  rcases un_some e with z | z
  · exact w1.1.2 a ps z
  · exact w2.1.2 a ps z⟩, fun a o e => by
  rcases un_some e with z | z
  · exact w1.2 a o z
  · exact w2.2 a o z⟩

/-- all but the row's own list and the tables -/
def offT (Γ : Gam) (H : Hp) : Hp := fun a => if a = Γ.R then none else match H a with
  | some (.tbl _) => none
  | o => o
theorem offT_some {a : Addr} {o : HO} (e : offT Γ H a = some o) : H a = some o ∧ (∀ ps, o ≠ .tbl ps) ∧ a ≠ Γ.R := by
  unfold offT at e
  split at e
  · cases e
  · rename_i hn
    split at e
    · cases e
    · rename_i h
      exact ⟨e, fun ps z => h ps (by rw [e, z]), hn⟩
theorem offT_of {a : Addr} {o : HO} (e : H a = some o) (n : a ≠ Γ.R) (h : ∀ ps, o ≠ .tbl ps) : offT Γ H a = some o := by
  unfold offT
  rw [if_neg n]
  split
  · rename_i ps hp; rw [e] at hp; cases hp; exact absurd rfl (h ps)
  · exact e
theorem offT_vw : Vw Γ (offT Γ H) H := ⟨⟨if_pos rfl, fun a ps e => (offT_some e).2.1 ps rfl⟩, fun a o e => (offT_some e).1⟩
theorem offT_q (r : RowAt Γ H ρ) : Xq Γ H (offT Γ H) := fun a o e => by
  by_cases ha : a = Γ.R
  · subst ha
    rw [r.1] at e
    cases e
    exact .inr (.inl ⟨rfl, _, rfl⟩)
  · by_cases ht : ∃ ps, o = .tbl ps
    · exact .inr (.inr ht)
    · exact .inl (offT_of e ha fun ps z => ht ⟨ps, z⟩)
theorem un_rb {B : Hp} (b : Bw Γ B H) (g : Vw Γ G H) : Ex G (un B G) := fun a o e => by
  unfold un
  cases q : B a with
  | none => exact e
  | some u =>
    have h1 := g.2 a o e
    rcases b.2 a u q with z | ⟨z, _⟩ | ⟨_, _, _, z⟩
    · rw [h1] at z; cases z; rfl
    · subst z; rw [b.1] at q; cases q
    · rw [h1] at z; cases z; exact absurd e (g.1.2 a _)
theorem un_bw {B : Hp} (b : Bw Γ B H) (g : Vw Γ G H) : Bw Γ (un B G) H := ⟨by unfold un; rw [b.1]; exact g.1.1, fun a o e => by
  rcases un_some e with z | z
  · exact b.2 a o z
  · exact .inl (g.2 a o z)⟩
/-! ### what a value is worth that an expression has come to: its data, and whether all that can be changed in it is new -/
/-- a list of one's own: its root stands apart from its items -/
structure Sep (Γ : Gam) (Ge : Hp) (v : V) (d : D) : Prop where
  l : ∀ ds, d = .lst ds → ∃ (l : Addr) (vs : List V) (G0 : Hp), v = .ref l ∧ l ≠ Γ.R ∧ G0 l = none ∧ Ge = upd G0 l (.lst vs) ∧ RpAll Γ G0 vs ds
  d : ∀ t ks ds, d = .dct t ks ds → ∃ (l : Addr) (G0 : Hp), v = .ref l ∧ l ≠ Γ.R ∧ G0 l = none ∧
    ((∃ kvs : List (Key × V), t = false ∧ Ge = upd G0 l (.dK kvs) ∧ ks = kvs.map (fun kv => keyD kv.1) ∧ RpAll Γ G0 (kvs.map (·.2)) ds) ∨
     (∃ kvs : List (List Key × V), t = true ∧ Ge = upd G0 l (.dT kvs) ∧ ks = kvs.map (fun kv => D.tup (kv.1.map keyD)) ∧ RpAll Γ G0 (kvs.map (·.2)) ds))
theorem Sep.imm {Γ : Gam} {Ge : Hp} {v : V} {d : D} (m : imm d = true) : Sep Γ Ge v d := ⟨fun ds e => (by subst e; rw [WF.imm] at m; cases m), fun t ks ds e => (by subst e; rw [WF.imm] at m; cases m)⟩
theorem Sep.lst {Γ : Gam} {Ge : Hp} {v : V} {ds : List D} (h : ∃ (l : Addr) (vs : List V) (G0 : Hp), v = .ref l ∧ l ≠ Γ.R ∧ G0 l = none ∧ Ge = upd G0 l (.lst vs) ∧ RpAll Γ G0 vs ds) : Sep Γ Ge v (.lst ds) := ⟨fun ds' e => (by cases e; exact h), fun _ _ _ e => (by cases e)⟩
theorem Sep.tup {Γ : Gam} {Ge : Hp} {v : V} {ds : List D} : Sep Γ Ge v (.tup ds) := ⟨fun _ e => (by cases e), fun _ _ _ e => (by cases e)⟩
structure Vl (Γ : Gam) (H H' : Hp) (v : V) (d : D) (fr : Bool) : Prop where
  rp : Rp Γ H' v d
  fresh : fr = true → ∃ Ge, Vw Γ Ge H' ∧ Rp Γ Ge v d ∧ (∀ a o, Ge a = some o → Mu o = true → H a = none) ∧ Sep Γ Ge v d
structure VlA (Γ : Gam) (H H' : Hp) (vs : List V) (ds : List D) (fr : Bool) : Prop where
  rp : RpAll Γ H' vs ds
  fresh : fr = true → ∃ Ge, Vw Γ Ge H' ∧ RpAll Γ Ge vs ds ∧ ∀ a o, Ge a = some o → Mu o = true → H a = none
theorem Vl.of_imm (r : RowAt Γ H1 ρ) (h : Rp Γ H1 v d) (m : imm d = true) {fr : Bool} : Vl Γ H H1 v d fr :=
  ⟨h, fun _ => ⟨still Γ H1, still_vw, Rp.still r h m, fun _ _ e q => (still_mu e q).elim, Sep.imm m⟩⟩
theorem Vl.ifimm (r : RowAt Γ H1 ρ) (h : Rp Γ H1 v d) : Vl Γ H H1 v d (imm d) := ⟨h, fun m => (Vl.of_imm (H := H) r h m (fr := true)).fresh rfl⟩
theorem Vl.no (h : Rp Γ H1 v d) : Vl Γ H H1 v d false := ⟨h, fun z => by cases z⟩
theorem Vl.mono {fr : Bool} (h : Vl Γ H H1 v d fr) (x : Xr Γ H1 H2) : Vl Γ H H2 v d fr := ⟨h.rp.mono x, fun z => by
  obtain ⟨Ge, w, q, n, sp⟩ := h.fresh z
  exact ⟨Ge, w.mono x, q, n, sp⟩⟩
theorem Vl.from {fr : Bool} (h : Vl Γ H1 H2 v d fr) (x : ∀ a, H1 a = none → H a = none) : Vl Γ H H2 v d fr := ⟨h.rp, fun z => by
  obtain ⟨Ge, w, q, n, sp⟩ := h.fresh z
  exact ⟨Ge, w, q, fun a o e m => x a (n a o e m), sp⟩⟩
theorem VlA.mono {fr : Bool} (h : VlA Γ H H1 vs ds fr) (x : Xr Γ H1 H2) : VlA Γ H H2 vs ds fr := ⟨h.rp.mono x, fun z => by
  obtain ⟨Ge, w, q, n⟩ := h.fresh z
  exact ⟨Ge, w.mono x, q, n⟩⟩
theorem VlA.from {fr : Bool} (h : VlA Γ H1 H2 vs ds fr) (x : ∀ a, H1 a = none → H a = none) : VlA Γ H H2 vs ds fr := ⟨h.rp, fun z => by
  obtain ⟨Ge, w, q, n⟩ := h.fresh z
  exact ⟨Ge, w, q, fun a o e m => x a (n a o e m)⟩⟩
theorem VlA.nil {fr : Bool} : VlA Γ H H1 [] [] fr := ⟨.nil, fun _ => ⟨fun _ => none, ⟨⟨rfl, fun _ _ e => by cases e⟩, fun _ _ e => by cases e⟩, .nil, fun _ _ e => by cases e⟩⟩
theorem VlA.cons {f1 f2 : Bool} (h : Vl Γ H H1 v d f1) (q : VlA Γ H H1 vs ds f2) : VlA Γ H H1 (v :: vs) (d :: ds) (f1 && f2) := ⟨.cons h.rp q.rp, fun z => by
  rw [Bool.and_eq_true] at z
  obtain ⟨G1, w1, q1, n1, _⟩ := h.fresh z.1
  obtain ⟨G2, w2, q2, n2⟩ := q.fresh z.2
  refine ⟨un G1 G2, un_vw w1 w2, .cons (q1.mono un_l.xr) (q2.mono (un_r w1.2 w2.2).xr), fun a o e m => ?_⟩
  rcases un_some e with e | e
  · exact n1 a o e m
  · exact n2 a o e m⟩
theorem VlA.append {vs' : List V} {ds' : List D} {f1 f2 : Bool} (h : VlA Γ H H1 vs ds f1) (q : VlA Γ H H1 vs' ds' f2) : VlA Γ H H1 (vs ++ vs') (ds ++ ds') (f1 && f2) := ⟨h.rp.append q.rp, fun z => by
  rw [Bool.and_eq_true] at z
  obtain ⟨G1, w1, q1, n1⟩ := h.fresh z.1
  obtain ⟨G2, w2, q2, n2⟩ := q.fresh z.2
  refine ⟨un G1 G2, un_vw w1 w2, (q1.mono un_l.xr).append (q2.mono (un_r w1.2 w2.2).xr), fun a o e m => ?_⟩
  rcases un_some e with e | e
  · exact n1 a o e m
  · exact n2 a o e m⟩
theorem VlA.of_imm (r : RowAt Γ H1 ρ) (h : RpAll Γ H1 vs ds) (m : immAll ds = true) {fr : Bool} : VlA Γ H H1 vs ds fr :=
  ⟨h, fun _ => ⟨still Γ H1, still_vw, RpAll.still r h m, fun _ _ e q => (still_mu e q).elim⟩⟩
theorem VlA.ifimm (r : RowAt Γ H1 ρ) (h : RpAll Γ H1 vs ds) : VlA Γ H H1 vs ds (immAll ds) := ⟨h, fun m => (VlA.of_imm (H := H) r h m (fr := true)).fresh rfl⟩
theorem upd_notb {g : Hp} {p : Addr} {o : HO} (h : ∀ a ps, g a ≠ some (.tbl ps)) (n : ∀ ps, o ≠ .tbl ps) : ∀ a ps, upd g p o a ≠ some (.tbl ps) := fun a ps e => by
  by_cases ha : a = p
  · subst ha; rw [upd_same] at e; cases e; exact n ps rfl
  · rw [upd_ne ha] at e; exact h a ps e
/-- a new list of such -/
theorem Vl.list {p : Addr} {fr : Bool} (r : RowAt Γ H1 ρ) (h : VlA Γ H H1 vs ds fr) (hp : H1 p = none) (x : ∀ a, H1 a = none → H a = none) : Vl Γ H (upd H1 p (.lst vs)) (.ref p) (.lst ds) fr := by
  have np : p ≠ Γ.R := by rintro rfl; rw [r.1] at hp; cases hp
  have xn : Xr Γ H1 (upd H1 p (.lst vs)) := (Ex.new hp).xr
  refine ⟨.lst np upd_same (h.rp.mono xn), fun z => ?_⟩
  obtain ⟨Ge, w, q, n⟩ := h.fresh z
  have gp : Ge p = none := Ex.none w.2 hp
  refine ⟨upd Ge p (.lst vs), ⟨⟨by rw [upd_ne np.symm]; exact w.1.1, upd_notb w.1.2 (by intro ps z; cases z)⟩, fun a o e => ?_⟩, .lst np upd_same (q.mono (Ex.new gp).xr), fun a o e m => ?_, .lst ⟨p, vs, Ge, rfl, np, gp, rfl, q⟩⟩
  · by_cases ha : a = p
    · subst ha; rw [upd_same] at e; rw [upd_same]; exact e
    · rw [upd_ne ha] at e; rw [upd_ne ha]; exact w.2 a o e
  · by_cases ha : a = p
    · subst ha; exact x _ hp
    · rw [upd_ne ha] at e; exact n a o e m
/-- a new tuple of such -/
theorem Vl.tuple {p : Addr} {fr : Bool} (r : RowAt Γ H1 ρ) (h : VlA Γ H H1 vs ds fr) (hp : H1 p = none) : Vl Γ H (upd H1 p (.tup vs)) (.ref p) (.tup ds) fr := by
  have np : p ≠ Γ.R := by rintro rfl; rw [r.1] at hp; cases hp
  have xn : Xr Γ H1 (upd H1 p (.tup vs)) := (Ex.new hp).xr
  refine ⟨.tup upd_same (h.rp.mono xn), fun z => ?_⟩
  obtain ⟨Ge, w, q, n⟩ := h.fresh z
  have gp : Ge p = none := Ex.none w.2 hp
  refine ⟨upd Ge p (.tup vs), ⟨⟨by rw [upd_ne np.symm]; exact w.1.1, upd_notb w.1.2 (by intro ps z; cases z)⟩, fun a o e => ?_⟩, .tup upd_same (q.mono (Ex.new gp).xr), fun a o e m => ?_, .tup⟩
  · by_cases ha : a = p
    · subst ha; rw [upd_same] at e; rw [upd_same]; exact e
    · rw [upd_ne ha] at e; rw [upd_ne ha]; exact w.2 a o e
  · by_cases ha : a = p
    · subst ha; rw [upd_same] at e; cases e; cases m
    · rw [upd_ne ha] at e; exact n a o e m
end
theorem Tabs.upd {T : List (Addr × Str)} {H : Hp} {l : Addr} {o o' : HO} (t : LamX.Tabs T H) (h : H l = some o) (n1 : ∀ ps, o ≠ .tbl ps) (n2 : ∀ f, o ≠ .ext f) : LamX.Tabs T (upd H l o') := fun p hp => by
  obtain ⟨ps, e, ok, k⟩ := t p hp
  have np : p.1 ≠ l := by rintro rfl; rw [h] at e; cases e; exact n1 ps rfl
  refine ⟨ps, by rw [upd_ne np]; exact e, ok, fun pos cv hc => ?_⟩
  obtain ⟨c, e1, e2⟩ := k pos cv hc
  have nc : c ≠ l := by rintro rfl; rw [h] at e2; cases e2; exact n2 _ rfl
  exact ⟨c, e1, by rw [upd_ne nc]; exact e2⟩
theorem RowAt.ex {Γ : Gam} {H H1 : Hp} {ρ : Row} (r : RowAt Γ H ρ) (x : Ex H H1) : RowAt Γ H1 ρ := ⟨x _ _ r.1, by
  rcases r.2.1 with (h | ⟨o, h⟩) | h
  · exact .inl (.inl (x _ _ h))
  · exact .inl (.inr ⟨o, x _ _ h⟩)
  · exact .inr h, r.2.2.1, r.2.2.2.ext x⟩
theorem Bw.upd {Γ : Gam} {B H : Hp} {l : Addr} {o : HO} (b : Bw Γ B H) (h : B l = none) : Bw Γ B (L2.upd H l o) := ⟨b.1, fun a u e => by
  have na : a ≠ l := by rintro rfl; rw [h] at e; cases e
  rcases b.2 a u e with z | z | ⟨ps, ps', z, z2⟩
  · exact .inl (by rw [upd_ne na]; exact z)
  · exact .inr (.inl z)
  · exact .inr (.inr ⟨ps, ps', z, by rw [upd_ne na]; exact z2⟩)⟩
theorem Xr.sqS {Γ : Gam} {B H : Hp} {xs : List V} (b : Xr Γ B H) (n : Γ.S ≠ Γ.R) (h : SqL Γ.K B Γ.S xs) : SqL Γ.K H Γ.S xs := by
  rcases h with (z | ⟨o, z⟩) | z
  · rcases b _ _ z with w | ⟨w, _⟩ | ⟨_, _, w, _⟩
    · exact .inl (.inl w)
    · exact absurd w n
    · cases w
  · rcases b _ _ z with w | ⟨w, _⟩ | ⟨_, _, w, _⟩
    · exact .inl (.inr ⟨o, w⟩)
    · exact absurd w n
    · cases w
  · exact .inr z
theorem Bw.scr {Γ : Gam} {B H : Hp} {xs : List V} (b : Bw Γ B H) (n : Γ.S ≠ Γ.R) (h : SqL Γ.K B Γ.S xs) : SqL Γ.K H Γ.S xs := by
  rcases h with (z | ⟨o, z⟩) | z
  · rcases b.2 _ _ z with w | ⟨w, _⟩ | ⟨_, _, w, _⟩
    · exact .inl (.inl w)
    · exact absurd w n
    · cases w
  · rcases b.2 _ _ z with w | ⟨w, _⟩ | ⟨_, _, w, _⟩
    · exact .inl (.inr ⟨o, w⟩)
    · exact absurd w n
    · cases w
  · exact .inr z
theorem RowAt.upd {Γ : Gam} {B H : Hp} {ρ : Row} {l : Addr} {o o' : HO} (r : RowAt Γ H ρ) (b : Bw Γ B H) (scr : SqL Γ.K B Γ.S (Γ.ns.map V.int)) (bl : B l = none) (nR : l ≠ Γ.R) (h : H l = some o) (n1 : ∀ ps, o ≠ .tbl ps) (n2 : ∀ f, o ≠ .ext f) : RowAt Γ (L2.upd H l o') ρ :=
  ⟨by rw [upd_ne nR.symm]; exact r.1, (Bw.upd (o := o') b bl).scr r.2.2.1 scr, r.2.2.1, Tabs.upd r.2.2.2 h n1 n2⟩
theorem Vw.upd {Γ : Gam} {G H : Hp} {l : Addr} {o : HO} (w : Vw Γ G H) (h : G l = none) : Vw Γ G (L2.upd H l o) := ⟨w.1, fun a u e => by
  have na : a ≠ l := by rintro rfl; rw [h] at e; cases e
  rw [upd_ne na]; exact w.2 a u e⟩
theorem Vw.both {Γ : Gam} {G H : Hp} {l : Addr} {o : HO} (w : Vw Γ G H) (nR : l ≠ Γ.R) (n : ∀ ps, o ≠ .tbl ps) : Vw Γ (L2.upd G l o) (L2.upd H l o) := ⟨⟨by rw [upd_ne nR.symm]; exact w.1.1, upd_notb w.1.2 n⟩, fun a u e => by
  by_cases ha : a = l
  · subst ha; rw [upd_same] at e; rw [upd_same]; exact e
  · rw [upd_ne ha] at e; rw [upd_ne ha]; exact w.2 a u e⟩
end WF

/-! ## WFB -/
/-! Own layer, part B: the state of a frame; what an expression, a test, an argument list comes to. -/
namespace WF
open PySem PySem.Spec PyProof.Rows L2

abbrev Slot := Option (Bool × D)
structure St (Γ : Gam) (B : Hp) (G : Nat → Hp) (σ : L2.St) (H : Hp) (δ : List Slot) (ρ : Row) : Prop where
  len : σ.length = δ.length
  base : Bw Γ B H
  scr : SqL Γ.K B Γ.S (Γ.ns.map V.int)
  row : RowAt Γ H ρ
  vw : ∀ i, Vw Γ (G i) H
  at_ : ∀ i w d, δ[i]? = some (some (w, d)) → ∃ v, σ[i]? = some (some v) ∧ Rp Γ (G i) v d
  own : ∀ i d, δ[i]? = some (some (true, d)) → ∀ a o, G i a = some o → Mu o = true → B a = none ∧ ∀ j, j ≠ i → G j a = none
  sep : ∀ i d, δ[i]? = some (some (true, d)) → ∀ v, σ[i]? = some (some v) → Sep Γ (G i) v d

inductive RE where
  | ok (d : D) (fr : Bool) (ρ : Row) | er (k : Nat) (ρ : Row) | no
inductive RA where
  | ok (ds : List D) (fr : Bool) (ρ : Row) | er (k : Nat) (ρ : Row) | no
inductive RT where
  | ok (b : Bool) (ρ : Row) | er (k : Nat) (ρ : Row) | no
abbrev CE := List Slot → Row → RE
abbrev CA := List Slot → Row → RA
abbrev CT := List Slot → Row → RT

section
variable (Γ : Gam) (E : L2.St → XK)
def PoE (r : RE) (σ : L2.St) (H : Hp) (Q : VK) : Prop := match r with
  | .ok d fr ρ => ∀ v H', Xr Γ H H' → RowAt Γ H' ρ → Vl Γ H H' v d fr → Q v H'
  | .er k ρ => ∀ H', Xr Γ H H' → RowAt Γ H' ρ → E σ (.ref (Γ.cls k)) none H'
  | .no => False
def PoA (r : RA) (σ : L2.St) (H : Hp) (Q : List V → Hp → Prop) : Prop := match r with
  | .ok ds fr ρ => ∀ vs H', Xr Γ H H' → RowAt Γ H' ρ → VlA Γ H H' vs ds fr → Q vs H'
  | .er k ρ => ∀ H', Xr Γ H H' → RowAt Γ H' ρ → E σ (.ref (Γ.cls k)) none H'
  | .no => False
def PoT (r : RT) (σ : L2.St) (H : Hp) (Q : Bool → Hp → Prop) : Prop := match r with
  | .ok b ρ => ∀ H', Xr Γ H H' → RowAt Γ H' ρ → Q b H'
  | .er k ρ => ∀ H', Xr Γ H H' → RowAt Γ H' ρ → E σ (.ref (Γ.cls k)) none H'
  | .no => False
def T (c : CE) : TE := fun σ H Q => ∃ B δ ρ G, St Γ B G σ H δ ρ ∧ PoE Γ E (c δ ρ) σ H Q
def TAs (c : CA) : TA := fun σ H Q => ∃ B δ ρ G, St Γ B G σ H δ ρ ∧ PoA Γ E (c δ ρ) σ H Q
def TTs (c : CT) : TT := fun σ H Q => ∃ B δ ρ G, St Γ B G σ H δ ρ ∧ PoT Γ E (c δ ρ) σ H Q
end

theorem _root_.L2.PE.imp {X : Cx} {e : Expr} {t t' : TE} (h : PE X e t) (i : ∀ σ H Q, t' σ H Q → t σ H Q) : PE X e t' := ⟨fun pins s σ H Q I q => h.run pins s σ H Q I (i σ H Q q)⟩
theorem _root_.L2.PT.imp {X : Cx} {e : Expr} {t t' : TT} (h : PT X e t) (i : ∀ σ H Q, t' σ H Q → t σ H Q) : PT X e t' := ⟨fun pins s σ H Q I q => h.run pins s σ H Q I (i σ H Q q)⟩
theorem _root_.L2.PW.imp {X : Cx} {e : Expr} {t t' : TT} (h : PW X e t) (i : ∀ σ H Q, t' σ H Q → t σ H Q) : PW X e t' := ⟨fun wh pins s σ H Q I q => h.run wh pins s σ H Q I (i σ H Q q)⟩
theorem _root_.L2.PA.imp {X : Cx} {e : List Expr} {t t' : TA} (h : PA X e t) (i : ∀ σ H Q, t' σ H Q → t σ H Q) : PA X e t' := ⟨fun pos pins s σ H Q I q => h.run pos pins s σ H Q I (i σ H Q q)⟩

section
variable {Γ : Gam} {E : L2.St → XK} {X : Cx} {B : Hp} {G : Nat → Hp} {σ : L2.St} {H H1 H2 : Hp} {δ : List Slot} {ρ ρ1 ρ2 : Row} {pos : Pos} {a b e : Expr} {ca cb cc : CE}

theorem St.nx (h : St Γ B G σ H δ ρ) (x : Xr Γ H H1) (r : RowAt Γ H1 ρ1) : St Γ B G σ H1 δ ρ1 :=
  ⟨h.len, h.base.mono x, h.scr, r, fun i => (h.vw i).mono x, h.at_, h.own, h.sep⟩
theorem St.rpAt (h : St Γ B G σ H δ ρ) {i : Nat} {w : Bool} {d : D} (e : δ[i]? = some (some (w, d))) : ∃ v, σ[i]? = some (some v) ∧ Rp Γ H v d := by
  obtain ⟨v, e1, q⟩ := h.at_ i w d e
  exact ⟨v, e1, q.mono (h.vw i).2.xr⟩
theorem Vl.same {v : V} {d : D} {fr : Bool} (h : Vl Γ H H1 v d fr) (e : H = H1) : Vl Γ H1 H1 v d fr := by subst e; exact h

/-! ### names, constants -/
def eVar (i : Nat) : CE := fun δ ρ => match δ[i]? with
  | some (some (_, d)) => .ok d (imm d) ρ
  | _ => .no
theorem c_var (i : Nat) {x : Str} (hN : X.N[i]? = some x := by rfl) (hv : Vis X.env.scope x := by first | exact Or.inl rfl | exact Or.inr (Or.inl rfl) | exact Or.inr (Or.inr rfl)) (hd : (x == ("__debug__" : Str)) = false := by decide)
    (hcd : (x == ("__classdict__" : Str)) = false := by decide) : PE X (.Name x pos) (T Γ E (eVar i)) :=
  (pe_var hN hv hd hcd).imp fun σ H Q ⟨B, δ, ρ, G, st, q⟩ => by
    unfold eVar at q
    split at q
    · rename_i w d e
      obtain ⟨v, e1, r⟩ := st.rpAt e
      exact ⟨v, e1, q v H (Xr.refl H) st.row (Vl.ifimm st.row r)⟩
    · exact q.elim
def eC (d : D) : CE := fun _ ρ => .ok d true ρ
theorem c_const {v : V} {d : D} (h : PE X e (tC v)) (r : ∀ H, Rp Γ H v d) (m : imm d = true := by rfl) : PE X e (T Γ E (eC d)) :=
  h.imp fun σ H Q ⟨B, δ, ρ, G, st, q⟩ => q v H (Xr.refl H) st.row (Vl.of_imm st.row (r H) m)
theorem c_int {i : Int} {j : Nat} : PE X (.Constant (.int i) j pos) (T Γ E (eC (.int i))) := c_const pe_int fun _ => .int i
theorem c_bl {i : Bool} {j : Nat} : PE X (.Constant (.bool i) j pos) (T Γ E (eC (.bl i))) := c_const pe_bl fun _ => .bl i
theorem c_non {j : Nat} : PE X (.Constant .none j pos) (T Γ E (eC .non)) := c_const pe_non fun _ => .non
theorem c_str {s : Str} {j : Nat} : PE X (.Constant (.str s) j pos) (T Γ E (eC (.str s))) := c_const pe_str fun _ => .str s

/-! ### two-place operators -/
abbrev Op2 := D → D → Option (D × Bool)
def OpS (Γ : Gam) (r : R2) (f : Op2) : Prop := ∀ (H : Hp) (x y : V) (a b d : D) (fr : Bool) (ρ : Row) (Q : VK), RowAt Γ H ρ → Rp Γ H x a → Rp Γ H y b → f a b = some (d, fr) →
  (∀ v H', Ex H H' → Vl Γ H H' v d fr → Q v H') → r x y H Q
def eBin (f : Op2) (ca cb : CE) : CE := fun δ ρ => match ca δ ρ with
  | .ok a _ ρ1 => match cb δ ρ1 with
    | .ok b _ ρ2 => match f a b with
      | some (d, fr) => .ok d fr ρ2
      | none => .no
    | .er k ρ2 => .er k ρ2
    | .no => .no
  | .er k ρ1 => .er k ρ1
  | .no => .no
theorem t_bin {r : R2} {f : Op2} (o : OpS Γ r f) {Q : VK} (h : T Γ E (eBin f ca cb) σ H Q) : tOp r (T Γ E ca) (T Γ E cb) σ H Q := by
  obtain ⟨B, δ, ρ, G, st, q⟩ := h
  refine ⟨B, δ, ρ, G, st, ?_⟩
  unfold eBin at q
  cases hA : ca δ ρ with
  | ok a f1 ρ1 =>
    rw [hA] at q
    intro v1 H1 x1 r1 w1
    refine ⟨B, δ, ρ1, G, st.nx x1 r1, ?_⟩
    dsimp only at q
    cases hB : cb δ ρ1 with
    | ok b f2 ρ2 =>
      rw [hB] at q
      intro v2 H2 x2 r2 w2
      dsimp only at q
      cases hF : f a b with
      | none => rw [hF] at q; exact q.elim
      | some p =>
        obtain ⟨d, fr⟩ := p
        rw [hF] at q
        exact o H2 v1 v2 a b d fr ρ2 Q r2 (w1.rp.mono x2) w2.rp hF fun v H' ex w => q v H' ((x1.trans x2).trans ex.xr) (r2.ex ex) (w.from fun a e => (x1.trans x2).none r2 e)
    | er k ρ2 =>
      rw [hB] at q
      exact fun H' x r => q H' (x1.trans x) r
    | no => rw [hB] at q; exact q.elim
  | er k ρ1 => rw [hA] at q; exact q
  | no => rw [hA] at q; exact q.elim
theorem c_bin {op : Operator} {r : R2} {f : Op2} (ho : OpR X (binaryOp op) r) (o : OpS Γ r f) (ha : PE X a (T Γ E ca)) (hb : PE X b (T Γ E cb)) : PE X (.BinOp a op b pos) (T Γ E (eBin f ca cb)) :=
  (pe_op ho ha hb).imp fun _ _ _ h => t_bin o h
theorem c_cmp {op : CmpOp} {r : R2} {f : Op2} (ho : OpR X (compareOp op) r) (o : OpS Γ r f) (ha : PE X a (T Γ E ca)) (hb : PE X b (T Γ E cb)) (hm : behindInMarks op b = false := by first | exact nomark _ | rfl) : PE X (.Compare a [op] [b] pos) (T Γ E (eBin f ca cb)) :=
  (pe_cmpR ho ha hb hm).imp fun _ _ _ h => t_bin o h
theorem c_ix {r : R2} {f : Op2} (ho : IxR X r) (o : OpS Γ r f) (ha : PE X a (T Γ E ca)) (hb : PE X b (T Γ E cb)) (hs : PlainIx b := by exact fun _ _ => rfl) : PE X (.Subscript a b pos) (T Γ E (eBin f ca cb)) :=
  (pe_ix ho ha hb hs).imp fun _ _ _ h => t_bin o h
/-- .. by cases on the data -/
theorem OpS.or {r r' : R2} {f g : Op2} (h : OpS Γ r f) (h' : OpS Γ r' g) : OpS Γ (fun x y H Q => r x y H Q ∨ r' x y H Q) (fun a b => match f a b with | some p => some p | none => g a b) := fun H x y a b d fr ρ Q row ra rb e q => by
  dsimp only at e
  cases hf : f a b with
  | some p => rw [hf] at e; exact .inl (h H x y a b d fr ρ Q row ra rb (by rw [hf]; exact e) q)
  | none => rw [hf] at e; exact .inr (h' H x y a b d fr ρ Q row ra rb e q)

/-! ### one-place operators -/
abbrev Op1 := D → Option (D × Bool)
def UnS (Γ : Gam) (r : V → Hp → VK → Prop) (f : Op1) : Prop := ∀ (H : Hp) (x : V) (a d : D) (fr : Bool) (ρ : Row) (Q : VK), RowAt Γ H ρ → Rp Γ H x a → f a = some (d, fr) →
  (∀ v H', Ex H H' → Vl Γ H H' v d fr → Q v H') → r x H Q
def eUn (f : Op1) (ca : CE) : CE := fun δ ρ => match ca δ ρ with
  | .ok a _ ρ1 => match f a with
    | some (d, fr) => .ok d fr ρ1
    | none => .no
  | .er k ρ1 => .er k ρ1
  | .no => .no
theorem t_un {r : V → Hp → VK → Prop} {f : Op1} (o : UnS Γ r f) {Q : VK} (h : T Γ E (eUn f ca) σ H Q) : tUn r (T Γ E ca) σ H Q := by
  obtain ⟨B, δ, ρ, G, st, q⟩ := h
  refine ⟨B, δ, ρ, G, st, ?_⟩
  unfold eUn at q
  cases hA : ca δ ρ with
  | ok a f1 ρ1 =>
    rw [hA] at q
    intro v1 H1 x1 r1 w1
    dsimp only at q
    cases hF : f a with
    | none => rw [hF] at q; exact q.elim
    | some p =>
      obtain ⟨d, fr⟩ := p
      rw [hF] at q
      exact o H1 v1 a d fr ρ1 Q r1 w1.rp hF fun v H' ex w => q v H' (x1.trans ex.xr) (r1.ex ex) (w.from fun a e => x1.none r1 e)
  | er k ρ1 => rw [hA] at q; exact q
  | no => rw [hA] at q; exact q.elim
theorem c_un {op : UnaryOp} {r : V → Hp → VK → Prop} {f : Op1} (ho : UnR X (unaryOp op) r) (o : UnS Γ r f) (ha : PE X a (T Γ E ca)) : PE X (.UnaryOp op a pos) (T Γ E (eUn f ca)) :=
  (pe_un ho ha).imp fun _ _ _ h => t_un o h

/-! ### argument lists, displays -/
def aNil : CA := fun _ ρ => .ok [] true ρ
def aCons (c : CE) (r : CA) : CA := fun δ ρ => match c δ ρ with
  | .ok d f1 ρ1 => match r δ ρ1 with
    | .ok ds f2 ρ2 => .ok (d :: ds) (f1 && f2) ρ2
    | .er k ρ2 => .er k ρ2
    | .no => .no
  | .er k ρ1 => .er k ρ1
  | .no => .no
theorem t_nil {Q : List V → Hp → Prop} (h : TAs Γ E aNil σ H Q) : tNil σ H Q := by
  obtain ⟨B, δ, ρ, G, st, q⟩ := h
  exact q [] H (Xr.refl H) st.row VlA.nil
theorem t_cons {c : CE} {r : CA} {Q : List V → Hp → Prop} (h : TAs Γ E (aCons c r) σ H Q) : tCons (T Γ E c) (TAs Γ E r) σ H Q := by
  obtain ⟨B, δ, ρ, G, st, q⟩ := h
  refine ⟨B, δ, ρ, G, st, ?_⟩
  unfold aCons at q
  cases hA : c δ ρ with
  | ok d f1 ρ1 =>
    rw [hA] at q
    intro v1 H1 x1 r1 w1
    refine ⟨B, δ, ρ1, G, st.nx x1 r1, ?_⟩
    dsimp only at q
    cases hB : r δ ρ1 with
    | ok ds f2 ρ2 =>
      rw [hB] at q
      intro vs H2 x2 r2 w2
      exact q _ H2 (x1.trans x2) r2 (VlA.cons (w1.mono x2) (w2.from fun a e => x1.none r1 e))
    | er k ρ2 =>
      rw [hB] at q
      exact fun H' x r => q H' (x1.trans x) r
    | no => rw [hB] at q; exact q.elim
  | er k ρ1 => rw [hA] at q; exact q
  | no => rw [hA] at q; exact q.elim
theorem ca_nil : PA X [] (TAs Γ E aNil) := pa_nil.imp fun _ _ _ h => t_nil h
theorem ca_cons {es : List Expr} {c : CE} {r : CA} (ha : PE X e (T Γ E c)) (hr : PA X es (TAs Γ E r)) (hs : starEach (e :: es) X.env = (false, eval e X.env) :: starEach es X.env := by rfl) : PA X (e :: es) (TAs Γ E (aCons c r)) :=
  (pa_cons ha hr hs).imp fun _ _ _ h => t_cons h
def eLst (r : CA) : CE := fun δ ρ => match r δ ρ with
  | .ok ds fr ρ1 => if ds.length ≤ 1000 then .ok (.lst ds) fr ρ1 else .no
  | .er k ρ1 => .er k ρ1
  | .no => .no
def eTup (r : CA) : CE := fun δ ρ => match r δ ρ with
  | .ok ds fr ρ1 => if ds.length ≤ 1000 then .ok (.tup ds) (fr || immAll ds) ρ1 else .no
  | .er k ρ1 => .er k ρ1
  | .no => .no
theorem small {n : Nat} (h : n ≤ 1000) : n ≤ sizeLine := Nat.le_trans h (by decide)
theorem c_lst {es : List Expr} {r : CA} (h : PA X es (TAs Γ E r)) : PE X (.List es pos) (T Γ E (eLst r)) := (pe_lst h).imp fun σ H Q ⟨B, δ, ρ, G, st, q⟩ => by
  refine ⟨B, δ, ρ, G, st, ?_⟩
  unfold eLst at q
  cases hA : r δ ρ with
  | ok ds fr ρ1 =>
    rw [hA] at q
    intro vs H1 x1 r1 w1
    dsimp only at q
    by_cases hl : ds.length ≤ 1000
    · rw [if_pos hl] at q
      refine ⟨by rw [w1.rp.length]; exact small hl, fun p hp => ?_⟩
      exact q _ _ (x1.trans (Ex.new hp).xr) (r1.ex (Ex.new hp)) (Vl.list r1 w1 hp fun a e => x1.none r1 e)
    · rw [if_neg hl] at q; exact q.elim
  | er k ρ1 => rw [hA] at q; exact q
  | no => rw [hA] at q; exact q.elim
theorem c_tup {es : List Expr} {r : CA} {x1 : Nat} (h : PA X es (TAs Γ E r)) : PE X (.Tuple es x1 pos) (T Γ E (eTup r)) := (pe_tup h).imp fun σ H Q ⟨B, δ, ρ, G, st, q⟩ => by
  refine ⟨B, δ, ρ, G, st, ?_⟩
  unfold eTup at q
  cases hA : r δ ρ with
  | ok ds fr ρ1 =>
    rw [hA] at q
    intro vs H1 x1 r1 w1
    dsimp only at q
    by_cases hl : ds.length ≤ 1000
    · rw [if_pos hl] at q
      refine ⟨by rw [w1.rp.length]; exact small hl, fun p hp => ?_⟩
      have w2 : VlA Γ H H1 vs ds (fr || immAll ds) := ⟨w1.rp, fun z => by
        rcases Bool.or_eq_true_iff.mp z with z | z
        · exact w1.fresh z
        · exact (VlA.of_imm (H := H) r1 w1.rp z (fr := true)).fresh rfl⟩
      exact q _ _ (x1.trans (Ex.new hp).xr) (r1.ex (Ex.new hp)) (Vl.tuple r1 w2 hp)
    · rw [if_neg hl] at q; exact q.elim
  | er k ρ1 => rw [hA] at q; exact q
  | no => rw [hA] at q; exact q.elim

/-! ### calls of what is built in -/
abbrev OpN := List D → Option (D × Bool)
def CaS (Γ : Gam) (r : List V → Hp → VK → Prop) (f : OpN) : Prop := ∀ (H : Hp) (xs : List V) (as : List D) (d : D) (fr : Bool) (ρ : Row) (Q : VK), RowAt Γ H ρ → RpAll Γ H xs as → f as = some (d, fr) →
  (∀ v H', Ex H H' → Vl Γ H H' v d fr → Q v H') → r xs H Q
def eCall (f : OpN) (c : CA) : CE := fun δ ρ => match c δ ρ with
  | .ok as _ ρ1 => match f as with
    | some (d, fr) => .ok d fr ρ1
    | none => .no
  | .er k ρ1 => .er k ρ1
  | .no => .no
theorem t_call {r : List V → Hp → VK → Prop} {f : OpN} {c : CA} (o : CaS Γ r f) {Q : VK} (h : T Γ E (eCall f c) σ H Q) : tCB r (TAs Γ E c) σ H Q := by
  obtain ⟨B, δ, ρ, G, st, q⟩ := h
  refine ⟨B, δ, ρ, G, st, ?_⟩
  unfold eCall at q
  cases hA : c δ ρ with
  | ok as f1 ρ1 =>
    rw [hA] at q
    intro vs H1 x1 r1 w1
    dsimp only at q
    cases hF : f as with
    | none => rw [hF] at q; exact q.elim
    | some p =>
      obtain ⟨d, fr⟩ := p
      rw [hF] at q
      exact o H1 vs as d fr ρ1 Q r1 w1.rp hF fun v H' ex w => q v H' (x1.trans ex.xr) (r1.ex ex) (w.from fun a e => x1.none r1 e)
  | er k ρ1 => rw [hA] at q; exact q
  | no => rw [hA] at q; exact q.elim
theorem c_callB {id : String} {r : List V → Hp → VK → Prop} {f : OpN} {c : CA} {x : Str} {es : List Expr} {p : Pos} (hc : CallR X (.builtin id) r) (o : CaS Γ r f) (hg : Gl X x) (hm : X.mg x = none) (hv : bootBuiltins x = some (.builtin id)) (ha : PA X (e :: es) (TAs Γ E c))
    (hn : x ≠ "__name__" := by decide) (hdb : (x == ("__debug__" : Str)) = false := by decide)
    (he : starEach (e :: es) X.env = (false, eval e X.env) :: starEach es X.env := by rfl) (hpl : (backTo pos (starEach es X.env)).any (·.1) = false := by rfl) : PE X (.Call (.Name x p) (e :: es) [] pos) (T Γ E (eCall f c)) :=
  (pe_callB hc hg hm hv ha hn hdb he hpl).imp fun _ _ _ h => t_call o h
theorem c_callTy {ty : String} {r : List V → Hp → VK → Prop} {f : OpN} {c : CA} {x : Str} {es : List Expr} {p : Pos} (hc : CallR X (.type ty) r) (o : CaS Γ r f) (hg : Gl X x) (hm : X.mg x = none) (hv : bootBuiltins x = some (.type ty)) (ha : PA X (e :: es) (TAs Γ E c))
    (hn : x ≠ "__name__" := by decide) (hdb : (x == ("__debug__" : Str)) = false := by decide)
    (he : starEach (e :: es) X.env = (false, eval e X.env) :: starEach es X.env := by rfl) (hpl : (backTo pos (starEach es X.env)).any (·.1) = false := by rfl) : PE X (.Call (.Name x p) (e :: es) [] pos) (T Γ E (eCall f c)) :=
  (pe_callTy hc hg hm hv ha hn hdb he hpl).imp fun _ _ _ h => t_call o h
theorem CaS.or {r r' : List V → Hp → VK → Prop} {f g : OpN} (h : CaS Γ r f) (h' : CaS Γ r' g) : CaS Γ (fun x H Q => r x H Q ∨ r' x H Q) (fun a => match f a with | some p => some p | none => g a) := fun H x a d fr ρ Q row ra e q => by
  dsimp only at e
  cases hf : f a with
  | some p => rw [hf] at e; exact .inl (h H x a d fr ρ Q row ra (by rw [hf]; exact e) q)
  | none => rw [hf] at e; exact .inr (h' H x a d fr ρ Q row ra e q)

/-! ### tests -/
def truth : D → Option Bool
  | .non => some false
  | .bl b => some b
  | .int i => some (i != 0)
  | .str s => if s.length ≤ 1000 then some ((s.length : Int) != 0) else none
  | .lst xs => some (!xs.isEmpty)
  | .tup xs => some (!xs.isEmpty)
  | _ => none
theorem tru_of {v : V} {d : D} {k : Bool} (h : Rp Γ H v d) (e : truth d = some k) : TruV Γ.K v H k := by
  cases h with
  | non => cases e; rfl
  | bl b => cases e; rfl
  | int i => cases e; rfl
  | str s =>
    simp only [truth] at e
    split at e
    · rename_i hl; cases e; exact ⟨small hl, rfl⟩
    · cases e
  | ty n => cases e
  | row => cases e
  | scr => cases e
  | ptr _ => cases e
  | lam _ _ _ => cases e
  | ktup _ _ => cases e
  | cls _ => cases e
  | dK _ _ _ => cases e
  | dT _ _ _ => cases e
  | tup hs q =>
    cases e
    rename_i xs ds
    refine .inr (.inl ⟨xs, SqT.of hs, ?_⟩)
    have := q.length
    cases xs <;> cases ds <;> simp_all
  | lst n hs q =>
    cases e
    rename_i a xs ds
    refine .inl ⟨xs, SqL.of hs, ?_⟩
    have := q.length
    cases xs <;> cases ds <;> simp_all
  | ins _ _ _ => cases e
def bE (c : CE) : CT := fun δ ρ => match c δ ρ with
  | .ok d _ ρ1 => match truth d with
    | some b => .ok b ρ1
    | none => .no
  | .er k ρ1 => .er k ρ1
  | .no => .no
theorem c_test (hK : X.K = Γ.K) (h : PE X a (T Γ E ca)) (he : ∀ whole, isTrue a X.env whole = (do let v ← whole; standAt a.pos; holding [v] (truthy v)) := by intro _; rfl) : PT X a (TTs Γ E (bE ca)) :=
  (pt_truth h he).imp fun σ H Q ⟨B, δ, ρ, G, st, q⟩ => by
    refine ⟨B, δ, ρ, G, st, ?_⟩
    unfold bE at q
    cases hA : ca δ ρ with
    | ok d f1 ρ1 =>
      rw [hA] at q
      intro v1 H1 x1 r1 w1
      dsimp only at q
      cases hF : truth d with
      | none => rw [hF] at q; exact q.elim
      | some b =>
        rw [hF] at q
        exact ⟨b, by rw [hK]; exact tru_of w1.rp hF, q H1 x1 r1⟩
    | er k ρ1 => rw [hA] at q; exact q
    | no => rw [hA] at q; exact q.elim
/-- a comparison in the place of a test -/
def bB (c : CE) : CT := fun δ ρ => match c δ ρ with
  | .ok (.bl b) _ ρ1 => .ok b ρ1
  | .er k ρ1 => .er k ρ1
  | _ => .no
theorem t_bB {c : CE} {t : TE} (i : ∀ σ H Q, T Γ E c σ H Q → t σ H Q) {Q : Bool → Hp → Prop} (h : TTs Γ E (bB c) σ H Q) : tTest t σ H Q := by
  obtain ⟨B, δ, ρ, G, st, q⟩ := h
  refine i σ H _ ⟨B, δ, ρ, G, st, ?_⟩
  unfold bB at q
  cases hA : c δ ρ with
  | ok d f1 ρ1 =>
    rw [hA] at q
    intro v1 H1 x1 r1 w1
    cases d with
    | bl b =>
      cases w1.rp
      exact ⟨b, rfl, q H1 x1 r1⟩
    | _ => exact q.elim
  | er k ρ1 => rw [hA] at q; exact q
  | no => rw [hA] at q; exact q.elim
theorem c_tcmp {op : CmpOp} {r : R2} {f : Op2} (ho : OpR X (compareOp op) r) (o : OpS Γ r f) (ha : PE X a (T Γ E ca)) (hb : PE X b (T Γ E cb)) (hm : behindInMarks op b = false := by first | exact nomark _ | rfl) : PT X (.Compare a [op] [b] pos) (TTs Γ E (bB (eBin f ca cb))) :=
  (pt_cmpR ho ha hb hm).imp fun _ _ _ h => t_bB (fun _ _ _ h => t_bin o h) h
/-- a op b op' c -/
def eChain (f f' : Op2) (ca cb cc : CE) : CE := fun δ ρ => match ca δ ρ with
  | .ok a _ ρ1 => match cb δ ρ1 with
    | .ok b _ ρ2 => match f a b with
      | some (.bl true, _) => match cc δ ρ2 with
        | .ok c _ ρ3 => match f' b c with
          | some (d, fr) => .ok d fr ρ3
          | none => .no
        | .er k ρ3 => .er k ρ3
        | .no => .no
      | some (.bl false, _) => .ok (.bl false) true ρ2
      | _ => .no
    | .er k ρ2 => .er k ρ2
    | .no => .no
  | .er k ρ1 => .er k ρ1
  | .no => .no
theorem t_chain {r r' : R2} {f f' : Op2} (o : OpS Γ r f) (o' : OpS Γ r' f') {Q : VK} (h : T Γ E (eChain f f' ca cb cc) σ H Q) : tChain r r' (T Γ E ca) (T Γ E cb) (T Γ E cc) σ H Q := by
  obtain ⟨B, δ, ρ, G, st, q⟩ := h
  refine ⟨B, δ, ρ, G, st, ?_⟩
  unfold eChain at q
  cases hA : ca δ ρ with
  | ok a f1 ρ1 =>
    rw [hA] at q
    intro v1 H1 x1 r1 w1
    refine ⟨B, δ, ρ1, G, st.nx x1 r1, ?_⟩
    dsimp only at q
    cases hB : cb δ ρ1 with
    | ok b f2 ρ2 =>
      rw [hB] at q
      intro v2 H2 x2 r2 w2
      dsimp only at q
      cases hF : f a b with
      | none => rw [hF] at q; exact q.elim
      | some p =>
        obtain ⟨d, fr⟩ := p
        rw [hF] at q
        refine o H2 v1 v2 a b d fr ρ2 _ r2 (w1.rp.mono x2) w2.rp hF fun v H3 ex w => ?_
        cases d with
        | bl k =>
          cases w.rp
          refine ⟨k, rfl, ?_⟩
          cases k with
          | true =>
            rw [if_pos rfl]
            refine ⟨B, δ, ρ2, G, st.nx ((x1.trans x2).trans ex.xr) (r2.ex ex), ?_⟩
            dsimp only at q
            cases hC : cc δ ρ2 with
            | ok c f3 ρ3 =>
              rw [hC] at q
              intro v3 H4 x3 r3 w3
              dsimp only at q
              cases hG : f' b c with
              | none => rw [hG] at q; exact q.elim
              | some p =>
                obtain ⟨d2, fr2⟩ := p
                rw [hG] at q
                exact o' H4 v2 v3 b c d2 fr2 ρ3 Q r3 (w2.rp.mono (ex.xr.trans x3)) w3.rp hG fun v H' ex' w => q v H' ((((x1.trans x2).trans ex.xr).trans x3).trans ex'.xr) (r3.ex ex') (w.from fun a e => (((x1.trans x2).trans ex.xr).trans x3).none r3 e)
            | er k ρ3 =>
              rw [hC] at q
              exact fun H' x r => q H' (((x1.trans x2).trans ex.xr).trans x) r
            | no => rw [hC] at q; exact q.elim
          | false =>
            rw [if_neg Bool.false_ne_true]
            exact q _ H3 ((x1.trans x2).trans ex.xr) (r2.ex ex) (Vl.of_imm (r2.ex ex) (.bl false) rfl)
        | _ => exact q.elim
    | er k ρ2 =>
      rw [hB] at q
      exact fun H' x r => q H' (x1.trans x) r
    | no => rw [hB] at q; exact q.elim
  | er k ρ1 => rw [hA] at q; exact q
  | no => rw [hA] at q; exact q.elim
theorem c_chain {c : Expr} {op op' : CmpOp} {r r' : R2} {f f' : Op2} (ho : OpR X (compareOp op) r) (o : OpS Γ r f) (ho' : OpR X (compareOp op') r') (o' : OpS Γ r' f') (ha : PE X a (T Γ E ca)) (hb : PE X b (T Γ E cb)) (hc : PE X c (T Γ E cc))
    (hm : lastMarks [op, op'] [b, c] = false := by with_unfolding_all rfl) : PE X (.Compare a [op, op'] [b, c] pos) (T Γ E (eChain f f' ca cb cc)) :=
  (pe_chain ho ho' ha hb hc hm).imp fun _ _ _ h => t_chain o o' h
theorem c_tchain {c : Expr} {op op' : CmpOp} {r r' : R2} {f f' : Op2} (ho : OpR X (compareOp op) r) (o : OpS Γ r f) (ho' : OpR X (compareOp op') r') (o' : OpS Γ r' f') (ha : PE X a (T Γ E ca)) (hb : PE X b (T Γ E cb)) (hc : PE X c (T Γ E cc))
    (hm : lastMarks [op, op'] [b, c] = false := by with_unfolding_all rfl) : PT X (.Compare a [op, op'] [b, c] pos) (TTs Γ E (bB (eChain f f' ca cb cc))) :=
  (pt_chain ho ho' ha hb hc hm).imp fun _ _ _ h => t_bB (fun _ _ _ h => t_chain o o' h) h
/-- and, or, not in tests -/
def bAnd (t u : CT) : CT := fun δ ρ => match t δ ρ with
  | .ok true ρ1 => u δ ρ1
  | r => r
def bOr (t u : CT) : CT := fun δ ρ => match t δ ρ with
  | .ok false ρ1 => u δ ρ1
  | r => r
def bNot (t : CT) : CT := fun δ ρ => match t δ ρ with
  | .ok b ρ1 => .ok (!b) ρ1
  | r => r
theorem PoT.trans {r : RT} {Q : Bool → Hp → Prop} (x : Xr Γ H H1) (h : PoT Γ E r σ H Q) : PoT Γ E r σ H1 Q := by
  cases r with
  | ok b ρ => exact fun H' x' r => h H' (x.trans x') r
  | er k ρ => exact fun H' x' r => h H' (x.trans x') r
  | no => exact h
theorem t_and {t u : CT} {Q : Bool → Hp → Prop} (h : TTs Γ E (bAnd t u) σ H Q) : tAnd (TTs Γ E t) (TTs Γ E u) σ H Q := by
  obtain ⟨B, δ, ρ, G, st, q⟩ := h
  refine ⟨B, δ, ρ, G, st, ?_⟩
  unfold bAnd at q
  cases hA : t δ ρ with
  | ok b ρ1 =>
    rw [hA] at q
    intro H1 x1 r1
    cases b with
    | true => rw [if_pos rfl]; exact ⟨B, δ, ρ1, G, st.nx x1 r1, PoT.trans x1 q⟩
    | false => rw [if_neg Bool.false_ne_true]; exact q H1 x1 r1
  | er k ρ1 => rw [hA] at q; exact q
  | no => rw [hA] at q; exact q.elim
theorem t_or {t u : CT} {Q : Bool → Hp → Prop} (h : TTs Γ E (bOr t u) σ H Q) : tOr (TTs Γ E t) (TTs Γ E u) σ H Q := by
  obtain ⟨B, δ, ρ, G, st, q⟩ := h
  refine ⟨B, δ, ρ, G, st, ?_⟩
  unfold bOr at q
  cases hA : t δ ρ with
  | ok b ρ1 =>
    rw [hA] at q
    intro H1 x1 r1
    cases b with
    | true => rw [if_pos rfl]; exact q H1 x1 r1
    | false => rw [if_neg Bool.false_ne_true]; exact ⟨B, δ, ρ1, G, st.nx x1 r1, PoT.trans x1 q⟩
  | er k ρ1 => rw [hA] at q; exact q
  | no => rw [hA] at q; exact q.elim
theorem t_not {t : CT} {Q : Bool → Hp → Prop} (h : TTs Γ E (bNot t) σ H Q) : tNot (TTs Γ E t) σ H Q := by
  obtain ⟨B, δ, ρ, G, st, q⟩ := h
  refine ⟨B, δ, ρ, G, st, ?_⟩
  unfold bNot at q
  cases hA : t δ ρ with
  | ok b ρ1 => rw [hA] at q; exact fun H1 x1 r1 => q H1 x1 r1
  | er k ρ1 => rw [hA] at q; exact q
  | no => rw [hA] at q; exact q.elim
variable {t u : CT} {rest : List Expr}
theorem cw_and1 (ha : PT X a (TTs Γ E t)) : PW X (.BoolOp .And [a] pos) (TTs Γ E t) := pw_and1 ha
theorem cw_or1 (ha : PT X a (TTs Γ E t)) : PW X (.BoolOp .Or [a] pos) (TTs Γ E t) := pw_or1 ha
theorem cw_and (ha : PT X a (TTs Γ E t)) (hb : PW X (.BoolOp .And (b :: rest) pos) (TTs Γ E u)) : PW X (.BoolOp .And (a :: b :: rest) pos) (TTs Γ E (bAnd t u)) := (pw_and ha hb).imp fun _ _ _ h => t_and h
theorem cw_or (ha : PT X a (TTs Γ E t)) (hb : PW X (.BoolOp .Or (b :: rest) pos) (TTs Γ E u)) : PW X (.BoolOp .Or (a :: b :: rest) pos) (TTs Γ E (bOr t u)) := (pw_or ha hb).imp fun _ _ _ h => t_or h
theorem cw_not (ha : PT X a (TTs Γ E t)) : PT X (.UnaryOp .Not a pos) (TTs Γ E (bNot t)) := (pt_not ha).imp fun _ _ _ h => t_not h
/-- .. as values: all but the last True or False -/
def eAnd (ca cb : CE) : CE := fun δ ρ => match ca δ ρ with
  | .ok (.bl true) _ ρ1 => cb δ ρ1
  | .ok (.bl false) _ ρ1 => .ok (.bl false) true ρ1
  | .er k ρ1 => .er k ρ1
  | _ => .no
def eOr (ca cb : CE) : CE := fun δ ρ => match ca δ ρ with
  | .ok (.bl false) _ ρ1 => cb δ ρ1
  | .ok (.bl true) _ ρ1 => .ok (.bl true) true ρ1
  | .er k ρ1 => .er k ρ1
  | _ => .no
def eNot (ca : CE) : CE := fun δ ρ => match ca δ ρ with
  | .ok (.bl b) _ ρ1 => .ok (.bl (!b)) true ρ1
  | .er k ρ1 => .er k ρ1
  | _ => .no
theorem PoE.trans {r : RE} {Q : VK} (x : Xr Γ H H1) (n : ∀ a, H1 a = none → H a = none) (h : PoE Γ E r σ H Q) : PoE Γ E r σ H1 Q := by
  cases r with
  | ok b fr ρ => exact fun v H' x' r w => h v H' (x.trans x') r (w.from n)
  | er k ρ => exact fun H' x' r => h H' (x.trans x') r
  | no => exact h
theorem c_and (ha : PE X a (T Γ E ca)) (hb : PE X (.BoolOp .And (b :: rest) pos) (T Γ E cb)) : PE X (.BoolOp .And (a :: b :: rest) pos) (T Γ E (eAnd ca cb)) := (pe_and ha hb).imp fun σ H Q ⟨B, δ, ρ, G, st, q⟩ => by
  refine ⟨B, δ, ρ, G, st, ?_⟩
  unfold eAnd at q
  cases hA : ca δ ρ with
  | ok d f1 ρ1 =>
    rw [hA] at q
    intro v1 H1 x1 r1 w1
    cases d with
    | bl k =>
      cases w1.rp
      refine ⟨k, rfl, ?_⟩
      cases k with
      | true => rw [if_pos rfl]; exact ⟨B, δ, ρ1, G, st.nx x1 r1, PoE.trans x1 (fun a e => x1.none r1 e) q⟩
      | false => rw [if_neg Bool.false_ne_true]; exact q _ H1 x1 r1 (Vl.of_imm r1 (.bl false) rfl)
    | _ => exact q.elim
  | er k ρ1 => rw [hA] at q; exact q
  | no => rw [hA] at q; exact q.elim
theorem c_or (ha : PE X a (T Γ E ca)) (hb : PE X (.BoolOp .Or (b :: rest) pos) (T Γ E cb)) : PE X (.BoolOp .Or (a :: b :: rest) pos) (T Γ E (eOr ca cb)) := (pe_or ha hb).imp fun σ H Q ⟨B, δ, ρ, G, st, q⟩ => by
  refine ⟨B, δ, ρ, G, st, ?_⟩
  unfold eOr at q
  cases hA : ca δ ρ with
  | ok d f1 ρ1 =>
    rw [hA] at q
    intro v1 H1 x1 r1 w1
    cases d with
    | bl k =>
      cases w1.rp
      refine ⟨k, rfl, ?_⟩
      cases k with
      | true => rw [if_pos rfl]; exact q _ H1 x1 r1 (Vl.of_imm r1 (.bl true) rfl)
      | false => rw [if_neg Bool.false_ne_true]; exact ⟨B, δ, ρ1, G, st.nx x1 r1, PoE.trans x1 (fun a e => x1.none r1 e) q⟩
    | _ => exact q.elim
  | er k ρ1 => rw [hA] at q; exact q
  | no => rw [hA] at q; exact q.elim
theorem c_one {op : BoolOp} (ha : PE X a (T Γ E ca)) : PE X (.BoolOp op [a] pos) (T Γ E ca) := pe_one ha
theorem c_not (ha : PE X a (T Γ E ca)) : PE X (.UnaryOp .Not a pos) (T Γ E (eNot ca)) := (pe_not ha).imp fun σ H Q ⟨B, δ, ρ, G, st, q⟩ => by
  refine ⟨B, δ, ρ, G, st, ?_⟩
  unfold eNot at q
  cases hA : ca δ ρ with
  | ok d f1 ρ1 =>
    rw [hA] at q
    intro v1 H1 x1 r1 w1
    cases d with
    | bl k =>
      cases w1.rp
      exact ⟨k, rfl, q _ H1 x1 r1 (Vl.of_imm r1 (.bl _) rfl)⟩
    | _ => exact q.elim
  | er k ρ1 => rw [hA] at q; exact q
  | no => rw [hA] at q; exact q.elim
/-- x if t else y -/
def eIf (t : CT) (ca cb : CE) : CE := fun δ ρ => match t δ ρ with
  | .ok true ρ1 => ca δ ρ1
  | .ok false ρ1 => cb δ ρ1
  | .er k ρ1 => .er k ρ1
  | .no => .no
theorem c_ifExp {c : Expr} (hc : PT X c (TTs Γ E t)) (ha : PE X a (T Γ E ca)) (hb : PE X b (T Γ E cb)) : PE X (.IfExp c a b pos) (T Γ E (eIf t ca cb)) := (pe_ifExp hc ha hb).imp fun σ H Q ⟨B, δ, ρ, G, st, q⟩ => by
  refine ⟨B, δ, ρ, G, st, ?_⟩
  unfold eIf at q
  cases hA : t δ ρ with
  | ok b ρ1 =>
    rw [hA] at q
    intro H1 x1 r1
    cases b with
    | true => rw [if_pos rfl]; exact ⟨B, δ, ρ1, G, st.nx x1 r1, PoE.trans x1 (fun a e => x1.none r1 e) q⟩
    | false => rw [if_neg Bool.false_ne_true]; exact ⟨B, δ, ρ1, G, st.nx x1 r1, PoE.trans x1 (fun a e => x1.none r1 e) q⟩
  | er k ρ1 => rw [hA] at q; exact q
  | no => rw [hA] at q; exact q.elim
end
end WF

/-! ## WFC -/
/-! Own layer, part C: statements, targets, loops. -/
namespace WF
open PySem PySem.Spec PyProof.Rows L2

inductive RS where
  | nx (δ : List Slot) (ρ : Row) | rt (d : D) (fr : Bool) (ρ : Row) | bk (δ : List Slot) (ρ : Row) | ct (δ : List Slot) (ρ : Row) | er (k : Nat) (ρ : Row) | no
abbrev CS := List Slot → Row → RS

section
variable (Γ : Gam) (E : L2.St → XK)
def PoS (B : Hp) (r : RS) (D : Ends) : Prop := match r with
  | .nx δ ρ => ∀ G σ H, St Γ B G σ H δ ρ → D.nx σ H
  | .bk δ ρ => ∀ G σ H, St Γ B G σ H δ ρ → D.bk σ H
  | .ct δ ρ => ∀ G σ H, St Γ B G σ H δ ρ → D.ct σ H
  | .rt d fr ρ => ∀ v H, Bw Γ B H → RowAt Γ H ρ → Vl Γ B H v d fr → D.rt v H
  | .er k ρ => ∀ σ H, Bw Γ B H → RowAt Γ H ρ → E σ (.ref (Γ.cls k)) none H
  | .no => False
def TSt (c : CS) : TS := fun D σ H => ∃ B δ ρ G, St Γ B G σ H δ ρ ∧ PoS Γ E B (c δ ρ) D
end
theorem _root_.L2.PS.imp {X : Cx} {e : Stmt} {t t' : TS} (h : PS X e t) (i : ∀ D σ H, t' D σ H → t D σ H) : PS X e t' := ⟨fun pins s σ H D I q => h.run pins s σ H D I (i D σ H q)⟩
theorem _root_.L2.PSs.imp {X : Cx} {e : List Stmt} {t t' : TS} (h : PSs X e t) (i : ∀ D σ H, t' D σ H → t D σ H) : PSs X e t' := ⟨fun pins s σ H D I q => h.run pins s σ H D I (i D σ H q)⟩
theorem _root_.L2.PG.imp {X : Cx} {e : Expr} {t t' : TG} (h : PG X e t) (i : ∀ v σ H Q, t' v σ H Q → t v σ H Q) : PG X e t' := ⟨fun pins s σ H v u Q I r q => h.run pins s σ H v u Q I r (i v σ H Q q)⟩
theorem _root_.L2.PGs.imp {X : Cx} {e : List Expr} {t t' : TGs} (h : PGs X e t) (i : ∀ v σ H Q, t' v σ H Q → t v σ H Q) : PGs X e t' := ⟨fun pins s σ H v u Q I r q => h.run pins s σ H v u Q I r (i v σ H Q q)⟩
theorem _root_.L2.PI.imp {X : Cx} {tg e : Expr} {t t' : TI} (h : PI X tg e t) (i : ∀ σ H Q, t' σ H Q → t σ H Q) : PI X tg e t' := ⟨fun pins s σ H Q I q => h.run pins s σ H Q I (i σ H Q q)⟩

section
variable {Γ : Gam} {E : L2.St → XK} {X : Cx} {B B' : Hp} {G : Nat → Hp} {σ : L2.St} {H H1 H2 : Hp} {δ : List Slot} {ρ ρ1 ρ2 : Row} {pos : Pos} {a b e : Expr} {ca cb cc : CE} {st : Stmt} {rest : List Stmt} {c c1 c2 : CS} {ct : CT}

/-- a narrower base -/
theorem St.narrow (h : St Γ B' G σ H δ ρ) (w : Bw Γ B B') (hs : SqL Γ.K B Γ.S (Γ.ns.map V.int)) : St Γ B G σ H δ ρ :=
  ⟨h.len, ⟨w.1, w.2.trans h.base.2⟩, hs, h.row, h.vw, h.at_, fun i d e a o g m => ⟨w.gone (h.own i d e a o g m).1, (h.own i d e a o g m).2⟩, h.sep⟩
theorem PoS.widen {r : RS} {D : Ends} (w : Bw Γ B B') (hs : SqL Γ.K B Γ.S (Γ.ns.map V.int)) (h : PoS Γ E B r D) : PoS Γ E B' r D := by
  cases r with
  | nx δ ρ => exact fun G σ H s => h G σ H (s.narrow w hs)
  | bk δ ρ => exact fun G σ H s => h G σ H (s.narrow w hs)
  | ct δ ρ => exact fun G σ H s => h G σ H (s.narrow w hs)
  | rt d fr ρ => exact fun v H b r l => h v H ⟨w.1, w.2.trans b.2⟩ r (l.from fun a e => w.gone e)
  | er k ρ => exact fun σ H b r => h σ H ⟨w.1, w.2.trans b.2⟩ r
  | no => exact h
theorem St.back (h : St Γ B G σ H δ ρ) : ∀ a, H a = none → B a = none := fun a e => h.base.gone e

/-! ### storing -/
def freeze (δ : List Slot) : List Slot := δ.map fun s => s.map fun p => (false, p.2)
theorem freeze_get {i : Nat} {w : Bool} {d : D} (h : (freeze δ)[i]? = some (some (w, d))) : w = false ∧ ∃ w', δ[i]? = some (some (w', d)) := by
  unfold freeze at h
  rw [List.getElem?_map] at h
  cases e : δ[i]? with
  | none => rw [e] at h; cases h
  | some s =>
    rw [e] at h
    cases s with
    | none => cases h
    | some p =>
      obtain ⟨w', d'⟩ := p
      cases h
      exact ⟨rfl, w', rfl⟩
theorem St.freeze (h : St Γ B G σ H δ ρ) : St Γ B G σ H (freeze δ) ρ :=
  ⟨by rw [h.len]; unfold WF.freeze; rw [List.length_map], h.base, h.scr, h.row, h.vw, fun i w d e => by
    obtain ⟨_, w', e'⟩ := freeze_get e
    exact h.at_ i w' d e', fun i d e => Bool.noConfusion (freeze_get e).1, fun i d e => Bool.noConfusion (freeze_get e).1⟩
def upG (G : Nat → Hp) (i : Nat) (g : Hp) : Nat → Hp := fun j => if j = i then g else G j
theorem upG_same {i : Nat} {g : Hp} : upG G i g i = g := if_pos rfl
theorem upG_ne {i j : Nat} {g : Hp} (h : j ≠ i) : upG G i g j = G j := if_neg h
/-- a new thing is stored -/
theorem St.set {i : Nat} {v : V} {d : D} {Ge : Hp} (h : St Γ B G σ H δ ρ) (w : Vw Γ Ge H) (q : Rp Γ Ge v d) (n : ∀ a o, Ge a = some o → Mu o = true → B a = none ∧ ∀ j, j ≠ i → G j a = none) (sp : Sep Γ Ge v d) :
    St Γ B (upG G i Ge) (σ.set i (some v)) H (δ.set i (some (true, d))) ρ := by
  have disj : ∀ j d', j ≠ i → δ[j]? = some (some (true, d')) → ∀ a o, G j a = some o → Mu o = true → Ge a = none := fun j d' nj e a o g m => by
    cases q : Ge a with
    | none => rfl
    | some u =>
      have e1 := w.2 a u q
      have e2 := (h.vw j).2 a o g
      rw [e1] at e2
      cases e2
      rw [(n a _ q m).2 j nj] at g
      cases g
  refine ⟨by rw [List.length_set, List.length_set, h.len], h.base, h.scr, h.row, fun j => ?_, fun j w' d' e => ?_, fun j d' e a o g m => ?_, fun j d' e u eu => ?_⟩
  · by_cases hj : j = i
    · subst hj; rw [upG_same]; exact w
    · rw [upG_ne hj]; exact h.vw j
  · by_cases hj : j = i
    · subst hj
      have hl : j < δ.length := by
        rcases Nat.lt_or_ge j δ.length with z | z
        · exact z
        · rw [List.getElem?_eq_none_iff.mpr (by rw [List.length_set]; exact z)] at e; cases e
      rw [List.getElem?_set_self hl] at e
      cases e
      exact ⟨v, List.getElem?_set_self (by rw [h.len]; exact hl), by rw [upG_same]; exact q⟩
    · rw [List.getElem?_set_ne (Ne.symm hj)] at e
      obtain ⟨u, e1, q1⟩ := h.at_ j w' d' e
      exact ⟨u, by rw [List.getElem?_set_ne (Ne.symm hj)]; exact e1, by rw [upG_ne hj]; exact q1⟩
  · by_cases hj : j = i
    · subst hj
      rw [upG_same] at g
      refine ⟨(n a o g m).1, fun k hk => ?_⟩
      rw [upG_ne hk]
      exact (n a o g m).2 k hk
    · rw [List.getElem?_set_ne (Ne.symm hj)] at e
      rw [upG_ne hj] at g
      refine ⟨(h.own j d' e a o g m).1, fun k hk => ?_⟩
      by_cases hki : k = i
      · subst hki; rw [upG_same]; exact disj j d' hj e a o g m
      · rw [upG_ne hki]; exact (h.own j d' e a o g m).2 k hk
  · by_cases hj : j = i
    · subst hj
      have hl : j < δ.length := by
        rcases Nat.lt_or_ge j δ.length with z | z
        · exact z
        · rw [List.getElem?_eq_none_iff.mpr (by rw [List.length_set]; exact z)] at e; cases e
      rw [List.getElem?_set_self hl] at e
      rw [List.getElem?_set_self (by rw [h.len]; exact hl)] at eu
      cases e
      cases eu
      rw [upG_same]; exact sp
    · rw [List.getElem?_set_ne (Ne.symm hj)] at e eu
      rw [upG_ne hj]; exact h.sep j d' e u eu
/-- anything is stored where nothing is owned -/
theorem St.setF {i : Nat} {v : V} {d : D} (h : St Γ B G σ H δ ρ) (q : Rp Γ H v d) : ∃ G', St Γ B G' (σ.set i (some v)) H ((WF.freeze δ).set i (some (false, d))) ρ := by
  let g : Hp := offT Γ H
  have gv : Vw Γ g H := offT_vw
  have gx : Xq Γ H g := offT_q h.row
  have hf := h.freeze
  have nown : ∀ j d', ((WF.freeze δ).set i (some (false, d)))[j]? = some (some (true, d')) → False := fun j d' e => by
    by_cases hj : j = i
    · subst hj
      rcases Nat.lt_or_ge j (WF.freeze δ).length with z | z
      · rw [List.getElem?_set_self z] at e; cases e
      · rw [List.getElem?_eq_none_iff.mpr (by rw [List.length_set]; exact z)] at e; cases e
    · rw [List.getElem?_set_ne (Ne.symm hj)] at e
      obtain ⟨z, _⟩ := freeze_get e
      cases z
  refine ⟨upG G i g, ⟨by rw [List.length_set, List.length_set, hf.len], h.base, h.scr, h.row, fun j => ?_, fun j w' d' e => ?_, fun j d' e => (nown j d' e).elim, fun j d' e => (nown j d' e).elim⟩⟩
  · by_cases hj : j = i
    · subst hj; rw [upG_same]; exact gv
    · rw [upG_ne hj]; exact h.vw j
  · by_cases hj : j = i
    · subst hj
      have hl : j < (WF.freeze δ).length := by
        rcases Nat.lt_or_ge j (WF.freeze δ).length with z | z
        · exact z
        · rw [List.getElem?_eq_none_iff.mpr (by rw [List.length_set]; exact z)] at e; cases e
      rw [List.getElem?_set_self hl] at e
      cases e
      exact ⟨v, List.getElem?_set_self (by rw [hf.len]; exact hl), by rw [upG_same]; exact q.monoQ gx⟩
    · rw [List.getElem?_set_ne (Ne.symm hj)] at e
      obtain ⟨u, e1, q1⟩ := hf.at_ j w' d' e
      exact ⟨u, by rw [List.getElem?_set_ne (Ne.symm hj)]; exact e1, by rw [upG_ne hj]; exact q1⟩
def put (i : Nat) (d : D) (fr : Bool) (δ : List Slot) : List Slot := if fr then δ.set i (some (true, d)) else (freeze δ).set i (some (false, d))
theorem St.put {i : Nat} {v : V} {d : D} {fr : Bool} {H0 : Hp} (h : St Γ B G σ H δ ρ) (l : Vl Γ H0 H v d fr) (n : ∀ a, H0 a = none → B a = none ∧ ∀ j, G j a = none) : ∃ G', St Γ B G' (σ.set i (some v)) H (put i d fr δ) ρ := by
  cases fr with
  | true =>
    obtain ⟨Ge, w, q, z, sp⟩ := l.fresh rfl
    exact ⟨_, h.set w q (fun a o e m => ⟨(n a (z a o e m)).1, fun j _ => (n a (z a o e m)).2 j⟩) sp⟩
  | false => exact h.setF l.rp

/-! ### blocks -/
def sNil : CS := fun δ ρ => .nx δ ρ
def sSeq (c1 c2 : CS) : CS := fun δ ρ => match c1 δ ρ with
  | .nx δ1 ρ1 => c2 δ1 ρ1
  | r => r
theorem cs_nil : PSs X [] (TSt Γ E sNil) := pss_nil.imp fun D σ H ⟨B, δ, ρ, G, s, q⟩ => q G σ H s
theorem t_seq {D : Ends} (h : TSt Γ E (sSeq c1 c2) D σ H) : tSeq (TSt Γ E c1) (TSt Γ E c2) D σ H := by
  obtain ⟨B, δ, ρ, G, s, q⟩ := h
  refine ⟨B, δ, ρ, G, s, ?_⟩
  unfold sSeq at q
  cases hA : c1 δ ρ with
  | nx δ1 ρ1 => rw [hA] at q; exact fun G' σ' H' s' => ⟨B, δ1, ρ1, G', s', q⟩
  | rt d fr ρ1 => rw [hA] at q; exact q
  | bk δ1 ρ1 => rw [hA] at q; exact q
  | ct δ1 ρ1 => rw [hA] at q; exact q
  | er k ρ1 => rw [hA] at q; exact q
  | no => rw [hA] at q; exact q.elim
theorem cs_cons (h1 : PS X st (TSt Γ E c1)) (h2 : PSs X rest (TSt Γ E c2)) : PSs X (st :: rest) (TSt Γ E (sSeq c1 c2)) := (pss_cons h1 h2).imp fun _ _ _ h => t_seq h
theorem cs_one (h1 : PS X st (TSt Γ E c1)) : PSs X [st] (TSt Γ E c1) := (pss_one h1)
def sPass : CS := fun δ ρ => .nx δ ρ
def sBreak : CS := fun δ ρ => .bk δ ρ
def sCont : CS := fun δ ρ => .ct δ ρ
theorem cs_pass : PS X (.Pass pos) (TSt Γ E sPass) := ps_pass.imp fun D σ H ⟨B, δ, ρ, G, s, q⟩ => q G σ H s
theorem cs_break : PS X (.Break pos) (TSt Γ E sBreak) := ps_break.imp fun D σ H ⟨B, δ, ρ, G, s, q⟩ => q G σ H s
theorem cs_cont : PS X (.Continue pos) (TSt Γ E sCont) := ps_continue.imp fun D σ H ⟨B, δ, ρ, G, s, q⟩ => q G σ H s
/-- a statement that is never reached -/
def sNever : CS := fun _ _ => .no
theorem cs_never : PS X st (TSt Γ E sNever) := ps_never.imp fun D σ H ⟨B, δ, ρ, G, s, q⟩ => q.elim

/-- an expression's outcome handed on to a statement's -/
theorem PoE.er {r : RE} {k : Nat} (hr : r = .er k ρ1) (s : St Γ B G σ H δ ρ) {D : Ends} (q : PoS Γ E B (.er k ρ1) D) {Q : VK} : PoE Γ E r σ H Q := by
  subst hr
  exact fun H' x r => q σ H' (s.base.mono x) r

/-! ### x = e -/
def sSet (i : Nat) (c : CE) : CS := fun δ ρ => match c δ ρ with
  | .ok d fr ρ1 => .nx (put i d fr δ) ρ1
  | .er k ρ1 => .er k ρ1
  | .no => .no
theorem t_set {i : Nat} {D : Ends} (h : TSt Γ E (sSet i ca) D σ H) : tAsg (T Γ E ca) (gName i) D σ H := by
  obtain ⟨B, δ, ρ, G, s, q⟩ := h
  refine ⟨B, δ, ρ, G, s, ?_⟩
  unfold sSet at q
  cases hA : ca δ ρ with
  | ok d fr ρ1 =>
    rw [hA] at q
    intro v H1 x r l
    obtain ⟨G', s'⟩ := (s.nx x r).put (i := i) l fun a e => ⟨s.back a e, fun j => (s.vw j).2.none e⟩
    exact q G' _ H1 s'
  | er k ρ1 => rw [hA] at q; exact fun H' x r => q σ H' (s.base.mono x) r
  | no => rw [hA] at q; exact q.elim
theorem cs_set {i : Nat} {x : Str} {py : Pos} (hN : X.N.Nodup) (hi : X.N[i]? = some x) (hx : Loc X.env.scope x) (he : PE X e (T Γ E ca))
    (hf : X.fn x = true ∨ X.env.scope.names.lookup x = some .local := by first | exact .inl rfl | exact .inr rfl | assumption)
    (hs : swapsWithSole [.Name x py] e pos.line X.env = pure false := by rfl) (hw : swappedStores [.Name x py] e X.env = pure none := by rfl) : PS X (.Assign [.Name x py] e pos) (TSt Γ E (sSet i ca)) :=
  (ps_asg he (pg_name hN hi hx hf) hs hw).imp fun _ _ _ h => t_set h
/-- x = y, both names: y's thing goes to x -/
def sMove (i j : Nat) : CS := fun δ ρ => match δ[j]? with
  | some (some (w, d)) => if i = j then .no else .nx ((δ.set j none).set i (some (w, d))) ρ
  | _ => .no
theorem St.move {i j : Nat} {w : Bool} {d : D} (h : St Γ B G σ H δ ρ) (e : δ[j]? = some (some (w, d))) (n : i ≠ j) : ∃ v, σ[j]? = some (some v) ∧ ∃ G', St Γ B G' (σ.set i (some v)) H ((δ.set j none).set i (some (w, d))) ρ := by
  obtain ⟨v, e1, q⟩ := h.at_ j w d e
  refine ⟨v, e1, upG (upG G j fun _ => none) i (G j), ⟨by rw [List.length_set, List.length_set, List.length_set, h.len], h.base, h.scr, h.row, fun k => ?_, fun k w' d' ek => ?_, fun k d' ek a o g m => ?_, fun k d' ek u eu => ?_⟩⟩
  · by_cases hk : k = i
    · subst hk; rw [upG_same]; exact h.vw j
    · rw [upG_ne hk]
      by_cases hkj : k = j
      · subst hkj; rw [upG_same]; exact ⟨⟨rfl, fun _ _ z => by cases z⟩, fun _ _ z => by cases z⟩
      · rw [upG_ne hkj]; exact h.vw k
  · by_cases hk : k = i
    · subst hk
      have hl : k < (δ.set j none).length := by
        rcases Nat.lt_or_ge k (δ.set j none).length with z | z
        · exact z
        · rw [List.getElem?_eq_none_iff.mpr (by rw [List.length_set]; exact z)] at ek; cases ek
      rw [List.getElem?_set_self hl] at ek
      cases ek
      exact ⟨v, List.getElem?_set_self (by rw [h.len]; rw [List.length_set] at hl; exact hl), by rw [upG_same]; exact q⟩
    · rw [List.getElem?_set_ne (Ne.symm hk)] at ek
      by_cases hkj : k = j
      · subst hkj
        rcases Nat.lt_or_ge k δ.length with z | z
        · rw [List.getElem?_set_self z] at ek; cases ek
        · rw [List.getElem?_eq_none_iff.mpr (by rw [List.length_set]; exact z)] at ek; cases ek
      · rw [List.getElem?_set_ne (Ne.symm hkj)] at ek
        obtain ⟨u, e2, q2⟩ := h.at_ k w' d' ek
        exact ⟨u, by rw [List.getElem?_set_ne (Ne.symm hk)]; exact e2, by rw [upG_ne hk, upG_ne hkj]; exact q2⟩
  · by_cases hk : k = i
    · subst hk
      have hl : k < (δ.set j none).length := by
        rcases Nat.lt_or_ge k (δ.set j none).length with z | z
        · exact z
        · rw [List.getElem?_eq_none_iff.mpr (by rw [List.length_set]; exact z)] at ek; cases ek
      rw [List.getElem?_set_self hl] at ek
      cases ek
      rw [upG_same] at g
      refine ⟨(h.own j d e a o g m).1, fun l hl => ?_⟩
      rw [upG_ne hl]
      by_cases hlj : l = j
      · subst hlj; rw [upG_same]
      · rw [upG_ne hlj]; exact (h.own j d e a o g m).2 l hlj
    · rw [List.getElem?_set_ne (Ne.symm hk)] at ek
      by_cases hkj : k = j
      · subst hkj
        rcases Nat.lt_or_ge k δ.length with z | z
        · rw [List.getElem?_set_self z] at ek; cases ek
        · rw [List.getElem?_eq_none_iff.mpr (by rw [List.length_set]; exact z)] at ek; cases ek
      · rw [List.getElem?_set_ne (Ne.symm hkj)] at ek
        rw [upG_ne hk, upG_ne hkj] at g
        refine ⟨(h.own k d' ek a o g m).1, fun l hl => ?_⟩
        by_cases hli : l = i
        · subst hli; rw [upG_same]; exact (h.own k d' ek a o g m).2 j (Ne.symm hkj)
        · rw [upG_ne hli]
          by_cases hlj : l = j
          · subst hlj; rw [upG_same]
          · rw [upG_ne hlj]; exact (h.own k d' ek a o g m).2 l hl
  · by_cases hk : k = i
    · subst hk
      have hl : k < (δ.set j none).length := by
        rcases Nat.lt_or_ge k (δ.set j none).length with z | z
        · exact z
        · rw [List.getElem?_eq_none_iff.mpr (by rw [List.length_set]; exact z)] at ek; cases ek
      rw [List.getElem?_set_self hl] at ek
      rw [List.getElem?_set_self (by rw [h.len]; rw [List.length_set] at hl; exact hl)] at eu
      cases ek
      cases eu
      rw [upG_same]; exact h.sep j d e v e1
    · rw [List.getElem?_set_ne (Ne.symm hk)] at ek eu
      by_cases hkj : k = j
      · subst hkj
        rcases Nat.lt_or_ge k δ.length with z | z
        · rw [List.getElem?_set_self z] at ek; cases ek
        · rw [List.getElem?_eq_none_iff.mpr (by rw [List.length_set]; exact z)] at ek; cases ek
      · rw [List.getElem?_set_ne (Ne.symm hkj)] at ek
        rw [upG_ne hk, upG_ne hkj]; exact h.sep k d' ek u eu
theorem cs_move {i j : Nat} {x y : Str} {px py : Pos} (hN : X.N.Nodup) (hi : X.N[i]? = some x) (hx : Loc X.env.scope x) (hj : X.N[j]? = some y) (hy : Vis X.env.scope y)
    (hf : X.fn x = true ∨ X.env.scope.names.lookup x = some .local := by first | exact .inl rfl | exact .inr rfl | assumption)
    (hd : (y == ("__debug__" : Str)) = false := by decide) (hcd : (y == ("__classdict__" : Str)) = false := by decide)
    (hs : swapsWithSole [.Name x px] (.Name y py) pos.line X.env = pure false := by rfl) (hw : swappedStores [.Name x px] (.Name y py) X.env = pure none := by rfl) : PS X (.Assign [.Name x px] (.Name y py) pos) (TSt Γ E (sMove i j)) :=
  (ps_asg (pe_var hj hy hd hcd) (pg_name hN hi hx hf) hs hw).imp fun D σ H ⟨B, δ, ρ, G, s, q⟩ => by
    unfold sMove at q
    split at q
    · rename_i w d e
      by_cases n : i = j
      · rw [if_pos n] at q; exact q.elim
      · rw [if_neg n] at q
        obtain ⟨v, e1, G', s'⟩ := s.move e n
        exact ⟨v, e1, q G' _ H s'⟩
    · exact q.elim

/-! ### return -/
def sRet (c : CE) : CS := fun δ ρ => match c δ ρ with
  | .ok d fr ρ1 => .rt d fr ρ1
  | .er k ρ1 => .er k ρ1
  | .no => .no
theorem cs_ret (he : PE X e (T Γ E ca)) : PS X (.Return (some e) pos) (TSt Γ E (sRet ca)) := (ps_ret he).imp fun D σ H ⟨B, δ, ρ, G, s, q⟩ => by
  refine ⟨B, δ, ρ, G, s, ?_⟩
  unfold sRet at q
  cases hA : ca δ ρ with
  | ok d fr ρ1 => rw [hA] at q; exact fun v H1 x r l => q v H1 (s.base.mono x) r (l.from s.back)
  | er k ρ1 => rw [hA] at q; exact fun H' x r => q σ H' (s.base.mono x) r
  | no => rw [hA] at q; exact q.elim
def sRetV (i : Nat) : CS := fun δ ρ => match δ[i]? with
  | some (some (w, d)) => .rt d (w || imm d) ρ
  | _ => .no
theorem cs_retV {i : Nat} {x : Str} {px : Pos} (hN : X.N[i]? = some x) (hv : Vis X.env.scope x) (hd : (x == ("__debug__" : Str)) = false := by decide) (hcd : (x == ("__classdict__" : Str)) = false := by decide) :
    PS X (.Return (some (.Name x px)) pos) (TSt Γ E (sRetV i)) := (ps_ret (pe_var hN hv hd hcd)).imp fun D σ H ⟨B, δ, ρ, G, s, q⟩ => by
  unfold sRetV at q
  split at q
  · rename_i w d e
    obtain ⟨v, e1, r1⟩ := s.at_ i w d e
    refine ⟨v, e1, q v H s.base s.row ⟨r1.mono (s.vw i).2.xr, fun z => ?_⟩⟩
    rcases Bool.or_eq_true_iff.mp z with z | z
    · subst z; exact ⟨G i, s.vw i, r1, fun a o g m => (s.own i d e a o g m).1, s.sep i d e v e1⟩
    · exact (Vl.of_imm (H := B) s.row (r1.mono (s.vw i).2.xr) z (fr := true)).fresh rfl
  · exact q.elim
def sRetN : CS := fun _ ρ => .rt .non true ρ
theorem cs_retN : PS X (.Return none pos) (TSt Γ E sRetN) := ps_retN.imp fun D σ H ⟨B, δ, ρ, G, s, q⟩ => q .non H s.base s.row (Vl.of_imm s.row .non rfl)

/-! ### e; if -/
def sDrop (c : CE) : CS := fun δ ρ => match c δ ρ with
  | .ok d fr ρ1 => .nx δ ρ1
  | .er k ρ1 => .er k ρ1
  | .no => .no
theorem cs_drop (he : PE X e (T Γ E ca)) (hs : swapsWith e none pos.line X.env = pure false := by rfl) : PS X (.Expr e pos) (TSt Γ E (sDrop ca)) := (ps_expr he hs).imp fun D σ H ⟨B, δ, ρ, G, s, q⟩ => by
  refine ⟨B, δ, ρ, G, s, ?_⟩
  unfold sDrop at q
  cases hA : ca δ ρ with
  | ok d fr ρ1 => rw [hA] at q; exact fun v H1 x r l => q G σ H1 (s.nx x r)
  | er k ρ1 => rw [hA] at q; exact fun H' x r => q σ H' (s.base.mono x) r
  | no => rw [hA] at q; exact q.elim
def sIf (t : CT) (c1 c2 : CS) : CS := fun δ ρ => match t δ ρ with
  | .ok true ρ1 => c1 δ ρ1
  | .ok false ρ1 => c2 δ ρ1
  | .er k ρ1 => .er k ρ1
  | .no => .no
theorem cs_if {t : Expr} {s1 s2 : List Stmt} (ht : PT X t (TTs Γ E ct)) (h1 : PSs X s1 (TSt Γ E c1)) (h2 : PSs X s2 (TSt Γ E c2)) : PS X (.If t s1 s2 pos) (TSt Γ E (sIf ct c1 c2)) := (ps_if ht h1 h2).imp fun D σ H ⟨B, δ, ρ, G, s, q⟩ => by
  refine ⟨B, δ, ρ, G, s, ?_⟩
  unfold sIf at q
  cases hA : ct δ ρ with
  | ok b ρ1 =>
    rw [hA] at q
    intro H1 x r
    cases b with
    | true => rw [if_pos rfl]; exact ⟨B, δ, ρ1, G, s.nx x r, q⟩
    | false => rw [if_neg Bool.false_ne_true]; exact ⟨B, δ, ρ1, G, s.nx x r, q⟩
  | er k ρ1 => rw [hA] at q; exact fun H' x r => q σ H' (s.base.mono x) r
  | no => rw [hA] at q; exact q.elim

/-! ### a list of one's own, changed -/
/-- the root of an owned list is changed; its items are those of G0 -/
theorem St.lset {i : Nat} {ds ds' : List D} {l : Addr} {vs vs' : List V} {G0 : Hp} (h : St Γ B G σ H δ ρ) (e : δ[i]? = some (some (true, .lst ds))) (hσ : σ[i]? = some (some (.ref l))) (gl : G i l = some (.lst vs)) (nR : l ≠ Γ.R)
    (w0 : Vw Γ G0 H) (q : RpAll Γ G0 vs' ds') (nl : G0 l = none) (n : ∀ a o, G0 a = some o → Mu o = true → B a = none ∧ ∀ j, j ≠ i → G j a = none) :
    ∃ G', St Γ B G' σ (upd H l (.lst vs')) (δ.set i (some (true, .lst ds'))) ρ := by
  have hH : H l = some (.lst vs) := (h.vw i).2 l _ gl
  have off : ∀ j, j ≠ i → G j l = none := (h.own i _ e l _ gl rfl).2
  have bl : B l = none := (h.own i _ e l _ gl rfl).1
  have hi : i < δ.length := (List.getElem?_eq_some_iff.mp e).1
  have keep : ∀ g : Hp, Vw Γ g H → g l = none → Vw Γ g (upd H l (.lst vs')) := fun g wg gn => wg.upd gn
  have bw : Bw Γ B (upd H l (.lst vs')) := h.base.upd bl
  have rowN : RowAt Γ (upd H l (.lst vs')) ρ := h.row.upd h.base h.scr bl nR hH (by intro _ z; cases z) (by intro _ z; cases z)
  have gw : Vw Γ (upd G0 l (.lst vs')) (upd H l (.lst vs')) := w0.both nR (by intro _ z; cases z)
  have disj : ∀ j d', j ≠ i → δ[j]? = some (some (true, d')) → ∀ a o, G j a = some o → Mu o = true → G0 a = none := fun j d' nj e a o g m => by
    cases q : G0 a with
    | none => rfl
    | some u =>
      have e1 := w0.2 a u q
      have e2 := (h.vw j).2 a o g
      rw [e1] at e2
      cases e2
      rw [(n a _ q m).2 j nj] at g
      cases g
  refine ⟨upG G i (upd G0 l (.lst vs')), ⟨by rw [List.length_set]; exact h.len, bw, h.scr, rowN, fun j => ?_, fun j w' d' ej => ?_, fun j d' ej a o g m => ?_, fun j d' ej u eu => ?_⟩⟩
  · by_cases hj : j = i
    · subst hj; rw [upG_same]; exact gw
    · rw [upG_ne hj]; exact keep _ (h.vw j) (off j hj)
  · by_cases hj : j = i
    · subst hj
      rw [List.getElem?_set_self hi] at ej
      cases ej
      exact ⟨_, hσ, by rw [upG_same]; exact .lst nR upd_same (q.mono (Ex.new nl).xr)⟩
    · rw [List.getElem?_set_ne (Ne.symm hj)] at ej
      obtain ⟨u, e1, q1⟩ := h.at_ j w' d' ej
      exact ⟨u, e1, by rw [upG_ne hj]; exact q1⟩
  · by_cases hj : j = i
    · subst hj
      rw [upG_same] at g
      by_cases ha : a = l
      · subst ha
        exact ⟨bl, fun k hk => by rw [upG_ne hk]; exact off k hk⟩
      · rw [upd_ne ha] at g
        exact ⟨(n a o g m).1, fun k hk => by rw [upG_ne hk]; exact (n a o g m).2 k hk⟩
    · rw [List.getElem?_set_ne (Ne.symm hj)] at ej
      rw [upG_ne hj] at g
      refine ⟨(h.own j d' ej a o g m).1, fun k hk => ?_⟩
      by_cases hki : k = i
      · subst hki
        rw [upG_same]
        have nal : a ≠ l := by rintro rfl; rw [off j hj] at g; cases g
        rw [upd_ne nal]
        exact disj j d' hj ej a o g m
      · rw [upG_ne hki]; exact (h.own j d' ej a o g m).2 k hk
  · by_cases hj : j = i
    · subst hj
      rw [List.getElem?_set_self hi] at ej
      rw [hσ] at eu
      cases ej
      cases eu
      rw [upG_same]
      exact .lst ⟨l, vs', G0, rfl, nR, nl, rfl, q⟩
    · rw [List.getElem?_set_ne (Ne.symm hj)] at ej
      rw [upG_ne hj]; exact h.sep j d' ej u eu
/-- what is owned: its root, its items -/
theorem St.root {i : Nat} {ds : List D} (h : St Γ B G σ H δ ρ) (e : δ[i]? = some (some (true, .lst ds))) : ∃ (l : Addr) (vs : List V) (G0 : Hp), σ[i]? = some (some (.ref l)) ∧ l ≠ Γ.R ∧ G i l = some (.lst vs) ∧ G0 l = none ∧ Vw Γ G0 H ∧ RpAll Γ G0 vs ds ∧
    (∀ a o, G0 a = some o → Mu o = true → B a = none ∧ ∀ j, j ≠ i → G j a = none) := by
  obtain ⟨v, e1, r⟩ := h.at_ i true _ e
  obtain ⟨l, vs, G0, rfl, nR, nl, eG, q⟩ := (h.sep i _ e v e1).l ds rfl
  have ex : Ex G0 (G i) := fun a o ea => by
    rw [eG, upd_ne (by rintro rfl; rw [nl] at ea; cases ea)]; exact ea
  refine ⟨l, vs, G0, e1, nR, by rw [eG]; exact upd_same, nl, ⟨?_, ex.trans (h.vw i).2⟩, q, fun a o ea m => h.own i _ e a o (ex a o ea) m⟩
  refine ⟨?_, fun a ps ea => (h.vw i).1.2 a ps (ex a _ ea)⟩
  have := (h.vw i).1.1
  rw [eG, upd_ne nR.symm] at this
  exact this
/-- x.append(e) -/
def sApp (i : Nat) (c : CE) : CS := fun δ ρ => match δ[i]? with
  | some (some (true, .lst ds)) => match c δ ρ with
    | .ok d true ρ1 => if ds.length < 100000 then .nx (δ.set i (some (true, .lst (ds ++ [d])))) ρ1 else .no
    | .er k ρ1 => .er k ρ1
    | _ => .no
  | _ => .no
theorem big {n : Nat} (h : n < 100000) : n < sizeLine := Nat.lt_of_lt_of_le h (by decide)
theorem cs_app {i : Nat} {x : Str} {px apos cpos : Pos} (hK : X.K = Γ.K) (hN : X.N[i]? = some x) (hv : Vis X.env.scope x) (he : PE X e (T Γ E ca)) (hd : (x == ("__debug__" : Str)) = false := by decide) (hcd : (x == ("__classdict__" : Str)) = false := by decide)
    (hbase : attributeBase (.Name x px) "append" X.env (eval (.Name x px) X.env) = eval (.Name x px) X.env := by rfl)
    (hfew : ((backTo cpos (starEach [e] X.env)).all (fun x => !x.1) && (backToKw cpos (keywordEach [] X.env)).all (fun x => x.1.isSome)
      && decide (([e] : List Expr).length + ([] : List Keyword).length + (if ([] : List Keyword).isEmpty then 0 else 1) < 30)) = true := by rfl)
    (hline : (apos.endLine == cpos.line) = true := by rfl) (hs1 : starEach [e] X.env = (false, eval e X.env) :: starEach [] X.env := by rfl) (hplain : (backTo cpos (starEach [] X.env)).any (·.1) = false := by rfl)
    (hs : swapsWith (.Call (.Attribute (.Name x px) "append" apos) [e] [] cpos) none pos.line X.env = pure false := by rfl) :
    PS X (.Expr (.Call (.Attribute (.Name x px) "append" apos) [e] [] cpos) pos) (TSt Γ E (sApp i ca)) :=
  (ps_expr (pe_bm PySem.F.plainAttrs_list PySem.F.slot_list_append PySem.F.type_list_append mt_append (pe_var hN hv hd hcd) (pa_cons he pa_nil hs1) hbase hfew hline hs1 hplain) hs).imp fun D σ H ⟨B, δ, ρ, G, s, q⟩ => by
    unfold sApp at q
    split at q
    · rename_i ds e1
      obtain ⟨l, vs, G0, eσ, nR, gl, nl, w0, q0, n0⟩ := s.root e1
      have hH : H l = some (.lst vs) := (s.vw i).2 l _ gl
      refine ⟨_, eσ, .inl ⟨rfl, vs, SqL.of hH⟩, B, δ, ρ, G, s, ?_⟩
      cases hA : ca δ ρ with
      | ok d fr ρ1 =>
        rw [hA] at q
        cases fr with
        | false => exact q.elim
        | true =>
          dsimp only at q
          by_cases hl : ds.length < 100000
          · rw [if_pos hl] at q
            intro v H1 x1 r1 l1
            obtain ⟨Ge, w1, q1, n1, _⟩ := l1.fresh rfl
            have H1l : H1 l = some (.lst vs) := by
              rcases x1 l _ hH with z | ⟨z, _⟩ | ⟨_, _, z, _⟩
              · exact z
              · exact absurd z nR
              · cases z
            refine ⟨l, vs, v, rfl, rfl, H1l, by rw [q0.length]; exact big hl, ?_⟩
            have s1 := s.nx x1 r1
            have gel : Ge l = none := by
              cases z : Ge l with
              | none => rfl
              | some o =>
                have e2 := w1.2 l o z
                rw [H1l] at e2
                cases e2
                rw [n1 l _ z rfl] at hH
                cases hH
            have w0' := w0.mono x1
            obtain ⟨G', s'⟩ := s1.lset (vs' := vs ++ [v]) (ds' := ds ++ [d]) (G0 := un G0 Ge) e1 eσ gl nR (un_vw w0' w1) ((q0.mono un_l.xr).append (.cons (q1.mono (un_r w0'.2 w1.2).xr) .nil)) (by unfold un; rw [nl]; exact gel) fun a o ea m => by
              rcases un_some ea with ea | ea
              · exact n0 a o ea m
              · have := n1 a o ea m
                exact ⟨s.back a this, fun j _ => (s.vw j).2.none this⟩
            exact q G' σ _ s'
          · rw [if_neg hl] at q; exact q.elim
      | er k ρ1 => rw [hA] at q; exact fun H' x r => q σ H' (s.base.mono x) r
      | no => rw [hA] at q; exact q.elim
    · exact q.elim
end
end WF

/-! ## WFD -/
/-! Own layer, part D: targets, loops. -/
namespace WF
open PySem PySem.Spec PyProof.Rows L2

abbrev TGt := D → List Slot → Option (List Slot)
def gsRun : List TGt → List D → List Slot → Option (List Slot)
  | [], [], δ => some δ
  | g :: gs, d :: ds, δ => match g d δ with
    | some δ' => gsRun gs ds δ'
    | none => none
  | _, _, _ => none
def gN (i : Nat) : TGt := fun d δ => some (put i d (imm d) δ)
def gTu (gs : List TGt) : TGt := fun d δ => match d with
  | .tup ds => gsRun gs ds δ
  | _ => none
section
variable (Γ : Gam) (E : L2.St → XK)
/-- all slots but those of ts are as they were -/
def OffS (ts : List Nat) (σ σ' : L2.St) : Prop := σ'.length = σ.length ∧ ∀ j, j ∉ ts → σ'[j]? = σ[j]?
def PoG (B : Hp) (σ : L2.St) (H : Hp) (ρ : Row) (ts : List Nat) (r : Option (List Slot)) (Q : L2.St → Hp → Prop) : Prop := match r with
  | some δ' => ∀ G' σ', St Γ B G' σ' H δ' ρ → OffS ts σ σ' → Q σ' H
  | none => False
def TGx (tg : TGt) (ts : List Nat) : TG := fun v σ H Q => ∃ B G δ ρ d, St Γ B G σ H δ ρ ∧ Rp Γ H v d ∧ PoG Γ B σ H ρ ts (tg d δ) Q
def TGsx (gs : List TGt) (ts : List Nat) : TGs := fun vs σ H Q => ∃ B G δ ρ ds, St Γ B G σ H δ ρ ∧ RpAll Γ H vs ds ∧ PoG Γ B σ H ρ ts (gsRun gs ds δ) Q
end
/-- what is walked -/
structure Wlk (Γ : Gam) (J : It) (Gv : Hp) (ds : List D) : Prop where
  go : ∀ i d H ρ, Vw Γ Gv H → RowAt Γ H ρ → ds[i]? = some d → J.go i H ∧ ∀ x H', J.yld i H x H' → Ex H H' ∧ Rp Γ H' x d
  stop : ∀ i H, Vw Γ Gv H → ds.length ≤ i → J.stop i H
abbrev CI := List Slot → Row → RA
section
variable (Γ : Gam) (E : L2.St → XK)
def PoI (r : RA) (σ : L2.St) (H : Hp) (R : It → Hp → Prop) : Prop := match r with
  | .ok ds fr ρ => ∀ J H1 Gv, Xr Γ H H1 → RowAt Γ H1 ρ → Wlk Γ J Gv ds → Vw Γ Gv H1 → (fr = true → ∀ a o, Gv a = some o → Mu o = true → H a = none) → R J H1
  | .er k ρ => ∀ H', Xr Γ H H' → RowAt Γ H' ρ → E σ (.ref (Γ.cls k)) none H'
  | .no => False
def TIx (c : CI) : TI := fun σ H R => ∃ B δ ρ G, St Γ B G σ H δ ρ ∧ PoI Γ E (c δ ρ) σ H R
def TIv (i : Nat) : TI := fun σ H R => ∃ B δ ρ G w d ds, St Γ B G σ H δ ρ ∧ δ[i]? = some (some (w, d)) ∧ (d = .lst ds ∨ d = .tup ds) ∧ ∀ J, Wlk Γ J (G i) ds → R J H
end
def forL (tg : TGt) (body : CS) : List D → CS
  | [] => fun δ ρ => .nx δ ρ
  | d :: ds => fun δ ρ => match tg d δ with
    | none => .no
    | some δ1 => match body δ1 ρ with
      | .nx δ2 ρ2 => forL tg body ds δ2 ρ2
      | .ct δ2 ρ2 => forL tg body ds δ2 ρ2
      | .bk δ2 ρ2 => .nx δ2 ρ2
      | .rt d fr ρ2 => .rt d fr ρ2
      | .er k ρ2 => .er k ρ2
      | .no => .no
def sFor (tg : TGt) (c : CI) (body : CS) : CS := fun δ ρ => match c δ ρ with
  | .ok ds true ρ1 => forL tg body ds δ ρ1
  | .ok ds false ρ1 => forL tg body ds (freeze δ) ρ1
  | .er k ρ1 => .er k ρ1
  | .no => .no
def items : D → Option (List D)
  | .lst ds => some ds
  | .tup ds => some ds
  | _ => none
def sForV (tg : TGt) (i : Nat) (body : CS) : CS := fun δ ρ => match δ[i]? with
  | some (some (_, d)) => match items d with
    | some ds => forL tg body ds (δ.set i (some (false, d))) ρ
    | none => .no
  | _ => .no
def whL (t : CT) (body : CS) : Nat → CS
  | 0 => fun _ _ => .no
  | n + 1 => fun δ ρ => match t δ ρ with
    | .ok true ρ1 => match body δ ρ1 with
      | .nx δ2 ρ2 => whL t body n δ2 ρ2
      | .ct δ2 ρ2 => whL t body n δ2 ρ2
      | .bk δ2 ρ2 => .nx δ2 ρ2
      | .rt d fr ρ2 => .rt d fr ρ2
      | .er k ρ2 => .er k ρ2
      | .no => .no
    | .ok false ρ1 => .nx δ ρ1
    | .er k ρ1 => .er k ρ1
    | .no => .no

section
variable {Γ : Gam} {E : L2.St → XK} {X : Cx} {B B' : Hp} {G : Nat → Hp} {σ : L2.St} {H H1 H2 : Hp} {δ : List Slot} {ρ ρ1 ρ2 : Row} {pos : Pos} {a b e : Expr} {ca cb cc : CE} {c c1 c2 : CS} {ct : CT} {tg : Expr} {v : V} {d : D} {ds : List D} {Gv : Hp}

theorem Vw.trans {A C : Hp} (x : Vw Γ A C) (y : Vw Γ C H) : Vw Γ A H := ⟨x.1, x.2.trans y.2⟩
theorem St.putI {i : Nat} (s : St Γ B G σ H δ ρ) (r : Rp Γ H v d) : ∃ G', St Γ B G' (σ.set i (some v)) H (WF.put i d (imm d) δ) ρ :=
  s.put (H0 := H) (Vl.ifimm s.row r) fun a e => ⟨s.back a e, fun j => (s.vw j).2.none e⟩

/-! ### targets -/
theorem cg_name {i : Nat} {x : Str} (hN : X.N.Nodup) (hi : X.N[i]? = some x) (hx : Loc X.env.scope x) (hf : X.fn x = true ∨ X.env.scope.names.lookup x = some .local := by first | exact .inl rfl | exact .inr rfl | assumption) : PG X (.Name x pos) (TGx Γ (gN i) [i]) :=
  (pg_name hN hi hx hf).imp fun v σ H Q ⟨B, G, δ, ρ, d, s, r, q⟩ => by
    obtain ⟨G', s'⟩ := s.putI (i := i) r
    exact q G' _ s' ⟨List.length_set, fun j hj => List.getElem?_set_ne (fun z => hj (by rw [z]; exact List.mem_singleton.mpr rfl))⟩
theorem cgs_nil : PGs X [] (TGsx Γ [] []) := pgs_nil.imp fun vs σ H Q ⟨B, G, δ, ρ, ds, s, r, q⟩ => by
  cases r with
  | nil => exact ⟨rfl, q G σ s ⟨rfl, fun _ _ => rfl⟩⟩
  | cons _ _ => exact q.elim
theorem cgs_cons {es : List Expr} {g : TGt} {gs : List TGt} {ts us : List Nat} (h1 : PG X e (TGx Γ g ts)) (h2 : PGs X es (TGsx Γ gs us)) (hs : (assignEach (e :: es) X.env).map (·.2) = assign e X.env :: (assignEach es X.env).map (·.2) := by rfl) : PGs X (e :: es) (TGsx Γ (g :: gs) (ts ++ us)) :=
  (pgs_cons h1 h2 hs).imp fun vs σ H Q ⟨B, G, δ, ρ, ds, s, r, q⟩ => by
    cases r with
    | nil => exact q.elim
    | @cons v vs d ds r1 r2 =>
      refine ⟨v, vs, rfl, B, G, δ, ρ, d, s, r1, ?_⟩
      unfold gsRun at q
      cases hg : g d δ with
      | none => rw [hg] at q; exact q.elim
      | some δ' =>
        rw [hg] at q
        refine fun G' σ' s' o1 => ⟨B, G', δ', ρ, ds, s', r2, ?_⟩
        dsimp only at q
        cases hg2 : gsRun gs ds δ' with
        | none => rw [hg2] at q; exact q.elim
        | some δ2 =>
          rw [hg2] at q
          exact fun G2 σ2 s2 o2 => q G2 σ2 s2 ⟨o2.1.trans o1.1, fun j hj => (o2.2 j fun z => hj (List.mem_append_right _ z)).trans (o1.2 j fun z => hj (List.mem_append_left _ z))⟩
theorem gsRun_len : ∀ {gs : List TGt} {ds : List D} {δ δ' : List Slot}, gsRun gs ds δ = some δ' → ds.length = gs.length
  | [], [], _, _, _ => rfl
  | g :: gs, d :: ds, δ, δ', h => by
    unfold gsRun at h
    cases hg : g d δ with
    | none => rw [hg] at h; cases h
    | some δ1 =>
      rw [hg] at h
      rw [List.length_cons, List.length_cons, gsRun_len h]
  | [], _ :: _, _, _, h => by cases h
  | _ :: _, [], _, _, h => by cases h
theorem cg_tup {es : List Expr} {k : Nat} {gs : List TGt} {ts : List Nat} (hK : X.K = Γ.K) (hc : X.calm = true) (h : PGs X es (TGsx Γ gs ts)) (hn : (assignEach es X.env).length = gs.length := by rfl) (hst : (assignEach es X.env).findIdx? (·.1) = none := by rfl) : PG X (.Tuple es k pos) (TGx Γ (gTu gs) ts) :=
  (pg_tup hc h hn hst).imp fun v σ H Q ⟨B, G, δ, ρ, d, s, r, q⟩ => by
    unfold gTu at q
    cases r with
    | @tup a xs ds hs ra =>
      dsimp only at q
      cases hg : gsRun gs ds δ with
      | none => rw [hg] at q; exact q.elim
      | some δ' =>
        refine ⟨a, xs, rfl, SqT.of hs, ?_, B, G, δ, ρ, ds, s, ra, q⟩
        rw [ra.length]
        exact gsRun_len hg
    | _ => exact q.elim

/-! ### loops -/
theorem for_core {tgt : TGt} {ts : List Nat} {J : It} {D : Ends} (W : Wlk Γ J Gv ds) (s : St Γ B G σ H δ ρ) (hv : Vw Γ Gv B) (q : PoS Γ E B (forL tgt c ds δ ρ) D) :
    ∃ W : Nat → Nat → L2.St → Hp → Prop, (∃ m, W 0 m σ H) ∧ ∀ i m σ H, W i m σ H →
      (J.stop i H ∧ D.nx σ H) ∨ (J.go i H ∧ ∃ N : L2.St → Hp → Prop, (∀ σ' H', N σ' H' → ∃ m', m' < m ∧ W (i + 1) m' σ' H') ∧ ∀ x H', J.yld i H x H' → TGx Γ tgt ts x σ H' fun σ2 H2 => TSt Γ E c { D with nx := N, ct := N, bk := D.nx } σ2 H2) := by
  refine ⟨fun i m σ H => ∃ G δ ρ, St Γ B G σ H δ ρ ∧ m = ds.length - i ∧ PoS Γ E B (forL tgt c (ds.drop i) δ ρ) D, ⟨ds.length, G, δ, ρ, s, rfl, q⟩, ?_⟩
  rintro i m σ H ⟨G, δ, ρ, s, rfl, q⟩
  have gv : Vw Γ Gv H := hv.mono s.base.2
  cases hd : ds[i]? with
  | none =>
    have hl : ds.length ≤ i := List.getElem?_eq_none_iff.mp hd
    rw [List.drop_eq_nil_of_le hl] at q
    exact .inl ⟨W.stop i H gv hl, q G σ H s⟩
  | some d =>
    obtain ⟨g1, g2⟩ := W.go i d H ρ gv s.row hd
    obtain ⟨hl, he⟩ := List.getElem?_eq_some_iff.mp hd
    rw [List.drop_eq_getElem_cons hl, he] at q
    refine .inr ⟨g1, fun σ' H' => ∃ G δ ρ, St Γ B G σ' H' δ ρ ∧ PoS Γ E B (forL tgt c (ds.drop (i + 1)) δ ρ) D, fun σ' H' ⟨G', δ', ρ', s', q'⟩ => ⟨ds.length - (i + 1), by omega, G', δ', ρ', s', rfl, q'⟩, fun x H' hy => ?_⟩
    obtain ⟨ex, rx⟩ := g2 x H' hy
    refine ⟨B, G, δ, ρ, d, s.nx ex.xr (s.row.ex ex), rx, ?_⟩
    unfold forL at q
    cases ht : tgt d δ with
    | none => rw [ht] at q; exact q.elim
    | some δ1 =>
      rw [ht] at q
      intro G' σ' s' _
      refine ⟨B, δ1, ρ, G', s', ?_⟩
      dsimp only at q
      cases hb : c δ1 ρ with
      | nx δ2 ρ2 => rw [hb] at q; exact fun G2 σ2 H2 s2 => ⟨G2, δ2, ρ2, s2, q⟩
      | ct δ2 ρ2 => rw [hb] at q; exact fun G2 σ2 H2 s2 => ⟨G2, δ2, ρ2, s2, q⟩
      | bk δ2 ρ2 => rw [hb] at q; exact q
      | rt d fr ρ2 => rw [hb] at q; exact q
      | er k ρ2 => rw [hb] at q; exact q
      | no => rw [hb] at q; exact q.elim
/-- the base together with what is walked -/
theorem St.wider (s : St Γ B G σ H δ ρ) (g : Vw Γ Gv H) (n : ∀ i d, δ[i]? = some (some (true, d)) → ∀ a o, G i a = some o → Mu o = true → Gv a = none) : St Γ (un B Gv) G σ H δ ρ :=
  ⟨s.len, un_bw s.base g, by
    have x : Ex B (un B Gv) := un_l
    rcases s.scr with (z | ⟨o, z⟩) | z
    · exact .inl (.inl (x _ _ z))
    · exact .inl (.inr ⟨o, x _ _ z⟩)
    · exact .inr z, s.row, s.vw, s.at_, fun i d e a o g m => ⟨by unfold un; rw [(s.own i d e a o g m).1]; exact n i d e a o g m, (s.own i d e a o g m).2⟩, s.sep⟩
theorem unB_vw (s : St Γ B G σ H δ ρ) : Bw Γ B (un B Gv) := ⟨s.base.1, un_l.xr⟩
theorem cs_for {iter : Expr} {body : List Stmt} {ci : CI} {tgt : TGt} {ts : List Nat} (hp : PassesOwn (model X.prog X.w) X.A X.env X.xe) (hc : X.calm = true) (hi : PI X tg iter (TIx Γ E ci)) (hg : PG X tg (TGx Γ tgt ts)) (hb : PSs X body (TSt Γ E c))
    (hs : ∀ x, foldedSetIterable iter X.env x = pure x := by intro _; rfl) : PS X (.For tg iter body [] pos) (TSt Γ E (sFor tgt ci c)) :=
  (ps_for hp hc hi hg hb hs).imp fun D σ H ⟨B, δ, ρ, G, s, q⟩ => by
    refine ⟨B, δ, ρ, G, s, ?_⟩
    unfold sFor at q
    cases hA : ci δ ρ with
    | ok ds fr ρ1 =>
      rw [hA] at q
      intro J H1 Gv x r W g n
      have s1 := s.nx x r
      cases fr with
      | true =>
        have s2 := s1.wider g fun i d e a o ga m => by
          cases z : Gv a with
          | none => rfl
          | some u =>
            have e1 := g.2 a u z
            have e2 := (s1.vw i).2 a o ga
            rw [e1] at e2
            cases e2
            have e3 := (s.vw i).2 a _ ga
            rw [n rfl a _ z m] at e3
            cases e3
        exact for_core W s2 ⟨g.1, un_rb s1.base g⟩ (q.widen (unB_vw s1) s.scr)
      | false =>
        have s2 := s1.freeze.wider g fun i d e => Bool.noConfusion (freeze_get e).1
        exact for_core W s2 ⟨g.1, un_rb s1.base g⟩ (PoS.widen (unB_vw s1) s.scr q)
    | er k ρ1 => rw [hA] at q; exact fun H' x r => q σ H' (s.base.mono x) r
    | no => rw [hA] at q; exact q.elim
/-- the walked name's thing is no longer changed -/
theorem St.unown {i : Nat} {w : Bool} (s : St Γ B G σ H δ ρ) (e : δ[i]? = some (some (w, d))) : St Γ B G σ H (δ.set i (some (false, d))) ρ := by
  have hi : i < δ.length := (List.getElem?_eq_some_iff.mp e).1
  refine ⟨by rw [List.length_set]; exact s.len, s.base, s.scr, s.row, s.vw, fun j w' d' ej => ?_, fun j d' ej => ?_, fun j d' ej => ?_⟩
  · by_cases hj : j = i
    · subst hj
      rw [List.getElem?_set_self hi] at ej
      cases ej
      exact s.at_ j w d e
    · rw [List.getElem?_set_ne (Ne.symm hj)] at ej
      exact s.at_ j w' d' ej
  · by_cases hj : j = i
    · subst hj
      rw [List.getElem?_set_self hi] at ej
      cases ej
    · rw [List.getElem?_set_ne (Ne.symm hj)] at ej
      exact s.own j d' ej
  · by_cases hj : j = i
    · subst hj
      rw [List.getElem?_set_self hi] at ej
      cases ej
    · rw [List.getElem?_set_ne (Ne.symm hj)] at ej
      exact s.sep j d' ej
theorem cs_forV {i : Nat} {iter : Expr} {body : List Stmt} {tgt : TGt} {ts : List Nat} (hp : PassesOwn (model X.prog X.w) X.A X.env X.xe) (hc : X.calm = true) (hi : PI X tg iter (TIv Γ i)) (hg : PG X tg (TGx Γ tgt ts)) (hb : PSs X body (TSt Γ E c))
    (hs : ∀ x, foldedSetIterable iter X.env x = pure x := by intro _; rfl) : PS X (.For tg iter body [] pos) (TSt Γ E (sForV tgt i c)) :=
  (ps_for hp hc hi hg hb hs).imp fun D σ H ⟨B, δ, ρ, G, s, q⟩ => by
    unfold sForV at q
    split at q
    · rename_i w d e
      cases hI : items d with
      | none => rw [hI] at q; exact q.elim
      | some ds =>
        rw [hI] at q
        refine ⟨B, δ, ρ, G, w, d, ds, s, e, ?_, fun J W => ?_⟩
        · unfold items at hI
          split at hI
          · cases hI; exact .inl rfl
          · cases hI; exact .inr rfl
          · cases hI
        · have hi : i < δ.length := (List.getElem?_eq_some_iff.mp e).1
          have s1 := s.unown e
          have s2 := s1.wider (Gv := G i) (s.vw i) fun j d' ej a o ga m => by
            by_cases hj : j = i
            · subst hj
              rw [List.getElem?_set_self hi] at ej
              cases ej
            · rw [List.getElem?_set_ne (Ne.symm hj)] at ej
              exact (s.own j d' ej a o ga m).2 i (Ne.symm hj)
          exact for_core W s2 ⟨(s.vw i).1, un_rb s.base (s.vw i)⟩ (PoS.widen (unB_vw s) s.scr q)
    · exact q.elim
def sWhile (n : Nat) (t : CT) (body : CS) : CS := whL t body n
theorem cs_while {t : Expr} {body : List Stmt} (n : Nat) (hp : PassesOwn (model X.prog X.w) X.A X.env X.xe) (ht : PT X t (TTs Γ E ct)) (hb : PSs X body (TSt Γ E c)) : PS X (.While t body [] pos) (TSt Γ E (sWhile n ct c)) :=
  (ps_while hp ht hb).imp fun D σ H ⟨B, δ, ρ, G, s, q⟩ => by
    refine ⟨fun m σ H => ∃ G δ ρ, St Γ B G σ H δ ρ ∧ PoS Γ E B (whL ct c m δ ρ) D, ⟨n, G, δ, ρ, s, q⟩, ?_⟩
    rintro m σ H ⟨G, δ, ρ, s, q⟩
    refine ⟨B, δ, ρ, G, s, ?_⟩
    cases m with
    | zero => exact q.elim
    | succ m =>
      unfold whL at q
      cases hA : ct δ ρ with
      | ok b ρ1 =>
        rw [hA] at q
        intro H1 x r
        have s1 := s.nx x r
        cases b with
        | false => rw [if_neg Bool.false_ne_true]; exact q G σ H1 s1
        | true =>
          rw [if_pos rfl]
          refine ⟨fun σ' H' => ∃ G δ ρ, St Γ B G σ' H' δ ρ ∧ PoS Γ E B (whL ct c m δ ρ) D, fun σ' H' w => ⟨m, Nat.lt_succ_self m, w⟩, B, δ, ρ1, G, s1, ?_⟩
          dsimp only at q
          cases hb : c δ ρ1 with
          | nx δ2 ρ2 => rw [hb] at q; exact fun G2 σ2 H2 s2 => ⟨G2, δ2, ρ2, s2, q⟩
          | ct δ2 ρ2 => rw [hb] at q; exact fun G2 σ2 H2 s2 => ⟨G2, δ2, ρ2, s2, q⟩
          | bk δ2 ρ2 => rw [hb] at q; exact q
          | rt d fr ρ2 => rw [hb] at q; exact q
          | er k ρ2 => rw [hb] at q; exact q
          | no => rw [hb] at q; exact q.elim
      | er k ρ1 => rw [hA] at q; exact fun H' x r => q σ H' (s.base.mono x) r
      | no => rw [hA] at q; exact q.elim

/-! ### what is walked -/
theorem _root_.L2.PI.or {i1 i2 : TI} (h1 : PI X tg e i1) (h2 : PI X tg e i2) : PI X tg e (fun σ H R => i1 σ H R ∨ i2 σ H R) := ⟨fun pins s σ H R I h => by
  rcases h with h | h
  · exact h1.run pins s σ H R I h
  · exact h2.run pins s σ H R I h⟩
theorem wlk_list {l : Addr} {xs : List V} (h : Gv l = some (.lst xs)) (r : RpAll Γ Gv xs ds) : Wlk Γ (Itl Γ.K l) Gv ds where
  go := fun i d H ρ w row e => by
    obtain ⟨v, ev, rv⟩ := r.get e
    have hs : SqL Γ.K H l xs := SqL.of (w.2 l _ h)
    exact ⟨⟨xs, v, hs, ev⟩, fun x H' ⟨eH, f⟩ => by
      subst eH
      have ex : v = x := Option.some.inj (ev.symm.trans (f xs hs))
      subst ex
      exact ⟨Ex.refl _, rv.mono w.2.xr⟩⟩
  stop := fun i H w hl => ⟨xs, SqL.of (w.2 l _ h), by rw [r.length]; exact hl⟩
theorem wlk_tup {l : Addr} {xs : List V} (h : SqT Γ.K Gv l xs) (r : RpAll Γ Gv xs ds) : Wlk Γ (Itt Γ.K l) Gv ds where
  go := fun i d H ρ w row e => by
    obtain ⟨v, ev, rv⟩ := r.get e
    have hs : SqT Γ.K H l xs := (w.2.xr (Γ := Γ)).sqT h
    exact ⟨⟨xs, v, hs, ev⟩, fun x H' ⟨eH, f⟩ => by
      subst eH
      have ex : v = x := Option.some.inj (ev.symm.trans (f xs hs))
      subst ex
      exact ⟨Ex.refl _, rv.mono w.2.xr⟩⟩
  stop := fun i H w hl => ⟨xs, (w.2.xr (Γ := Γ)).sqT h, by rw [r.length]; exact hl⟩
theorem ci_var (i : Nat) {x : Str} (hK : X.K = Γ.K) (hN : X.N[i]? = some x := by rfl) (hv : Vis X.env.scope x := by first | exact Or.inl rfl | exact Or.inr (Or.inl rfl) | exact Or.inr (Or.inr rfl)) (hd : (x == ("__debug__" : Str)) = false := by decide)
    (hcd : (x == ("__classdict__" : Str)) = false := by decide) : PI X tg (.Name x pos) (TIv Γ i) :=
  ((pi_list (pe_var hN hv hd hcd)).or (pi_tup (pe_var hN hv hd hcd))).imp fun σ H R ⟨B, δ, ρ, G, w, d, ds, s, e, hd, q⟩ => by
    obtain ⟨v, e1, r⟩ := s.at_ i w d e
    rcases hd with rfl | rfl
    · cases r with
      | @lst l xs _ nR h ra =>
        exact .inl ⟨_, e1, l, rfl, ⟨xs, SqL.of ((s.vw i).2 l _ h)⟩, by rw [hK]; exact q _ (wlk_list h ra)⟩
    · cases r with
      | @tup l xs _ h ra =>
        refine .inr ⟨_, e1, l, rfl, ⟨xs, SqT.of ((s.vw i).2 _ _ h)⟩, by rw [hK]; exact q _ (wlk_tup (SqT.of h) ra)⟩
def iSeq (c : CE) : CI := fun δ ρ => match c δ ρ with
  | .ok d fr ρ1 => match items d with
    | some ds => .ok ds fr ρ1
    | none => .no
  | .er k ρ1 => .er k ρ1
  | .no => .no
/-- the heap without the row -/
def offR (Γ : Gam) (H : Hp) : Hp := fun a => if a = Γ.R then none else H a
theorem offR_some {a : Addr} {o : HO} (e : offR Γ H a = some o) : H a = some o ∧ a ≠ Γ.R := by
  unfold offR at e
  split at e
  · cases e
  · rename_i h; exact ⟨e, h⟩
theorem offR_bw : Bw Γ (offR Γ H) H := ⟨if_pos rfl, fun a o e => .inl (offR_some e).1⟩
theorem Vl.view {fr : Bool} {H0 : Hp} (l : Vl Γ H0 H v d fr) (r : RowAt Γ H ρ) : ∃ Gv, Vw Γ Gv H ∧ Rp Γ Gv v d ∧ (fr = true → ∀ a o, Gv a = some o → Mu o = true → H0 a = none) := by
  cases fr with
  | true =>
    obtain ⟨Ge, w, q, n, _⟩ := l.fresh rfl
    exact ⟨Ge, w, q, fun _ => n⟩
  | false => exact ⟨offT Γ H, offT_vw, l.rp.monoQ (offT_q r), fun z => by cases z⟩
theorem ci_seq (hK : X.K = Γ.K) (he : PE X e (T Γ E ca)) : PI X tg e (TIx Γ E (iSeq ca)) := ((pi_list he).or (pi_tup he)).imp fun σ H R ⟨B, δ, ρ, G, s, q⟩ => by
  unfold iSeq at q
  cases hA : ca δ ρ with
  | ok d fr ρ1 =>
    rw [hA] at q
    dsimp only at q
    cases hI : items d with
    | none => rw [hI] at q; exact q.elim
    | some ds =>
      rw [hI] at q
      unfold items at hI
      split at hI
      · cases hI
        refine .inl ⟨B, δ, ρ, G, s, ?_⟩
        rw [hA]
        intro v H1 x r l
        obtain ⟨Gv, w, rv, n⟩ := l.view r
        cases rv with
        | @lst la xs _ nR h ra =>
          exact ⟨la, rfl, ⟨xs, SqL.of (w.2 la _ h)⟩, by rw [hK]; exact q _ H1 Gv x r (wlk_list h ra) w n⟩
      · cases hI
        refine .inr ⟨B, δ, ρ, G, s, ?_⟩
        rw [hA]
        intro v H1 x r l
        obtain ⟨Gv, w, rv, n⟩ := l.view r
        cases rv with
        | @tup la xs _ h ra =>
          exact ⟨la, rfl, ⟨xs, SqT.of (w.2 _ _ h)⟩, by rw [hK]; exact q _ H1 Gv x r (wlk_tup (SqT.of h) ra) w n⟩
      · cases hI
  | er k ρ1 =>
    rw [hA] at q
    refine .inl ⟨B, δ, ρ, G, s, ?_⟩
    rw [hA]
    exact q
  | no => rw [hA] at q; exact q.elim
def noH : Hp := fun _ => none
theorem noH_vw : Vw Γ noH H := ⟨⟨rfl, fun _ _ e => by cases e⟩, fun _ _ e => by cases e⟩
def intsD (lo : Int) (n : Nat) : List D := (List.range n).map fun (k : Nat) => D.int (lo + (k : Int))
theorem intsD_get {lo : Int} {n i : Nat} {d : D} (h : (intsD lo n)[i]? = some d) : i < n ∧ d = .int (lo + (i : Int)) := by
  unfold intsD at h
  rw [List.getElem?_map] at h
  cases e : (List.range n)[i]? with
  | none => rw [e] at h; cases h
  | some k =>
    rw [e] at h
    obtain ⟨h1, h2⟩ := List.getElem?_eq_some_iff.mp e
    rw [List.length_range] at h1
    rw [List.getElem_range] at h2
    subst h2
    exact ⟨h1, (Option.some.inj h).symm⟩
theorem wlk_range {lo : Int} {n : Nat} : Wlk Γ (Itr lo n) noH (intsD lo n) where
  go := fun i d H ρ w row e => by
    obtain ⟨h1, rfl⟩ := intsD_get e
    exact ⟨h1, fun x H' ⟨eH, ex⟩ => by subst eH; subst ex; exact ⟨Ex.refl _, .int _⟩⟩
  stop := fun i H w hl => by
    unfold intsD at hl
    rw [List.length_map, List.length_range] at hl
    exact hl
def iRange (c : CA) : CI := fun δ ρ => match c δ ρ with
  | .ok [.int n] _ ρ1 => if n ≤ 100000 ∧ -100000 ≤ n then .ok (intsD 0 n.toNat) true ρ1 else .no
  | .ok [.int m, .int n] _ ρ1 => if (n ≤ 100000 ∧ -100000 ≤ n) ∧ m ≤ 100000 ∧ -100000 ≤ m then .ok (intsD m (n - m).toNat) true ρ1 else .no
  | .er k ρ1 => .er k ρ1
  | _ => .no
theorem rp_int {vs : List V} {n : Int} (r : RpAll Γ H vs [.int n]) : vs = [.int n] := by
  cases r with
  | cons r1 r2 => cases r1; cases r2; rfl
theorem rp_int2 {vs : List V} {m n : Int} (r : RpAll Γ H vs [.int m, .int n]) : vs = [.int m, .int n] := by
  cases r with
  | cons r1 r2 =>
    cases r1
    rw [rp_int r2]
theorem ci_range1 {c : CA} {p : Pos} (hg : Gl X "range") (hm : X.mg "range" = none) (ha : PA X [a] (TAs Γ E c)) (hs : starEach [a] X.env = [(false, eval a X.env)] := by rfl) : PI X tg (.Call (.Name "range" p) [a] [] pos) (TIx Γ E (fun δ ρ => match c δ ρ with | .ok [.int n] fr ρ1 => iRange (fun _ _ => .ok [.int n] fr ρ1) δ ρ | .er k ρ1 => .er k ρ1 | _ => .no)) :=
  (pi_range1 hg hm ha hs).imp fun σ H R ⟨B, δ, ρ, G, s, q⟩ => by
    refine ⟨B, δ, ρ, G, s, ?_⟩
    dsimp only at q
    cases hA : c δ ρ with
    | ok as fr ρ1 =>
      rw [hA] at q
      intro vs H1 x r l
      split at q
      · rename_i n f1 ρ2 e
        cases e
        unfold iRange at q
        dsimp only at q
        split at q
        · rename_i hn
          have e1 := rp_int l.rp
          exact ⟨n, e1, by omega, by omega, q _ H1 noH x r wlk_range noH_vw fun _ _ _ e => by cases e⟩
        · exact q.elim
      · rename_i e; cases e
      · exact q.elim
    | er k ρ1 => rw [hA] at q; exact q
    | no => rw [hA] at q; exact q.elim
theorem ci_range2 {c : CA} {p : Pos} (hg : Gl X "range") (hm : X.mg "range" = none) (ha : PA X [a, b] (TAs Γ E c)) (hs : starEach [a, b] X.env = [(false, eval a X.env), (false, eval b X.env)] := by rfl) (hs2 : starEach [b] X.env = [(false, eval b X.env)] := by rfl) :
    PI X tg (.Call (.Name "range" p) [a, b] [] pos) (TIx Γ E (fun δ ρ => match c δ ρ with | .ok [.int m, .int n] fr ρ1 => iRange (fun _ _ => .ok [.int m, .int n] fr ρ1) δ ρ | .er k ρ1 => .er k ρ1 | _ => .no)) :=
  (pi_range2 hg hm ha hs hs2).imp fun σ H R ⟨B, δ, ρ, G, s, q⟩ => by
    refine ⟨B, δ, ρ, G, s, ?_⟩
    dsimp only at q
    cases hA : c δ ρ with
    | ok as fr ρ1 =>
      rw [hA] at q
      intro vs H1 x r l
      split at q
      · rename_i m n f1 ρ2 e
        cases e
        unfold iRange at q
        dsimp only at q
        split at q
        · rename_i hn
          have e1 := rp_int2 l.rp
          exact ⟨m, n, e1, by omega, q _ H1 noH x r wlk_range noH_vw fun _ _ _ e => by cases e⟩
        · exact q.elim
      · rename_i e; cases e
      · exact q.elim
    | er k ρ1 => rw [hA] at q; exact q
    | no => rw [hA] at q; exact q.elim
end
end WF

/-! ## WFE -/
/-! Own layer, part E: list comprehensions; calls of one's own defs; a def's promise. -/
namespace WF
open PySem PySem.Spec PyProof.Rows L2

def wipeD (δ : List Slot) : List Nat → List Slot
  | [] => δ
  | v :: vs => (wipeD δ vs).set v none
def lcL (tg : TGt) (t : CT) (c : CE) (δ : List Slot) : List D → Row → Option (List D × Row)
  | [], ρ => some ([], ρ)
  | d :: ds, ρ => match tg d δ with
    | none => none
    | some δ1 => match t δ1 ρ with
      | .ok false ρ1 => lcL tg t c δ ds ρ1
      | .ok true ρ1 => match c δ1 ρ1 with
        | .ok e true ρ2 => match lcL tg t c δ ds ρ2 with
          | some (es, ρ3) => some (e :: es, ρ3)
          | none => none
        | _ => none
      | _ => none
def bYes : CT := fun _ ρ => .ok true ρ
def eLc (ci : CI) (tg : TGt) (t : CT) (c : CE) (vs : List Nat) : CE := fun δ ρ => match ci δ ρ with
  | .ok ds _ ρ1 => if ds.length ≤ 100000 then match lcL tg t c (wipeD δ vs) ds ρ1 with
    | some (es, ρ2) => .ok (.lst es) true ρ2
    | none => .no
    else .no
  | .er k ρ1 => .er k ρ1
  | .no => .no
abbrev E0' : L2.St → XK := fun _ => L2.E0

section
variable {Γ : Gam} {E : L2.St → XK} {X : Cx} {B B' : Hp} {G : Nat → Hp} {σ : L2.St} {H H1 H2 : Hp} {δ : List Slot} {ρ ρ1 ρ2 : Row} {pos : Pos} {a b e : Expr} {ca cb cc : CE} {c c1 c2 : CS} {ct : CT} {tg : Expr} {v : V} {d : D} {ds : List D} {Gv : Hp}

theorem wipe_off {ts vs : List Nat} (hs : ∀ j ∈ ts, j ∈ vs) {σ σ' : L2.St} (o : OffS ts σ σ') : wipe σ' vs = wipe σ vs := by
  have key : ∀ (vs : List Nat) (τ : L2.St) (j : Nat), (wipe τ vs)[j]? = if j ∈ vs then (if j < τ.length then some none else none) else τ[j]? := by
    intro vs
    induction vs with
    | nil => intro τ j; rfl
    | cons v vs ih =>
      intro τ j
      unfold wipe
      by_cases hj : j = v
      · subst hj
        by_cases hl : j < τ.length
        · rw [List.getElem?_set_self (by rw [wipe_length]; exact hl), if_pos List.mem_cons_self, if_pos hl]
        · rw [List.getElem?_eq_none_iff.mpr (by rw [List.length_set, wipe_length]; omega), if_pos List.mem_cons_self, if_neg hl]
      · rw [List.getElem?_set_ne (Ne.symm hj), ih τ j]
        by_cases hm : j ∈ vs
        · rw [if_pos hm, if_pos (List.mem_cons_of_mem _ hm)]
        · rw [if_neg hm, if_neg (fun z => (List.mem_cons.mp z).elim hj hm)]
  refine List.ext_getElem? fun j => ?_
  rw [key, key, o.1]
  by_cases hm : j ∈ vs
  · rw [if_pos hm, if_pos hm]
  · rw [if_neg hm, if_neg hm]
    exact o.2 j fun z => hm (hs j z)
theorem wipeD_get {vs : List Nat} {i : Nat} {w : Bool} {d : D} : ∀ {δ : List Slot}, (wipeD δ vs)[i]? = some (some (w, d)) → δ[i]? = some (some (w, d)) ∧ i ∉ vs := by
  induction vs with
  | nil => exact fun h => ⟨h, by simp⟩
  | cons u vs ih =>
    intro δ h
    unfold wipeD at h
    by_cases hj : i = u
    · subst hj
      by_cases hl : i < (wipeD δ vs).length
      · rw [List.getElem?_set_self hl] at h; cases h
      · rw [List.getElem?_eq_none_iff.mpr (by rw [List.length_set]; omega)] at h; cases h
    · rw [List.getElem?_set_ne (Ne.symm hj)] at h
      obtain ⟨h1, h2⟩ := ih h
      exact ⟨h1, fun z => (List.mem_cons.mp z).elim hj h2⟩
theorem wipeD_length : ∀ (vs : List Nat) (δ : List Slot), (wipeD δ vs).length = δ.length
  | [], _ => rfl
  | v :: vs, δ => by unfold wipeD; rw [List.length_set, wipeD_length vs δ]
theorem St.wipe {vs : List Nat} (s : St Γ B G σ H δ ρ) : St Γ B G (L2.wipe σ vs) H (wipeD δ vs) ρ := by
  refine ⟨by rw [wipe_length, wipeD_length]; exact s.len, s.base, s.scr, s.row, s.vw, fun i w d e => ?_, fun i d e => s.own i d (wipeD_get e).1, fun i d e v ev => s.sep i d (wipeD_get e).1 v (wipe_some ev).1⟩
  obtain ⟨e1, n⟩ := wipeD_get e
  obtain ⟨v, e2, r⟩ := s.at_ i w d e1
  exact ⟨v, by rw [wipe_out n]; exact e2, r⟩
theorem t_lc {ci : CI} {tgt : TGt} {ts vs : List Nat} {t : CT} {tt : TT} (hs : ∀ j ∈ ts, j ∈ vs) (ht : ∀ σ H Q, TTs Γ E0' t σ H Q → tt σ H Q) {Q : VK} (h : T Γ E (eLc ci tgt t ca vs) σ H Q) : tLc (TIx Γ E ci) (TGx Γ tgt ts) tt (T Γ E0' ca) vs σ H Q := by
  obtain ⟨B, δ, ρ, G, s, q⟩ := h
  refine ⟨B, δ, ρ, G, s, ?_⟩
  unfold eLc at q
  cases hA : ci δ ρ with
  | er k ρ1 => rw [hA] at q; exact q
  | no => rw [hA] at q; exact q.elim
  | ok ds fr ρ1 =>
    rw [hA] at q
    dsimp only at q
    by_cases hlen : ds.length ≤ 100000
    · rw [if_pos hlen] at q
      cases hL : lcL tgt t ca (wipeD δ vs) ds ρ1 with
      | none => rw [hL] at q; exact q.elim
      | some p =>
        obtain ⟨es, ρ2⟩ := p
        rw [hL] at q
        intro J H1 Gv x1 r1 W gv _ Dl hD
        have s1 := s.nx x1 r1
        have nDR : Dl ≠ Γ.R := by rintro rfl; rw [r1.1] at hD; cases hD
        have hDH : H Dl = none := x1.none r1 hD
        refine ⟨fun i m H' => m = ds.length - i ∧ i ≤ ds.length ∧ ∃ (acc : List V) (es1 es2 : List D) (ρ' : Row) (Va : Hp), Xr Γ H1 H' ∧ RowAt Γ H' ρ' ∧ H' Dl = some (.lst acc) ∧ Vw Γ Va H' ∧ Va Dl = none ∧ RpAll Γ Va acc es1 ∧
            (∀ a o, Va a = some o → Mu o = true → H a = none) ∧ acc.length ≤ i ∧ lcL tgt t ca (wipeD δ vs) (ds.drop i) ρ' = some (es2, ρ2) ∧ es = es1 ++ es2,
          ⟨ds.length, rfl, Nat.zero_le _, [], [], es, ρ1, noH, (Ex.new hD).xr, r1.ex (Ex.new hD), upd_same, noH_vw, rfl, .nil, (fun _ _ e => by cases e), Nat.le_refl _, hL, rfl⟩, ?_⟩
        rintro i m H' ⟨rfl, hi, acc, es1, es2, ρ', Va, x', r', hDl, wa, vaD, ra, na, hacc, hl, he⟩
        have gv' : Vw Γ Gv H' := gv.mono x'
        by_cases hlt : i < ds.length
        · obtain ⟨g1, g2⟩ := W.go i _ H' ρ' gv' r' (List.getElem?_eq_getElem hlt)
          rw [List.drop_eq_getElem_cons hlt] at hl
          refine .inr ⟨g1, fun H'' => ∃ (acc : List V) (es1 es2 : List D) (ρ' : Row) (Va : Hp), Xr Γ H1 H'' ∧ RowAt Γ H'' ρ' ∧ H'' Dl = some (.lst acc) ∧ Vw Γ Va H'' ∧ Va Dl = none ∧ RpAll Γ Va acc es1 ∧
            (∀ a o, Va a = some o → Mu o = true → H a = none) ∧ acc.length ≤ i + 1 ∧ lcL tgt t ca (wipeD δ vs) (ds.drop (i + 1)) ρ' = some (es2, ρ2) ∧ es = es1 ++ es2,
            fun H'' w => ⟨ds.length - (i + 1), by omega, rfl, hlt, w⟩, fun y H3 hy => ?_⟩
          obtain ⟨ex, ry⟩ := g2 y H3 hy
          have x3 : Xr Γ H1 H3 := x'.trans ex.xr
          have r3 := r'.ex ex
          have s3 := (s1.nx x3 r3).wipe (vs := vs)
          refine ⟨B, G, wipeD δ vs, ρ', _, s3, ry, ?_⟩
          unfold lcL at hl
          cases htg : tgt ds[i] (wipeD δ vs) with
          | none => rw [htg] at hl; cases hl
          | some δ1 =>
            rw [htg] at hl
            intro G4 σ4 s4 o4
            refine ⟨(wipe_off hs o4).trans ?_, ?_⟩
            · have key : ∀ (us : List Nat) (τ : L2.St), (∀ j ∈ us, (L2.wipe τ vs)[j]? = if j < τ.length then some none else none) → L2.wipe (L2.wipe τ vs) us = L2.wipe τ vs := by
                intro us
                induction us with
                | nil => intro τ _; rfl
                | cons u us ih =>
                  intro τ hz
                  rw [L2.wipe, ih τ fun j hj => hz j (List.mem_cons_of_mem _ hj)]
                  refine List.ext_getElem? fun j => ?_
                  by_cases hj : j = u
                  · subst hj
                    have := hz j List.mem_cons_self
                    by_cases hl : j < τ.length
                    · rw [List.getElem?_set_self (by rw [wipe_length]; exact hl), this, if_pos hl]
                    · rw [List.getElem?_eq_none_iff.mpr (by rw [List.length_set, wipe_length]; omega), this, if_neg hl]
                  · rw [List.getElem?_set_ne (Ne.symm hj)]
              refine key vs σ fun j hj => ?_
              have k2 : ∀ (us : List Nat) (τ : L2.St), j ∈ us → (L2.wipe τ us)[j]? = if j < τ.length then some none else none := by
                intro us
                induction us with
                | nil => intro τ h; cases h
                | cons u us ih =>
                  intro τ h
                  rw [L2.wipe]
                  by_cases hju : j = u
                  · subst hju
                    by_cases hl : j < τ.length
                    · rw [List.getElem?_set_self (by rw [wipe_length]; exact hl), if_pos hl]
                    · rw [List.getElem?_eq_none_iff.mpr (by rw [List.length_set, wipe_length]; omega), if_neg hl]
                  · rw [List.getElem?_set_ne (Ne.symm hju)]
                    exact ih τ ((List.mem_cons.mp h).elim (fun z => absurd z hju) id)
              exact k2 vs σ hj
            · refine ht _ _ _ ⟨B, δ1, ρ', G4, s4, ?_⟩
              dsimp only at hl
              cases hT : t δ1 ρ' with
              | er k ρ4 => rw [hT] at hl; cases hl
              | no => rw [hT] at hl; cases hl
              | ok bb ρ4 =>
                rw [hT] at hl
                intro H4 x4 r4
                have H3D : H3 Dl = some (.lst acc) := ex _ _ hDl
                have H4D : H4 Dl = some (.lst acc) := by
                  rcases x4 Dl _ H3D with z | ⟨z, _⟩ | ⟨_, _, z, _⟩
                  · exact z
                  · exact absurd z nDR
                  · cases z
                cases bb with
                | false =>
                  rw [if_neg Bool.false_ne_true]
                  exact ⟨acc, es1, es2, ρ4, Va, x3.trans x4, r4, H4D, wa.mono (ex.xr.trans x4), vaD, ra, na, Nat.le_succ_of_le hacc, hl, he⟩
                | true =>
                  rw [if_pos rfl]
                  refine ⟨B, δ1, ρ4, G4, s4.nx x4 r4, ?_⟩
                  dsimp only at hl
                  cases hC : ca δ1 ρ4 with
                  | er k ρ5 => rw [hC] at hl; cases hl
                  | no => rw [hC] at hl; cases hl
                  | ok ee f5 ρ5 =>
                    rw [hC] at hl
                    cases f5 with
                    | false => cases hl
                    | true =>
                      intro y5 H5 x5 r5 l5
                      dsimp only at hl
                      cases hR : lcL tgt t ca (wipeD δ vs) (ds.drop (i + 1)) ρ5 with
                      | none => rw [hR] at hl; cases hl
                      | some p2 =>
                        obtain ⟨es3, ρ6⟩ := p2
                        rw [hR] at hl
                        have hl' : (ee :: es3, ρ6) = (es2, ρ2) := Option.some.inj hl
                        cases hl'
                        obtain ⟨Ge, we, qe, ne, _⟩ := l5.fresh rfl
                        have H5D : H5 Dl = some (.lst acc) := by
                          rcases x5 Dl _ H4D with z | ⟨z, _⟩ | ⟨_, _, z, _⟩
                          · exact z
                          · exact absurd z nDR
                          · cases z
                        have geD : Ge Dl = none := by
                          cases z : Ge Dl with
                          | none => rfl
                          | some o =>
                            have e2 := we.2 Dl o z
                            rw [H5D] at e2
                            cases e2
                            rw [ne Dl _ z rfl] at H4D
                            cases H4D
                        have wa5 : Vw Γ Va H5 := wa.mono ((ex.xr.trans x4).trans x5)
                        have keep : ∀ (g : Hp) (o : HO), Vw Γ g H5 → g Dl = none → Vw Γ g (upd H5 Dl o) := fun g o wg gn => wg.upd gn
                        refine ⟨acc, H5D, big (by omega), acc ++ [y5], es1 ++ [ee], es3, ρ5, un Va Ge, fun a o ea => ?_, ?_, upd_same, keep _ _ (un_vw wa5 we) (by unfold un; rw [vaD]; exact geD), by unfold un; rw [vaD]; exact geD,
                          (ra.mono un_l.xr).append (.cons (qe.mono (un_r wa5.2 we.2).xr) .nil), fun a o ea m => ?_, by rw [List.length_append, List.length_singleton]; omega, hR, by rw [he, List.append_assoc]; rfl⟩
                        · have naD : a ≠ Dl := by rintro rfl; rw [hD] at ea; cases ea
                          rw [upd_ne naD]
                          exact ((x3.trans x4).trans x5) a o ea
                        · exact r5.upd (s1.base.mono ((x3.trans x4).trans x5)) s1.scr (s1.base.gone hD) nDR H5D (by intro _ z; cases z) (by intro _ z; cases z)
                        · rcases un_some ea with ea | ea
                          · exact na a o ea m
                          · exact (x1.trans (x3.trans x4)).none r4 (ne a o ea m)
        · have e1 : i = ds.length := by omega
          subst e1
          rw [List.drop_eq_nil_of_le (Nat.le_refl _)] at hl
          have hl' : (([], ρ') : List D × Row) = (es2, ρ2) := Option.some.inj hl
          cases hl'
          rw [List.append_nil] at he
          subst he
          refine .inl ⟨W.stop _ H' gv' (Nat.le_refl _), ?_⟩
          refine q _ H' (x1.trans x') r' ⟨.lst nDR hDl (ra.mono wa.2.xr), fun _ => ⟨upd Va Dl (.lst acc), ⟨⟨by rw [upd_ne nDR.symm]; exact wa.1.1, upd_notb wa.1.2 (by intro _ z; cases z)⟩, fun a o ea => ?_⟩, .lst nDR upd_same (ra.mono (Ex.new vaD).xr), fun a o ea m => ?_, .lst ⟨Dl, acc, Va, rfl, nDR, vaD, rfl, ra⟩⟩⟩
          · by_cases ha : a = Dl
            · subst ha; rw [upd_same] at ea; rw [hDl]; exact ea
            · rw [upd_ne ha] at ea; exact wa.2 a o ea
          · by_cases ha : a = Dl
            · subst ha; exact hDH
            · rw [upd_ne ha] at ea; exact na a o ea m
    · rw [if_neg hlen] at q; exact q.elim
theorem t_yes {Q : Bool → Hp → Prop} (h : TTs Γ E (bYes) σ H Q) : tYes σ H Q := by
  obtain ⟨B, δ, ρ, G, s, q⟩ := h
  exact q H (Xr.refl H) s.row
theorem c_lc {elt iter : Expr} {scope : Scope} {own : List (Str × Nat)} {ci : CI} {tgt : TGt} {ts : List Nat} (hc : X.calm = true) (hN : X.N.Nodup) (hi : PI X tg iter (TIx Γ E ci)) (ok : BlkOk X.N X.env.scope scope own)
    (hg : ∀ (s : Shared) (H : Hp) (C : Addr) (cl : List (Str × Addr)) (fp : List Addr), PG (X.blk s H scope (compEnvC scope cl C X.env) fp) tg (TGx Γ tgt ts))
    (he : ∀ (s : Shared) (H : Hp) (C : Addr) (cl : List (Str × Addr)) (fp : List Addr), PE (X.blk s H scope (compEnvC scope cl C X.env) fp) elt (T Γ E0' ca)) (hts : ∀ j ∈ ts, j ∈ own.map (·.2) := by decide) (hs : ∀ x, foldedSetIterable iter X.env x = pure x := by intro _; rfl) :
    PE X (.ListComp elt [⟨tg, iter, [], 0⟩] scope pos) (T Γ E (eLc ci tgt bYes ca (own.map (·.2)))) :=
  (pe_lc hc hN hi ok hg (fun _ _ _ _ _ => pts_nil) he hs).imp fun _ _ _ h => t_lc hts (fun _ _ _ h => t_yes h) h
theorem c_lcIf {elt iter cond : Expr} {scope : Scope} {own : List (Str × Nat)} {ci : CI} {tgt : TGt} {ts : List Nat} {t : CT} (hc : X.calm = true) (hN : X.N.Nodup) (hi : PI X tg iter (TIx Γ E ci)) (ok : BlkOk X.N X.env.scope scope own)
    (hg : ∀ (s : Shared) (H : Hp) (C : Addr) (cl : List (Str × Addr)) (fp : List Addr), PG (X.blk s H scope (compEnvC scope cl C X.env) fp) tg (TGx Γ tgt ts))
    (ht : ∀ (s : Shared) (H : Hp) (C : Addr) (cl : List (Str × Addr)) (fp : List Addr), PT (X.blk s H scope (compEnvC scope cl C X.env) fp) cond (TTs Γ E0' t))
    (he : ∀ (s : Shared) (H : Hp) (C : Addr) (cl : List (Str × Addr)) (fp : List Addr), PE (X.blk s H scope (compEnvC scope cl C X.env) fp) elt (T Γ E0' ca)) (hts : ∀ j ∈ ts, j ∈ own.map (·.2) := by decide) (hs : ∀ x, foldedSetIterable iter X.env x = pure x := by intro _; rfl) :
    PE X (.ListComp elt [⟨tg, iter, [cond], 0⟩] scope pos) (T Γ E (eLc ci tgt t ca (own.map (·.2)))) :=
  (pe_lc hc hN hi ok hg (fun s H C cl fp => pts_one (ht s H C cl fp)) he hs).imp fun _ _ _ h => t_lc hts (fun _ _ _ h => h) h
theorem cs_setLc {i : Nat} {y : Str} {py : Pos} {elt iter : Expr} {scope : Scope} {own : List (Str × Nat)} {ci : CI} {tgt : TGt} {ts : List Nat} {spos : Pos} (hc : X.calm = true) (hN : X.N.Nodup) (hy : X.N[i]? = some y) (hyl : X.env.scope.names.lookup y = some .local)
    (hsw : swapsWith (.ListComp elt [⟨tg, iter, [], 0⟩] scope pos) (some (.Name y py)) spos.line X.env = pure true) (hi : PI X tg iter (TIx Γ E ci)) (ok : BlkOk X.N X.env.scope scope own)
    (hg : ∀ (s : Shared) (H : Hp) (C : Addr) (cl : List (Str × Addr)) (fp : List Addr), PG (X.blk s H scope (compEnvC scope cl C X.env) fp) tg (TGx Γ tgt ts))
    (he : ∀ (s : Shared) (H : Hp) (C : Addr) (cl : List (Str × Addr)) (fp : List Addr), PE (X.blk s H scope (compEnvC scope cl C X.env) fp) elt (T Γ E0' ca)) (hts : ∀ j ∈ ts, j ∈ own.map (·.2) := by decide) (hs : ∀ x, foldedSetIterable iter X.env x = pure x := by intro _; rfl) :
    PS X (.Assign [.Name y py] (.ListComp elt [⟨tg, iter, [], 0⟩] scope pos) spos) (TSt Γ E (sSet i (eLc ci tgt bYes ca (own.map (·.2))))) :=
  (ps_setLc hc hN hy hyl hsw hi ok hg (fun _ _ _ _ _ => pts_nil) he hs).imp fun D σ H h => by
    obtain ⟨B, δ, ρ, G, s, q⟩ := t_set h
    exact t_lc (Q := fun x H1 => gName i x σ H1 D.nx) hts (fun _ _ _ h => t_yes h) ⟨B, δ, ρ, G, s, q⟩
theorem cs_setLcIf {i : Nat} {y : Str} {py : Pos} {elt iter cond : Expr} {scope : Scope} {own : List (Str × Nat)} {ci : CI} {tgt : TGt} {ts : List Nat} {t : CT} {spos : Pos} (hc : X.calm = true) (hN : X.N.Nodup) (hy : X.N[i]? = some y) (hyl : X.env.scope.names.lookup y = some .local)
    (hsw : swapsWith (.ListComp elt [⟨tg, iter, [cond], 0⟩] scope pos) (some (.Name y py)) spos.line X.env = pure true) (hi : PI X tg iter (TIx Γ E ci)) (ok : BlkOk X.N X.env.scope scope own)
    (hg : ∀ (s : Shared) (H : Hp) (C : Addr) (cl : List (Str × Addr)) (fp : List Addr), PG (X.blk s H scope (compEnvC scope cl C X.env) fp) tg (TGx Γ tgt ts))
    (ht : ∀ (s : Shared) (H : Hp) (C : Addr) (cl : List (Str × Addr)) (fp : List Addr), PT (X.blk s H scope (compEnvC scope cl C X.env) fp) cond (TTs Γ E0' t))
    (he : ∀ (s : Shared) (H : Hp) (C : Addr) (cl : List (Str × Addr)) (fp : List Addr), PE (X.blk s H scope (compEnvC scope cl C X.env) fp) elt (T Γ E0' ca)) (hts : ∀ j ∈ ts, j ∈ own.map (·.2) := by decide) (hs : ∀ x, foldedSetIterable iter X.env x = pure x := by intro _; rfl) :
    PS X (.Assign [.Name y py] (.ListComp elt [⟨tg, iter, [cond], 0⟩] scope pos) spos) (TSt Γ E (sSet i (eLc ci tgt t ca (own.map (·.2))))) :=
  (ps_setLc hc hN hy hyl hsw hi ok hg (fun s H C cl fp => pts_one (ht s H C cl fp)) he hs).imp fun D σ H h => by
    obtain ⟨B, δ, ρ, G, s, q⟩ := t_set h
    exact t_lc (Q := fun x H1 => gName i x σ H1 D.nx) hts (fun _ _ _ h => h) ⟨B, δ, ρ, G, s, q⟩

/-! ### calls of one's own defs -/
abbrev Fn := List D → Row → RE
def SpOf (Γ : Gam) (F : Fn) : Sp := fun vs H Q E => ∃ ds ρ, RpAll Γ H vs ds ∧ RowAt Γ H ρ ∧ PoE Γ (fun _ => E) (F ds ρ) [] H Q
def eCallF (F : Fn) (c : CA) : CE := fun δ ρ => match c δ ρ with
  | .ok ds _ ρ1 => F ds ρ1
  | .er k ρ1 => .er k ρ1
  | .no => .no
theorem t_callF {F : Fn} {c : CA} {Q : VK} (h : T Γ E (eCallF F c) σ H Q) : tCallS (SpOf Γ F) E (TAs Γ E c) σ H Q := by
  obtain ⟨B, δ, ρ, G, s, q⟩ := h
  refine ⟨B, δ, ρ, G, s, ?_⟩
  unfold eCallF at q
  cases hA : c δ ρ with
  | ok ds fr ρ1 =>
    rw [hA] at q
    intro vs H1 x r l
    refine ⟨ds, ρ1, l.rp, r, ?_⟩
    dsimp only at q
    cases hF : F ds ρ1 with
    | ok d fr ρ2 => rw [hF] at q; exact fun v H2 x2 r2 l2 => q v H2 (x.trans x2) r2 (l2.from fun a e => x.none r e)
    | er k ρ2 => rw [hF] at q; exact fun H2 x2 r2 => q H2 (x.trans x2) r2
    | no => rw [hF] at q; exact q.elim
  | er k ρ1 => rw [hA] at q; exact q
  | no => rw [hA] at q; exact q.elim
theorem c_callF {CX : CXT} {k : Nat} {f : Addr} {fd : FuncData} {ps : List Str} {F : Fn} {c : CA} {x : Str} {es : List Expr} {p : Pos} (hF : FnOk X.prog X.w X.K X.mg X.base CX k f fd ps (SpOf Γ F)) (hr : Room k X.A) (hg : Gl X x) (hm : X.mg x = some (.ref f)) (hk : PySem.W.keepIn X.K (.ref f) = true)
    (hb : Binds X.K fd ps []) (hx : ∀ σ, PassesAt CX X σ (E σ)) (ha : PA X (e :: es) (TAs Γ E c)) (hdb : (x == ("__debug__" : Str)) = false := by decide) (he : starEach (e :: es) X.env = (false, eval e X.env) :: starEach es X.env := by rfl)
    (hpl : (backTo pos (starEach es X.env)).any (·.1) = false := by rfl) : PE X (.Call (.Name x p) (e :: es) [] pos) (T Γ E (eCallF F c)) :=
  (pe_callS hF hr hg hm hk hb hx ha hdb he hpl).imp fun _ _ _ h => t_callF h
/-! ### a def's promise by its body -/
def startD (n : Nat) (ds : List D) : List Slot := ds.map (fun d => some (false, d)) ++ List.replicate (n - ds.length) none
def fnOfS (n : Nat) (c : CS) : Fn := fun ds ρ => match c (startD n ds) ρ with
  | .rt d fr ρ1 => .ok d fr ρ1
  | .nx _ ρ1 => .ok .non true ρ1
  | .er k ρ1 => .er k ρ1
  | _ => .no
theorem startD_get {n : Nat} {ds : List D} {i : Nat} {w : Bool} {d : D} (h : (startD n ds)[i]? = some (some (w, d))) : w = false ∧ ds[i]? = some d := by
  unfold startD at h
  by_cases hi : i < ds.length
  · rw [List.getElem?_append_left (by rw [List.length_map]; exact hi), List.getElem?_map] at h
    cases e : ds[i]? with
    | none => rw [e] at h; cases h
    | some u => rw [e] at h; cases h; exact ⟨rfl, rfl⟩
  · rw [List.getElem?_append_right (by rw [List.length_map]; omega), List.getElem?_replicate] at h
    split at h
    · cases h
    · cases h
theorem start_st {N : List Str} {vs : List V} {n : Nat} (hn : N.length = n) (r : RpAll Γ H vs ds) (row : RowAt Γ H ρ) : St Γ (offR Γ H) (fun _ => offT Γ H) (L2.start N vs) H (startD n ds) ρ := by
  refine ⟨?_, offR_bw, ?_, row, fun _ => offT_vw, fun i w d e => ?_, fun i d e => Bool.noConfusion (startD_get e).1, fun i d e => Bool.noConfusion (startD_get e).1⟩
  · unfold L2.start startD
    rw [List.length_append, List.length_append, List.length_map, List.length_map, List.length_replicate, List.length_replicate, r.length, hn]
  · rcases row.2.1 with (z | ⟨o, z⟩) | z
    · exact .inl (.inl (by rw [show offR Γ H Γ.S = H Γ.S from if_neg row.2.2.1]; exact z))
    · exact .inl (.inr ⟨o, by rw [show offR Γ H Γ.S = H Γ.S from if_neg row.2.2.1]; exact z⟩)
    · exact .inr z
  · obtain ⟨_, e1⟩ := startD_get e
    obtain ⟨v, ev, rv⟩ := r.get e1
    refine ⟨v, ?_, rv.monoQ (offT_q row)⟩
    unfold L2.start
    have hi : i < vs.length := (List.getElem?_eq_some_iff.mp ev).1
    rw [List.getElem?_append_left (by rw [List.length_map]; exact hi), List.getElem?_map, ev]
    rfl
theorem ex_xr (w : Bw Γ (offR Γ H) H1) (row : RowAt Γ H ρ) : Xr Γ H H1 := fun a o e => by
  by_cases ha : a = Γ.R
  · subst ha
    rw [row.1] at e
    cases e
    exact .inr (.inl ⟨rfl, _, rfl⟩)
  · exact w.2 a o (by rw [show offR Γ H a = H a from if_neg ha]; exact e)
/-- the body's reading from the promise -/
theorem body_of {N : List Str} {vs : List V} {n : Nat} {c : CS} {Q : VK} {E1 : XK} (hn : N.length = n) (h : SpOf Γ (fnOfS n c) vs H Q E1) : TSt Γ (fun _ => E1) c { nx := fun _ H' => Q .non H', rt := Q } (L2.start N vs) H := by
  obtain ⟨ds, ρ, r, row, q⟩ := h
  refine ⟨offR Γ H, startD n ds, ρ, fun _ => offT Γ H, start_st hn r row, ?_⟩
  unfold fnOfS at q
  cases hA : c (startD n ds) ρ with
  | rt d fr ρ1 =>
    rw [hA] at q
    refine fun v H1 w r1 l => q v H1 (ex_xr w row) r1 ⟨l.rp, fun z => ?_⟩
    obtain ⟨Ge, wg, rg, ng, sg⟩ := l.fresh z
    refine ⟨Ge, wg, rg, fun a o e m => ?_, sg⟩
    have := ng a o e m
    have na : a ≠ Γ.R := by rintro rfl; rw [wg.1.1] at e; cases e
    rwa [show offR Γ H a = H a from if_neg na] at this
  | nx δ1 ρ1 =>
    rw [hA] at q
    exact fun G1 σ1 H1 s1 => q .non H1 (ex_xr s1.base row) s1.row (Vl.of_imm s1.row .non rfl)
  | er k ρ1 =>
    rw [hA] at q
    exact fun σ1 H1 w r1 => q H1 (ex_xr w row) r1
  | bk _ _ => rw [hA] at q; exact q.elim
  | ct _ _ => rw [hA] at q; exact q.elim
  | no => rw [hA] at q; exact q.elim
/-- what the rules ask of a body's surroundings -/
theorem fn_ok {P : Program} {w : World} {K : PySem.W.Frag} {mg : Str → Option Value} {base : Heap} {x qual : Str} {st : Stmt} {f : Addr} {fd : FuncData} {N ps : List Str} {k n : Nat} {c : CS} {F' : Fn}
    (F : Fun K x qual st f fd) (S : FnScope N ps (defScope st)) (hn : N.length = n) (hl : ∀ ds ρ, F' ds ρ ≠ .no → ds.length = ps.length) (hF : ∀ ds ρ, F' ds ρ ≠ .no → F' ds ρ = fnOfS n c ds ρ)
    (hb : ∀ (X : Cx) (E1 : XK), X.prog = P → X.w = w → X.K = K → X.mg = mg → X.base = base → X.N = N → X.env.scope = defScope st → X.calm = true → Room k X.A → (∀ x, X.fn x = true) → PassesOwn (model X.prog X.w) X.A X.env X.xe → Takes X (fun cls d _ H => E1 cls d H) → PSs X (defBody st) (TSt Γ (fun _ => E1) c)) :
    FnOk P w K mg base (L2.CX P w) (k + 1) f fd ps (SpOf Γ F') := by
  have no : ∀ (vs : List V) (H : Hp) (Q : VK) (E1 : XK), SpOf Γ F' vs H Q E1 → ∃ ds ρ, RpAll Γ H vs ds ∧ RowAt Γ H ρ ∧ F' ds ρ ≠ .no ∧ PoE Γ (fun _ => E1) (F' ds ρ) [] H Q := fun vs H Q E1 ⟨ds, ρ, r, row, q⟩ => ⟨ds, ρ, r, row, fun z => by rw [z] at q; exact q, q⟩
  refine F.okX S (fun vs H Q E h => ?_) (fun cdv A outer s H vs Q E hr h => ?_)
  · obtain ⟨ds, ρ, r, _, hno, _⟩ := no _ _ _ _ h
    rw [r.length]
    exact hl ds ρ hno
  · obtain ⟨ds, ρ, r, row, hno, q⟩ := no _ _ _ _ h
    refine ⟨_, hb _ E rfl rfl rfl rfl rfl rfl rfl rfl hr (fun _ => rfl) (passes_of rfl) (takes_of rfl rfl rfl rfl), body_of hn ⟨ds, ρ, r, row, ?_⟩⟩
    rw [← hF ds ρ hno]
    exact q
end
end WF

/-! ## WFF -/
/-! Own layer, part F: operators over data. -/
namespace WF
open PySem PySem.Spec PyProof.Rows L2

section
variable {Γ : Gam} {X : Cx} {H : Hp} {v : V} {d : D} {vs : List V} {ds : List D} {ρ : Row}
theorem Rp.int_of {i : Int} (h : Rp Γ H v (.int i)) : v = .int i := by cases h; rfl
theorem Rp.str_of {i : Str} (h : Rp Γ H v (.str i)) : v = .str i := by cases h; rfl
theorem Rp.bl_of {i : Bool} (h : Rp Γ H v (.bl i)) : v = .bl i := by cases h; rfl
theorem Rp.non_of (h : Rp Γ H v .non) : v = .non := by cases h; rfl
theorem Rp.ty_of {n : String} (h : Rp Γ H v (.ty n)) : v = .ty n := by cases h; rfl
theorem Rp.tup_of (h : Rp Γ H v (.tup ds)) : ∃ a xs, v = .ref a ∧ H a = some (.tup xs) ∧ RpAll Γ H xs ds := by cases h with | tup h r => exact ⟨_, _, rfl, h, r⟩
theorem Rp.lst_of (h : Rp Γ H v (.lst ds)) : ∃ a xs, v = .ref a ∧ H a = some (.lst xs) ∧ RpAll Γ H xs ds ∧ a ≠ Γ.R := by cases h with | lst n h r => exact ⟨_, _, rfl, h, r, n⟩
theorem RpAll.ints : ∀ {vs} {ns : List Int}, RpAll Γ H vs (ns.map D.int) → vs = ns.map V.int
  | _, [], .nil => rfl
  | _, n :: ns, .cons h r => by rw [h.int_of, RpAll.ints r]; rfl
theorem RpAll.strs : ∀ {vs} {ns : List Str}, RpAll Γ H vs (ns.map D.str) → vs = ns.map V.str
  | _, [], .nil => rfl
  | _, n :: ns, .cons h r => by rw [h.str_of, RpAll.strs r]; rfl
theorem RpAll.bls : ∀ {vs} {ns : List Bool}, RpAll Γ H vs (ns.map D.bl) → vs = ns.map V.bl
  | _, [], .nil => rfl
  | _, n :: ns, .cons h r => by rw [h.bl_of, RpAll.bls r]; rfl
theorem RpAll.of_ints : ∀ (ns : List Int), RpAll Γ H (ns.map V.int) (ns.map D.int)
  | [] => .nil
  | n :: ns => .cons (.int n) (RpAll.of_ints ns)

/-! ### whole numbers -/
def fI (g : Int → Int → D) : Op2 := fun a b => match a, b with
  | .int i, .int j => some (g i j, true)
  | _, _ => none
def fIc (C : Int → Int → Bool) (g : Int → Int → D) : Op2 := fun a b => match a, b with
  | .int i, .int j => if C i j then some (g i j, true) else none
  | _, _ => none
theorem opS_I {gv : Int → Int → V} {g : Int → Int → D} (hg : ∀ i j H, Rp Γ H (gv i j) (g i j)) (m : ∀ i j, imm (g i j) = true) : OpS Γ (rI0 gv) (fI g) := fun H x y a b d fr ρ Q row ra rb e q => by
  unfold fI at e
  split at e
  · cases e
    exact ⟨_, _, ra.int_of, rb.int_of, q _ H (Ex.refl H) (Vl.of_imm row (hg _ _ H) (m _ _))⟩
  · cases e
theorem opS_Ic {P : Int → Int → Prop} {C : Int → Int → Bool} {gv : Int → Int → V} {g : Int → Int → D} (hC : ∀ i j, C i j = true → P i j) (hg : ∀ i j H, Rp Γ H (gv i j) (g i j)) (m : ∀ i j, imm (g i j) = true) : OpS Γ (rI P gv) (fIc C g) := fun H x y a b d fr ρ Q row ra rb e q => by
  unfold fIc at e
  split at e
  · split at e
    · rename_i hc
      cases e
      exact ⟨_, _, ra.int_of, rb.int_of, hC _ _ hc, q _ H (Ex.refl H) (Vl.of_imm row (hg _ _ H) (m _ _))⟩
    · cases e
  · cases e
def oSub : OpS Γ (rI0 fun i j => .int (i - j)) (fI fun i j => .int (i - j)) := opS_I (fun _ _ _ => .int _) fun _ _ => rfl
def fSub : Op2 := fI fun i j => .int (i - j)
def fMod : Op2 := fIc (fun _ j => decide (0 < j)) fun i j => .int (i % j)
def oMod : OpS Γ (rI (fun _ j => 0 < j) fun i j => .int (i % j)) fMod := opS_Ic (fun _ _ h => of_decide_eq_true h) (fun _ _ _ => .int _) fun _ _ => rfl
def fDiv : Op2 := fIc (fun _ j => decide (0 < j) && decide (j < 1073741824)) fun i j => .int (i / j)
def oDiv : OpS Γ (rI CDiv fun i j => .int (i / j)) fDiv := opS_Ic (fun _ _ h => by rw [Bool.and_eq_true] at h; exact ⟨of_decide_eq_true h.1, of_decide_eq_true h.2⟩) (fun _ _ _ => .int _) fun _ _ => rfl
def fPow : Op2 := fIc (fun i j => decide (0 ≤ j) && decide (j ≤ 1000) && decide (i.natAbs < 18446744073709551616)) fun i j => .int (i ^ j.toNat)
def oPow : OpS Γ (rI CPow fun i j => .int (i ^ j.toNat)) fPow := opS_Ic (fun i j h => by
  rw [Bool.and_eq_true, Bool.and_eq_true] at h
  have h1 := of_decide_eq_true h.1.1
  have h2 := of_decide_eq_true h.1.2
  exact ⟨h1, by omega, of_decide_eq_true h.2⟩) (fun _ _ _ => .int _) fun _ _ => rfl
def fLt : Op2 := fI fun i j => .bl (decide (i < j))
def fLe : Op2 := fI fun i j => .bl (decide (i ≤ j))
def fGt : Op2 := fI fun i j => .bl (decide (j < i))
def fGe : Op2 := fI fun i j => .bl (decide (j ≤ i))
theorem oLt : OpS Γ (rI0 fun i j => .bl (decide (i < j))) fLt := opS_I (fun _ _ _ => .bl _) fun _ _ => rfl
theorem oLe : OpS Γ (rI0 fun i j => .bl (decide (i ≤ j))) fLe := opS_I (fun _ _ _ => .bl _) fun _ _ => rfl
theorem oGt : OpS Γ (rI0 fun i j => .bl (decide (j < i))) fGt := opS_I (fun _ _ _ => .bl _) fun _ _ => rfl
theorem oGe : OpS Γ (rI0 fun i j => .bl (decide (j ≤ i))) fGe := opS_I (fun _ _ _ => .bl _) fun _ _ => rfl
theorem oSub' : OpS Γ (rI0 fun i j => .int (i - j)) fSub := oSub

/-! ### a + b -/
def fAddI : Op2 := fI fun i j => .int (i + j)
theorem oAddI : OpS Γ (rI0 fun i j => .int (i + j)) fAddI := opS_I (fun _ _ _ => .int _) fun _ _ => rfl
def fAddS : Op2 := fun a b => match a, b with
  | .str x, .str y => if x.length + y.length ≤ 1000 then some (.str (x ++ y), true) else none
  | _, _ => none
theorem oAddS : OpS Γ (fun x y H Q => ∃ i j, x = .str i ∧ y = .str j ∧ i.length + j.length ≤ sizeLine ∧ Q (.str (i ++ j)) H) fAddS := fun H x y a b d fr ρ Q row ra rb e q => by
  unfold fAddS at e
  split at e
  · split at e
    · rename_i hl
      cases e
      exact ⟨_, _, ra.str_of, rb.str_of, small hl, q _ H (Ex.refl H) (Vl.of_imm row (.str _) rfl)⟩
    · cases e
  · cases e
def fAddT : Op2 := fun a b => match a, b with
  | .tup x, .tup y => if x.length + y.length ≤ 100000 then some (.tup (x ++ y), immAll (x ++ y)) else none
  | _, _ => none
theorem sz5 {n : Nat} (h : n ≤ 100000) : n ≤ sizeLine := Nat.le_trans h (by decide)
theorem rp_nil (r : RpAll Γ H [] ds) : ds = [] := by cases r; rfl
theorem rp_nil' (r : RpAll Γ H vs []) : vs = [] := by cases r; rfl
theorem oAddT : OpS Γ (rCatA Γ.K) fAddT := fun H x y a b d fr ρ Q row ra rb e q => by
  unfold fAddT at e
  split at e
  · split at e
    · rename_i u w hl
      cases e
      obtain ⟨p, xs, rfl, h1, q1⟩ := ra.tup_of
      obtain ⟨p2, ys, rfl, h2, q2⟩ := rb.tup_of
      refine ⟨p, p2, xs, ys, rfl, rfl, SqT.of h1, SqT.of h2, by rw [q1.length, q2.length]; exact sz5 hl, fun z => ?_, fun z z2 => ?_, fun z z2 t ht => ?_⟩
      · subst z
        have := rp_nil q1
        subst this
        exact q _ H (Ex.refl H) ⟨.tup h2 q2, fun m => (Vl.of_imm (H := H) row (Rp.tup h2 q2) (by rw [imm]; exact m) (fr := true)).fresh rfl⟩
      · subst z2
        have := rp_nil q2
        subst this
        rw [List.append_nil] at q
        exact q _ H (Ex.refl H) ⟨.tup h1 q1, fun m => (Vl.of_imm (H := H) row (Rp.tup h1 q1) (by rw [imm]; exact m) (fr := true)).fresh rfl⟩
      · exact q _ _ (Ex.new ht) (Vl.tuple row (VlA.ifimm row (q1.append q2)) ht)
    · cases e
  · cases e
def fAddL : Op2 := fun a b => match a, b with
  | .lst x, .lst y => if x.length + y.length ≤ 100000 then some (.lst (x ++ y), immAll (x ++ y)) else none
  | _, _ => none
theorem oAddL : OpS Γ rCat fAddL := fun H x y a b d fr ρ Q row ra rb e q => by
  unfold fAddL at e
  split at e
  · split at e
    · rename_i u w hl
      cases e
      obtain ⟨p, xs, rfl, h1, q1, _⟩ := ra.lst_of
      obtain ⟨p2, ys, rfl, h2, q2, _⟩ := rb.lst_of
      exact ⟨p, p2, xs, ys, rfl, rfl, h1, h2, by rw [q1.length, q2.length]; exact sz5 hl, fun t ht => q _ _ (Ex.new ht) (Vl.list row (VlA.ifimm row (q1.append q2)) ht fun _ h => h)⟩
    · cases e
  · cases e
def orF (f g : Op2) : Op2 := fun a b => match f a b with | some p => some p | none => g a b
def fAdd : Op2 := orF fAddI (orF fAddS (orF fAddT fAddL))
theorem oAdd (hK : X.K = Γ.K) : ∃ r, OpR X (binaryOp .Add) r ∧ OpS Γ r fAdd :=
  ⟨_, op_add.or (op_add_str.or (op_catA.or op_cat)), by rw [hK]; exact oAddI.or (oAddS.or (oAddT.or oAddL))⟩

/-! ### a * k -/
def fMulT : Op2 := fun a b => match a, b with
  | .tup x, .int k => if x ≠ [] ∧ 2 ≤ k ∧ k ≤ 1000 ∧ x.length ≤ 1000 then some (.tup (List.replicate k.toNat x).flatten, immAll x) else none
  | _, _ => none
instance (x : List D) : Decidable (x ≠ []) := by cases x <;> infer_instance
theorem rep_all {n : Nat} {xs : List V} (r : RpAll Γ H xs ds) : RpAll Γ H (List.replicate n xs).flatten (List.replicate n ds).flatten := by
  induction n with
  | zero => exact .nil
  | succ n ih => rw [List.replicate_succ, List.replicate_succ, List.flatten_cons, List.flatten_cons]; exact r.append ih
theorem immAll_rep {n : Nat} (m : immAll ds = true) : immAll (List.replicate n ds).flatten = true := by
  rw [immAll_eq, List.all_eq_true]
  intro x hx
  obtain ⟨l, hl, hx⟩ := List.mem_flatten.mp hx
  obtain ⟨_, e⟩ := List.mem_replicate.mp hl
  rw [e] at hx
  rw [immAll_eq, List.all_eq_true] at m
  exact m x hx
theorem oMulT : OpS Γ (rRepT Γ.K) fMulT := fun H x y a b d fr ρ Q row ra rb e q => by
  unfold fMulT at e
  split at e
  · split at e
    · rename_i u k hl
      cases e
      obtain ⟨p, xs, rfl, h1, q1⟩ := ra.tup_of
      refine ⟨p, k, xs, rfl, rb.int_of, SqT.of h1, fun z => ?_, hl.2.1, hl.2.2.1, by rw [q1.length]; exact hl.2.2.2, fun t ht => ?_⟩
      · subst z; exact hl.1 (rp_nil q1)
      · refine q _ _ (Ex.new ht) (Vl.tuple row ⟨rep_all q1, fun m => (VlA.of_imm (H := H) row (rep_all q1) (immAll_rep m) (fr := true)).fresh rfl⟩ ht)
    · cases e
  · cases e

/-! ### == and != of plain data -/
mutual
def py : D → Option PyData
  | .non => some .none
  | .bl b => some (.bool b)
  | .int i => some (.int i)
  | .str s => some (.str s)
  | .tup xs => match pyAll xs with
    | some ys => some (.tuple ys)
    | none => none
  | .lst xs => match pyAll xs with
    | some ys => some (.list ys)
    | none => none
  | _ => none
def pyAll : List D → Option (List PyData)
  | [] => some []
  | x :: xs => match py x, pyAll xs with
    | some y, some ys => some (y :: ys)
    | _, _ => none
end
mutual
theorem dp_of : ∀ {v d} {e : PyData}, Rp Γ H v d → py d = some e → Dp Γ.K H v e
  | _, _, _, .non, h => by rw [py] at h; cases h; exact .non
  | _, _, _, .bl b, h => by rw [py] at h; cases h; exact .bl b
  | _, _, _, .int i, h => by rw [py] at h; cases h; exact .int i
  | _, _, _, .str s, h => by rw [py] at h; cases h; exact .str s
  | _, _, _, .tup hs r, h => by
    rw [py] at h
    split at h
    · rename_i ys he
      cases h
      exact .tup (SqT.of hs) (dpAll_of r he)
    · cases h
  | _, _, _, .lst n hs r, h => by
    rw [py] at h
    split at h
    · rename_i ys he
      cases h
      exact .lst (SqL.of hs) (dpAll_of r he)
    · cases h
  | _, _, _, .ty _, h => by rw [py] at h <;> first | cases h | (intros; intro z; cases z)
  | _, _, _, .row, h => by rw [py] at h <;> first | cases h | (intros; intro z; cases z)
  | _, _, _, .ktup _ _, h => by rw [py] at h <;> first | cases h | (intros; intro z; cases z)
  | _, _, _, .ptr _, h => by rw [py] at h <;> first | cases h | (intros; intro z; cases z)
  | _, _, _, .lam _ _ _, h => by rw [py] at h <;> first | cases h | (intros; intro z; cases z)
  | _, _, _, .scr, h => by rw [py] at h <;> first | cases h | (intros; intro z; cases z)
  | _, _, _, .cls _, h => by rw [py] at h <;> first | cases h | (intros; intro z; cases z)
  | _, _, _, .dK _ _ _, h => by rw [py] at h <;> first | cases h | (intros; intro z; cases z)
  | _, _, _, .dT _ _ _, h => by rw [py] at h <;> first | cases h | (intros; intro z; cases z)
  | _, _, _, .ins _ _ _, h => by rw [py] at h <;> first | cases h | (intros; intro z; cases z)
theorem dpAll_of : ∀ {vs ds} {es : List PyData}, RpAll Γ H vs ds → pyAll ds = some es → DpAll Γ.K H vs es
  | _, _, _, .nil, h => by rw [pyAll] at h; cases h; exact .nil
  | _, _, _, .cons a r, h => by
    rw [pyAll] at h
    split at h
    · rename_i y ys h1 h2
      cases h
      exact .cons (dp_of a h1) (dpAll_of r h2)
    · cases h
end
def fEq : Op2 := fun a b => match py a, py b with
  | some x, some y => if SeqAt.shaped x && SeqAt.shaped y then some (.bl (PyData.eqv x y), true) else none
  | _, _ => none
def fNe : Op2 := fun a b => match py a, py b with
  | some x, some y => if SeqAt.shaped x && SeqAt.shaped y then some (.bl (!PyData.eqv x y), true) else none
  | _, _ => none
theorem oEq : OpS Γ (rEqD Γ.K) fEq := fun H x y a b d fr ρ Q row ra rb e q => by
  unfold fEq at e
  split at e
  · split at e
    · rename_i u w h1 h2 hs
      cases e
      rw [Bool.and_eq_true] at hs
      exact ⟨u, w, dp_of ra h1, dp_of rb h2, hs.1, hs.2, q _ H (Ex.refl H) (Vl.of_imm row (.bl _) rfl)⟩
    · cases e
  · cases e
theorem oNe : OpS Γ (rNeD Γ.K) fNe := fun H x y a b d fr ρ Q row ra rb e q => by
  unfold fNe at e
  split at e
  · split at e
    · rename_i u w h1 h2 hs
      cases e
      rw [Bool.and_eq_true] at hs
      exact ⟨u, w, dp_of ra h1, dp_of rb h2, hs.1, hs.2, q _ H (Ex.refl H) (Vl.of_imm row (.bl _) rfl)⟩
    · cases e
  · cases e
/-- in, not in: over a list of plain data; over a tuple of flat data -/
def fInL (neg : Bool) : Op2 := fun a b => match b with
  | .lst ys => match py a, pyAll ys with
    | some x, some zs => if SeqAt.shaped x && SeqAt.shaped (.list zs) then some (.bl (if neg then !zs.any fun z => PyData.eqv z x else zs.any fun z => PyData.eqv z x), true) else none
    | _, _ => none
  | _ => none
theorem oInL : OpS Γ (rInD Γ.K) (fInL false) := fun H x y a b d fr ρ Q row ra rb e q => by
  unfold fInL at e
  split at e
  · rename_i ys
    split at e
    · split at e
      · rename_i u w h1 h2 hs
        cases e
        rw [Bool.and_eq_true] at hs
        have hb : py (.lst ys) = some (.list w) := by rw [py, h2]
        exact ⟨u, w, dp_of ra h1, dp_of rb hb, hs.1, hs.2, q _ H (Ex.refl H) (Vl.of_imm row (.bl _) rfl)⟩
      · cases e
    · cases e
  · cases e
theorem oNiL : OpS Γ (rNotInD Γ.K) (fInL true) := fun H x y a b d fr ρ Q row ra rb e q => by
  unfold fInL at e
  split at e
  · rename_i ys
    split at e
    · split at e
      · rename_i u w h1 h2 hs
        cases e
        rw [Bool.and_eq_true] at hs
        have hb : py (.lst ys) = some (.list w) := by rw [py, h2]
        exact ⟨u, w, dp_of ra h1, dp_of rb hb, hs.1, hs.2, q _ H (Ex.refl H) (Vl.of_imm row (.bl _) rfl)⟩
      · cases e
    · cases e
  · cases e
/-- flat data -/
def flatD : D → Option V
  | .non => some .non
  | .bl b => some (.bl b)
  | .int i => some (.int i)
  | .str s => some (.str s)
  | _ => none
def flatAll : List D → Option (List V)
  | [] => some []
  | x :: xs => match flatD x, flatAll xs with
    | some y, some ys => some (y :: ys)
    | _, _ => none
theorem flat_of {u : V} (h : Rp Γ H v d) (e : flatD d = some u) : v = u ∧ flatV u = true := by
  cases h <;> simp only [flatD] at e <;> first | (cases e; exact ⟨rfl, rfl⟩) | cases e
theorem flatAll_of : ∀ {vs ds} {us : List V}, RpAll Γ H vs ds → flatAll ds = some us → vs = us ∧ us.all flatV = true
  | _, _, _, .nil, e => by rw [flatAll] at e; cases e; exact ⟨rfl, rfl⟩
  | _, _, _, .cons a r, e => by
    rw [flatAll] at e
    split at e
    · rename_i y ys h1 h2
      cases e
      obtain ⟨e1, f1⟩ := flat_of a h1
      obtain ⟨e2, f2⟩ := flatAll_of r h2
      subst e1; subst e2
      exact ⟨rfl, by rw [List.all_cons, f1, f2]; rfl⟩
    · cases e
def fInT (neg : Bool) : Op2 := fun a b => match b with
  | .tup ys => match flatD a, flatAll ys with
    | some x, some zs => some (.bl (if neg then !inV x zs else inV x zs), true)
    | _, _ => none
  | _ => none
theorem oInT (neg : Bool) : OpS Γ (rIn Γ.K neg) (fInT neg) := fun H x y a b d fr ρ Q row ra rb e q => by
  unfold fInT at e
  split at e
  · rename_i ys
    split at e
    · rename_i u w h1 h2
      cases e
      obtain ⟨p, xs, rfl, hs, r⟩ := rb.tup_of
      obtain ⟨e1, f1⟩ := flat_of ra h1
      obtain ⟨e2, f2⟩ := flatAll_of r h2
      subst e1; subst e2
      exact ⟨p, _, rfl, .inr (SqT.of hs), f1, f2, q _ H (Ex.refl H) (Vl.of_imm row (.bl _) rfl)⟩
    · cases e
  · cases e
def fInK (neg : Bool) : Op2 := fun a b => match b with
  | .ktup ys => match flatD a, flatAll ys with
    | some x, some zs => some (.bl (if neg then !inV x zs else inV x zs), true)
    | _, _ => none
  | _ => none
theorem oInK (neg : Bool) : OpS Γ (rIn Γ.K neg) (fInK neg) := fun H x y a b d fr ρ Q row ra rb e q => by
  unfold fInK at e
  split at e
  · rename_i ys
    split at e
    · rename_i u w h1 h2
      cases e
      cases rb with
      | @ktup p xs _ hs r =>
        obtain ⟨e1, f1⟩ := flat_of ra h1
        obtain ⟨e2, f2⟩ := flatAll_of r h2
        subst e1; subst e2
        exact ⟨p, _, rfl, .inr (hs H), f1, f2, q _ H (Ex.refl H) (Vl.of_imm row (.bl _) rfl)⟩
    · cases e
  · cases e
def fIn : Op2 := orF (fInT false) (orF (fInK false) (fInL false))
def fNi : Op2 := orF (fInT true) (orF (fInK true) (fInL true))
theorem oIn (hK : X.K = Γ.K) (hu : X.A.units + 65 < cLine) : ∃ r, OpR X (compareOp .In) r ∧ OpS Γ r fIn := ⟨_, op_in_seq.or (op_in_seq.or (op_inD hu)), by rw [hK]; exact (oInT false).or ((oInK false).or oInL)⟩
theorem oNi (hK : X.K = Γ.K) (hu : X.A.units + 65 < cLine) : ∃ r, OpR X (compareOp .NotIn) r ∧ OpS Γ r fNi := ⟨_, op_notIn_seq.or (op_notIn_seq.or (op_notInD hu)), by rw [hK]; exact (oInT true).or ((oInK true).or oNiL)⟩
/-- is None -/
def isNonD : D → Bool
  | .non => true
  | _ => false
def fIs (neg : Bool) : Op2 := fun a b => match b with
  | .non => some (.bl (if neg then !isNonD a else isNonD a), true)
  | _ => none
theorem isNon_of (h : Rp Γ H v d) : decide (v = .non) = isNonD d := by
  cases h <;> first | rfl | exact decide_eq_false (by intro z; cases z)
theorem oIs : OpS Γ (fun x y H Q => y = .non ∧ Q (.bl (decide (x = .non))) H) (fIs false) := fun H x y a b d fr ρ Q row ra rb e q => by
  unfold fIs at e
  split at e
  · cases e
    exact ⟨rb.non_of, by rw [isNon_of ra]; exact q _ H (Ex.refl H) (Vl.of_imm row (.bl _) rfl)⟩
  · cases e
theorem oIsn : OpS Γ (fun x y H Q => y = .non ∧ Q (.bl (!decide (x = .non))) H) (fIs true) := fun H x y a b d fr ρ Q row ra rb e q => by
  unfold fIs at e
  split at e
  · cases e
    exact ⟨rb.non_of, by rw [isNon_of ra]; exact q _ H (Ex.refl H) (Vl.of_imm row (.bl _) rfl)⟩
  · cases e

/-! ### x[i] -/
def fIxS (x : List D) (i : Int) : Option (D × Bool) := match atI x i with
  | some d => some (d, imm d)
  | none => none
def fIx : Op2 := fun a b => match a, b with
  | .lst x, .int i => fIxS x i
  | .tup x, .int i => fIxS x i
  | .str s, .int i => if s.length ≤ 1000 then match atI s.cps.toList i with
    | some c => some (.str ⟨#[c]⟩, true)
    | none => none
    else none
  | _, _ => none
theorem atI_rp {xs : List V} {i : Int} (r : RpAll Γ H xs ds) (e : atI ds i = some d) : ∃ v, atI xs i = some v ∧ Rp Γ H v d := by
  unfold atI at e ⊢
  rw [r.length]
  cases h : ixN ds.length i with
  | none => rw [h] at e; cases e
  | some j =>
    rw [h] at e
    exact r.get e
theorem oIx : OpS Γ (rIx Γ.K) fIx := fun H x y a b d fr ρ Q row ra rb e q => by
  unfold fIx at e
  split at e
  · rename_i xs i
    unfold fIxS at e
    split at e
    · rename_i d0 h0
      cases e
      obtain ⟨p, us, rfl, hs, r, _⟩ := ra.lst_of
      obtain ⟨v, ev, rv⟩ := atI_rp r h0
      exact .inl ⟨p, us, i, v, rfl, rb.int_of, SqL.of hs, ev, q v H (Ex.refl H) (Vl.ifimm row rv)⟩
    · cases e
  · rename_i xs i
    unfold fIxS at e
    split at e
    · rename_i d0 h0
      cases e
      obtain ⟨p, us, rfl, hs, r⟩ := ra.tup_of
      obtain ⟨v, ev, rv⟩ := atI_rp r h0
      exact .inr (.inl ⟨p, us, i, v, rfl, rb.int_of, SqT.of hs, ev, q v H (Ex.refl H) (Vl.ifimm row rv)⟩)
    · cases e
  · split at e
    · rename_i hl
      split at e
      · rename_i c hc
        cases e
        exact .inr (.inr ⟨_, _, c, ra.str_of, rb.int_of, small hl, hc, q _ H (Ex.refl H) (Vl.of_imm row (.str _) rfl)⟩)
      · cases e
    · cases e
  · cases e
/-- the row's places, the script's -/
def fIxR (Γ : Gam) : Op2 := fun a b => match a, b with
  | .scr, .int i => match atI Γ.ns i with
    | some n => some (.int n, true)
    | none => none
  | _, _ => none
theorem oIxR : OpS Γ (rIx Γ.K) (fIxR Γ) := fun H x y a b d fr ρ Q row ra rb e q => by
  unfold fIxR at e
  split at e
  · rename_i i
    split at e
    · rename_i n hn
      cases e
      have hx : x = .ref Γ.S := by cases ra; rfl
      refine .inl ⟨Γ.S, _, i, .int n, hx, rb.int_of, row.2.1, ?_, q _ H (Ex.refl H) (Vl.of_imm row (.int _) rfl)⟩
      unfold atI at hn ⊢
      rw [List.length_map]
      cases h : ixN Γ.ns.length i with
      | none => rw [h] at hn; cases hn
      | some j =>
        rw [h] at hn
        show (Γ.ns.map V.int)[j]? = some (.int n)
        rw [List.getElem?_map, show Γ.ns[j]? = some n from hn]
        rfl
    · cases e
  · cases e
theorem oIxAll : OpS Γ (fun x y H Q => rIx Γ.K x y H Q ∨ rIx Γ.K x y H Q) (orF fIx (fIxR Γ)) := oIx.or oIxR
end
end WF

/-! ## WFG -/
/-! Own layer, part G: enumerate over a tuple, over a text; a text walked; zip of tuples. -/
namespace WF
open PySem PySem.Spec PyProof.Rows L2

/-- the tuple at a, each item in a new pair with its place -/
def IteT (K : PySem.W.Frag) (a : Addr) : It :=
  ⟨fun i H => ∃ (xs : List V) (x : V), SqT K H a xs ∧ xs[i]? = some x, fun i H v H' => ∃ T x, v = .ref T ∧ H T = none ∧ H' = upd H T (.tup [.int (i : Nat), x]) ∧ ∀ xs, SqT K H a xs → xs[i]? = some x, fun i H => ∃ xs : List V, SqT K H a xs ∧ xs.length ≤ i⟩
/-- the text x, each sign in a new pair with its place -/
def IteS (x : Str) : It :=
  ⟨fun i _ => i < x.cps.size, fun i H v H' => ∃ T c, v = .ref T ∧ H T = none ∧ H' = upd H T (.tup [.int (i : Nat), .str ⟨#[c]⟩]) ∧ x.cps[i]? = some c, fun i _ => x.cps.size ≤ i⟩
section
variable {P : Program} {w : World} {A : Around} {E : Value → Shared → Prop} {s : Shared} {e it : Addr} {k : Int} {out : Value}
/-- what is walked is over: so is the enumerate -/
theorem enum_over {Q : Option Value → Shared → Prop} (en : IsEnum s.heap e it k out)
    (last : ∀ (R X : Value → Shared → Prop), (∀ g x, Heap.ExtBut it s.heap g → (∃ o, g.get? x = some o ∧ o.cls = .type "StopIteration") → X (.ref x) { s with heap := g }) → wpAny (model P w) A.in1 (Builtin.SmallTypes.nextOf (.ref it)) R X s)
    (go : ∀ g, Heap.ExtBut it s.heap g → Q none { s with heap := g }) : wpAny (model P w) A (pyNext (.ref e)) Q E s := by
  have ty : s.TypeIs (.ref e) "enumerate" := ⟨_, en, rfl⟩
  unfold pyNext
  refine wpAny_bind (wpAny_attempt (wpAny_callSpecial?_slot (name := Str.ofString "__next__") ty F.slot_enumerate_next (wpAny_call_entry F.slot_enumerate_next ty F.entry_enumerate_next ?body (F.args_enumerate_next_1 _))))
  show wpAny _ _ (field (Value.ref e) 2 >>= _) _ _ s
  refine wpAny_bind (wpAny_field en rfl (x := Value.ref it) rfl (wpAny_bind (last _ _ fun g x keep ⟨o, o1, o2⟩ => ?_)))
  exact wpAny_bind (wpAny_isInstance (T := "StopIteration") (b := true) ⟨o, o1, o2⟩ isSubtype_stop (wpAny_pure (go g keep)))
end
/-- the enumerate's two objects -/
theorem two_of {e it b : Addr} (h : b ∈ [e, it]) : b = e ∨ b = it := by simpa using h
theorem enum_obj {h : Heap} {e it : Addr} {k : Int} {out : Value} {oi : Obj} (en : IsEnum h e it k out) (at_ : h.get? it = some oi) (plain : ∀ v, oi.data ≠ .cell v) : ∀ b ∈ [e, it], ∃ o, h.get? b = some o ∧ ∀ v, o.data ≠ .cell v := fun b hb => by
  obtain rfl | rfl := two_of hb
  · exact ⟨_, en, fun _ => nofun⟩
  · exact ⟨oi, at_, plain⟩
/-- the pair that is handed out is laid and tracked -/
theorem enum_out {X : Cx} {pins : List (Addr × Obj)} {σ : L2.St} {H : Hp} {s : Shared} {e it : Addr} {i : Nat} {y : V} {u : Value} {g g2 : Heap} {tk : Nat} (I : Inv X pins σ H s) (fp : ∀ b ∈ [e, it], FpOk X pins H b) (le : e < s.heap.objs.size) (r : RelV y u)
    (new : g.get? s.heap.objs.size = some { cls := .type "tuple", data := .seq #[.int i tk, u] }) (keep : ∀ b o, b ≠ e → b ≠ it → s.heap.get? b = some o → g.get? b = some o) (sb : Heap.SameBut e g g2) :
    Inv X pins σ (upd H s.heap.objs.size (.tup [.int (i : Nat), y])) { s with heap := g2, toks := tk + 1 } :=
  have new2 : g2.get? s.heap.objs.size = some { cls := .type "tuple", data := .seq #[.int i tk, u] } := (sb.2 _ (Nat.ne_of_gt le)).trans new
  I.turnedNew (ch := [e, it]) (fun b o nb q => (sb.2 b fun z => nb (z ▸ List.mem_cons_self)).trans (keep b o (fun z => nb (z ▸ List.mem_cons_self)) (fun z => nb (z ▸ List.mem_cons_of_mem _ List.mem_cons_self)) q)) fp (Nat.le_refl _)
    ⟨show 2 ≤ sizeLine by decide, [.int i tk, u], .cons ⟨_, rfl⟩ (.cons r .nil), ⟨_, new2, rfl, _, rfl⟩⟩
theorem enum_none {X : Cx} {pins : List (Addr × Obj)} {H : Hp} {e it T : Addr} {o : HO} (fp : ∀ b ∈ [e, it], FpOk X pins H b) (l1 : e < T) (l2 : it < T) : ∀ b ∈ [e, it], upd H T o b = none := fun b hb => by
  have lt : b < T := (two_of hb).elim (fun z => z ▸ l1) fun z => z ▸ l2
  exact (upd_ne (Nat.ne_of_lt lt)).trans (fp b hb).1
theorem turn_enumT {P : Program} {w : World} {K : PySem.W.Frag} {elts : List Expr} {kk : Nat} {tpos : Pos} (a e it : Addr) :
    Turn P w K (.Tuple elts kk tpos) (IteT K a) [e, it] e (fun i h => (∃ out, IsEnum h e it ((i : Nat) : Int) out) ∧ h.IsTupleIter it a i ∧ e ≠ it ∧ e ≠ a ∧ a ≠ it) where
  mem := List.mem_cons_self
  obj := fun i h ⟨⟨_, en⟩, ⟨_, at_, _, d⟩, _⟩ => enum_obj en at_ fun v z => by rw [d] at z; cases z
  keep := fun i h g ⟨⟨out, en⟩, p, apart⟩ k => ⟨⟨out, k e (by simp) _ en⟩, p.at fun o q => k it (by simp) o q, apart⟩
  item := by
    rintro X rfl rfl rfl calm i pins s σ H E I fp ⟨⟨out, en⟩, p, n1, n2, n3⟩ ⟨xs, x, sx, hx⟩
    obtain ⟨us, ru, tu, _⟩ := I.tuple sx
    obtain ⟨u, hu, rx⟩ := ru.get hx
    have le := Heap.lt_size en
    have li : it < s.heap.objs.size := let ⟨_, q, _⟩ := p; Heap.lt_size q
    have more : i < us.toArray.size := by rw [List.size_toArray]; exact (List.getElem?_eq_some_iff.mp hu).1
    refine wpAny_pyNext_enum_itemD (Draws.tuple (prog := X.prog) (w := X.w) (A := X.A.in1) (I.ok.hd calm) it a n3 us.toArray) en ⟨p, tu⟩ more n1 (by simp [n1, n2]) fun u2 g tk is out2 p2 new size keep => ⟨_, rfl, wpAny_letOwnedTupleGo_enum (s := { s with heap := g, toks := tk + 1 }) out2 fun g2 en2 sb => ?_⟩
    obtain rfl : u = u2 := by
      have z : us.toArray[i]? = some u2 := is
      rw [List.getElem?_toArray, hu] at z
      exact Option.some.inj z
    have laid := enum_out (s := s) I fp le rx new keep sb
    refine ⟨.ref s.heap.objs.size, upd H s.heap.objs.size (.tup [.int (i : Nat), x]), laid, rfl, ⟨_, x, rfl, I.hok.fresh (Nat.le_refl _), rfl, fun ys hy => (I.tuple_inj hy sx).symm ▸ hx⟩, ⟨⟨u, ?_⟩, p2.1.at fun o q => (sb.2 it n1.symm).trans q, n1, n2, n3⟩, enum_none fp le li⟩
    rw [show ((i + 1 : Nat) : Int) = (i : Int) + 1 from rfl]
    exact en2
  done := by
    rintro X rfl rfl rfl calm i pins s σ H E I fp ⟨⟨out, en⟩, p, n1, n2, n3⟩ ⟨xs, sx, over⟩
    obtain ⟨us, ru, tu, _⟩ := I.tuple sx
    have len := ru.length
    obtain ⟨f0, f1, f2, f3, f4, f5⟩ := fp it (by simp)
    exact enum_over en (fun R Y => wpAny_nextOf_tuple_end (show X.A.in1.handled = none from I.ok.hd calm) p tu (by simp; omega)) fun g k => ⟨rfl, I.turned (t' := s.toks) (fun b o nb q => k b o nb q) f0 f1 f3 f4 f5⟩
  self := fun A i s Q E ⟨⟨_, en⟩, _⟩ q => wpAny_pyIter_enum en q
theorem turn_enumS {P : Program} {w : World} {K : PySem.W.Frag} {elts : List Expr} {kk : Nat} {tpos : Pos} (e it : Addr) (x : Str) (t : Tok) :
    Turn P w K (.Tuple elts kk tpos) (IteS x) [e, it] e (fun i h => (∃ out, IsEnum h e it ((i : Nat) : Int) out) ∧ h.IsStrIter it (strIterType x) x t i ∧ e ≠ it) where
  mem := List.mem_cons_self
  obj := fun i h ⟨⟨_, en⟩, ⟨_, at_, _, d⟩, _⟩ => enum_obj en at_ fun v z => by rw [d] at z; cases z
  keep := fun i h g ⟨⟨out, en⟩, ⟨o, at_, r⟩, apart⟩ k => ⟨⟨out, k e (by simp) _ en⟩, ⟨o, k it (by simp) o at_, r⟩, apart⟩
  item := by
    rintro X rfl rfl rfl calm i pins s σ H E I fp ⟨⟨out, en⟩, p, n1⟩ more
    have more : i < x.cps.size := more
    have le := Heap.lt_size en
    have li : it < s.heap.objs.size := let ⟨_, q, _⟩ := p; Heap.lt_size q
    refine wpAny_pyNext_enum_itemD (Draws.text (prog := X.prog) (w := X.w) (A := X.A.in1) (I.ok.hd calm) it x t) en p more n1 (by simp [n1]) fun u g tk is out2 p2 new size keep => ⟨_, rfl, wpAny_letOwnedTupleGo_enum (s := { s with heap := g, toks := tk + 1 }) out2 fun g2 en2 sb => ?_⟩
    obtain ⟨c, t2, hc, rfl⟩ := is
    obtain ⟨o, at_, r⟩ := p2
    have laid := enum_out (s := s) (y := .str ⟨#[c]⟩) I fp le ⟨_, rfl⟩ new keep sb
    refine ⟨.ref s.heap.objs.size, upd H s.heap.objs.size (.tup [.int (i : Nat), .str ⟨#[c]⟩]), laid, rfl, ⟨_, c, rfl, I.hok.fresh (Nat.le_refl _), rfl, hc⟩, ⟨⟨.str ⟨#[c]⟩ t2, ?_⟩, ⟨o, (sb.2 it n1.symm).trans at_, r⟩, n1⟩, enum_none fp le li⟩
    rw [show ((i + 1 : Nat) : Int) = (i : Int) + 1 from rfl]
    exact en2
  done := by
    rintro X rfl rfl rfl calm i pins s σ H E I fp ⟨⟨out, en⟩, p, n1⟩ over
    have over : x.cps[i]? = none := Array.getElem?_eq_none over
    have hd : X.A.in1.handled = none := I.ok.hd calm
    obtain ⟨f0, f1, f2, f3, f4, f5⟩ := fp it (by simp)
    refine enum_over en (fun R Y => ?_) fun g k => ⟨rfl, I.turned (t' := s.toks) (fun b o nb q => k b o nb q) f0 f1 f3 f4 f5⟩
    unfold strIterType at p
    cases small : x.cps.all (· < 128) with
    | true => rw [small] at p; exact wpAny_nextOf_ascii_end hd p over
    | false => rw [small] at p; exact wpAny_nextOf_wide_end hd p over
  self := fun A i s Q E ⟨⟨_, en⟩, _⟩ q => wpAny_pyIter_enum en q

theorem meets_enumerate_newT (l : Addr) (o : Obj) (items : Array Value) (hp0 : ∀ h : Heap, h.get? l = some o → h.IsTuple l items) :
    Meets (Builtin.«enumerate.__new__» ⟨[.type "enumerate", .ref l], []⟩) (fun _ R s => s.heap.get? l = some o ∧
      R (.ok (.ret (.ref (s.heap.push { cls := .type "tuple_iterator", data := .fields #[.ref l, .int 0 0] }).objs.size)))
        { s with heap := (s.heap.push { cls := .type "tuple_iterator", data := .fields #[.ref l, .int 0 0] }).push { cls := .type "enumerate", data := .fields #[.none, .bool false, .ref s.heap.objs.size, rawInt 0, .none, .none] } }) :=
  .of_wp fun prog w A R s h => by
    obtain ⟨hp, g, d, tk, os⟩ := s; obtain ⟨hl, h⟩ := h
    have hsub := sub_enumerate
    have hL : Heap.IsTuple (Shared.heap ⟨hp, g, d, tk, os⟩) l items := hp0 _ hl
    wp_walk using AutoSeq1.wpAny_loadPart' hl
    refine wpAny_stack_any fun st => wpAny_pure ?_
    split
    · rename_i c _ _ _ _ _
      cases (c == Value.type "enumerate")
      · wp_walk using AutoSeq1.wpAny_loadPart' hl, wpAny_pyIter_tuple hL
        exact ⟨_, rfl, h⟩
      · wp_walk using AutoSeq1.wpAny_loadPart' hl, wpAny_pyIter_tuple hL
        exact ⟨_, rfl, h⟩
    · wp_walk using AutoSeq1.wpAny_loadPart' hl, wpAny_pyIter_tuple hL
      exact ⟨_, rfl, h⟩
end WF

/-! ## WFH -/
/-! Own layer, part H: what else is walked (enumerate, texts, zip); slices; the row; built-in calls. -/
namespace WF
open PySem PySem.Spec PyProof.Rows L2

/-- the heap behind enumerate(t) -/
def enumHeap (h : Heap) (t : Addr) : Heap := (h.push { cls := .type "tuple_iterator", data := .fields #[.ref t, .int 0 0] }).push { cls := .type "enumerate", data := .fields #[.none, .bool false, .ref h.objs.size, rawInt 0, .none, .none] }
theorem enumHeap_old {h : Heap} {t b : Addr} {o : Obj} (e : h.get? b = some o) : (enumHeap h t).get? b = some o := Heap.get?_push_of_some _ (Heap.get?_push_of_some _ e)
theorem enumHeap_en (h : Heap) (t : Addr) : IsEnum (enumHeap h t) (h.objs.size + 1) h.objs.size 0 .none := by
  unfold enumHeap
  rw [← Heap.size_push h { cls := .type "tuple_iterator", data := .fields #[.ref t, .int 0 0] }]
  exact Heap.get?_push_size _ rfl
theorem enumHeap_it (h : Heap) (t : Addr) : (enumHeap h t).IsTupleIter h.objs.size t 0 := ⟨_, Heap.get?_push_of_some _ (Heap.get?_push_size _ rfl), rfl, rfl⟩
theorem call_enumerate_tup {P : Program} {w : World} {A : Around} {E Q : Value → Shared → Prop} {s : Shared} {t : Addr} {xs : Array Value} (tup : s.heap.IsTuple t xs) (q : Q (.ref (s.heap.objs.size + 1)) { s with heap := enumHeap s.heap t }) :
    wpAny (model P w) A (call (.type "enumerate") [.ref t]) Q E s := by
  obtain ⟨o, at_, rest⟩ := id tup
  refine callType_new F.called_enumerate (by decide) (F.typeCall_enumerate_1 _) (F.newCall_enumerate_1 _) (fun obj => F.args_object_init_2 obj _) F.entry_enumerate_new (meets_enumerate_newT t o xs fun h e => ⟨o, e, rest⟩) ⟨at_, ?_⟩
  rw [Heap.size_push]
  exact ⟨⟨_, enumHeap_en s.heap t, rfl⟩, q⟩
def iEnumT (K : PySem.W.Frag) (ta : TA) : TI := fun σ H R => ta σ H fun vs H1 => (∃ a xs, vs = [.ref a] ∧ SqT K H1 a xs ∧ R (IteT K a) H1) ∨ ∃ x, vs = [.str x] ∧ R (IteS x) H1
/-- the two new objects of an enumerate may turn -/
theorem enum_young {X : Cx} {pins : List (Addr × Obj)} {σ : L2.St} {H : Hp} {s : Shared} (I : Inv X pins σ H s) : ∀ b ∈ [s.heap.objs.size + 1, s.heap.objs.size], FpOk X pins H b := fun b hb => by
  have old : s.heap.objs.size ≤ b := (two_of hb).elim (fun z => z ▸ Nat.le_succ _) fun z => z ▸ Nat.le_refl _
  exact I.fpOk old (I.hok.fresh old)
theorem pi_enumT {X : Cx} {e : Expr} {ta : TA} {p pos tpos : Pos} {elts : List Expr} {kk : Nat} (hg : Gl X "enumerate") (hm : X.mg "enumerate" = none) (ha : PA X [e] ta) (hs : starEach [e] X.env = [(false, eval e X.env)] := by rfl) :
    PI X (.Tuple elts kk tpos) (.Call (.Name "enumerate" p) [e] [] pos) (iEnumT X.K ta) := by
  refine ⟨fun pins s σ H R I wish => Call_ (ld_blt I hg hm boot_enumerate (PyProof.Rows.callWith_type1 (thn (ha.run pos pins s σ H _ I wish) ?_) hs rfl))⟩
  rintro us t ⟨_, H1, I1, rel, ⟨a, xs, rfl, sx, q⟩ | ⟨x, rfl, q⟩⟩
  · rw [Vals.ref1 rel]
    obtain ⟨_, _, tu, _⟩ := I1.tuple sx
    have below : a < t.heap.objs.size := let ⟨_, z, _⟩ := tu; Heap.lt_size z
    refine call_enumerate_tup tu (wpAny_pyIter_enum (enumHeap_en t.heap a) ?_)
    exact ⟨_, _, _, _, H1, rfl, I1.kept (t' := t.toks) fun _ _ z => enumHeap_old z, turn_enumT a (t.heap.objs.size + 1) t.heap.objs.size, ⟨⟨.none, enumHeap_en t.heap a⟩, enumHeap_it t.heap a, Nat.succ_ne_self _, Nat.ne_of_gt (Nat.lt_succ_of_lt below), Nat.ne_of_lt below⟩, enum_young I1, q⟩
  · obtain ⟨tk, rfl⟩ : ∃ tk, us = [Value.str x tk] := by
      cases rel with
      | cons z1 z2 =>
        cases z2
        exact z1.imp fun _ z => by rw [z]
    refine call_enumerate_str fun g en st _ keep => wpAny_pyIter_enum en ?_
    exact ⟨_, _, _, _, H1, rfl, I1.kept (t' := t.toks) keep, turn_enumS (t.heap.objs.size + 1) t.heap.objs.size x tk, ⟨⟨.none, en⟩, st, Nat.succ_ne_self _⟩, enum_young I1, q⟩

section
variable {Γ : Gam} {E : L2.St → XK} {X : Cx} {B B' : Hp} {G : Nat → Hp} {σ : L2.St} {H H1 H2 : Hp} {δ : List Slot} {ρ ρ1 ρ2 : Row} {pos : Pos} {a b e : Expr} {ca cb cc : CE} {c c1 c2 : CS} {ct : CT} {tg : Expr} {v : V} {d : D} {vs : List V} {ds : List D} {Gv : Hp}

theorem VlA.view {fr : Bool} {H0 : Hp} (l : VlA Γ H0 H vs ds fr) (r : RowAt Γ H ρ) : ∃ Gv, Vw Γ Gv H ∧ RpAll Γ Gv vs ds ∧ (fr = true → ∀ a o, Gv a = some o → Mu o = true → H0 a = none) := by
  cases fr with
  | true =>
    obtain ⟨Ge, w, q, n⟩ := l.fresh rfl
    exact ⟨Ge, w, q, fun _ => n⟩
  | false => exact ⟨offT Γ H, offT_vw, l.rp.monoQ (offT_q r), fun z => by cases z⟩
/-- the signs of a text -/
def signs (s : Str) : List D := s.cps.toList.map fun c => D.str ⟨#[c]⟩
theorem signs_get {s : Str} {i : Nat} {d : D} (h : (signs s)[i]? = some d) : ∃ c, s.cps[i]? = some c ∧ d = .str ⟨#[c]⟩ := by
  unfold signs at h
  rw [List.getElem?_map, Array.getElem?_toList] at h
  cases e : s.cps[i]? with
  | none => rw [e] at h; cases h
  | some c => rw [e] at h; exact ⟨c, rfl, (Option.some.inj h).symm⟩
theorem signs_len {s : Str} : (signs s).length = s.cps.size := by unfold signs; rw [List.length_map, Array.length_toList]
def pairs : Nat → List D → List D
  | _, [] => []
  | n, d :: ds => .tup [.int (n : Int), d] :: pairs (n + 1) ds
theorem pairs_get : ∀ {ds : List D} {n i : Nat} {p : D}, (pairs n ds)[i]? = some p → ∃ d, ds[i]? = some d ∧ p = .tup [.int ((n + i : Nat) : Int), d]
  | [], _, _, _, h => by simp [pairs] at h
  | d :: ds, n, 0, p, h => by
    simp only [pairs, List.getElem?_cons_zero, Option.some.injEq] at h
    exact ⟨d, rfl, by rw [← h, Nat.add_zero]⟩
  | d :: ds, n, i + 1, p, h => by
    simp only [pairs, List.getElem?_cons_succ] at h
    obtain ⟨d', h1, h2⟩ := pairs_get h
    exact ⟨d', by rw [List.getElem?_cons_succ]; exact h1, by rw [h2, show n + 1 + i = n + (i + 1) by omega]⟩
theorem pairs_len : ∀ {ds : List D} {n : Nat}, (pairs n ds).length = ds.length
  | [], _ => rfl
  | d :: ds, n => by rw [pairs, List.length_cons, List.length_cons, pairs_len]
theorem wlk_str {s : Str} : Wlk Γ (Its s) noH (signs s) where
  go := fun i d H ρ w row e => by
    obtain ⟨c, h1, rfl⟩ := signs_get e
    exact ⟨(Array.getElem?_eq_some_iff.mp h1).1, fun x H' ⟨eH, c', hc', ex⟩ => by
      subst eH; subst ex
      rw [h1] at hc'
      cases hc'
      exact ⟨Ex.refl _, .str _⟩⟩
  stop := fun i H w hl => by rw [signs_len] at hl; exact hl
theorem wlk_enumS {s : Str} : Wlk Γ (IteS s) noH (pairs 0 (signs s)) where
  go := fun i d H ρ w row e => by
    obtain ⟨d', h0, rfl⟩ := pairs_get e
    obtain ⟨c, h1, rfl⟩ := signs_get h0
    refine ⟨(Array.getElem?_eq_some_iff.mp h1).1, fun x H' ⟨T, c', ex, hT, eH, hc'⟩ => ?_⟩
    subst eH; subst ex
    rw [h1] at hc'
    cases hc'
    exact ⟨Ex.new hT, .tup upd_same (.cons (by rw [Nat.zero_add]; exact .int _) (.cons (.str _) .nil))⟩
  stop := fun i H w hl => by rw [pairs_len, signs_len] at hl; exact hl
theorem wlk_enumT {l : Addr} {xs : List V} (h : SqT Γ.K Gv l xs) (r : RpAll Γ Gv xs ds) : Wlk Γ (IteT Γ.K l) Gv (pairs 0 ds) where
  go := fun i d H ρ w row e => by
    obtain ⟨d', h0, rfl⟩ := pairs_get e
    obtain ⟨v, ev, rv⟩ := r.get h0
    have hs : SqT Γ.K H l xs := (w.2.xr (Γ := Γ)).sqT h
    refine ⟨⟨xs, v, hs, ev⟩, fun x H' ⟨T, y, ex, hT, eH, f⟩ => ?_⟩
    subst eH; subst ex
    have ey : v = y := Option.some.inj (ev.symm.trans (f xs hs))
    subst ey
    exact ⟨Ex.new hT, .tup upd_same (.cons (by rw [Nat.zero_add]; exact .int _) (.cons ((rv.mono w.2.xr).mono (Ex.new hT).xr) .nil))⟩
  stop := fun i H w hl => ⟨xs, (w.2.xr (Γ := Γ)).sqT h, by rw [r.length]; rw [pairs_len] at hl; exact hl⟩
/-- for i, x in enumerate(t) -/
def iEnum (c : CA) : CI := fun δ ρ => match c δ ρ with
  | .ok [.tup ds] fr ρ1 => .ok (pairs 0 ds) fr ρ1
  | .ok [.str s] fr ρ1 => .ok (pairs 0 (signs s)) true ρ1
  | .er k ρ1 => .er k ρ1
  | _ => .no
theorem ci_enum {c : CA} {p tpos : Pos} {elts : List Expr} {kk : Nat} (hK : X.K = Γ.K) (hg : Gl X "enumerate") (hm : X.mg "enumerate" = none) (ha : PA X [e] (TAs Γ E c)) (hs : starEach [e] X.env = [(false, eval e X.env)] := by rfl) :
    PI X (.Tuple elts kk tpos) (.Call (.Name "enumerate" p) [e] [] pos) (TIx Γ E (iEnum c)) := (pi_enumT hg hm ha hs).imp fun σ H R ⟨B, δ, ρ, G, s, q⟩ => by
  refine ⟨B, δ, ρ, G, s, ?_⟩
  unfold iEnum at q
  cases hA : c δ ρ with
  | ok as fr ρ1 =>
    rw [hA] at q
    intro vs H1 x r l
    split at q
    · rename_i ds f1 ρ2 e
      cases e
      obtain ⟨Gv, w, rv, n⟩ := l.view r
      cases rv with
      | cons rv rn =>
        cases rn
        cases rv with
        | @tup la xs _ h ra =>
          exact .inl ⟨la, xs, rfl, SqT.of (w.2 _ _ h), by rw [hK]; exact q _ H1 Gv x r (wlk_enumT (SqT.of h) ra) w n⟩
    · rename_i s0 f1 ρ2 e
      cases e
      have e1 : vs = [.str s0] := by
        cases l.rp with
        | cons a r => cases a; cases r; rfl
      exact .inr ⟨s0, e1, q _ H1 noH x r wlk_enumS noH_vw fun _ _ _ e => by cases e⟩
    · rename_i e; cases e
    · exact q.elim
  | er k ρ1 => rw [hA] at q; exact q
  | no => rw [hA] at q; exact q.elim
/-- for c in text -/
def iText (c : CE) : CI := fun δ ρ => match c δ ρ with
  | .ok (.str s) _ ρ1 => .ok (signs s) true ρ1
  | .er k ρ1 => .er k ρ1
  | _ => .no
theorem ci_text (he : PE X e (T Γ E ca)) : PI X tg e (TIx Γ E (iText ca)) := (pi_str he).imp fun σ H R ⟨B, δ, ρ, G, s, q⟩ => by
  refine ⟨B, δ, ρ, G, s, ?_⟩
  unfold iText at q
  cases hA : ca δ ρ with
  | ok d fr ρ1 =>
    rw [hA] at q
    intro v H1 x r l
    split at q
    · rename_i s0 f1 ρ2 e
      cases e
      exact ⟨s0, l.rp.str_of, q _ H1 noH x r wlk_str noH_vw fun _ _ _ e => by cases e⟩
    · rename_i e; cases e
    · exact q.elim
  | er k ρ1 => rw [hA] at q; exact q
  | no => rw [hA] at q; exact q.elim
/-- for x, y in zip(t, u), two tuples -/
def zips : List D → List D → List D
  | x :: xs, y :: ys => .tup [x, y] :: zips xs ys
  | _, _ => []
theorem zips_get : ∀ {xs ys : List D} {i : Nat} {p : D}, (zips xs ys)[i]? = some p → ∃ x y, xs[i]? = some x ∧ ys[i]? = some y ∧ p = .tup [x, y]
  | [], _, _, _, h => by simp [zips] at h
  | _ :: _, [], _, _, h => by simp [zips] at h
  | x :: xs, y :: ys, 0, p, h => by
    simp only [zips, List.getElem?_cons_zero, Option.some.injEq] at h
    exact ⟨x, y, rfl, rfl, h.symm⟩
  | x :: xs, y :: ys, i + 1, p, h => by
    simp only [zips, List.getElem?_cons_succ] at h
    obtain ⟨x', y', h1, h2, h3⟩ := zips_get h
    exact ⟨x', y', by rw [List.getElem?_cons_succ]; exact h1, by rw [List.getElem?_cons_succ]; exact h2, h3⟩
theorem zips_len : ∀ {xs ys : List D}, (zips xs ys).length = min xs.length ys.length
  | [], ys => by simp [zips]
  | x :: xs, [] => by simp [zips]
  | x :: xs, y :: ys => by rw [zips, List.length_cons, List.length_cons, List.length_cons, zips_len]; omega
theorem wlk_zipT {l1 l2 : Addr} {xs ys : List V} {ds1 ds2 : List D} (h1 : SqT Γ.K Gv l1 xs) (r1 : RpAll Γ Gv xs ds1) (h2 : SqT Γ.K Gv l2 ys) (r2 : RpAll Γ Gv ys ds2) : Wlk Γ (RZ.ItzT Γ.K l1 l2) Gv (zips ds1 ds2) where
  go := fun i d H ρ w row e => by
    obtain ⟨d1, d2, e1, e2, rfl⟩ := zips_get e
    obtain ⟨v1, ev1, rv1⟩ := r1.get e1
    obtain ⟨v2, ev2, rv2⟩ := r2.get e2
    have hs1 : SqT Γ.K H l1 xs := (w.2.xr (Γ := Γ)).sqT h1
    have hs2 : SqT Γ.K H l2 ys := (w.2.xr (Γ := Γ)).sqT h2
    refine ⟨⟨xs, ys, v1, v2, hs1, hs2, ev1, ev2⟩, fun x H' ⟨T, y1, y2, ex, hT, eH, f1, f2⟩ => ?_⟩
    subst eH; subst ex
    have ey1 : v1 = y1 := Option.some.inj (ev1.symm.trans (f1 xs hs1))
    have ey2 : v2 = y2 := Option.some.inj (ev2.symm.trans (f2 ys hs2))
    subst ey1; subst ey2
    exact ⟨Ex.new hT, .tup upd_same (.cons ((rv1.mono w.2.xr).mono (Ex.new hT).xr) (.cons ((rv2.mono w.2.xr).mono (Ex.new hT).xr) .nil))⟩
  stop := fun i H w hl => ⟨xs, ys, (w.2.xr (Γ := Γ)).sqT h1, (w.2.xr (Γ := Γ)).sqT h2, by rw [zips_len] at hl; rw [r1.length, r2.length]; omega⟩
def iZip (c : CA) : CI := fun δ ρ => match c δ ρ with
  | .ok [.tup xs, .tup ys] fr ρ1 => .ok (zips xs ys) fr ρ1
  | .er k ρ1 => .er k ρ1
  | _ => .no
theorem ci_zip {c : CA} {p tpos : Pos} {elts : List Expr} {kk : Nat} (hK : X.K = Γ.K) (hg : Gl X "zip") (hm : X.mg "zip" = none) (ha : PA X [a, b] (TAs Γ E c)) (hs : starEach [a, b] X.env = (false, eval a X.env) :: starEach [b] X.env := by rfl) (hpl : (backTo pos (starEach [b] X.env)).any (·.1) = false := by rfl) :
    PI X (.Tuple elts kk tpos) (.Call (.Name "zip" p) [a, b] [] pos) (TIx Γ E (iZip c)) := (RZ.pi_zipA hg hm ha hs hpl).imp fun σ H R ⟨B, δ, ρ, G, s, q⟩ => by
  refine ⟨B, δ, ρ, G, s, ?_⟩
  unfold iZip at q
  cases hA : c δ ρ with
  | ok as fr ρ1 =>
    rw [hA] at q
    intro vs H1 x r l
    split at q
    · rename_i ds1 ds2 f1 ρ2 e
      cases e
      obtain ⟨Gv, w, rv, n⟩ := l.view r
      cases rv with
      | cons rv rn =>
        cases rn with
        | cons rv2 rn =>
          cases rn
          cases rv with
          | @tup la xs _ h ra =>
            cases rv2 with
            | @tup lb ys _ h2 rb =>
              refine ⟨la, lb, xs, ys, rfl, .inr ⟨SqT.of (w.2 _ _ h), SqT.of (w.2 _ _ h2), by rw [hK]; exact q _ H1 Gv x r (wlk_zipT (SqT.of h) ra (SqT.of h2) rb) w n⟩⟩
    · rename_i e; cases e
    · exact q.elim
  | er k ρ1 => rw [hA] at q; exact q
  | no => rw [hA] at q; exact q.elim

/-! ### slices -/
abbrev CO := List Slot → Row → Option (Option Int × Row)
def oNone : CO := fun _ ρ => some (none, ρ)
def oSome (c : CE) : CO := fun δ ρ => match c δ ρ with
  | .ok (.int i) _ ρ1 => some (some i, ρ1)
  | _ => none
def TOs (Γ : Gam) (c : CO) : TO := fun σ H Q => ∃ B δ ρ G, St Γ B G σ H δ ρ ∧ ∃ o ρ1, c δ ρ = some (o, ρ1) ∧ ∀ H', Xr Γ H H' → RowAt Γ H' ρ1 → Q o H'
theorem _root_.L2.PO.imp {X : Cx} {e : Option Expr} {t t' : TO} (h : PO X e t) (i : ∀ σ H Q, t' σ H Q → t σ H Q) : PO X e t' := ⟨fun pins s σ H Q I q => h.run pins s σ H Q I (i σ H Q q)⟩
theorem co_none : PO X none (TOs Γ oNone) := po_none.imp fun σ H Q ⟨B, δ, ρ, G, s, o, ρ1, e, q⟩ => by
  cases e
  exact q H (Xr.refl H) s.row
theorem co_some (h : PE X e (T Γ E ca)) : PO X (some e) (TOs Γ (oSome ca)) := (po_some h).imp fun σ H Q ⟨B, δ, ρ, G, s, o, ρ1, e, q⟩ => by
  refine ⟨B, δ, ρ, G, s, ?_⟩
  unfold oSome at e
  split at e
  · rename_i i f ρ2 h1
    cases e
    rw [h1]
    exact fun v H1 x r l => ⟨i, l.rp.int_of, q H1 x r⟩
  · cases e
abbrev OpSl := D → Option Int → Option Int → Option (D × Bool)
def SlS (Γ : Gam) (r : V → Option Int → Option Int → Hp → VK → Prop) (f : OpSl) : Prop := ∀ (H : Hp) (x : V) (a d : D) (lo hi : Option Int) (fr : Bool) (ρ : Row) (Q : VK), RowAt Γ H ρ → Rp Γ H x a → f a lo hi = some (d, fr) →
  (∀ v H', Ex H H' → Vl Γ H H' v d fr → Q v H') → r x lo hi H Q
def eSl (f : OpSl) (ca : CE) (cl ch : CO) : CE := fun δ ρ => match ca δ ρ with
  | .ok a _ ρ1 => match cl δ ρ1 with
    | some (lo, ρ2) => match ch δ ρ2 with
      | some (hi, ρ3) => match f a lo hi with
        | some (d, fr) => .ok d fr ρ3
        | none => .no
      | none => .no
    | none => .no
  | .er k ρ1 => .er k ρ1
  | .no => .no
theorem c_sl {r : V → Option Int → Option Int → Hp → VK → Prop} {f : OpSl} {lo hi : Option Expr} {p2 : Pos} {cl ch : CO} (hr : SlR X r) (o : SlS Γ r f) (he : PE X e (T Γ E ca)) (hl : PO X lo (TOs Γ cl)) (hu : PO X hi (TOs Γ ch)) : PE X (.Subscript e (.Slice lo hi none p2) pos) (T Γ E (eSl f ca cl ch)) :=
  (pe_slice hr he hl hu).imp fun σ H Q ⟨B, δ, ρ, G, s, q⟩ => by
    refine ⟨B, δ, ρ, G, s, ?_⟩
    unfold eSl at q
    cases hA : ca δ ρ with
    | ok a f1 ρ1 =>
      rw [hA] at q
      intro v1 H1 x1 r1 w1
      dsimp only at q
      cases hL : cl δ ρ1 with
      | none => rw [hL] at q; exact q.elim
      | some p =>
        obtain ⟨lo', ρ2⟩ := p
        rw [hL] at q
        dsimp only at q
        refine ⟨B, δ, ρ1, G, s.nx x1 r1, lo', ρ2, hL, fun H2 x2 r2 => ?_⟩
        cases hU : ch δ ρ2 with
        | none => rw [hU] at q; exact q.elim
        | some p =>
          obtain ⟨hi', ρ3⟩ := p
          rw [hU] at q
          dsimp only at q
          refine ⟨B, δ, ρ2, G, (s.nx x1 r1).nx x2 r2, hi', ρ3, hU, fun H3 x3 r3 => ?_⟩
          cases hF : f a lo' hi' with
          | none => rw [hF] at q; exact q.elim
          | some p =>
            obtain ⟨d, fr⟩ := p
            rw [hF] at q
            exact o H3 v1 a d lo' hi' fr ρ3 Q r3 (w1.rp.mono (x2.trans x3)) hF fun v H' ex w => q v H' (((x1.trans x2).trans x3).trans ex.xr) (r3.ex ex) (w.from fun a e => ((x1.trans x2).trans x3).none r3 e)
    | er k ρ1 => rw [hA] at q; exact q
    | no => rw [hA] at q; exact q.elim
def cutD (xs : List D) (lo hi : Option Int) : List D := (xs.drop (HT.sIx xs.length 0 lo)).take (HT.sIx xs.length xs.length hi - HT.sIx xs.length 0 lo)
theorem cut_rp {xs : List V} {lo hi : Option Int} (r : RpAll Γ H xs ds) : RpAll Γ H (cutV xs lo hi) (cutD ds lo hi) := by
  unfold cutV cutD
  rw [r.length]
  exact (r.drop _).take _
def fSl : OpSl := fun a lo hi => match a with
  | .lst xs => some (.lst (cutD xs lo hi), immAll (cutD xs lo hi))
  | .tup xs => some (.tup (cutD xs lo hi), immAll (cutD xs lo hi))
  | .str s => if s.length ≤ 1000 then some (.str (cutS s lo hi), true) else none
  | _ => none
theorem cut_whole {xs : List D} {lo hi : Option Int} (h : HT.sIx xs.length 0 lo = 0 ∧ HT.sIx xs.length xs.length hi = xs.length) : cutD xs lo hi = xs := by
  unfold cutD
  rw [h.1, h.2]
  simp
theorem oSl (hK : X.K = Γ.K) : ∃ r, SlR X r ∧ SlS Γ r fSl := ⟨_, sl_list.or (sl_tupA.or sl_str), by
  rw [hK]
  intro H x a d lo hi fr ρ Q row ra e q
  unfold fSl at e
  split at e
  · cases e
    obtain ⟨p, us, rfl, hs, r, _⟩ := ra.lst_of
    exact .inl ⟨p, us, rfl, SqL.of hs, fun t ht => q _ _ (Ex.new ht) (Vl.list row (VlA.ifimm row (cut_rp r)) ht fun _ h => h)⟩
  · rename_i xs
    cases e
    obtain ⟨p, us, rfl, hs, r⟩ := ra.tup_of
    refine .inr (.inl ⟨p, us, rfl, SqT.of hs, fun z => ?_, fun _ t ht => q _ _ (Ex.new ht) (Vl.tuple row (VlA.ifimm row (cut_rp r)) ht)⟩)
    have z' : HT.sIx xs.length 0 lo = 0 ∧ HT.sIx xs.length xs.length hi = xs.length := by rw [← r.length]; exact z
    rw [cut_whole z'] at q
    exact q _ H (Ex.refl H) ⟨.tup hs r, fun m => (Vl.of_imm (H := H) row (Rp.tup hs r) (by rw [imm]; exact m) (fr := true)).fresh rfl⟩
  · split at e
    · rename_i hl
      cases e
      exact .inr (.inr ⟨_, ra.str_of, small hl, q _ H (Ex.refl H) (Vl.of_imm row (.str _) rfl)⟩)
    · cases e
  · cases e⟩

/-! ### the row -/
def rowAt (ρ : Row) : Nat → Option D
  | 0 => some .scr
  | 1 => some (.int ρ.i)
  | 2 => some (.int ρ.s)
  | 3 => some (.int ρ.q)
  | _ => none
def eRow (i k : Nat) : CE := fun δ ρ => match δ[i]? with
  | some (some (_, .row)) => match rowAt ρ k with
    | some d => .ok d true ρ
    | none => .no
  | _ => .no
theorem c_row (i k : Nat) {x : Str} {px pk : Pos} {kk : Nat} (hN : X.N[i]? = some x := by rfl) (hv : Vis X.env.scope x := by first | exact Or.inl rfl | exact Or.inr (Or.inl rfl) | exact Or.inr (Or.inr rfl)) (hd : (x == ("__debug__" : Str)) = false := by decide)
    (hcd : (x == ("__classdict__" : Str)) = false := by decide) (hs : PlainIx (.Constant (.int (k : Int)) kk pk) := by exact fun _ _ => rfl) : PE X (.Subscript (.Name x px) (.Constant (.int (k : Int)) kk pk) pos) (T Γ E (eRow i k)) :=
  (pe_ix ix_list (pe_var hN hv hd hcd) pe_int hs).imp fun σ H Q ⟨B, δ, ρ, G, s, q⟩ => by
    unfold eRow at q
    split at q
    · rename_i w e
      obtain ⟨v, e1, r1⟩ := s.rpAt e
      have hv : v = .ref Γ.R := by cases r1; rfl
      subst hv
      split at q
      · rename_i d hd
        refine ⟨_, e1, Γ.R, [.ref Γ.S, .int ρ.i, .int ρ.s, .int ρ.q], (k : Int), ?_⟩
        match k, hd with
        | 0, hd => cases hd; exact ⟨.ref Γ.S, rfl, rfl, SqL.of s.row.1, rfl, q _ H (Xr.refl H) s.row (Vl.of_imm s.row .scr rfl)⟩
        | 1, hd => cases hd; exact ⟨.int ρ.i, rfl, rfl, SqL.of s.row.1, rfl, q _ H (Xr.refl H) s.row (Vl.of_imm s.row (.int _) rfl)⟩
        | 2, hd => cases hd; exact ⟨.int ρ.s, rfl, rfl, SqL.of s.row.1, rfl, q _ H (Xr.refl H) s.row (Vl.of_imm s.row (.int _) rfl)⟩
        | 3, hd => cases hd; exact ⟨.int ρ.q, rfl, rfl, SqL.of s.row.1, rfl, q _ H (Xr.refl H) s.row (Vl.of_imm s.row (.int _) rfl)⟩
        | k + 4, hd => cases hd
      · exact q.elim
    · exact q.elim
def rowSet (ρ : Row) (k : Nat) (n : Int) : Option Row := match k with
  | 1 => some { ρ with i := n }
  | 2 => some { ρ with s := n }
  | 3 => some { ρ with q := n }
  | _ => none
def sRow (i k : Nat) (c : CE) : CS := fun δ ρ => match c δ ρ with
  | .ok (.int n) _ ρ1 => match δ[i]? with
    | some (some (_, .row)) => match rowSet ρ1 k n with
      | some ρ2 => .nx δ ρ2
      | none => .no
    | _ => .no
  | .er k ρ1 => .er k ρ1
  | _ => .no
theorem cs_row (i k : Nat) {x : Str} {px pk tp : Pos} {kk : Nat} (hN : X.N[i]? = some x) (hv : Vis X.env.scope x) (he : PE X e (T Γ E ca)) (hd : (x == ("__debug__" : Str)) = false := by decide)
    (hcd : (x == ("__classdict__" : Str)) = false := by decide)
    (hp : ∀ v, assign (.Subscript (.Name x px) (.Constant (.int (k : Int)) kk pk) tp) X.env v = (do
      let ov ← holding [v] (eval (.Name x px) X.env)
      let iv ← holding [v, ov] (eval (.Constant (.int (k : Int)) kk pk) X.env)
      standAt tp
      holding [v, ov, iv] (setItem ov iv v)
      release [v, ov, iv] []) := by intro _; rfl)
    (hs : swapsWithSole [.Subscript (.Name x px) (.Constant (.int (k : Int)) kk pk) tp] e pos.line X.env = pure false := by rfl) (hw : swappedStores [.Subscript (.Name x px) (.Constant (.int (k : Int)) kk pk) tp] e X.env = pure none := by rfl) :
    PS X (.Assign [.Subscript (.Name x px) (.Constant (.int (k : Int)) kk pk) tp] e pos) (TSt Γ E (sRow i k ca)) :=
  (ps_asg he (pg_sub (pe_var hN hv hd hcd) pe_int set_list hp) hs hw).imp fun D σ H ⟨B, δ, ρ, G, s, q⟩ => by
    refine ⟨B, δ, ρ, G, s, ?_⟩
    unfold sRow at q
    cases hA : ca δ ρ with
    | ok d f1 ρ1 =>
      rw [hA] at q
      intro v H1 x1 r1 l1
      split at q
      · rename_i n f2 ρ2 e2
        cases e2
        split at q
        · rename_i w e
          have s1 := s.nx x1 r1
          obtain ⟨u, e1, ru⟩ := s1.rpAt e
          have hu : u = .ref Γ.R := by cases ru; rfl
          subst hu
          have hvn : v = .int n := l1.rp.int_of
          subst hvn
          split at q
          · rename_i ρ3 hρ
            have fin : ∀ xs : List V, xs = [.ref Γ.S, .int ρ3.i, .int ρ3.s, .int ρ3.q] → D.nx σ (upd H1 Γ.R (.lst xs)) := fun xs hx => by
              have bw : Bw Γ B (upd H1 Γ.R (.lst xs)) := s1.base.upd s1.base.1
              exact q G σ _ ⟨s1.len, bw, s1.scr, ⟨by rw [upd_same, hx], bw.scr r1.2.2.1 s1.scr, r1.2.2.1, Tabs.upd r1.2.2.2 r1.1 (by intro _ z; cases z) (by intro _ z; cases z)⟩, fun i => (s1.vw i).upd (s1.vw i).1.1, s1.at_, s1.own, s1.sep⟩
            refine ⟨_, e1, Γ.R, [.ref Γ.S, .int ρ1.i, .int ρ1.s, .int ρ1.q], (k : Int), ?_⟩
            match k, hρ with
            | 1, hρ => cases hρ; exact ⟨1, rfl, rfl, r1.1, rfl, fin _ rfl⟩
            | 2, hρ => cases hρ; exact ⟨2, rfl, rfl, r1.1, rfl, fin _ rfl⟩
            | 3, hρ => cases hρ; exact ⟨3, rfl, rfl, r1.1, rfl, fin _ rfl⟩
            | 0, hρ => cases hρ
            | k + 4, hρ => cases hρ
          · exact q.elim
        · exact q.elim
      · rename_i e; cases e
      · exact q.elim
    | er k ρ1 => rw [hA] at q; exact fun H' x r => q σ H' (s.base.mono x) r
    | no => rw [hA] at q; exact q.elim
end
end WF

/-! ## WFI -/
/-! Own layer, part I: built-in calls over data. -/
namespace WF
open PySem PySem.Spec PyProof.Rows L2

section
variable {Γ : Gam} {X : Cx} {H : Hp} {v : V} {d : D} {vs : List V} {ds : List D} {ρ : Row}
theorem RpAll.one (r : RpAll Γ H vs [d]) : ∃ v, vs = [v] ∧ Rp Γ H v d := by
  cases r with
  | cons a r => cases r; exact ⟨_, rfl, a⟩
theorem RpAll.two {d2 : D} (r : RpAll Γ H vs [d, d2]) : ∃ v w, vs = [v, w] ∧ Rp Γ H v d ∧ Rp Γ H w d2 := by
  cases r with
  | cons a r =>
    obtain ⟨w, rfl, b⟩ := r.one
    exact ⟨_, w, rfl, a, b⟩
/-! ### len -/
def fLen (Γ : Gam) : OpN := fun as => match as with
  | [.lst xs] => some (.int xs.length, true)
  | [.tup xs] => some (.int xs.length, true)
  | [.str s] => if s.length ≤ 1000 then some (.int s.length, true) else none
  | [.scr] => some (.int Γ.ns.length, true)
  | _ => none
theorem oLen (hK : X.K = Γ.K) : ∃ r, CallR X (.builtin "len") r ∧ CaS Γ r (fLen Γ) := ⟨_, call_len_seq.or call_len_str, by
  rw [hK]
  intro H xs as d fr ρ Q row r e q
  unfold fLen at e
  split at e
  · cases e
    obtain ⟨v, rfl, rv⟩ := r.one
    obtain ⟨a, ys, rfl, h, ry, _⟩ := rv.lst_of
    rw [← ry.length] at q
    exact .inl ⟨a, ys, rfl, .inl (SqL.of h), q _ H (Ex.refl H) (Vl.of_imm row (.int _) rfl)⟩
  · cases e
    obtain ⟨v, rfl, rv⟩ := r.one
    obtain ⟨a, ys, rfl, h, ry⟩ := rv.tup_of
    rw [← ry.length] at q
    exact .inl ⟨a, ys, rfl, .inr (SqT.of h), q _ H (Ex.refl H) (Vl.of_imm row (.int _) rfl)⟩
  · split at e
    · rename_i hl
      cases e
      obtain ⟨v, rfl, rv⟩ := r.one
      exact .inr ⟨_, by rw [rv.str_of], small hl, q _ H (Ex.refl H) (Vl.of_imm row (.int _) rfl)⟩
    · cases e
  · cases e
    obtain ⟨v, rfl, rv⟩ := r.one
    have hv : v = .ref Γ.S := by cases rv; rfl
    subst hv
    have q' := q (.int ((Γ.ns.map V.int).length : Nat)) H (Ex.refl H) (by rw [List.length_map]; exact Vl.of_imm row (.int _) rfl)
    exact .inl ⟨Γ.S, _, rfl, .inl row.2.1, q'⟩
  · cases e⟩
/-! ### list(x), tuple(x), int(x) -/
def fList : OpN := fun as => match as with
  | [.lst xs] => some (.lst xs, immAll xs)
  | [.tup xs] => some (.lst xs, immAll xs)
  | _ => none
theorem oList (hK : X.K = Γ.K) : ∃ r, CallR X (.type "list") r ∧ CaS Γ r fList := ⟨_, call_list_of, by
  rw [hK]
  intro H xs as d fr ρ Q row r e q
  unfold fList at e
  split at e
  · cases e
    obtain ⟨v, rfl, rv⟩ := r.one
    obtain ⟨a, ys, rfl, h, ry, _⟩ := rv.lst_of
    exact ⟨a, ys, rfl, .inl (SqL.of h), fun l hl => q _ _ (Ex.new hl) (Vl.list row (VlA.ifimm row ry) hl fun _ h => h)⟩
  · cases e
    obtain ⟨v, rfl, rv⟩ := r.one
    obtain ⟨a, ys, rfl, h, ry⟩ := rv.tup_of
    exact ⟨a, ys, rfl, .inr (SqT.of h), fun l hl => q _ _ (Ex.new hl) (Vl.list row (VlA.ifimm row ry) hl fun _ h => h)⟩
  · cases e⟩
/-- list(d), a dict of ints and texts; of tuples -/
def fListD : OpN := fun as => match as with
  | [.dct _ ks _] => some (.lst ks, true)
  | _ => none
theorem keyD_rp : ∀ (kvs : List (Key × V)), RpAll Γ H (kvs.map fun kv => kV kv.1) (kvs.map fun kv => keyD kv.1)
  | [] => .nil
  | ((.inl i), _) :: r => .cons (.int i) (keyD_rp r)
  | ((.inr s), _) :: r => .cons (.str s) (keyD_rp r)
theorem keysD_rp : ∀ (ks : List Key), RpAll Γ H (ks.map kV) (ks.map keyD)
  | [] => .nil
  | (.inl i) :: r => .cons (.int i) (keysD_rp r)
  | (.inr s) :: r => .cons (.str s) (keysD_rp r)
theorem immAll_keys : ∀ (kvs : List (Key × V)), immAll (kvs.map fun kv => keyD kv.1) = true
  | [] => rfl
  | ((.inl i), _) :: r => by rw [List.map_cons, immAll, immAll_keys r]; rfl
  | ((.inr s), _) :: r => by rw [List.map_cons, immAll, immAll_keys r]; rfl
theorem immAll_key1 : ∀ (ks : List Key), immAll (ks.map keyD) = true
  | [] => rfl
  | (.inl i) :: r => by rw [List.map_cons, immAll, immAll_key1 r]; rfl
  | (.inr s) :: r => by rw [List.map_cons, immAll, immAll_key1 r]; rfl
theorem immAll_tkeys : ∀ (kvs : List (List Key × V)), immAll (kvs.map fun kv => D.tup (kv.1.map keyD)) = true
  | [] => rfl
  | (k, _) :: r => by rw [List.map_cons, immAll, immAll_tkeys r, imm, immAll_key1]; rfl
theorem tkeys_rp : ∀ {kvs : List (List Key × V)} {bs : List Addr}, IsKeys H kvs bs → RpAll Γ H (bs.map V.ref) (kvs.map fun kv => D.tup (kv.1.map keyD))
  | _, _, .nil => .nil
  | _, _, .cons h r => .cons (.tup h (keysD_rp _)) (tkeys_rp r)
theorem oListD (hc : X.calm = true) : ∃ r, CallR X (.type "list") r ∧ CaS Γ r fListD := ⟨_, (call_list_dK hc).or (call_list_dT hc), by
  intro H xs as d fr ρ Q row r e q
  unfold fListD at e
  split at e
  · cases e
    obtain ⟨v, rfl, rv⟩ := r.one
    cases rv with
    | @dK a kvs _ n h ra => exact .inl ⟨a, kvs, rfl, h, fun l hl => q _ _ (Ex.new hl) (Vl.list row (VlA.of_imm row (keyD_rp kvs) (immAll_keys kvs)) hl fun _ h => h)⟩
    | @dT a kvs _ n h ra => exact .inr ⟨a, kvs, rfl, .inl h, fun l bs hl hk => q _ _ (Ex.new hl) (Vl.list row (VlA.of_imm row (tkeys_rp hk) (immAll_tkeys kvs)) hl fun _ h => h)⟩
  · cases e⟩
def fTuple : OpN := fun as => match as with
  | [.lst xs] => some (.tup xs, immAll xs)
  | [.tup xs] => some (.tup xs, immAll xs)
  | _ => none
theorem oTuple (hK : X.K = Γ.K) : ∃ r, CallR X (.type "tuple") r ∧ CaS Γ r fTuple := ⟨_, call_tuple_of, by
  rw [hK]
  intro H xs as d fr ρ Q row r e q
  unfold fTuple at e
  split at e
  · cases e
    obtain ⟨v, rfl, rv⟩ := r.one
    obtain ⟨a, ys, rfl, h, ry, _⟩ := rv.lst_of
    exact ⟨a, ys, rfl, .inl ⟨SqL.of h, fun l hl => q _ _ (Ex.new hl) (Vl.tuple row (VlA.ifimm row ry) hl)⟩⟩
  · cases e
    obtain ⟨v, rfl, rv⟩ := r.one
    obtain ⟨a, ys, rfl, h, ry⟩ := rv.tup_of
    refine ⟨a, ys, rfl, .inr ⟨SqT.of h, q _ H (Ex.refl H) ⟨.tup h ry, fun m => (Vl.of_imm (H := H) row (Rp.tup h ry) (by rw [imm]; exact m) (fr := true)).fresh rfl⟩⟩⟩
  · cases e⟩
def fInt : OpN := fun as => match as with
  | [.int i] => some (.int i, true)
  | [.bl b] => some (.int (if b then 1 else 0), true)
  | _ => none
theorem oInt : ∃ r, CallR X (.type "int") r ∧ CaS Γ r fInt := ⟨_, call_int1, by
  intro H xs as d fr ρ Q row r e q
  unfold fInt at e
  split at e
  · cases e
    obtain ⟨v, rfl, rv⟩ := r.one
    exact .inl ⟨_, by rw [rv.int_of], q _ H (Ex.refl H) (Vl.of_imm row (.int _) rfl)⟩
  · cases e
    obtain ⟨v, rfl, rv⟩ := r.one
    exact .inr ⟨_, by rw [rv.bl_of], q _ H (Ex.refl H) (Vl.of_imm row (.int _) rfl)⟩
  · cases e⟩
/-! ### all, any -/
def bools : List D → Option (List Bool)
  | [] => some []
  | .bl b :: r => match bools r with
    | some bs => some (b :: bs)
    | none => none
  | _ :: _ => none
theorem bools_eq : ∀ {ds : List D} {bs : List Bool}, bools ds = some bs → ds = bs.map D.bl
  | [], _, h => by cases h; rfl
  | .bl b :: r, bs, h => by
    rw [bools] at h
    cases e : bools r with
    | none => rw [e] at h; cases h
    | some cs => rw [e] at h; cases h; rw [bools_eq e]; rfl
  | .non :: _, _, h => by cases h
  | .int _ :: _, _, h => by cases h
  | .str _ :: _, _, h => by cases h
  | .tup _ :: _, _, h => by cases h
  | .lst _ :: _, _, h => by cases h
  | .ins _ _ :: _, _, h => by cases h
  | .row :: _, _, h => by cases h
  | .ty _ :: _, _, h => by cases h
  | .cls _ :: _, _, h => by cases h
  | .dct _ _ _ :: _, _, h => by cases h
  | .scr :: _, _, h => by cases h
  | .ptr _ :: _, _, h => by cases h
  | .lam _ :: _, _, h => by cases h
  | .ktup _ :: _, _, h => by cases h
def fAll : OpN := fun as => match as with
  | [.lst xs] => match bools xs with
    | some bs => some (.bl (bs.all id), true)
    | none => none
  | _ => none
def fAny : OpN := fun as => match as with
  | [.lst xs] => match bools xs with
    | some bs => some (.bl (bs.any id), true)
    | none => none
  | _ => none
theorem oAll (hK : X.K = Γ.K) (hc : X.calm = true) : ∃ r, CallR X (.builtin "all") r ∧ CaS Γ r fAll := ⟨_, cr_all hc, by
  rw [hK]
  intro H xs as d fr ρ Q row r e q
  unfold fAll at e
  split at e
  · split at e
    · rename_i bs hb
      cases e
      obtain ⟨v, rfl, rv⟩ := r.one
      obtain ⟨a, ys, rfl, h, ry, _⟩ := rv.lst_of
      rw [bools_eq hb] at ry
      exact ⟨a, bs, rfl, by rw [← ry.bls]; exact SqL.of h, q _ H (Ex.refl H) (Vl.of_imm row (.bl _) rfl)⟩
    · cases e
  · cases e⟩
theorem oAny (hK : X.K = Γ.K) (hc : X.calm = true) : ∃ r, CallR X (.builtin "any") r ∧ CaS Γ r fAny := ⟨_, cr_any hc, by
  rw [hK]
  intro H xs as d fr ρ Q row r e q
  unfold fAny at e
  split at e
  · split at e
    · rename_i bs hb
      cases e
      obtain ⟨v, rfl, rv⟩ := r.one
      obtain ⟨a, ys, rfl, h, ry, _⟩ := rv.lst_of
      rw [bools_eq hb] at ry
      exact ⟨a, bs, rfl, by rw [← ry.bls]; exact SqL.of h, q _ H (Ex.refl H) (Vl.of_imm row (.bl _) rfl)⟩
    · cases e
  · cases e⟩
/-! ### sorted, of ints -/
def insI (x : Int) : List Int → List Int
  | [] => [x]
  | y :: ys => if x ≤ y then x :: y :: ys else y :: insI x ys
def sortI : List Int → List Int
  | [] => []
  | x :: xs => insI x (sortI xs)
theorem insI_perm (x : Int) : ∀ ys, (insI x ys).Perm (x :: ys)
  | [] => .refl _
  | y :: ys => by
    unfold insI
    split
    · exact .refl _
    · exact ((insI_perm x ys).cons y).trans (.swap x y ys)
theorem sortI_perm : ∀ xs, (sortI xs).Perm xs
  | [] => .refl _
  | x :: xs => (insI_perm x _).trans ((sortI_perm xs).cons x)
theorem insI_sorted (x : Int) : ∀ {ys : List Int}, ys.Pairwise (· ≤ ·) → (insI x ys).Pairwise (· ≤ ·)
  | [], _ => by unfold insI; exact List.pairwise_singleton _ _
  | y :: ys, h => by
    unfold insI
    obtain ⟨h1, h2⟩ := List.pairwise_cons.mp h
    split
    · rename_i hxy
      refine List.pairwise_cons.mpr ⟨fun z hz => ?_, h⟩
      rcases List.mem_cons.mp hz with e | hz
      · rw [e]; exact hxy
      · exact Int.le_trans hxy (h1 z hz)
    · rename_i hxy
      refine List.pairwise_cons.mpr ⟨fun z hz => ?_, insI_sorted x h2⟩
      rcases List.mem_cons.mp ((insI_perm x ys).mem_iff.mp hz) with e | hz
      · rw [e]; omega
      · exact h1 z hz
theorem sortI_sorted : ∀ xs, (sortI xs).Pairwise (· ≤ ·)
  | [] => .nil
  | x :: xs => insI_sorted x (sortI_sorted xs)
theorem sorted_uniq : ∀ {xs ys : List Int}, xs.Perm ys → xs.Pairwise (· ≤ ·) → ys.Pairwise (· ≤ ·) → xs = ys
  | [], ys, p, _, _ => (p.nil_eq).symm ▸ rfl
  | x :: xs, [], p, _, _ => by have := p.length_eq; simp at this
  | x :: xs, y :: ys, p, h1, h2 => by
    obtain ⟨a1, a2⟩ := List.pairwise_cons.mp h1
    obtain ⟨b1, b2⟩ := List.pairwise_cons.mp h2
    have e : x = y := by
      have hx : x ∈ y :: ys := p.mem_iff.mp List.mem_cons_self
      have hy : y ∈ x :: xs := p.mem_iff.mpr List.mem_cons_self
      rcases List.mem_cons.mp hx with e | hx
      · exact e
      · rcases List.mem_cons.mp hy with e | hy
        · exact e.symm
        · exact Int.le_antisymm (a1 y hy) (b1 x hx)
    subst e
    rw [sorted_uniq (List.Perm.cons_inv p) a2 b2]
def intsOf : List D → Option (List Int)
  | [] => some []
  | .int b :: r => match intsOf r with
    | some bs => some (b :: bs)
    | none => none
  | _ :: _ => none
theorem intsOf_eq : ∀ {ds : List D} {bs : List Int}, intsOf ds = some bs → ds = bs.map D.int
  | [], _, h => by cases h; rfl
  | .int b :: r, bs, h => by
    rw [intsOf] at h
    cases e : intsOf r with
    | none => rw [e] at h; cases h
    | some cs => rw [e] at h; cases h; rw [intsOf_eq e]; rfl
  | .non :: _, _, h => by cases h
  | .bl _ :: _, _, h => by cases h
  | .str _ :: _, _, h => by cases h
  | .tup _ :: _, _, h => by cases h
  | .lst _ :: _, _, h => by cases h
  | .ins _ _ :: _, _, h => by cases h
  | .row :: _, _, h => by cases h
  | .ty _ :: _, _, h => by cases h
  | .cls _ :: _, _, h => by cases h
  | .dct _ _ _ :: _, _, h => by cases h
  | .scr :: _, _, h => by cases h
  | .ptr _ :: _, _, h => by cases h
  | .lam _ :: _, _, h => by cases h
  | .ktup _ :: _, _, h => by cases h
@[simp] theorem intsOf_map (ns : List Int) : intsOf (ns.map D.int) = some ns := by
  induction ns with
  | nil => rfl
  | cons n ns ih => rw [List.map_cons, intsOf, ih]
theorem immAll_ints (ns : List Int) : immAll (ns.map D.int) = true := by
  have := imm_ints ns
  rw [imm] at this
  exact this
def fSortI : OpN := fun as => match as with
  | [.lst xs] => match intsOf xs with
    | some ns => some (.lst ((sortI ns).map D.int), true)
    | none => none
  | _ => none
theorem oSortI (hK : X.K = Γ.K) : ∃ r, CallR X (.builtin "sorted") r ∧ CaS Γ r fSortI := ⟨_, cr_sortedI, by
  rw [hK]
  intro H xs as d fr ρ Q row r e q
  unfold fSortI at e
  split at e
  · split at e
    · rename_i ns hb
      cases e
      obtain ⟨v, rfl, rv⟩ := r.one
      obtain ⟨a, ys, rfl, h, ry, _⟩ := rv.lst_of
      rw [intsOf_eq hb] at ry
      refine ⟨a, ns, rfl, by rw [← ry.ints]; exact SqL.of h, fun ns' p pm so hp => ?_⟩
      have e1 : ns' = sortI ns := sorted_uniq (pm.trans (sortI_perm ns).symm) so (sortI_sorted ns)
      subst e1
      exact q _ _ (Ex.new hp) (Vl.list row (VlA.of_imm row (RpAll.of_ints _) (immAll_ints _)) hp fun _ h => h)
    · cases e
  · cases e⟩
/-! ### isinstance -/
def tyName : D → Option String
  | .non => some "NoneType"
  | .bl _ => some "bool"
  | .int _ => some "int"
  | .str _ => some "str"
  | .tup _ => some "tuple"
  | .lst _ => some "list"
  | .dct _ _ _ => some "dict"
  | _ => none
theorem tyx_of (h : Rp Γ H v d) {n : String} (e : tyName d = some n) : TyX Γ.K H v (.type n) := by
  cases h <;> simp only [tyName] at e <;> (try cases e)
  · exact .base .non
  · exact .base (.bl _)
  · exact .base (.int _)
  · exact .base (.str _)
  · exact .base (.tup (by assumption))
  · exact .base (.lst (by assumption))
  · exact .base (.dK (by assumption))
  · exact .base (.dT (by assumption))
/-- is a thing of the type called a one of the type called b -/
def isB (a b : String) : Option Bool := if (b == "int" || b == "bool" || b == "str" || b == "tuple" || b == "list" || b == "dict") && (a == "NoneType" || a == "int" || a == "bool" || a == "str" || a == "tuple" || a == "list" || a == "dict")
  then some (a == b || (a == "bool" && b == "int")) else none
theorem kit_all : ∀ a ∈ ["NoneType", "int", "bool", "str", "tuple", "list", "dict"], ∀ b ∈ ["int", "bool", "str", "tuple", "list", "dict"], kitB a b = some (a == b || (a == "bool" && b == "int")) := by decide +kernel
theorem isB_kit {a b : String} {r : Bool} (h : isB a b = some r) : kitB a b = some r := by
  unfold isB at h
  split at h
  · rename_i hc
    cases h
    rw [Bool.and_eq_true] at hc
    refine kit_all a ?_ b ?_
    · have := hc.2
      simp only [Bool.or_eq_true, beq_iff_eq] at this
      simp only [List.mem_cons, List.not_mem_nil, or_false]
      rcases this with (((((h | h) | h) | h) | h) | h) | h <;> simp [h]
    · have := hc.1
      simp only [Bool.or_eq_true, beq_iff_eq] at this
      simp only [List.mem_cons, List.not_mem_nil, or_false]
      rcases this with ((((h | h) | h) | h) | h) | h <;> simp [h]
  · cases h
def fIsi : OpN := fun as => match as with
  | [d, .ty n] => match tyName d with
    | some a => match isB a n with
      | some b => some (.bl b, true)
      | none => none
    | none => none
  | _ => none
theorem oIsi (hK : X.K = Γ.K) : ∃ r, CallR X (.builtin "isinstance") r ∧ CaS Γ r fIsi := ⟨_, call_isi, by
  rw [hK]
  intro H xs as d fr ρ Q row r e q
  unfold fIsi at e
  split at e
  · split at e
    · rename_i a ha
      split at e
      · rename_i b hb
        cases e
        obtain ⟨v, w, rfl, rv, rw'⟩ := r.two
        have hw := rw'.ty_of
        subst hw
        exact ⟨v, _, _, _, b, rfl, .ty _, tyx_of rv ha, kit_ty (isB_kit hb), q _ H (Ex.refl H) (Vl.of_imm row (.bl _) rfl)⟩
      · cases e
    · cases e
  · cases e⟩
/-- isinstance(x, C), C the class at Γ.cls c: own facts of C -/
structure IsC (Γ : Gam) (c : Nat) : Prop where
  cl : Cls Γ.K (Γ.cls c)
  ha : PySem.W.findIn Γ.K (.ref (Γ.cls c)) "__class__" = some (some (.builtin "object.__class__"))
  hn : PySem.W.specialIn Γ.K (.builtin "object.__class__") "__get__" = some (some (.builtin "getset_descriptor.__get__"))
  htk : PySem.W.takesIn Γ.K (.builtin "object.__class__") = some true
  hm : PySem.W.mroIn Γ.K (Γ.cls c) (.type "object") = some true
  self : PySem.W.kitOne Γ.K (.ref (Γ.cls c)) (.ref (Γ.cls c)) = some true
  others : ∀ n ∈ ["NoneType", "int", "bool", "str", "tuple", "list", "dict"], PySem.W.kitOne Γ.K (.type n) (.ref (Γ.cls c)) = some false
def fIsC (c : Nat) : OpN := fun as => match as with
  | [d, .cls c'] => if c' = c then match d with
    | .ins c2 _ => if c2 = c then some (.bl true, true) else none
    | d => match tyName d with
      | some _ => some (.bl false, true)
      | none => none
    else none
  | _ => none
theorem tyName_mem {n : String} (e : tyName d = some n) : n ∈ ["NoneType", "int", "bool", "str", "tuple", "list", "dict"] := by
  cases d <;> simp only [tyName] at e <;> cases e <;> decide
theorem oIsC {c : Nat} (hK : X.K = Γ.K) (F : IsC Γ c) : ∃ r, CallR X (.builtin "isinstance") r ∧ CaS Γ r (fIsC c) := ⟨_, call_isi, by
  rw [hK]
  intro H xs as d fr ρ Q row r e q
  unfold fIsC at e
  split at e
  · rename_i d0 c'
    split at e
    · rename_i hc
      subst hc
      obtain ⟨v, w, rfl, rv, rw'⟩ := r.two
      have hw : w = .ref (Γ.cls c') := by cases rw'; rfl
      subst hw
      split at e
      · split at e
        · rename_i c2 fs h2
          subst h2
          cases e
          cases rv with
          | ins h _ _ => exact ⟨_, _, _, _, true, rfl, .own _, .base (.ins h F.cl F.ha F.hn F.htk F.hm), F.self, q _ H (Ex.refl H) (Vl.of_imm row (.bl _) rfl)⟩
        · cases e
      · split at e
        · rename_i n hn
          cases e
          exact ⟨v, _, _, _, false, rfl, .own _, tyx_of rv hn, F.others n (tyName_mem hn), q _ H (Ex.refl H) (Vl.of_imm row (.bl _) rfl)⟩
        · cases e
    · cases e
  · cases e⟩
end
end WF

/-! ## WFJ -/
/-! Own layer, part J: objects, own errors raised, ranges as tuples and lists, dicts, texts joined. -/
namespace WF
open PySem PySem.Spec PyProof.Rows L2

section
variable {Γ : Gam} {E : L2.St → XK} {X : Cx} {B B' : Hp} {G : Nat → Hp} {σ : L2.St} {H H1 H2 : Hp} {δ : List Slot} {ρ ρ1 ρ2 : Row} {pos : Pos} {a b e : Expr} {ca cb cc : CE} {c c1 c2 : CS} {ct : CT} {tg : Expr} {v : V} {d : D} {vs : List V} {ds : List D} {Gv : Hp}

/-! ### tuple(range(n)), list(range(n)) -/
theorem rgV_rp (lo hi : Int) : RpAll Γ H (rgV lo hi) (intsD lo (hi - lo).toNat) := by
  unfold rgV intsD
  generalize (hi - lo).toNat = n
  generalize List.range n = l
  induction l with
  | nil => exact .nil
  | cons k r ih => exact .cons (.int _) ih
theorem intsD_imm (lo : Int) (n : Nat) : immAll (intsD lo n) = true := by
  rw [immAll_eq]
  unfold intsD
  rw [List.all_map]
  exact List.all_eq_true.mpr fun _ _ => rfl
def eRg (tup : Bool) (ca : CE) : CE := fun δ ρ => match ca δ ρ with
  | .ok (.int n) _ ρ1 => if n ≤ 100000 ∧ -100000 ≤ n then .ok (if tup then .tup (intsD 0 n.toNat) else .lst (intsD 0 n.toNat)) true ρ1 else .no
  | .er k ρ1 => .er k ρ1
  | _ => .no
theorem c_tupRg {p p2 pos2 : Pos} (hc : X.calm = true) (hg : Gl X "tuple") (hm : X.mg "tuple" = none) (hg2 : Gl X "range") (hm2 : X.mg "range" = none) (ha : PE X a (T Γ E ca)) (na : starEach [a] X.env = (false, eval a X.env) :: starEach [] X.env := by rfl)
    (nb : starEach [(Expr.Call (.Name "range" p2) [a] [] pos2)] X.env = (false, eval (Expr.Call (.Name "range" p2) [a] [] pos2) X.env) :: starEach [] X.env := by rfl) :
    PE X (.Call (.Name "tuple" p) [.Call (.Name "range" p2) [a] [] pos2] [] pos) (T Γ E (eRg true ca)) :=
  (pe_tupRg hc hg hm (prg_1 hg2 hm2 ha na) nb).imp fun σ H Q ⟨B, δ, ρ, G, s, q⟩ => by
    refine ⟨B, δ, ρ, G, s, ?_⟩
    unfold eRg at q
    cases hA : ca δ ρ with
    | ok d f1 ρ1 =>
      rw [hA] at q
      intro v H1 x r l
      split at q
      · rename_i n f2 ρ2 e2
        cases e2
        split at q
        · rename_i hn
          refine ⟨n, l.rp.int_of, ⟨by omega, by omega, by omega, by omega, by omega⟩, fun t ht => ?_⟩
          have := Vl.tuple (Γ := Γ) (H := H) (vs := rgV 0 n) (ds := intsD 0 n.toNat) (fr := true) r (VlA.of_imm r (by have := rgV_rp (Γ := Γ) (H := H1) 0 n; rwa [Int.sub_zero] at this) (intsD_imm 0 _)) ht
          exact q _ _ (x.trans (Ex.new ht).xr) (r.ex (Ex.new ht)) this
        · exact q.elim
      · rename_i e; cases e
      · exact q.elim
    | er k ρ1 => rw [hA] at q; exact q
    | no => rw [hA] at q; exact q.elim
theorem c_lstRg {p p2 pos2 : Pos} (hc : X.calm = true) (hg : Gl X "list") (hm : X.mg "list" = none) (hg2 : Gl X "range") (hm2 : X.mg "range" = none) (ha : PE X a (T Γ E ca)) (na : starEach [a] X.env = (false, eval a X.env) :: starEach [] X.env := by rfl)
    (nb : starEach [(Expr.Call (.Name "range" p2) [a] [] pos2)] X.env = (false, eval (Expr.Call (.Name "range" p2) [a] [] pos2) X.env) :: starEach [] X.env := by rfl) :
    PE X (.Call (.Name "list" p) [.Call (.Name "range" p2) [a] [] pos2] [] pos) (T Γ E (eRg false ca)) :=
  (pe_listRg hc hg hm (prg_1 hg2 hm2 ha na) nb).imp fun σ H Q ⟨B, δ, ρ, G, s, q⟩ => by
    refine ⟨B, δ, ρ, G, s, ?_⟩
    unfold eRg at q
    cases hA : ca δ ρ with
    | ok d f1 ρ1 =>
      rw [hA] at q
      intro v H1 x r l
      split at q
      · rename_i n f2 ρ2 e2
        cases e2
        split at q
        · rename_i hn
          refine ⟨n, l.rp.int_of, ⟨by omega, by omega, by omega, by omega, by omega⟩, fun t ht => ?_⟩
          have := Vl.list (Γ := Γ) (H := H) (vs := rgV 0 n) (ds := intsD 0 n.toNat) (fr := true) r (VlA.of_imm r (by have := rgV_rp (Γ := Γ) (H := H1) 0 n; rwa [Int.sub_zero] at this) (intsD_imm 0 _)) ht fun a e => x.none r e
          exact q _ _ (x.trans (Ex.new ht).xr) (r.ex (Ex.new ht)) this
        · exact q.elim
      · rename_i e; cases e
      · exact q.elim
    | er k ρ1 => rw [hA] at q; exact q
    | no => rw [hA] at q; exact q.elim

/-! ### o.f, a field; o.f, a property -/
def eFld (c j : Nat) (ca : CE) : CE := fun δ ρ => match ca δ ρ with
  | .ok (.ins c' fs) _ ρ1 => if c' = c then match fs[j]? with
    | some d => .ok d (imm d) ρ1
    | none => .no
    else .no
  | .er k ρ1 => .er k ρ1
  | _ => .no
theorem lookup_at {fs : List (Str × V)} {f : Str} {j : Nat} {v : V} (nd : (fs.map (·.1)).Nodup) (hf : (fs.map (·.1))[j]? = some f) (hv : (fs.map (·.2))[j]? = some v) : fs.lookup f = some v := by
  induction fs generalizing j with
  | nil => simp at hf
  | cons p r ih =>
    obtain ⟨g, u⟩ := p
    rw [List.map_cons, List.nodup_cons] at nd
    cases j with
    | zero =>
      simp only [List.map_cons, List.getElem?_cons_zero, Option.some.injEq] at hf hv
      subst hf; subst hv
      simp [List.lookup]
    | succ j =>
      simp only [List.map_cons, List.getElem?_cons_succ] at hf hv
      have hne : ¬ f = g := fun z => nd.1 (by rw [← z]; exact List.mem_of_getElem? hf)
      rw [List.lookup_cons]
      have hb : (f == g) = false := by simpa using hne
      rw [hb]
      exact ih nd.2 hf hv
theorem c_fld {c j : Nat} {f : Str} (hK : X.K = Γ.K) (cl : Cls Γ.K (Γ.cls c)) (na : NoAttr Γ.K (Γ.cls c) f) (nd : (Γ.fld c).Nodup) (hf : (Γ.fld c)[j]? = some f) (he : PE X e (T Γ E ca)) (hb : attributeBase e f X.env (eval e X.env) = eval e X.env := by rfl) : PE X (.Attribute e f pos) (T Γ E (eFld c j ca)) :=
  (pe_fld he hb).imp fun σ H Q ⟨B, δ, ρ, G, s, q⟩ => by
    refine ⟨B, δ, ρ, G, s, ?_⟩
    unfold eFld at q
    cases hA : ca δ ρ with
    | ok d f1 ρ1 =>
      rw [hA] at q
      intro v H1 x r l
      split at q
      · rename_i c' fs f2 ρ2 e2
        cases e2
        split at q
        · rename_i hc
          subst hc
          split at q
          · rename_i d0 hd
            cases l.rp with
            | @ins a dx _ fs' _ h1 h2 h3 =>
              obtain ⟨u, hu, ru⟩ := h3.get hd
              exact ⟨a, _, dx, fs', u, rfl, h1, by rw [hK]; exact cl, by rw [hK]; exact na, lookup_at (by rw [h2]; exact nd) (by rw [h2]; exact hf) hu, q u H1 x r (Vl.ifimm r ru)⟩
          · exact q.elim
        · exact q.elim
      · rename_i e; cases e
      · exact q.elim
    | er k ρ1 => rw [hA] at q; exact q
    | no => rw [hA] at q; exact q.elim
/-- a promise that no error leaves -/
def okOnly (r : RE) : RE := match r with
  | .ok d fr ρ => .ok d fr ρ
  | _ => .no
def eProp (c : Nat) (F : Fn) (ca : CE) : CE := fun δ ρ => match ca δ ρ with
  | .ok (.ins c' fs) _ ρ1 => if c' = c then okOnly (F [.ins c' fs] ρ1) else .no
  | .er k ρ1 => .er k ρ1
  | _ => .no
theorem c_prop {c : Nat} {f : Str} {p g : Addr} {k : Nat} {fd : FuncData} {ps : List Str} {F : Fn} (hK : X.K = Γ.K) (cl : Cls Γ.K (Γ.cls c)) (hp : PropOf Γ.K (Γ.cls c) f p g) (hF : FnOk X.prog X.w X.K X.mg X.base (L2.CX X.prog X.w) k g fd ps (SpOf Γ F)) (hr : Room (k + 1) X.A) (hb : Binds X.K fd ps [])
    (he : PE X e (T Γ E ca)) (hab : attributeBase e f X.env (eval e X.env) = eval e X.env := by rfl) : PE X (.Attribute e f pos) (T Γ E (eProp c F ca)) :=
  (pe_prop (E := L2.E0) (dvs := []) (ds := []) he (by rw [hK]; exact cl) (by rw [hK]; exact hp) hF hr hb .nil (by exact passL) hab).imp fun σ H Q ⟨B, δ, ρ, G, s, q⟩ => by
    refine ⟨B, δ, ρ, G, s, ?_⟩
    unfold eProp at q
    cases hA : ca δ ρ with
    | ok d f1 ρ1 =>
      rw [hA] at q
      intro v H1 x r l
      split at q
      · rename_i c' fs f2 ρ2 e2
        cases e2
        split at q
        · rename_i hc
          subst hc
          cases hl : l.rp with
          | @ins a dx _ fs' _ h1 h2 h3 =>
            refine ⟨a, dx, fs', rfl, h1, [.ins c' fs], _, .cons l.rp .nil, r, ?_⟩
            unfold okOnly at q
            split at q
            · rename_i d2 fr2 ρ3 hF2
              rw [hF2]
              exact fun v H2 x2 r2 l2 => q v H2 (x.trans x2) r2 (l2.from fun a e => x.none r e)
            · exact q.elim
        · exact q.elim
      · rename_i e; cases e
      · exact q.elim
    | er k ρ1 => rw [hA] at q; exact q
    | no => rw [hA] at q; exact q.elim
/-- len(o), by an own __len__ -/
def rLenO (C : Addr) (sp : Sp) : List V → Hp → VK → Prop := fun xs H Q => ∃ a dx fs, xs = [.ref a] ∧ H a = some (.ins C dx fs) ∧ sp [.ref a] H (fun v H' => ∃ n : Int, v = .int n ∧ 0 ≤ n ∧ n < 2 ^ 63 ∧ Q (.int n) H') L2.E0
theorem cr_lenO {C f : Addr} {k : Nat} {fd : FuncData} {ps : List Str} {sp : Sp} (hs : PySem.W.findIn X.K (.ref C) "__len__" = some (some (.ref f))) (hf : PySem.W.isFn X.K (.ref f) = true) (F : FnOk X.prog X.w X.K X.mg X.base (L2.CX X.prog X.w) k f fd ps sp) (hr : Room (k + 1) X.A) (hb : Binds X.K fd ps []) :
    CallR X (.builtin "len") (rLenO C sp) := by
  intro pins s σ H xs us Q I r h
  obtain ⟨a, dx, fs, rfl, ea, q⟩ := h
  obtain rfl := Vals.ref1 r
  obtain ⟨mA, O, _⟩ := ins_get I.hok ea
  obtain ⟨od, J, _⟩ := O.look
  refine Calls.call_function_entry kind_len plain_len entry_len (args_len1 _) ?_
  unfold Builtin.«len»
  refine wpAny_bind (m := oneArg "len" _) (wpAny_pure ?_)
  have hl : ([Value.ref a]).length = ps.length := by
    rw [← F.len _ _ _ _ q]
    rfl
  refine wpAny_bind (m := callSpecial? (.ref a) (Str.ofString "__len__")) (PySem.W.special_fn I.kIn J hs (beq_iff_eq.mp hf) (wpAny_call (codeAny_mono (F.run X.A.in1 X.stack s H ⟨[.ref a], []⟩ [.ref a] [.ref a] _ L2.E0 hr.in1 I.env0.in1 (by
    have := hb s [.ref a] I.kIn (by simpa using hl)
    simpa using this) (.cons rfl .nil) q) fun r s' hq => ?_)))
  cases r with
  | error er => exact False.elim ((passL (X := X.nox)) pins σ H s er s' (I.wish _) hq)
  | ok fl =>
    cases fl with
    | ret u =>
      obtain ⟨v, H', I3, rv, n, ev, h0, h1, q3⟩ := I.after hq
      subst ev
      obtain ⟨t, rfl⟩ := rv
      refine wpAny_bind (wpAny_holding (wpAny_pure ?_))
      refine wpAny_bind (wpAny_letGo ?_)
      show wpAny _ _ (if n < 0 then _ else _) _ _ _
      rw [if_neg (by omega)]
      show wpAny _ _ (if n ≥ 2 ^ 63 then _ else _) _ _ _
      rw [if_neg (by omega)]
      exact wpAny_bind (wpAny_mkInt (wpAny_pure ⟨_, rfl, .int n, H', I3.tok _, ⟨_, rfl⟩, q3⟩))
    | next => exact False.elim hq
    | brk => exact False.elim hq
    | cont => exact False.elim hq
end
end WF

/-! ## WFK -/
/-! Own layer, part K: dicts. -/
namespace WF
open PySem PySem.Spec PyProof.Rows L2

section
variable {Γ : Gam} {E : L2.St → XK} {X : Cx} {B B' : Hp} {G : Nat → Hp} {σ : L2.St} {H H1 H2 : Hp} {δ : List Slot} {ρ ρ1 ρ2 : Row} {pos : Pos} {a b e : Expr} {ca cb cc : CE} {c c1 c2 : CS} {ct : CT} {tg : Expr} {v : V} {d : D} {vs : List V} {ds : List D} {Gv : Hp}

/-! ### keys as data -/
def keyOf : D → Option Key
  | .int i => some (.inl i)
  | .str s => some (.inr s)
  | _ => none
def keysOf : List D → Option (List Key)
  | [] => some []
  | d :: r => match keyOf d, keysOf r with
    | some k, some ks => some (k :: ks)
    | _, _ => none
theorem keyOf_eq {k : Key} (h : keyOf d = some k) : d = keyD k := by
  unfold keyOf at h
  split at h
  · cases h; rfl
  · cases h; rfl
  · cases h
theorem keyOf_keyD (k : Key) : keyOf (keyD k) = some k := by cases k <;> rfl
theorem keysOf_eq : ∀ {ds : List D} {ks : List Key}, keysOf ds = some ks → ds = ks.map keyD
  | [], _, h => by cases h; rfl
  | d :: r, ks, h => by
    unfold keysOf at h
    split at h
    · rename_i k ks' e1 e2
      cases h
      rw [List.map_cons, ← keyOf_eq e1, ← keysOf_eq e2]
    · cases h
theorem keysOf_map : ∀ (ks : List Key), keysOf (ks.map keyD) = some ks
  | [] => rfl
  | k :: ks => by rw [List.map_cons, keysOf, keyOf_keyD, keysOf_map ks]
theorem keyD_inj {k k' : Key} (h : keyD k = keyD k') : k = k' := by
  have := congrArg keyOf h
  rw [keyOf_keyD, keyOf_keyD] at this
  exact Option.some.inj this
/-- a key of either kind -/
def anyKey (t : Bool) (d : D) : Option (Key ⊕ List Key) := match t with
  | false => (keyOf d).map .inl
  | true => match d with
    | .tup xs => (keysOf xs).map .inr
    | _ => none
def getD (t : Bool) : List D → List D → (Key ⊕ List Key) → Option D
  | kd :: ks, d :: ds, k => if anyKey t kd = some k then some d else getD t ks ds k
  | _, _, _ => none
def hasD (t : Bool) (ks : List D) (k : Key ⊕ List Key) : Bool := ks.any fun kd => decide (anyKey t kd = some k)
def setD (t : Bool) : List D → List D → (Key ⊕ List Key) → D → List D
  | kd :: ks, d :: ds, k, x => (if anyKey t kd = some k then x else d) :: setD t ks ds k x
  | _, _, _, _ => []
theorem anyKey_F (k : Key) : anyKey false (keyD k) = some (.inl k) := by unfold anyKey; rw [keyOf_keyD]; rfl
theorem anyKey_T (k : List Key) : anyKey true (.tup (k.map keyD)) = some (.inr k) := by unfold anyKey; dsimp only; rw [keysOf_map]; rfl

/-- what the table holds, value and data -/
def SameO (Γ : Gam) (H : Hp) : Option V → Option D → Prop
  | some v, some d => Rp Γ H v d
  | none, none => True
  | _, _ => False
theorem get_tab {κ : Type} [DecidableEq κ] {t : Bool} {mk : κ → D} {inj : κ → Key ⊕ List Key} (hm : ∀ k, anyKey t (mk k) = some (inj k)) (hi : ∀ k k', inj k = inj k' → k = k') (k : κ) :
    ∀ {kvs : List (κ × V)} {vs : List D}, RpAll Γ H (kvs.map (·.2)) vs → SameO Γ H (valV kvs k) (getD t (kvs.map fun kv => mk kv.1) vs (inj k))
  | [], _, r => by cases r; exact True.intro
  | p :: kvs, _, r => by
    cases r with
    | cons h q =>
      rw [List.map_cons, getD, hm]
      by_cases e : p.1 = k
      · subst e
        rw [if_pos rfl, valV_pos rfl]; exact h
      · rw [if_neg (fun z => e (hi _ _ (Option.some.inj z))), valV_neg e]
        exact get_tab hm hi k q
theorem set_tab {κ : Type} [DecidableEq κ] {t : Bool} {mk : κ → D} {inj : κ → Key ⊕ List Key} (hm : ∀ k, anyKey t (mk k) = some (inj k)) (hi : ∀ k k', inj k = inj k' → k = k') (k : κ) {x : V} {xd : D} (hx : Rp Γ H x xd) :
    ∀ {kvs : List (κ × V)} {vs : List D}, RpAll Γ H (kvs.map (·.2)) vs → RpAll Γ H ((kvs.map fun kv => if kv.1 = k then (kv.1, x) else kv).map (·.2)) (setD t (kvs.map fun kv => mk kv.1) vs (inj k) xd)
  | [], _, r => by cases r; exact .nil
  | p :: kvs, _, r => by
    cases r with
    | cons h q =>
      rw [List.map_cons, List.map_cons, List.map_cons, setD, hm]
      by_cases e : p.1 = k
      · subst e
        rw [if_pos rfl, if_pos rfl]; exact .cons hx (set_tab hm hi _ hx q)
      · rw [if_neg (fun z => e (hi _ _ (Option.some.inj z))), if_neg e]
        exact .cons h (set_tab hm hi k hx q)
theorem has_tab {κ : Type} [DecidableEq κ] {t : Bool} {mk : κ → D} {inj : κ → Key ⊕ List Key} (hm : ∀ k, anyKey t (mk k) = some (inj k)) (hi : ∀ k k', inj k = inj k' → k = k') (k : κ) :
    ∀ {kvs : List (κ × V)}, hasD t (kvs.map fun kv => mk kv.1) (inj k) = kvs.any fun kv => decide (kv.1 = k)
  | [] => rfl
  | p :: kvs => by
    unfold hasD
    rw [List.map_cons, List.any_cons, List.any_cons, hm]
    congr 1
    · by_cases e : p.1 = k
      · subst e; rw [decide_eq_true rfl, decide_eq_true rfl]
      · rw [decide_eq_false e, decide_eq_false (fun z => e (hi _ _ (Option.some.inj z)))]
    · exact has_tab hm hi k
/-- d[k] = x as data -/
def putD (t : Bool) (ks vs : List D) (kd : D) (k : Key ⊕ List Key) (x : D) : List D × List D :=
  if hasD t ks k then (ks, setD t ks vs k x) else (ks ++ [kd], vs ++ [x])
theorem map_same {κ : Type} [DecidableEq κ] {mk : κ → D} (k : κ) (x : V) (kvs : List (κ × V)) : (kvs.map fun kv => if kv.1 = k then (kv.1, x) else kv).map (fun kv => mk kv.1) = kvs.map fun kv => mk kv.1 := by
  rw [List.map_map]
  apply List.map_congr_left
  intro p _
  dsimp only [Function.comp_apply]
  split <;> rfl
theorem put_tab {κ : Type} [DecidableEq κ] {t : Bool} {mk : κ → D} {inj : κ → Key ⊕ List Key} (hm : ∀ k, anyKey t (mk k) = some (inj k)) (hi : ∀ k k', inj k = inj k' → k = k') (k : κ) {x : V} {xd : D} (hx : Rp Γ H x xd)
    {kvs : List (κ × V)} {vs : List D} (r : RpAll Γ H (kvs.map (·.2)) vs) : (putD t (kvs.map fun kv => mk kv.1) vs (mk k) (inj k) xd).1 = (putK kvs k x).map (fun kv => mk kv.1) ∧
      RpAll Γ H ((putK kvs k x).map (·.2)) (putD t (kvs.map fun kv => mk kv.1) vs (mk k) (inj k) xd).2 := by
  unfold putD putK
  rw [has_tab hm hi k]
  by_cases e : (kvs.any fun kv => decide (kv.1 = k)) = true
  · rw [if_pos e, if_pos e]
    exact ⟨(map_same k x kvs).symm, set_tab hm hi k hx r⟩
  · rw [if_neg e, if_neg e, List.map_append, List.map_append]
    exact ⟨rfl, r.append (.cons hx .nil)⟩
theorem inl_inj : ∀ k k' : Key, (Sum.inl k : Key ⊕ List Key) = .inl k' → k = k' := fun _ _ h => Sum.inl.inj h
theorem inr_inj : ∀ k k' : List Key, (Sum.inr k : Key ⊕ List Key) = .inr k' → k = k' := fun _ _ h => Sum.inr.inj h

theorem rp_key {k : Key} (h : Rp Γ H v (keyD k)) : v = kV k := by
  cases k with
  | inl i => exact h.int_of
  | inr s => exact h.str_of
theorem rp_keys : ∀ {vs : List V} {ks : List Key}, RpAll Γ H vs (ks.map keyD) → vs = ks.map kV
  | _, [], h => by cases h; rfl
  | _, k :: ks, h => by
    rw [List.map_cons] at h
    cases h with
    | cons h q => rw [rp_key h, rp_keys q]; rfl
/-- a dict read -/
theorem dct_get {t : Bool} {ks vs : List D} {x y : V} {yd : D} {k : Key ⊕ List Key} (hx : Rp Γ H x (.dct t ks vs)) (hy : Rp Γ H y yd) (hk : anyKey t yd = some k) : ∃ l o, x = .ref l ∧ DGet H l y o ∧ SameO Γ H o (getD t ks vs k) := by
  cases hx with
  | @dK l kvs _ n h r =>
    unfold anyKey at hk
    dsimp only at hk
    cases e : keyOf yd with
    | none => rw [e] at hk; cases hk
    | some k0 =>
      rw [e] at hk
      cases hk
      cases keyOf_eq e
      cases rp_key hy
      exact ⟨l, _, rfl, DGet.k h, get_tab (mk := keyD) (inj := Sum.inl) anyKey_F inl_inj k0 r⟩
  | @dT l kvs _ n h r =>
    unfold anyKey at hk
    dsimp only at hk
    split at hk
    · rename_i xs
      cases e : keysOf xs with
      | none => rw [e] at hk; cases hk
      | some k0 =>
        rw [e] at hk
        cases hk
        cases keysOf_eq e
        obtain ⟨b, ws, rfl, hb, rb⟩ := hy.tup_of
        cases rp_keys rb
        exact ⟨l, _, rfl, DGet.t h hb, get_tab (mk := fun k : List Key => D.tup (k.map keyD)) (inj := Sum.inr) anyKey_T inr_inj k0 r⟩
    · cases hk
/-! ### d[k], k in d -/
def fDGet : Op2 := fun a b => match a with
  | .dct t ks vs => match anyKey t b with
    | some k => (getD t ks vs k).map fun d => (d, imm d)
    | none => none
  | _ => none
theorem oDGet : OpS Γ (fun x y H Q => ∃ a v, x = .ref a ∧ DGet H a y (some v) ∧ Q v H) fDGet := fun H x y a b d fr ρ Q row ra rb e q => by
  unfold fDGet at e
  split at e
  · rename_i t ks vs
    split at e
    · rename_i k hk
      cases e1 : getD t ks vs k with
      | none => rw [e1] at e; cases e
      | some d0 =>
        rw [e1] at e
        cases e
        obtain ⟨l, o, rfl, g, s⟩ := dct_get ra rb hk
        rw [e1] at s
        cases o with
        | none => exact s.elim
        | some v => exact ⟨l, v, rfl, g, q v H (Ex.refl H) (Vl.ifimm row s)⟩
    · cases e
  · cases e
def fDIn (neg : Bool) : Op2 := fun b a => match a with
  | .dct t ks vs => match anyKey t b with
    | some k => some (.bl ((getD t ks vs k).isSome != neg), true)
    | none => none
  | _ => none
theorem sameO_some {o : Option V} {p : Option D} (s : SameO Γ H o p) : o.isSome = p.isSome := by
  cases o <;> cases p <;> first | rfl | exact s.elim
theorem oDIn : OpS Γ (fun y x H Q => ∃ a o, x = .ref a ∧ DGet H a y o ∧ Q (.bl o.isSome) H) (fDIn false) := fun H x y a b d fr ρ Q row ra rb e q => by
  unfold fDIn at e
  split at e
  · split at e
    · rename_i k hk
      cases e
      obtain ⟨l, o, rfl, g, s⟩ := dct_get rb ra hk
      refine ⟨l, o, rfl, g, ?_⟩
      rw [sameO_some s]
      refine q _ H (Ex.refl H) (Vl.of_imm row ?_ rfl)
      rw [Bool.bne_false]
      exact .bl _
    · cases e
  · cases e
theorem oDNi : OpS Γ (fun y x H Q => ∃ a o, x = .ref a ∧ DGet H a y o ∧ Q (.bl (!o.isSome)) H) (fDIn true) := fun H x y a b d fr ρ Q row ra rb e q => by
  unfold fDIn at e
  split at e
  · split at e
    · rename_i k hk
      cases e
      obtain ⟨l, o, rfl, g, s⟩ := dct_get rb ra hk
      refine ⟨l, o, rfl, g, ?_⟩
      rw [sameO_some s]
      refine q _ H (Ex.refl H) (Vl.of_imm row ?_ rfl)
      rw [Bool.bne_true]
      exact .bl _
    · cases e
  · cases e
theorem c_dget (hu : X.A.units + 1 < cLine) (ha : PE X a (T Γ E ca)) (hb : PE X b (T Γ E cb)) (hs : NoSl b := by exact fun _ _ => rfl) : PE X (.Subscript a b pos) (T Γ E (eBin fDGet ca cb)) :=
  (pe_dget hu ha hb hs).imp fun _ _ _ h => t_bin oDGet h
theorem c_din (hu : X.A.units + 1 < cLine) (ha : PE X a (T Γ E ca)) (hb : PE X b (T Γ E cb)) (hm : behindInMarks .In b = false := by first | exact nobehind _ (by decide) (by decide) | rfl) : PE X (.Compare a [.In] [b] pos) (T Γ E (eBin (fDIn false) ca cb)) :=
  (pe_cmp (pc_din hu ha hb) hm).imp fun _ _ _ h => t_bin oDIn h
theorem c_dni (hu : X.A.units + 1 < cLine) (ha : PE X a (T Γ E ca)) (hb : PE X b (T Γ E cb)) (hm : behindInMarks .NotIn b = false := by first | exact nobehind _ (by decide) (by decide) | rfl) : PE X (.Compare a [.NotIn] [b] pos) (T Γ E (eBin (fDIn true) ca cb)) :=
  (pe_cmp (pc_dnotin hu ha hb) hm).imp fun _ _ _ h => t_bin oDNi h
/-! ### a dict of one's own, changed -/
theorem St.oset {i : Nat} {dd dd' : D} {l : Addr} {o0 o' : HO} {G0 : Hp} (h : St Γ B G σ H δ ρ) (e : δ[i]? = some (some (true, dd))) (hσ : σ[i]? = some (some (.ref l))) (gl : G i l = some o0) (m0 : Mu o0 = true) (nR : l ≠ Γ.R)
    (w0 : Vw Γ G0 H) (qq : Rp Γ (upd G0 l o') (.ref l) dd') (spp : Sep Γ (upd G0 l o') (.ref l) dd') (nl : G0 l = none) (n : ∀ a o, G0 a = some o → Mu o = true → B a = none ∧ ∀ j, j ≠ i → G j a = none)
    (n1 : ∀ ps, o0 ≠ .tbl ps := by intro _ z; cases z) (n2 : ∀ f, o0 ≠ .ext f := by intro _ z; cases z) (n3 : ∀ ps, o' ≠ .tbl ps := by intro _ z; cases z) :
    ∃ G', St Γ B G' σ (upd H l o') (δ.set i (some (true, dd'))) ρ := by
  have hH : H l = some o0 := (h.vw i).2 l _ gl
  have off : ∀ j, j ≠ i → G j l = none := (h.own i _ e l _ gl m0).2
  have bl : B l = none := (h.own i _ e l _ gl m0).1
  have hi : i < δ.length := (List.getElem?_eq_some_iff.mp e).1
  have keep : ∀ g : Hp, Vw Γ g H → g l = none → Vw Γ g (upd H l o') := fun g wg gn => wg.upd gn
  have bw : Bw Γ B (upd H l o') := h.base.upd bl
  have rowN : RowAt Γ (upd H l o') ρ := h.row.upd h.base h.scr bl nR hH n1 n2
  have gw : Vw Γ (upd G0 l o') (upd H l o') := w0.both nR n3
  have disj : ∀ j d', j ≠ i → δ[j]? = some (some (true, d')) → ∀ a o, G j a = some o → Mu o = true → G0 a = none := fun j d' nj e a o g m => by
    cases q : G0 a with
    | none => rfl
    | some u =>
      have e1 := w0.2 a u q
      have e2 := (h.vw j).2 a o g
      rw [e1] at e2
      cases e2
      rw [(n a _ q m).2 j nj] at g
      cases g
  refine ⟨upG G i (upd G0 l o'), ⟨by rw [List.length_set]; exact h.len, bw, h.scr, rowN, fun j => ?_, fun j w' d' ej => ?_, fun j d' ej a o g m => ?_, fun j d' ej u eu => ?_⟩⟩
  · by_cases hj : j = i
    · subst hj; rw [upG_same]; exact gw
    · rw [upG_ne hj]; exact keep _ (h.vw j) (off j hj)
  · by_cases hj : j = i
    · subst hj
      rw [List.getElem?_set_self hi] at ej
      cases ej
      exact ⟨_, hσ, by rw [upG_same]; exact qq⟩
    · rw [List.getElem?_set_ne (Ne.symm hj)] at ej
      obtain ⟨u, e1, q1⟩ := h.at_ j w' d' ej
      exact ⟨u, e1, by rw [upG_ne hj]; exact q1⟩
  · by_cases hj : j = i
    · subst hj
      rw [upG_same] at g
      by_cases ha : a = l
      · subst ha
        exact ⟨bl, fun k hk => by rw [upG_ne hk]; exact off k hk⟩
      · rw [upd_ne ha] at g
        exact ⟨(n a o g m).1, fun k hk => by rw [upG_ne hk]; exact (n a o g m).2 k hk⟩
    · rw [List.getElem?_set_ne (Ne.symm hj)] at ej
      rw [upG_ne hj] at g
      refine ⟨(h.own j d' ej a o g m).1, fun k hk => ?_⟩
      by_cases hki : k = i
      · subst hki
        rw [upG_same]
        have nal : a ≠ l := by rintro rfl; rw [off j hj] at g; cases g
        rw [upd_ne nal]
        exact disj j d' hj ej a o g m
      · rw [upG_ne hki]; exact (h.own j d' ej a o g m).2 k hk
  · by_cases hj : j = i
    · subst hj
      rw [List.getElem?_set_self hi] at ej
      rw [hσ] at eu
      cases ej
      cases eu
      rw [upG_same]
      exact spp
    · rw [List.getElem?_set_ne (Ne.symm hj)] at ej
      rw [upG_ne hj]; exact h.sep j d' ej u eu

theorem St.rootO {i : Nat} {t : Bool} {ks : List D} (h : St Γ B G σ H δ ρ) (e : δ[i]? = some (some (true, .dct t ks ds))) : ∃ (l : Addr) (G0 : Hp) (o0 : HO), σ[i]? = some (some (.ref l)) ∧ l ≠ Γ.R ∧ G i l = some o0 ∧ G0 l = none ∧ Vw Γ G0 H ∧
    ((∃ kvs : List (Key × V), t = false ∧ o0 = .dK kvs ∧ ks = kvs.map (fun kv => keyD kv.1) ∧ RpAll Γ G0 (kvs.map (·.2)) ds) ∨
     (∃ kvs : List (List Key × V), t = true ∧ o0 = .dT kvs ∧ ks = kvs.map (fun kv => D.tup (kv.1.map keyD)) ∧ RpAll Γ G0 (kvs.map (·.2)) ds)) ∧
    (∀ a o, G0 a = some o → Mu o = true → B a = none ∧ ∀ j, j ≠ i → G j a = none) := by
  obtain ⟨v, e1, r⟩ := h.at_ i true _ e
  obtain ⟨l, G0, rfl, nR, nl, q⟩ := (h.sep i _ e v e1).d t ks ds rfl
  have go : ∀ o0 : HO, G i = upd G0 l o0 → Ex G0 (G i) ∧ G i l = some o0 ∧ (G0 Γ.R = none ∧ ∀ a ps, G0 a ≠ some (.tbl ps)) := fun o0 eG => by
    have ex : Ex G0 (G i) := fun a o ea => by rw [eG, upd_ne (by rintro rfl; rw [nl] at ea; cases ea)]; exact ea
    refine ⟨fun a o ea => ?_, by rw [eG]; exact upd_same, ?_⟩
    · rw [eG, upd_ne (by rintro rfl; rw [nl] at ea; cases ea)]; exact ea
    · refine ⟨?_, fun a ps ea => (h.vw i).1.2 a ps (ex a _ ea)⟩
      have := (h.vw i).1.1
      rw [eG, upd_ne nR.symm] at this
      exact this
  rcases q with ⟨kvs, z, eG, ek, q⟩ | ⟨kvs, z, eG, ek, q⟩
  · obtain ⟨ex, g1, g2⟩ := go _ eG
    exact ⟨l, G0, _, e1, nR, g1, nl, ⟨g2, ex.trans (h.vw i).2⟩, .inl ⟨kvs, z, rfl, ek, q⟩, fun a o ea m => h.own i _ e a o (ex a o ea) m⟩
  · obtain ⟨ex, g1, g2⟩ := go _ eG
    exact ⟨l, G0, _, e1, nR, g1, nl, ⟨g2, ex.trans (h.vw i).2⟩, .inr ⟨kvs, z, rfl, ek, q⟩, fun a o ea m => h.own i _ e a o (ex a o ea) m⟩
theorem Sep.dK {l : Addr} {G0 : Hp} {kvs : List (Key × V)} (nR : l ≠ Γ.R) (nl : G0 l = none) (q : RpAll Γ G0 (kvs.map (·.2)) ds) : Sep Γ (upd G0 l (.dK kvs)) (.ref l) (.dct false (kvs.map fun kv => keyD kv.1) ds) :=
  ⟨fun _ z => (by cases z), fun _ _ _ z => (by cases z; exact ⟨l, G0, rfl, nR, nl, .inl ⟨kvs, rfl, rfl, rfl, q⟩⟩)⟩
theorem Sep.dT {l : Addr} {G0 : Hp} {kvs : List (List Key × V)} (nR : l ≠ Γ.R) (nl : G0 l = none) (q : RpAll Γ G0 (kvs.map (·.2)) ds) : Sep Γ (upd G0 l (.dT kvs)) (.ref l) (.dct true (kvs.map fun kv => D.tup (kv.1.map keyD)) ds) :=
  ⟨fun _ z => (by cases z), fun _ _ _ z => (by cases z; exact ⟨l, G0, rfl, nR, nl, .inr ⟨kvs, rfl, rfl, rfl, q⟩⟩)⟩
/-- x[k] = e -/
def sDPut' (i : Nat) (ck cv : CE) : CS := fun δ ρ => match cv δ ρ with
  | .ok d true ρ1 => match δ[i]? with
    | some (some (true, .dct t ks vs)) => match ck δ ρ1 with
      | .ok kd _ ρ2 => match anyKey t kd with
        | some k => if vs.length < 100000 then .nx (δ.set i (some (true, .dct t (putD t ks vs kd k d).1 (putD t ks vs kd k d).2))) ρ2 else .no
        | none => .no
      | .er k ρ2 => .er k ρ2
      | .no => .no
    | _ => .no
  | .er k ρ1 => .er k ρ1
  | _ => .no
theorem RpAll.len_map {κ : Type} {kvs : List (κ × V)} (r : RpAll Γ H (kvs.map (·.2)) ds) : kvs.length = ds.length := by
  rw [← r.length, List.length_map]
theorem cs_dput {i : Nat} {x : Str} {px py : Pos} {k : Expr} {ck : CE} (hu : X.A.units + 1 < cLine) (hN : X.N[i]? = some x) (hv : Vis X.env.scope x) (hk : PE X k (T Γ E ck)) (he : PE X e (T Γ E ca)) (hd : (x == ("__debug__" : Str)) = false := by decide) (hcd : (x == ("__classdict__" : Str)) = false := by decide)
    (hs : swapsWith e (some (.Subscript (.Name x px) k py)) pos.line X.env = pure false := by rfl) :
    PS X (.Assign [.Subscript (.Name x px) k py] e pos) (TSt Γ E (sDPut' i ck ca)) :=
  (ps_dput hu (pe_var hN hv hd hcd) hk he hs).imp fun D σ H ⟨B, δ, ρ, G, s, q⟩ => by
    refine ⟨B, δ, ρ, G, s, ?_⟩
    unfold sDPut' at q
    cases hA : ca δ ρ with
    | er k ρ1 => rw [hA] at q; exact fun H' x r => q σ H' (s.base.mono x) r
    | no => rw [hA] at q; exact q.elim
    | ok d fr ρ1 =>
      rw [hA] at q
      cases fr with
      | false => exact q.elim
      | true =>
        intro v H1 x1 r1 l1
        dsimp only at q
        split at q
        · rename_i t ks vs e1
          have s1 := s.nx x1 r1
          obtain ⟨l, G0, o0, eσ, nR, gl, nl, w0, q0, n0⟩ := s1.rootO e1
          have hH1 : H1 l = some o0 := (s1.vw i).2 l _ gl
          refine ⟨_, eσ, B, δ, ρ1, G, s1, ?_⟩
          cases hB : ck δ ρ1 with
          | er k ρ2 => rw [hB] at q; exact fun H' x r => q σ H' (s1.base.mono x) r
          | no => rw [hB] at q; exact q.elim
          | ok kd f2 ρ2 =>
            rw [hB] at q
            intro y H2 x2 r2 l2
            dsimp only at q
            split at q
            · rename_i kk hk
              split at q
              · rename_i hlen
                have s2 := s1.nx x2 r2
                have m0 : Mu o0 = true := by
                  rcases q0 with ⟨_, _, rfl, _⟩ | ⟨_, _, rfl, _⟩ <;> rfl
                have hH2 : H2 l = some o0 := (s2.vw i).2 l _ gl
                have hH : H l = some o0 := (s.vw i).2 l _ gl
                obtain ⟨Ge, w1, q1, n1, _⟩ := l1.fresh rfl
                have gel : Ge l = none := by
                  cases z : Ge l with
                  | none => rfl
                  | some o =>
                    have e2 := w1.2 l o z
                    rw [hH1] at e2
                    cases e2
                    rw [n1 l _ z m0] at hH
                    cases hH
                have w0' := w0.mono x2
                have w1' := w1.mono x2
                have nlU : un G0 Ge l = none := by unfold un; rw [nl]; exact gel
                have nU : ∀ a o, un G0 Ge a = some o → Mu o = true → B a = none ∧ ∀ j, j ≠ i → G j a = none := fun a o ea m => by
                  rcases un_some ea with ea | ea
                  · exact n0 a o ea m
                  · have := n1 a o ea m
                    exact ⟨s.back a this, fun j _ => (s.vw j).2.none this⟩
                have hx := q1.mono (un_r w0'.2 w1'.2).xr
                rcases q0 with ⟨kvs, rfl, rfl, rfl, q0⟩ | ⟨kvs, rfl, rfl, rfl, q0⟩
                · unfold anyKey at hk
                  dsimp only at hk
                  cases ek : keyOf kd with
                  | none => rw [ek] at hk; cases hk
                  | some k0 =>
                    rw [ek] at hk
                    cases hk
                    cases keyOf_eq ek
                    cases rp_key l2.rp
                    obtain ⟨p1, p2⟩ := put_tab (mk := keyD) (inj := Sum.inl) anyKey_F inl_inj k0 hx (q0.mono un_l.xr)
                    have p2' := p2
                    rw [p1] at q
                    have rr : Rp Γ (upd (un G0 Ge) l (.dK (putK kvs k0 v))) (.ref l) _ := .dK nR upd_same (p2.mono (Ex.new nlU).xr)
                    obtain ⟨G', s'⟩ := s2.oset e1 eσ gl m0 nR (un_vw w0' w1') rr (Sep.dK nR nlU p2) nlU nU
                    exact ⟨l, _, rfl, DPut.k hH2 (by rw [q0.len_map]; exact big hlen), q G' σ _ s'⟩
                · unfold anyKey at hk
                  dsimp only at hk
                  split at hk
                  · rename_i xs
                    cases ek : keysOf xs with
                    | none => rw [ek] at hk; cases hk
                    | some k0 =>
                      rw [ek] at hk
                      cases hk
                      cases keysOf_eq ek
                      obtain ⟨b, ws, rfl, hb, rb⟩ := l2.rp.tup_of
                      cases rp_keys rb
                      obtain ⟨p1, p2⟩ := put_tab (mk := fun k : List Key => WF.D.tup (k.map keyD)) (inj := Sum.inr) anyKey_T inr_inj k0 hx (q0.mono un_l.xr)
                      rw [p1] at q
                      have rr : Rp Γ (upd (un G0 Ge) l (.dT (putK kvs k0 v))) (.ref l) _ := .dT nR upd_same (p2.mono (Ex.new nlU).xr)
                      obtain ⟨G', s'⟩ := s2.oset e1 eσ gl m0 nR (un_vw w0' w1') rr (Sep.dT nR nlU p2) nlU nU
                      exact ⟨l, _, rfl, DPut.t hH2 hb (by rw [q0.len_map]; exact big hlen), q G' σ _ s'⟩
                  · cases hk
              · exact q.elim
            · exact q.elim
        · exact q.elim
end
end WF

/-! ## WFL -/
/-! Own layer, part L: new dicts, pairs of names, sorted sets and pairs, texts joined. -/
namespace WF
open PySem PySem.Spec PyProof.Rows L2

section
variable {Γ : Gam} {E : L2.St → XK} {X : Cx} {B B' : Hp} {G : Nat → Hp} {σ : L2.St} {H H1 H2 : Hp} {δ : List Slot} {ρ ρ1 ρ2 : Row} {pos : Pos} {a b e : Expr} {ca cb cc : CE} {c c1 c2 : CS} {ct : CT} {tg : Expr} {v : V} {d : D} {vs : List V} {ds : List D} {Gv : Hp}

/-! ### new dicts -/
theorem Vl.newDict {p : Addr} {t : Bool} (r : RowAt Γ H ρ) (hp : H p = none) : Vl Γ H (upd H p (if t then .dT [] else .dK [])) (.ref p) (.dct t [] []) true := by
  have np : p ≠ Γ.R := by rintro rfl; rw [r.1] at hp; cases hp
  have go : ∀ o : HO, (∀ ps, o ≠ .tbl ps) → Vw Γ (upd noH p o) (upd H p o) := fun o n => noH_vw.both np n
  have nw : ∀ (o : HO) a u, upd noH p o a = some u → Mu u = true → H a = none := fun o a u e _ => by
    by_cases ha : a = p
    · subst ha; exact hp
    · rw [upd_ne ha] at e; cases e
  cases t with
  | false => exact ⟨Rp.dK (kvs := []) np upd_same .nil, fun _ => ⟨upd noH p (.dK []), go _ (by intro _ z; cases z), Rp.dK (kvs := []) np upd_same .nil, nw _, Sep.dK (kvs := []) np rfl .nil⟩⟩
  | true => exact ⟨Rp.dT (kvs := []) np upd_same .nil, fun _ => ⟨upd noH p (.dT []), go _ (by intro _ z; cases z), Rp.dT (kvs := []) np upd_same .nil, nw _, Sep.dT (kvs := []) np rfl .nil⟩⟩
def eDnew (t : Bool) : CE := fun _ ρ => .ok (.dct t [] []) true ρ
theorem c_dnew (t : Bool) : PE X (.Dict [] [] pos) (T Γ E (eDnew t)) := by
  cases t with
  | false =>
    refine pe_dnewK.imp fun σ H Q ⟨B, δ, ρ, G, s, q⟩ => ?_
    intro p hp
    exact q _ _ (Ex.new hp).xr (s.row.ex (Ex.new hp)) (Vl.newDict (t := false) s.row hp)
  | true =>
    refine pe_dnewT.imp fun σ H Q ⟨B, δ, ρ, G, s, q⟩ => ?_
    intro p hp
    exact q _ _ (Ex.new hp).xr (s.row.ex (Ex.new hp)) (Vl.newDict (t := true) s.row hp)
/-- {k: v} -/
def eDone (ck cv : CE) : CE := fun δ ρ => match ck δ ρ with
  | .ok kd _ ρ1 => match keyOf kd with
    | some _ => match cv δ ρ1 with
      | .ok d true ρ2 => .ok (.dct false [kd] [d]) true ρ2
      | .er k ρ2 => .er k ρ2
      | _ => .no
    | none => .no
  | .er k ρ1 => .er k ρ1
  | .no => .no
theorem c_done {k : Expr} {ck cv : CE} (hk : PE X k (T Γ E ck)) (he : PE X e (T Γ E cv)) : PE X (.Dict [some k] [e] pos) (T Γ E (eDone ck cv)) :=
  (pe_disp (pps_cons hk he pps_nil) (by rfl) (by rfl) (fun z => by cases z) (show (1 : Nat) ≤ 15 by decide)).imp fun σ H Q ⟨B, δ, ρ, G, s, q⟩ => by
    intro p hp
    have x0 := (Ex.new (o := .dK []) hp)
    have s0 := s.nx x0.xr (s.row.ex x0)
    refine ⟨B, δ, ρ, G, s0, ?_⟩
    unfold eDone at q
    cases hA : ck δ ρ with
    | er k ρ1 => rw [hA] at q; exact fun H' x r => q H' (x0.xr.trans x) r
    | no => rw [hA] at q; exact q.elim
    | ok kd f1 ρ1 =>
      rw [hA] at q
      dsimp only at q
      intro y H1 x1 r1 l1
      split at q
      · rename_i k0 hk0
        have s1 := s0.nx x1 r1
        refine ⟨B, δ, ρ1, G, s1, ?_⟩
        cases hB : cv δ ρ1 with
        | er k ρ2 => rw [hB] at q; exact fun H' x r => q H' ((x0.xr.trans x1).trans x) r
        | no => rw [hB] at q; exact q.elim
        | ok d fr ρ2 =>
          rw [hB] at q
          cases fr with
          | false => exact q.elim
          | true =>
          intro v H2 x2 r2 l2
          have np : p ≠ Γ.R := by rintro rfl; rw [s.row.1] at hp; cases hp
          have hp2 : H2 p = some (.dK []) := by
            rcases (x1.trans x2) p _ upd_same with z | ⟨z, _⟩ | ⟨_, _, z, _⟩
            · exact z
            · exact absurd z np
            · cases z
          cases keyOf_eq hk0
          cases rp_key l1.rp
          refine ⟨hp2, [(k0, v)], rfl, (show (1 : Nat) ≤ 15 by decide), ?_⟩
          have em : mergeK [] [(k0, v)] = [(k0, v)] := rfl
          rw [em]
          have x3 : Xr Γ H (upd H2 p (.dK [(k0, v)])) := fun a o ea => by
            have na : a ≠ p := by rintro rfl; rw [hp] at ea; cases ea
            rw [upd_ne na]
            exact (x0.xr.trans (x1.trans x2)) a o ea
          have r3 : RowAt Γ (upd H2 p (.dK [(k0, v)])) ρ2 := by
            exact ⟨by rw [upd_ne np.symm]; exact r2.1, x3.sqS s.row.2.2.1 s.row.2.1, r2.2.2.1, Tabs.upd r2.2.2.2 hp2 (by intro _ z; cases z) (by intro _ z; cases z)⟩
          -- the value stands without the dict's own root
          have keep : ∀ {g : Hp}, (∀ a o, g a = some o → H2 a = some o) → g p = none → ∀ a o, g a = some o → upd H2 p (.dK [(k0, v)]) a = some o := fun hg gn a o ea => by
            have na : a ≠ p := by rintro rfl; rw [gn] at ea; cases ea
            rw [upd_ne na]; exact hg a o ea
          have mk : ∀ Ge, Vw Γ Ge H2 → Rp Γ Ge v d → Ge p = none → Rp Γ (upd Ge p (.dK [(k0, v)])) (.ref p) (.dct false [keyD k0] [d]) := fun Ge w rr gn =>
            Rp.dK (kvs := [(k0, v)]) np upd_same (.cons (rr.mono (Ex.new gn).xr) .nil)
          have fresh : true = true → ∃ Ge, Vw Γ Ge H2 ∧ Rp Γ Ge v d ∧ (∀ a o, Ge a = some o → Mu o = true → H a = none) ∧ Ge p = none := fun hf => by
            obtain ⟨Ge, w, rr, n, _⟩ := l2.fresh hf
            refine ⟨Ge, w, rr, fun a o ea m => s.nx x0.xr (s.row.ex x0) |> fun _ => ?_, ?_⟩
            · have h1 := n a o ea m
              have h2 := x1.none r1 h1
              exact Ex.none x0 h2
            · cases z : Ge p with
              | none => rfl
              | some o =>
                have e2 := w.2 p o z
                rw [hp2] at e2
                cases e2
                have h1 := n p _ z rfl
                have h2 := x1.none r1 h1
                rw [upd_same] at h2
                cases h2
          refine q _ _ x3 r3 ⟨?_, fun hf => ?_⟩
          · obtain ⟨Ge, w, rr, n, gn⟩ := fresh rfl
            refine (mk Ge w rr gn).mono (Ex.xr fun a o ea => ?_)
            by_cases ha : a = p
            · subst ha; rw [upd_same] at ea; rw [upd_same]; exact ea
            · rw [upd_ne ha] at ea; exact keep w.2 gn a o ea
          · obtain ⟨Ge, w, rr, n, gn⟩ := fresh hf
            refine ⟨upd Ge p (.dK [(k0, v)]), ⟨⟨by rw [upd_ne np.symm]; exact w.1.1, upd_notb w.1.2 (by intro _ z; cases z)⟩, fun a o ea => ?_⟩, mk Ge w rr gn, fun a o ea m => ?_, Sep.dK (kvs := [(k0, v)]) np gn (.cons rr .nil)⟩
            · by_cases ha : a = p
              · subst ha; rw [upd_same] at ea; rw [upd_same]; exact ea
              · rw [upd_ne ha] at ea; exact keep w.2 gn a o ea
            · by_cases ha : a = p
              · subst ha; exact hp
              · rw [upd_ne ha] at ea; exact n a o ea m
      · exact q.elim
/-! ### a, b = x, y -/
def sPar (i j : Nat) (r : CA) : CS := fun δ ρ => match r δ ρ with
  | .ok [d1, d2] _ ρ1 => .nx (put j d2 (imm d2) (put i d1 (imm d1) δ)) ρ1
  | .er k ρ1 => .er k ρ1
  | _ => .no
theorem cs_par {i j : Nat} {x y : Str} {px py pt : Pos} {kt k2 : Nat} {pt2 : Pos} {r : CA} (hc : X.calm = true) (hN : X.N.Nodup) (hi : X.N[i]? = some x) (hj : X.N[j]? = some y) (hij : i ≠ j)
    (hx : X.env.scope.names.lookup x = some .local) (hy : X.env.scope.names.lookup y = some .local) (ha : PA X [a, b] (TAs Γ E r))
    (hw : swappedStores [.Tuple [.Name x px, .Name y py] kt pt] (.Tuple [a, b] k2 pt2) X.env = pure (some [x, y]))
    (hs : swapsWithSole [.Tuple [.Name x px, .Name y py] kt pt] (.Tuple [a, b] k2 pt2) pos.line X.env = pure false := by rfl) :
    PS X (.Assign [.Tuple [.Name x px, .Name y py] kt pt] (.Tuple [a, b] k2 pt2) pos) (TSt Γ E (sPar i j r)) :=
  (ps_par hc hN hi hj hij hx hy ha hw hs).imp fun D σ H ⟨B, δ, ρ, G, s, q⟩ => by
    refine ⟨B, δ, ρ, G, s, ?_⟩
    unfold sPar at q
    cases hA : r δ ρ with
    | er k ρ1 => rw [hA] at q; exact fun H' x r => q σ H' (s.base.mono x) r
    | no => rw [hA] at q; exact q.elim
    | ok ds fr ρ1 =>
      rw [hA] at q
      intro vs H1 x1 r1 l1
      split at q
      · rename_i d1 d2 f2 ρ2 e2
        cases e2
        obtain ⟨v, w, rfl, h1, h2⟩ := l1.rp.two
        obtain ⟨G1, s1⟩ := (s.nx x1 r1).putI (i := i) h1
        obtain ⟨G2, s2⟩ := s1.putI (i := j) h2
        exact ⟨v, w, rfl, q G2 _ _ s2⟩
      · rename_i e; cases e
      · exact q.elim
/-! ### sorted(set(t)) -/
def insU (x : Int) : List Int → List Int
  | [] => [x]
  | y :: ys => if x < y then x :: y :: ys else if x = y then y :: ys else y :: insU x ys
def sortU : List Int → List Int
  | [] => []
  | x :: xs => insU x (sortU xs)
theorem insU_mem {x z : Int} : ∀ {ys : List Int}, z ∈ insU x ys ↔ z = x ∨ z ∈ ys
  | [] => by rw [insU, List.mem_singleton]; simp
  | y :: ys => by
    rw [insU]
    split
    · rw [List.mem_cons]
    · split
      · rename_i e; subst e; rw [List.mem_cons]; simp
      · rw [List.mem_cons, insU_mem, List.mem_cons]
        constructor
        · rintro (h | h | h)
          · exact .inr (.inl h)
          · exact .inl h
          · exact .inr (.inr h)
        · rintro (h | h | h)
          · exact .inr (.inl h)
          · exact .inl h
          · exact .inr (.inr h)
theorem sortU_mem {z : Int} : ∀ {xs : List Int}, z ∈ sortU xs ↔ z ∈ xs
  | [] => Iff.rfl
  | x :: xs => by rw [sortU, insU_mem, sortU_mem, List.mem_cons]
theorem insU_sorted (x : Int) : ∀ {ys : List Int}, ys.Pairwise (· < ·) → (insU x ys).Pairwise (· < ·)
  | [], _ => List.pairwise_singleton _ _
  | y :: ys, h => by
    obtain ⟨h1, h2⟩ := List.pairwise_cons.mp h
    rw [insU]
    split
    · rename_i e
      refine List.pairwise_cons.mpr ⟨fun z hz => ?_, h⟩
      rcases List.mem_cons.mp hz with rfl | hz
      · exact e
      · exact Int.lt_trans e (h1 z hz)
    · split
      · exact h
      · refine List.pairwise_cons.mpr ⟨fun z hz => ?_, insU_sorted x h2⟩
        rcases insU_mem.mp hz with rfl | hz
        · omega
        · exact h1 z hz
theorem sortU_sorted : ∀ xs, (sortU xs).Pairwise (· < ·)
  | [] => .nil
  | x :: xs => insU_sorted x (sortU_sorted xs)
theorem strict_uniq : ∀ {xs ys : List Int}, xs.Pairwise (· < ·) → ys.Pairwise (· < ·) → (∀ z, z ∈ xs ↔ z ∈ ys) → xs = ys
  | [], [], _, _, _ => rfl
  | [], y :: ys, _, _, h => by cases (h y).mpr List.mem_cons_self
  | x :: xs, [], _, _, h => by cases (h x).mp List.mem_cons_self
  | x :: xs, y :: ys, h1, h2, h => by
    obtain ⟨a1, a2⟩ := List.pairwise_cons.mp h1
    obtain ⟨b1, b2⟩ := List.pairwise_cons.mp h2
    have e : x = y := by
      rcases List.mem_cons.mp ((h x).mp List.mem_cons_self) with e | hx
      · exact e
      · rcases List.mem_cons.mp ((h y).mpr List.mem_cons_self) with e | hy
        · exact e.symm
        · have := a1 y hy; have := b1 x hx; omega
    subst e
    rw [strict_uniq a2 b2 fun z => ?_]
    constructor
    · intro hz
      rcases List.mem_cons.mp ((h z).mp (List.mem_cons_of_mem _ hz)) with e | w
      · subst e; have := a1 z hz; omega
      · exact w
    · intro hz
      rcases List.mem_cons.mp ((h z).mpr (List.mem_cons_of_mem _ hz)) with e | w
      · subst e; have := b1 z hz; omega
      · exact w
/-- set(t), t a tuple of ints -/
def rSetTI (K : PySem.W.Frag) (w : World) : List V → Hp → VK → Prop := fun xs H Q => ∃ (l : Addr) (ns : List Int), xs = [V.ref l] ∧ SqT K H l (ns.map V.int) ∧ ns.length < 64 ∧
  ∀ p c, H p = none → c ≤ ns.length → Q (.ref p) (upd H p (SetO w p (fun j => decide (j ∈ ns)) c))
theorem cr_setTI (hc : X.calm = true) : CallR X (.type "set") (rSetTI X.K X.w) := by
  intro pins s σ H xs us Q I r h
  obtain ⟨l, ns, rfl, hl, hf, q⟩ := h
  rw [Vals.ref1 r]
  obtain ⟨its, rv, pt, hz⟩ := I.tuple hl
  have hn : H s.heap.objs.size = none := I.hok.fresh (Nat.le_refl _)
  have hi : IntsAre its.toArray.toList ns := ints_of_vals rv
  refine call_set_tupI ns (I.ok.hd hc) (show s.heap.IsTuple l its.toArray from pt) hi (by unfold scanBound; omega) fun h' tk c R1 hcn k => ?_
  exact ⟨.ref s.heap.objs.size, upd H s.heap.objs.size (SetO X.w s.heap.objs.size (fun j => decide (j ∈ ns)) c), I.laid (t' := tk) k (Nat.le_refl _) (setO_new R1), rfl, q _ _ hn hcn⟩
def fSortU : OpN := fun as => match as with
  | [.tup xs] => match intsOf xs with
    | some ns => if ns.length < 64 then some (.lst ((sortU ns).map D.int), true) else none
    | none => none
  | _ => none
theorem c_sortSet {p p2 pos2 : Pos} {c : CA} {es : List Expr} (hK : X.K = Γ.K) (hc : X.calm = true) (hg : Gl X "sorted") (hm : X.mg "sorted" = none) (hg2 : Gl X "set") (hm2 : X.mg "set" = none) (ha : PA X (e :: es) (TAs Γ E c)) (hs : starEach (e :: es) X.env = (false, eval e X.env) :: starEach es X.env := by rfl) (hpl : (backTo pos2 (starEach es X.env)).any (·.1) = false := by rfl)
    (nb : starEach [(Expr.Call (.Name "set" p2) (e :: es) [] pos2)] X.env = (false, eval (Expr.Call (.Name "set" p2) (e :: es) [] pos2) X.env) :: starEach [] X.env := by rfl) :
    PE X (.Call (.Name "sorted" p) [.Call (.Name "set" p2) (e :: es) [] pos2] [] pos) (T Γ E (eCall fSortU c)) :=
  (pe_callB (cr_sortedSet hc) hg hm (by rfl) (pa_cons (pe_callTy (cr_setTI hc) hg2 hm2 (by rfl) ha (by decide) (by decide) hs hpl) pa_nil nb) (by decide) (by decide) nb (by rfl)).imp fun σ H Q ⟨B, δ, ρ, G, s, q⟩ => by
    refine ⟨B, δ, ρ, G, s, ?_⟩
    unfold eCall at q
    cases hA : c δ ρ with
    | er k ρ1 => rw [hA] at q; exact q
    | no => rw [hA] at q; exact q.elim
    | ok ds fr ρ1 =>
      rw [hA] at q
      dsimp only at q
      intro vs H1 x1 r1 l1
      cases hF : fSortU ds with
      | none => rw [hF] at q; exact q.elim
      | some pr =>
        rw [hF] at q
        unfold fSortU at hF
        split at hF
        · split at hF
          · rename_i xs ns hns
            split at hF
            · rename_i hlen
              cases hF
              obtain ⟨v, rfl, rv⟩ := l1.rp.one
              obtain ⟨l, us, rfl, hl, ru⟩ := rv.tup_of
              rw [intsOf_eq hns] at ru
              refine ⟨l, ns, rfl, by rw [hK, ← ru.ints]; exact SqT.of hl, hlen, fun p c hp hcn => ?_⟩
              have x2 := Ex.new (o := SetO X.w p (fun j => decide (j ∈ ns)) c) hp
              refine ⟨p, _, c, rfl, upd_same, (by omega), fun ns' t so mem le ht => ?_⟩
              have e1 : ns' = sortU ns := strict_uniq so (sortU_sorted ns) fun z => by rw [mem z, decide_eq_true_eq, sortU_mem]
              subst e1
              have x3 := x2.trans (Ex.new (o := .lst ((sortU ns).map V.int)) ht)
              have hpn : ∀ a, upd H1 p (SetO X.w p (fun j => decide (j ∈ ns)) c) a = none → H a = none := fun a ea => x1.none r1 (Ex.none x2 ea)
              exact q _ _ (x1.trans x3.xr) (r1.ex x3) (Vl.list (r1.ex x2) (VlA.of_imm (r1.ex x2) (RpAll.of_ints _) (immAll_ints _)) ht hpn)
            · cases hF
          · cases hF
        · cases hF
end
end WF

/-! ## WFM -/
/-! Own layer, part M: sorted pairs, texts joined, texts repeated, constants of the module. -/
namespace WF
open PySem PySem.Spec PyProof.Rows L2

section
variable {Γ : Gam} {E : L2.St → XK} {X : Cx} {B B' : Hp} {G : Nat → Hp} {σ : L2.St} {H H1 H2 : Hp} {δ : List Slot} {ρ ρ1 ρ2 : Row} {pos : Pos} {a b e : Expr} {ca cb cc : CE} {c c1 c2 : CS} {ct : CT} {tg : Expr} {v : V} {d : D} {vs : List V} {ds : List D} {Gv : Hp}

/-! ### sorted(pairs) -/
def prD (p : Int × Int) : D := .tup [.int p.1, .int p.2]
def prOf : D → Option (Int × Int)
  | .tup [.int i, .int j] => some (i, j)
  | _ => none
def prsOf : List D → Option (List (Int × Int))
  | [] => some []
  | d :: r => match prOf d, prsOf r with
    | some p, some ps => some (p :: ps)
    | _, _ => none
theorem prOf_eq {p : Int × Int} (h : prOf d = some p) : d = prD p := by
  unfold prOf at h
  split at h
  · cases h; rfl
  · cases h
theorem prsOf_eq : ∀ {ds : List D} {ps : List (Int × Int)}, prsOf ds = some ps → ds = ps.map prD
  | [], _, h => by cases h; rfl
  | d :: r, ps, h => by
    unfold prsOf at h
    split at h
    · rename_i p ps' e1 e2
      cases h
      rw [List.map_cons, ← prOf_eq e1, ← prsOf_eq e2]
    · cases h
@[simp] theorem prsOf_map : ∀ (ps : List (Int × Int)), prsOf (ps.map prD) = some ps
  | [] => rfl
  | p :: ps => by rw [List.map_cons, prsOf, prsOf_map ps]; rfl
abbrev leP (p q : Int × Int) : Prop := p.1 < q.1 ∨ (p.1 = q.1 ∧ p.2 ≤ q.2)
def insP (x : Int × Int) : List (Int × Int) → List (Int × Int)
  | [] => [x]
  | y :: ys => if leP x y then x :: y :: ys else y :: insP x ys
def sortP : List (Int × Int) → List (Int × Int)
  | [] => []
  | x :: xs => insP x (sortP xs)
theorem insP_perm (x : Int × Int) : ∀ ys, (insP x ys).Perm (x :: ys)
  | [] => .refl _
  | y :: ys => by
    rw [insP]
    split
    · exact .refl _
    · exact ((insP_perm x ys).cons y).trans (.swap x y ys)
theorem sortP_perm : ∀ xs, (sortP xs).Perm xs
  | [] => .refl _
  | x :: xs => (insP_perm x _).trans ((sortP_perm xs).cons x)
theorem insP_sorted (x : Int × Int) : ∀ {ys : List (Int × Int)}, ys.Pairwise leP → (insP x ys).Pairwise leP
  | [], _ => List.pairwise_singleton _ _
  | y :: ys, h => by
    obtain ⟨h1, h2⟩ := List.pairwise_cons.mp h
    rw [insP]
    split
    · rename_i e
      refine List.pairwise_cons.mpr ⟨fun z hz => ?_, h⟩
      rcases List.mem_cons.mp hz with rfl | hz
      · exact e
      · have := h1 z hz; unfold leP at *; omega
    · rename_i e
      refine List.pairwise_cons.mpr ⟨fun z hz => ?_, insP_sorted x h2⟩
      rcases List.mem_cons.mp ((insP_perm x ys).mem_iff.mp hz) with rfl | hz
      · unfold leP at *; omega
      · exact h1 z hz
theorem sortP_sorted : ∀ xs, (sortP xs).Pairwise leP
  | [] => .nil
  | x :: xs => insP_sorted x (sortP_sorted xs)
theorem sortedP_uniq : ∀ {xs ys : List (Int × Int)}, xs.Perm ys → xs.Pairwise leP → ys.Pairwise leP → xs = ys
  | [], ys, p, _, _ => (p.nil_eq).symm ▸ rfl
  | x :: xs, [], p, _, _ => by have := p.length_eq; simp at this
  | x :: xs, y :: ys, p, h1, h2 => by
    obtain ⟨a1, a2⟩ := List.pairwise_cons.mp h1
    obtain ⟨b1, b2⟩ := List.pairwise_cons.mp h2
    have e : x = y := by
      have hx : x ∈ y :: ys := p.mem_iff.mp List.mem_cons_self
      have hy : y ∈ x :: xs := p.mem_iff.mpr List.mem_cons_self
      rcases List.mem_cons.mp hx with e | hx
      · exact e
      · rcases List.mem_cons.mp hy with e | hy
        · exact e.symm
        · have h1 := a1 y hy; have h2 := b1 x hx; unfold leP at h1 h2; exact Prod.ext (by omega) (by omega)
    subst e
    rw [sortedP_uniq (List.Perm.cons_inv p) a2 b2]
/-- which pair a value is -/
def kOf (H : Hp) (v : V) : Int × Int := match v with
  | .ref a => match H a with
    | some (.tup [.int i, .int j]) => (i, j)
    | _ => (0, 0)
  | _ => (0, 0)
theorem kOf_pr {p : Int × Int} (h : Rp Γ H v (prD p)) : (∃ t, v = .ref t ∧ H t = some (.tup [.int p.1, .int p.2])) ∧ kOf H v = p := by
  obtain ⟨t, xs, rfl, h1, h2⟩ := h.tup_of
  obtain ⟨x, y, rfl, hx, hy⟩ := h2.two
  cases hx.int_of
  cases hy.int_of
  refine ⟨⟨t, rfl, h1⟩, ?_⟩
  unfold kOf
  dsimp only
  rw [h1]
theorem kOf_all : ∀ {vs : List V} {ps : List (Int × Int)}, RpAll Γ H vs (ps.map prD) → vs.map (kOf H) = ps
  | _, [], h => by cases h; rfl
  | _, p :: ps, h => by
    rw [List.map_cons] at h
    cases h with
    | cons h q => rw [List.map_cons, (kOf_pr h).2, kOf_all q]
theorem kOf_mem {ps : List (Int × Int)} (r : RpAll Γ H vs (ps.map prD)) : ∀ x ∈ vs, Rp Γ H x (prD (kOf H x)) := fun x hx => by
  obtain ⟨i, hi, e⟩ := List.getElem_of_mem hx
  obtain ⟨d, hd, rr⟩ := r.getV (i := i) (v := x) (by rw [← e]; exact List.getElem?_eq_getElem hi)
  rw [List.getElem?_map] at hd
  cases ep : ps[i]? with
  | none => rw [ep] at hd; cases hd
  | some p =>
    rw [ep] at hd
    cases hd
    rw [(kOf_pr rr).2]
    exact rr
theorem rp_of_k : ∀ {vs : List V}, (∀ x ∈ vs, Rp Γ H x (prD (kOf H x))) → RpAll Γ H vs ((vs.map (kOf H)).map prD)
  | [], _ => .nil
  | x :: vs, h => .cons (h x List.mem_cons_self) (rp_of_k fun y hy => h y (List.mem_cons_of_mem _ hy))
theorem immAll_prs (ps : List (Int × Int)) : immAll (ps.map prD) = true := by
  rw [immAll_eq, List.all_map]
  exact List.all_eq_true.mpr fun _ _ => rfl
def fSortP : OpN := fun as => match as with
  | [.lst xs] => match prsOf xs with
    | some ps => some (.lst ((sortP ps).map prD), true)
    | none => none
  | _ => none
theorem oSortP (hK : X.K = Γ.K) : ∃ r, CallR X (.builtin "sorted") r ∧ CaS Γ r fSortP := ⟨_, cr_sortedPO, by
  rw [hK]
  intro H xs as d fr ρ Q row r e q
  unfold fSortP at e
  split at e
  · split at e
    · rename_i ps hb
      cases e
      obtain ⟨v, rfl, rv⟩ := r.one
      obtain ⟨a, ys, rfl, h, ry, _⟩ := rv.lst_of
      rw [prsOf_eq hb] at ry
      refine ⟨a, ys, kOf H, rfl, SqL.of h, fun x hx => ?_, fun zs p so st hp => ?_⟩
      · have := kOf_mem ry x hx
        exact (kOf_pr this).1
      · have hz : ∀ z ∈ zs, Rp Γ H z (prD (kOf H z)) := fun z hz => kOf_mem ry z (st.perm.mem_iff.mp hz)
        have rz := rp_of_k hz
        have pm : (zs.map (kOf H)).Perm ps := by
          have := st.perm.map (kOf H)
          rw [kOf_all ry] at this
          exact this
        have so2 : (zs.map (kOf H)).Pairwise leP := by
          rw [List.pairwise_map]
          refine so.imp fun h => ?_
          have := SrtO.lexB_no.mp h
          unfold leP
          omega
        have e1 := sortedP_uniq (pm.trans (sortP_perm ps).symm) so2 (sortP_sorted ps)
        rw [e1] at rz
        exact q _ _ (Ex.new hp) (Vl.list row (VlA.of_imm row rz (immAll_prs _)) hp fun _ h => h)
    · cases e
  · cases e⟩

/-! ### "".join(xs) -/
def strsOf : List D → Option (List Str)
  | [] => some []
  | d :: r => match d, strsOf r with
    | .str s, some ss => some (s :: ss)
    | _, _ => none
theorem strsOf_eq : ∀ {ds : List D} {ss : List Str}, strsOf ds = some ss → ds = ss.map D.str
  | [], _, h => by cases h; rfl
  | d :: r, ss, h => by
    unfold strsOf at h
    split at h
    · rename_i s ss' e2
      cases h
      rw [List.map_cons, ← strsOf_eq e2]
    · cases h
@[simp] theorem strsOf_map : ∀ (ss : List Str), strsOf (ss.map D.str) = some ss
  | [] => rfl
  | s :: ss => by rw [List.map_cons]; unfold strsOf; rw [strsOf_map ss]
def fJoin : Op2 := fun a b => match a, b with
  | .str x, .lst ds => match strsOf ds with
    | some ss => if (ss.map (·.length)).sum + ss.length * x.length ≤ 100000 then some (.str (Txt.join x ss), true) else none
    | none => none
  | _, _ => none
theorem fJoin_of {x : Str} {b : D} {p : D × Bool} (h : fJoin (.str x) b = some p) : ∃ ss : List Str, b = .lst (ss.map D.str) ∧ (ss.map (·.length)).sum + ss.length * x.length ≤ 100000 ∧ p = (.str (Txt.join x ss), true) := by
  cases b with
  | lst ds =>
    unfold fJoin at h
    dsimp only at h
    cases e : strsOf ds with
    | none => rw [e] at h; cases h
    | some ss =>
      rw [e] at h
      dsimp only at h
      split at h
      · rename_i hl
        cases h
        exact ⟨ss, by rw [strsOf_eq e], hl, rfl⟩
      · cases h
  | _ => cases h
def eJoin (ca cb : CE) : CE := fun δ ρ => match ca δ ρ with
  | .ok (.str x) _ ρ1 => match cb δ ρ1 with
    | .ok b _ ρ2 => match fJoin (.str x) b with
      | some (d, fr) => .ok d fr ρ2
      | none => .no
    | .er k ρ2 => .er k ρ2
    | .no => .no
  | .er k ρ1 => .er k ρ1
  | _ => .no
theorem c_join {apos : Pos} (hK : X.K = Γ.K) (ha : PE X a (T Γ E ca)) (he : PE X e (T Γ E cb)) (hs : starEach [e] X.env = [(false, eval e X.env)] := by rfl) (hbase : attributeBase a "join" X.env (eval a X.env) = eval a X.env := by rfl) (hline : (apos.endLine == pos.line) = true := by rfl) :
    PE X (.Call (.Attribute a "join" apos) [e] [] pos) (T Γ E (eJoin ca cb)) :=
  (pe_join ha he hs hbase hline).imp fun σ H Q ⟨B, δ, ρ, G, s, q⟩ => by
    refine ⟨B, δ, ρ, G, s, ?_⟩
    unfold eJoin at q
    cases hA : ca δ ρ with
    | er k ρ1 => rw [hA] at q; exact q
    | no => rw [hA] at q; exact q.elim
    | ok d f1 ρ1 =>
      rw [hA] at q
      intro x H1 x1 r1 l1
      have s1 := s.nx x1 r1
      split at q
      · rename_i xx f2 ρ2 e2
        cases e2
        cases l1.rp.str_of
        refine ⟨⟨_, rfl⟩, B, δ, ρ1, G, s1, ?_⟩
        cases hB : cb δ ρ1 with
        | no => rw [hB] at q; exact q.elim
        | er k ρ2 => rw [hB] at q; exact fun H' x r => q H' (x1.trans x) r
        | ok d2 f2 ρ2 =>
          rw [hB] at q
          dsimp only at q
          intro y H2 x2 r2 l2
          cases hF : fJoin (.str xx) d2 with
          | none => rw [hF] at q; exact q.elim
          | some pr =>
            rw [hF] at q
            obtain ⟨ss, rfl, hlen, rfl⟩ := fJoin_of hF
            obtain ⟨l, us, rfl, hl, ru, _⟩ := l2.rp.lst_of
            refine ⟨xx, l, ss, rfl, rfl, .inl (by rw [hK, ← ru.strs]; exact SqL.of hl), Nat.le_trans hlen (show (100000 : Nat) ≤ 16777216 by decide), ?_⟩
            exact q _ _ (x1.trans x2) r2 (Vl.of_imm r2 (.str _) rfl)
      · rename_i e; cases e
      · exact q.elim
/-! ### "0" * k -/
def fMulS : Op2 := fun a b => match a, b with
  | .str x, .int k => if x.length = 1 ∧ 2 ≤ k ∧ k ≤ 1000 then some (.str ⟨(List.replicate k.toNat x.cps).foldl (· ++ ·) #[]⟩, true) else none
  | _, _ => none
def rMulS : R2 := fun x y H Q => ∃ (z : Str) (k : Int), x = .str z ∧ y = .int k ∧ z.length = 1 ∧ 2 ≤ k ∧ k ≤ 1000 ∧ Q (.str ⟨(List.replicate k.toNat z.cps).foldl (· ++ ·) #[]⟩) H
theorem fold_size {α : Type} (xs : Array α) : ∀ (n : Nat) (acc : Array α), ((List.replicate n xs).foldl (· ++ ·) acc).size = acc.size + n * xs.size
  | 0, acc => by rw [List.replicate_zero, List.foldl_nil, Nat.zero_mul, Nat.add_zero]
  | n + 1, acc => by rw [List.replicate_succ, List.foldl_cons, fold_size xs n, Array.size_append, Nat.succ_mul]; omega
theorem op_mulS : OpR X (binaryOp .Mult) rMulS := by
  intro pins s σ H x y v u Q I rx ry h
  obtain ⟨z, k, rfl, rfl, hz, h1, h2, q⟩ := h
  obtain ⟨t, rfl⟩ := rx
  obtain ⟨t', rfl⟩ := ry
  have n1 : ¬ k < 1 := by omega
  have n2 : ((k == 1) || (z.length == 0)) = false := by rw [hz]; simp; omega
  have hsz : z.length * k.toNat ≤ 1000 := by rw [hz]; omega
  refine PySem.P.mul_str ?_ (fun _ _ => ?_) (fun _ _ => ?_) ?_
  · have a1 : ¬ k < -(2 ^ 63 : Int) := by omega
    have a2 : ¬ k ≥ 2 ^ 63 := by omega
    rw [decide_eq_false a1, decide_eq_false a2]; rfl
  · rw [hz]
    have : (1 : Int) ≤ (2 ^ 63 - 1) / k := (Int.le_ediv_iff_mul_le (by omega)).mpr (by omega)
    omega
  · unfold Builtin.Str.tooLong
    rw [decide_eq_false]
    have := small (n := z.length * k.toNat) hsz
    omega
  · rw [if_neg n1, if_neg (by rw [n2]; decide)]
    refine ⟨?_, .str ⟨(List.replicate k.toNat z.cps).foldl (· ++ ·) #[]⟩, H, I.tok _, ⟨_, rfl⟩, q⟩
    show ((List.replicate k.toNat z.cps).foldl (· ++ ·) #[]).size ≤ sizeLine
    rw [fold_size]
    have hz' : z.cps.size = 1 := hz
    rw [hz']
    exact small (n := (#[] : Array _).size + k.toNat * 1) (by show 0 + k.toNat * 1 ≤ 1000; omega)
theorem oMulS : OpS Γ rMulS fMulS := fun H x y a b d fr ρ Q row ra rb e q => by
  unfold fMulS at e
  split at e
  · split at e
    · rename_i z k hl
      cases e
      exact ⟨z, k, ra.str_of, rb.int_of, hl.1, hl.2.1, hl.2.2, q _ _ (Ex.refl H) (Vl.of_imm row (.str _) rfl)⟩
    · cases e
  · cases e
end
end WF

/-! ## WFN -/
/-! Own layer, part N: an object is made (class C, __init__ of guards and fields). -/
namespace WF
open PySem PySem.Spec PyProof.Rows L2

section
variable {Γ : Gam} {E : L2.St → XK} {X : Cx} {B B' : Hp} {G : Nat → Hp} {σ : L2.St} {H H1 H2 : Hp} {δ : List Slot} {ρ ρ1 ρ2 : Row} {pos : Pos} {a b e : Expr} {ca cb cc : CE} {c c1 c2 : CS} {ct : CT} {tg : Expr} {v : V} {d : D} {vs : List V} {ds : List D} {Gv : Hp}

/-- the heap without the object that is made, and without the row -/
def offX (Γ : Gam) (x : Addr) (H : Hp) : Hp := fun a => if a = Γ.R ∨ a = x then none else H a
theorem offX_of {x a : Addr} (n : a ≠ Γ.R) (m : a ≠ x) : offX Γ x H a = H a := if_neg (by rintro (z | z); exact n z; exact m z)
theorem offX_some {x a : Addr} {o : HO} (e : offX Γ x H a = some o) : a ≠ Γ.R ∧ a ≠ x ∧ H a = some o := by
  unfold offX at e
  split at e
  · cases e
  · rename_i h
    exact ⟨fun z => h (.inl z), fun z => h (.inr z), e⟩
theorem offX_bw {x : Addr} : Bw Γ (offX Γ x H) H := ⟨if_pos (Or.inl rfl), fun a o e => .inl (offX_some e).2.2⟩
theorem offXT_vw {x : Addr} : Vw Γ (offT Γ (offX Γ x H)) H := ⟨offT_vw.1, fun a o e => (offX_some (offT_some e).1).2.2⟩
theorem offXT_q {x : Addr} : Xq Γ (offX Γ x H) (offT Γ (offX Γ x H)) := fun a o e => by
  by_cases ht : ∃ ps, o = .tbl ps
  · exact .inr (.inr ht)
  · exact .inl (offT_of e (offX_some e).1 fun ps z => ht ⟨ps, z⟩)
/-- an object under way: not yet all its fields -/
structure Way (Γ : Gam) (H : Hp) (C x dx : Addr) (fs : List (Str × V)) : Prop where
  at_ : H x = some (.ins C dx fs)
  nf : ∀ c', Γ.cls c' = C → fs.map (·.1) ≠ Γ.fld c'
theorem Rp.sqT_off {C x dx : Addr} {fs : List (Str × V)} (r : RowAt Γ H ρ) (w : Way Γ H C x dx fs) {a : Addr} {o : HO} (h : H a = some o) (h1 : ∀ xs, o ≠ .lst xs) (h2 : ∀ C' d' fs', o ≠ .ins C' d' fs') : offX Γ x H a = some o := by
  have n1 : a ≠ Γ.R := row_ne r h h1
  have n2 : a ≠ x := by rintro rfl; rw [w.at_] at h; cases h; exact h2 _ _ _ rfl
  rw [offX_of n1 n2]; exact h
mutual
theorem Rp.off {C x dx : Addr} {fs : List (Str × V)} (r : RowAt Γ H ρ) (w : Way Γ H C x dx fs) : ∀ {v d}, Rp Γ H v d → Rp Γ (offX Γ x H) v d
  | _, _, .non => .non
  | _, _, .bl b => .bl b
  | _, _, .int i => .int i
  | _, _, .str s => .str s
  | _, _, .ty n => .ty n
  | _, _, .row => .row
  | _, _, .scr => .scr
  | _, _, .ptr a => .ptr a
  | _, _, .lam h1 h2 h3 => .lam (Rp.sqT_off r w h1 (fun _ z => by cases z) (fun _ _ _ z => by cases z)) (Rp.sqT_off r w h2 (fun _ z => by cases z) (fun _ _ _ z => by cases z)) (fun d => Rp.sqT_off r w (h3 d) (fun _ z => by cases z) (fun _ _ _ z => by cases z))
  | _, _, .cls c => .cls c
  | _, _, .dK n h q => .dK n (Rp.sqT_off r w h (fun _ z => by cases z) (fun _ _ _ z => by cases z)) (RpAll.off r w q)
  | _, _, .dT n h q => .dT n (Rp.sqT_off r w h (fun _ z => by cases z) (fun _ _ _ z => by cases z)) (RpAll.off r w q)
  | _, _, .tup h q => .tup (Rp.sqT_off r w h (fun _ z => by cases z) (fun _ _ _ z => by cases z)) (RpAll.off r w q)
  | _, _, .ktup h q => .ktup h (RpAll.off r w q)
  | _, _, .lst n h q => .lst n (by
      rw [offX_of n (by rintro rfl; rw [w.at_] at h; cases h)]; exact h) (RpAll.off r w q)
  | _, _, .ins h f q => .ins (by
      have n1 : _ ≠ Γ.R := row_ne r h fun _ z => by cases z
      rw [offX_of n1 (by rintro rfl; rw [w.at_] at h; cases h; exact w.nf _ rfl f)]; exact h) f (RpAll.off r w q)
theorem RpAll.off {C x dx : Addr} {fs : List (Str × V)} (r : RowAt Γ H ρ) (w : Way Γ H C x dx fs) : ∀ {vs ds}, RpAll Γ H vs ds → RpAll Γ (offX Γ x H) vs ds
  | _, _, .nil => .nil
  | _, _, .cons h q => .cons (Rp.off r w h) (RpAll.off r w q)
end
/-- all is kept, but the row's list and the object that is made -/
def XrX (Γ : Gam) (x : Addr) (H H' : Hp) : Prop := ∀ a o, H a = some o → a = x ∨ H' a = some o ∨ (a = Γ.R ∧ ∃ xs, o = .lst xs) ∨ ∃ ps ps', o = .tbl ps ∧ H' a = some (.tbl ps')
theorem XrX.refl {x : Addr} : XrX Γ x H H := fun _ _ h => .inr (.inl h)
theorem Xr.toX {x : Addr} (h : Xr Γ H H1) : XrX Γ x H H1 := fun a o e => .inr (h a o e)
theorem XrX.trans {x : Addr} (p : XrX Γ x H H1) (q : XrX Γ x H1 H2) : XrX Γ x H H2 := fun a o e => by
  rcases p a o e with z | z | z | ⟨ps, ps', rfl, z⟩
  · exact .inl z
  · exact q a o z
  · exact .inr (.inr (.inl z))
  · rcases q a _ z with y | y | ⟨_, _, y⟩ | ⟨p1, p2, y, w⟩
    · exact .inl y
    · exact .inr (.inr (.inr ⟨_, _, rfl, y⟩))
    · cases y
    · exact .inr (.inr (.inr ⟨_, _, rfl, w⟩))
theorem XrX.upd {x : Addr} {o : HO} : XrX Γ x H (L2.upd H x o) := fun a u e => by
  by_cases ha : a = x
  · exact .inl ha
  · exact .inr (.inl (by rw [upd_ne ha]; exact e))
theorem XrX.off {x : Addr} (p : XrX Γ x H H1) : Xr Γ (offX Γ x H) (offX Γ x H1) := fun a o e => by
  obtain ⟨n1, n2, e⟩ := offX_some e
  rcases p a o e with z | z | ⟨z, _⟩ | ⟨p1, p2, y, w⟩
  · exact absurd z n2
  · exact .inl (by rw [offX_of n1 n2]; exact z)
  · exact absurd z n1
  · exact .inr (.inr ⟨p1, p2, y, by rw [offX_of n1 n2]; exact w⟩)
theorem offX_upd {x : Addr} {o : HO} : offX Γ x (upd H x o) = offX Γ x H := funext fun a => by
  by_cases ha : a = x
  · subst ha; unfold offX; rw [if_pos (.inr rfl), if_pos (.inr rfl)]
  · unfold offX; rw [upd_ne ha]
theorem RowAt.setX {x : Addr} {C dx : Addr} {fs fs' : List (Str × V)} (r : RowAt Γ H ρ) (h : H x = some (.ins C dx fs)) : RowAt Γ (L2.upd H x (.ins C dx fs')) ρ := by
  have n1 : Γ.R ≠ x := by rintro rfl; rw [r.1] at h; cases h
  have n2 : ∀ {xs}, Γ.S = x → H Γ.S = some (.lst xs) → False := fun z w => by rw [z, h] at w; cases w
  refine ⟨by rw [upd_ne n1]; exact r.1, ?_, r.2.2.1, Tabs.upd r.2.2.2 h (by intro _ z; cases z) (by intro _ z; cases z)⟩
  rcases r.2.1 with (z | ⟨o, z⟩) | z
  · exact .inl (.inl (by rw [upd_ne (by rintro rfl; rw [h] at z; cases z)]; exact z))
  · exact .inl (.inr ⟨o, by rw [upd_ne (by rintro rfl; rw [h] at z; cases z)]; exact z⟩)
  · exact .inr z

inductive Stp where
  | grd (t : CT) (k : Nat)
  | fld (f : Str) (c : CE)
inductive RI where
  | ok (fs : List D) (ρ : Row) | er (k : Nat) (ρ : Row) | no
def iniRun (δ : List Slot) : List Stp → List D → Row → RI
  | [], acc, ρ => .ok acc ρ
  | .grd t k :: r, acc, ρ => match t δ ρ with
    | .ok true ρ1 => .er k ρ1
    | .ok false ρ1 => iniRun δ r acc ρ1
    | .er j ρ1 => .er j ρ1
    | .no => .no
  | .fld _ c :: r, acc, ρ => match c δ ρ with
    | .ok d _ ρ1 => iniRun δ r (acc ++ [d]) ρ1
    | .er j ρ1 => .er j ρ1
    | .no => .no
def names : List Stp → List Str
  | [] => []
  | .grd _ _ :: r => names r
  | .fld f _ :: r => f :: names r
/-- the state of an object's __init__ -/
structure IS (Γ : Gam) (C x dx : Addr) (fs : List (Str × V)) (fds : List D) (σ : L2.St) (H : Hp) (δ : List Slot) (ρ : Row) : Prop where
  at_ : H x = some (.ins C dx fs)
  self : σ[0]? = some (some (.ref x))
  d0 : δ[0]? = some none
  len : σ.length = δ.length
  row : RowAt Γ H ρ
  vals : ∀ (i : Nat) (w : Bool) (d : D), δ[i]? = some (some (w, d)) → w = false ∧ ∃ v, σ[i]? = some (some v) ∧ Rp Γ (offX Γ x H) v d
  flds : RpAll Γ (offX Γ x H) (fs.map (·.2)) fds
variable {C x dx : Addr} {fs : List (Str × V)} {fds : List D}
theorem IS.st (s : IS Γ C x dx fs fds σ H δ ρ) : St Γ (offX Γ x H) (fun _ => offT Γ (offX Γ x H)) σ H δ ρ := by
  refine ⟨s.len, offX_bw, ?_, s.row, fun _ => offXT_vw, fun i w d e => (let ⟨v, a, b⟩ := (s.vals i w d e).2; ⟨v, a, b.monoQ offXT_q⟩), fun i d e => Bool.noConfusion (s.vals i _ d e).1, fun i d e => Bool.noConfusion (s.vals i _ d e).1⟩
  rcases s.row.2.1 with (z | ⟨o, z⟩) | z
  · exact .inl (.inl (by rw [offX_of s.row.2.2.1 (by rintro rfl; rw [s.at_] at z; cases z)]; exact z))
  · exact .inl (.inr ⟨o, by rw [offX_of s.row.2.2.1 (by rintro rfl; rw [s.at_] at z; cases z)]; exact z⟩)
  · exact .inr z
theorem IS.nx (s : IS Γ C x dx fs fds σ H δ ρ) (h : Xr Γ H H1) (r : RowAt Γ H1 ρ1) : IS Γ C x dx fs fds σ H1 δ ρ1 := by
  have hx : Xr Γ (offX Γ x H) (offX Γ x H1) := h.toX.off
  refine ⟨?_, s.self, s.d0, s.len, r, fun i w d e => ?_, s.flds.mono hx⟩
  · rcases h _ _ s.at_ with z | ⟨_, _, z⟩ | ⟨_, _, z, _⟩
    · exact z
    · cases z
    · cases z
  · obtain ⟨w1, v, e1, q⟩ := s.vals i w d e
    exact ⟨w1, v, e1, q.mono hx⟩
/-- what an __init__ comes to -/
def PoI' (Γ : Gam) (E : XK) (C x dx : Addr) (names : List Str) (r : RI) (H : Hp) (Q : VK) : Prop := match r with
  | .ok fds ρ1 => ∀ H' fs', XrX Γ x H H' → RowAt Γ H' ρ1 → H' x = some (.ins C dx fs') → fs'.map (·.1) = names → RpAll Γ (offX Γ x H') (fs'.map (·.2)) fds → Q .non H'
  | .er k ρ1 => ∀ H', XrX Γ x H H' → RowAt Γ H' ρ1 → E (.ref (Γ.cls k)) none H'
  | .no => False
theorem PoI'.trans {E1 : XK} {ns : List Str} {r : RI} {Q : VK} (p : XrX Γ x H H1) (h : PoI' Γ E1 C x dx ns r H Q) : PoI' Γ E1 C x dx ns r H1 Q := by
  cases r with
  | ok fds ρ1 => exact fun H' fs' q => h H' fs' (p.trans q)
  | er k ρ1 => exact fun H' q => h H' (p.trans q)
  | no => exact h
def TIni (Γ : Gam) (E1 : XK) (C : Addr) (steps : List Stp) : TS := fun D σ H => ∃ x dx fs fds δ ρ, IS Γ C x dx fs fds σ H δ ρ ∧ (fs.map (·.1) ++ names steps).Nodup ∧ (∀ c', Γ.cls c' = C → fs.map (·.1) ++ names steps = Γ.fld c') ∧
  fs.length + (names steps).length < 1000 ∧ PoI' Γ E1 C x dx (fs.map (·.1) ++ names steps) (iniRun δ steps fds ρ) H (fun _ H' => D.nx σ H')
def sErr (k : Nat) : CS := fun _ ρ => .er k ρ
/-- the body of an __init__ -/
theorem ci_nil {E1 : XK} : PSs X [] (TIni Γ E1 C []) := pss_nil.imp fun D σ H ⟨x, dx, fs, fds, δ, ρ, s, nd, nf, sz, q⟩ =>
  q H fs XrX.refl s.row s.at_ (by rw [names, List.append_nil]) s.flds
theorem ci_grd {E1 : XK} {t : Expr} {s1 : List Stmt} {k : Nat} {rest : List Stmt} {steps : List Stp} (ht : PT X t (TTs Γ (fun _ => E1) ct)) (h1 : PSs X s1 (TSt Γ (fun _ => E1) (sErr k))) (h2 : PSs X rest (TIni Γ E1 C steps)) :
    PSs X (.If t s1 [] pos :: rest) (TIni Γ E1 C (.grd ct k :: steps)) := (pss_cons (ps_if ht h1 pss_nil) h2).imp fun D σ H ⟨x, dx, fs, fds, δ, ρ, s, nd, nf, sz, q⟩ => by
  refine ⟨_, δ, ρ, _, s.st, ?_⟩
  rw [iniRun] at q
  cases hA : ct δ ρ with
  | er j ρ1 => rw [hA] at q; exact fun H' x r => q H' x.toX r
  | no => rw [hA] at q; exact q.elim
  | ok b ρ1 =>
    rw [hA] at q
    intro H1 x1 r1
    have s1' := s.nx x1 r1
    cases b with
    | true =>
      rw [if_pos rfl]
      refine ⟨_, δ, ρ1, _, s1'.st, ?_⟩
      refine fun σ' H' w r => q H' (fun a o e => ?_) r
      by_cases ha : a = x
      · exact .inl ha
      · by_cases hr : a = Γ.R
        · subst hr
          rw [s.row.1] at e
          cases e
          exact .inr (.inr (.inl ⟨rfl, _, rfl⟩))
        · rcases x1 a o e with z | ⟨z, _⟩ | ⟨p1, p2, rfl, z⟩
          · exact .inr (w.2 a o (by rw [offX_of hr ha]; exact z))
          · exact absurd z hr
          · rcases w.2 a _ (by rw [offX_of hr ha]; exact z) with y | ⟨y, _⟩ | ⟨p3, p4, y, v⟩
            · exact .inr (.inr (.inr ⟨_, _, rfl, y⟩))
            · exact absurd y hr
            · exact .inr (.inr (.inr ⟨_, _, rfl, v⟩))
    | false =>
      rw [if_neg Bool.false_ne_true]
      exact ⟨x, dx, fs, fds, δ, ρ1, s1', nd, nf, sz, q.trans x1.toX⟩
theorem putF_new {f : Str} : ∀ {fs : List (Str × V)}, f ∉ fs.map (·.1) → putF f v fs = fs ++ [(f, v)]
  | [], _ => rfl
  | p :: fs, h => by
    obtain ⟨g, u⟩ := p
    rw [List.map_cons, List.mem_cons, not_or] at h
    rw [putF, if_neg (fun z => h.1 z.symm), putF_new h.2]
    rfl
theorem ci_fld {E1 : XK} {f x0 : Str} {px py : Pos} {rest : List Stmt} {steps : List Stp} (hK : X.K = Γ.K) (cl : Cls Γ.K C) (na : NoAttr Γ.K C f) (hN : X.N[0]? = some x0) (hv : Vis X.env.scope x0) (he : PE X e (T Γ (fun _ => E1) ca)) (h2 : PSs X rest (TIni Γ E1 C steps))
    (hd : (x0 == ("__debug__" : Str)) = false := by decide) (hcd : (x0 == ("__classdict__" : Str)) = false := by decide) (hs : swapsWith e (some (.Attribute (.Name x0 px) f py)) pos.line X.env = pure false := by rfl) :
    PSs X (.Assign [.Attribute (.Name x0 px) f py] e pos :: rest) (TIni Γ E1 C (.fld f ca :: steps)) := (pss_cons (ps_fld (pe_var hN hv hd hcd) he hs) h2).imp fun D σ H ⟨x, dx, fs, fds, δ, ρ, s, nd, nf, sz, q⟩ => by
  refine ⟨_, δ, ρ, _, s.st, ?_⟩
  rw [iniRun] at q
  cases hA : ca δ ρ with
  | er j ρ1 => rw [hA] at q; exact fun H' x r => q H' x.toX r
  | no => rw [hA] at q; exact q.elim
  | ok d fr ρ1 =>
    rw [hA] at q
    intro v H1 x1 r1 l1
    have s1 := s.nx x1 r1
    rw [names] at nd nf sz q
    have hne : f ∉ fs.map (·.1) := fun z => by
      have := (List.nodup_append.mp nd).2.2 f z f List.mem_cons_self
      exact this rfl
    have w : Way Γ H1 C x dx fs := ⟨s1.at_, fun c' hc z => by
      have := nf c' hc
      rw [← z] at this
      have := congrArg List.length this
      rw [List.length_append, List.length_cons] at this
      omega⟩
    rw [List.length_cons] at sz
    refine ⟨_, s1.self, x, C, dx, fs, rfl, s1.at_, by rw [hK]; exact cl, by rw [hK]; exact na, (by omega), ?_⟩
    rw [putF_new hne]
    refine ⟨x, dx, fs ++ [(f, v)], fds ++ [d], δ, ρ1, ⟨upd_same, s1.self, s1.d0, s1.len, s1.row.setX s1.at_, fun i w' d' e => ?_, ?_⟩, ?_, ?_, ?_, ?_⟩
    · rw [offX_upd]; exact s1.vals i w' d' e
    · rw [offX_upd, List.map_append]
      exact s1.flds.append (.cons (l1.rp.off r1 w) .nil)
    · rw [List.map_append, List.append_assoc]; exact nd
    · rw [List.map_append, List.append_assoc]; exact nf
    · rw [List.length_append]; show fs.length + 1 + _ < _; omega
    · rw [List.map_append, List.append_assoc]
      exact q.trans (x1.toX.trans XrX.upd)
/-! ### C(e, ..) -/
def SpIni (Γ : Gam) (c : Nat) (F : List D → Row → RI) : Sp := fun vs H Q E1 => ∃ x dx us ds ρ, vs = .ref x :: us ∧ H x = some (.ins (Γ.cls c) dx []) ∧ RpAll Γ (offX Γ x H) us ds ∧ RowAt Γ H ρ ∧ PoI' Γ E1 (Γ.cls c) x dx (Γ.fld c) (F ds ρ) H Q
def eMake (c : Nat) (F : List D → Row → RI) (r : CA) : CE := fun δ ρ => match r δ ρ with
  | .ok ds _ ρ1 => match F ds ρ1 with
    | .ok fs ρ2 => .ok (.ins c fs) (immAll fs) ρ2
    | .er k ρ2 => .er k ρ2
    | .no => .no
  | .er k ρ1 => .er k ρ1
  | .no => .no
theorem c_make {CX : CXT} {k c : Nat} {f : Addr} {fd : FuncData} {ps : List Str} {F : List D → Row → RI} {r : CA} {x : Str} {es : List Expr} {p : Pos} {E1 : XK} (M : Mk X.K (Γ.cls c) f) (hF : FnOk X.prog X.w X.K X.mg X.base CX k f fd ps (SpIni Γ c F)) (hr : Room (k + 1) X.A) (hg : Gl X x) (hm : X.mg x = some (.ref (Γ.cls c)))
    (hb : Binds X.K fd ps []) (hx : Passes CX X E1) (ha : PA X (e :: es) (TAs Γ (fun _ => E1) r)) (hdb : (x == ("__debug__" : Str)) = false := by decide) (he : starEach (e :: es) X.env = (false, eval e X.env) :: starEach es X.env := by rfl) (hpl : (backTo pos (starEach es X.env)).any (·.1) = false := by rfl) :
    PE X (.Call (.Name x p) (e :: es) [] pos) (T Γ (fun _ => E1) (eMake c F r)) :=
  (pe_make M hF hr hg hm hb .nil hx ha hdb he hpl).imp fun σ H Q ⟨B, δ, ρ, G, s, q⟩ => by
    refine ⟨B, δ, ρ, G, s, ?_⟩
    unfold eMake at q
    cases hA : r δ ρ with
    | er k ρ1 => rw [hA] at q; exact q
    | no => rw [hA] at q; exact q.elim
    | ok ds fr ρ1 =>
      rw [hA] at q
      dsimp only at q
      intro vs H1 x1 r1 l1 x dx hx1 hdx hne
      have ex : Ex H1 (upd (upd H1 dx (.own x)) x (.ins (Γ.cls c) dx [])) := fun a o e => by
        rw [upd_ne (ne_of_none e hx1), upd_ne (ne_of_none e hdx)]; exact e
      have xo : Xr Γ H1 (offX Γ x (upd (upd H1 dx (.own x)) x (.ins (Γ.cls c) dx []))) := fun a o e => by
        by_cases ha : a = Γ.R
        · subst ha
          rw [r1.1] at e
          cases e
          exact .inr (.inl ⟨rfl, _, rfl⟩)
        · exact .inl (by rw [offX_of ha (ne_of_none e hx1)]; exact ex a o e)
      have back : ∀ {H'}, XrX Γ x (upd (upd H1 dx (.own x)) x (.ins (Γ.cls c) dx [])) H' → Xr Γ H H' := fun h => x1.trans fun a o e => by
        rcases h a o (ex a o e) with z | z
        · exact absurd z (ne_of_none e hx1)
        · exact z
      refine ⟨x, dx, vs ++ [], ds, ρ1, rfl, upd_same, by rw [List.append_nil]; exact l1.rp.mono xo, r1.ex ex, ?_⟩
      cases hF2 : F ds ρ1 with
      | no => rw [hF2] at q; exact q.elim
      | er k ρ2 =>
        rw [hF2] at q
        exact fun H' h r => q H' (back h) r
      | ok fds ρ2 =>
        rw [hF2] at q
        intro H' fs' h r2 hH' hn hv
        refine ⟨rfl, q (.ref x) H' (back h) r2 ?_⟩
        have := Vl.ifimm (H := H) (d := .ins c fds) r2 (Rp.ins hH' hn (hv.mono (Ex.xr fun a o e => (offX_some e).2.2)))
        rw [imm] at this
        exact this
/-- an __init__ keeps its promise -/
theorem ini_ok {P : Program} {w : World} {K : PySem.W.Frag} {mg : Str → Option Value} {base : Heap} {x qual : Str} {st : Stmt} {f : Addr} {fd : FuncData} {N ps : List Str} {k n m c : Nat} {steps : List Stp}
    (F : Fun K x qual st f fd) (S : FnScope N ps (defScope st)) (hn : N.length = n + 1) (hl : ps.length = m + 1) (hmn : m ≤ n)
    (nd : (names steps).Nodup) (nf : ∀ c', Γ.cls c' = Γ.cls c → names steps = Γ.fld c') (sz : (names steps).length < 1000)
    (hb : ∀ (X : Cx) (E1 : XK), X.prog = P → X.w = w → X.K = K → X.mg = mg → X.base = base → X.N = N → X.env.scope = defScope st → X.calm = true → Room k X.A → (∀ x, X.fn x = true) → PassesOwn (model X.prog X.w) X.A X.env X.xe → Takes X (fun cls d _ H => E1 cls d H) → PSs X (defBody st) (TIni Γ E1 (Γ.cls c) steps)) :
    FnOk P w K mg base (L2.CX P w) (k + 1) f fd ps (SpIni Γ c fun ds ρ => if ds.length = m then iniRun (none :: startD n ds) steps [] ρ else .no) := by
  refine F.okX S (fun vs H Q E h => ?_) (fun cdv A outer s H vs Q E hr h => ?_)
  · obtain ⟨x, dx, us, ds, ρ, rfl, hx, r, row, q⟩ := h
    dsimp only at q
    split at q
    · rename_i e
      rw [List.length_cons, r.length, e, hl]
    · exact q.elim
  · obtain ⟨x, dx, us, ds, ρ, rfl, hx, r, row, q⟩ := h
    dsimp only at q
    split at q
    · rename_i e
      refine ⟨_, hb _ E rfl rfl rfl rfl rfl rfl rfl rfl hr (fun _ => rfl) (passes_of rfl) (takes_of rfl rfl rfl rfl), ?_⟩
      have hul : us.length = m := by rw [r.length, e]
      refine ⟨x, dx, [], [], none :: startD n ds, ρ, ⟨hx, ?_, rfl, ?_, row, fun i w' d' ei => ?_, .nil⟩, ?_, ?_, ?_, ?_⟩
      · unfold L2.start
        rfl
      · unfold L2.start startD
        simp only [List.length_append, List.length_map, List.length_replicate, List.length_cons]
        omega
      · cases i with
        | zero => cases ei
        | succ i =>
          rw [List.getElem?_cons_succ] at ei
          obtain ⟨h1, h2⟩ := startD_get ei
          obtain ⟨v, hv, rv⟩ := r.get h2
          refine ⟨h1, v, ?_, rv⟩
          unfold L2.start
          have hi : i < us.length := (List.getElem?_eq_some_iff.mp hv).1
          rw [List.getElem?_append_left (by rw [List.length_map, List.length_cons]; omega), List.getElem?_map, List.getElem?_cons_succ, hv]
          rfl
      · exact nd
      · exact fun c' hc => nf c' hc
      · show 0 + _ < _; omega
      · have := nf c rfl
        show PoI' Γ E (Γ.cls c) x dx (names steps) _ H _
        rw [this]
        exact q
    · exact q.elim
end
end WF

/-! ## WFO -/
/-! Own layer, part O: further operators, stores into lists, constants of the module, own len. -/
namespace WF
open PySem PySem.Spec PyProof.Rows L2

section
variable {Γ : Gam} {E : L2.St → XK} {X : Cx} {B B' : Hp} {G : Nat → Hp} {σ : L2.St} {H H1 H2 : Hp} {δ : List Slot} {ρ ρ1 ρ2 : Row} {pos : Pos} {a b e : Expr} {ca cb cc : CE} {c c1 c2 : CS} {ct : CT} {tg : Expr} {v : V} {d : D} {vs : List V} {ds : List D} {Gv : Hp}

def fNeg : Op1 := fun a => match a with
  | .int i => some (.int (-i), true)
  | _ => none
theorem oNeg : UnS Γ (rU fun i => .int (-i)) fNeg := fun H x a d fr ρ Q row ra e q => by
  unfold fNeg at e
  split at e
  · cases e; exact ⟨_, ra.int_of, q _ H (Ex.refl H) (Vl.of_imm row (.int _) rfl)⟩
  · cases e
theorem c_neg (ha : PE X a (T Γ E ca)) : PE X (.UnaryOp .USub a pos) (T Γ E (eUn fNeg ca)) := c_un un_neg oNeg ha
/-- a product, one of the two small -/
def fMulI : Op2 := fIc (fun i j => (decide (i.natAbs < 18446744073709551616)) || decide (j.natAbs < 18446744073709551616)) fun i j => .int (i * j)
def oMulI : OpS Γ (rI CMul fun i j => .int (i * j)) fMulI := opS_Ic (fun i j h => by
  rw [Bool.or_eq_true, decide_eq_true_eq, decide_eq_true_eq] at h
  have e : (2 : Int) ^ 64 = 18446744073709551616 := by decide
  unfold CMul
  rw [e]
  rcases h with h | h
  · exact .inl (by omega)
  · exact .inr (by omega)) (fun _ _ _ => .int _) fun _ _ => rfl
def fMul : Op2 := orF fMulI (orF fMulT fMulS)
theorem oMul (hK : X.K = Γ.K) : ∃ r, OpR X (binaryOp .Mult) r ∧ OpS Γ r fMul :=
  ⟨_, op_mul.or ((op_repT (X := X)).or op_mulS), by rw [hK]; exact oMulI.or (oMulT.or oMulS)⟩

/-! ### x[i] = e, a list of one's own -/
def sLput (i : Nat) (ck cv : CE) : CS := fun δ ρ => match cv δ ρ with
  | .ok d true ρ1 => match δ[i]? with
    | some (some (true, .lst ds)) => match ck δ ρ1 with
      | .ok (.int k) _ ρ2 => match ixN ds.length k with
        | some j => .nx (δ.set i (some (true, .lst (ds.set j d)))) ρ2
        | none => .no
      | .er k ρ2 => .er k ρ2
      | _ => .no
    | _ => .no
  | .er k ρ1 => .er k ρ1
  | _ => .no
theorem cs_lput {i : Nat} {x : Str} {px py : Pos} {k : Expr} {ck : CE} (hN : X.N[i]? = some x) (hv : Vis X.env.scope x) (hk : PE X k (T Γ E ck)) (he : PE X e (T Γ E ca)) (hd : (x == ("__debug__" : Str)) = false := by decide) (hcd : (x == ("__classdict__" : Str)) = false := by decide)
    (ha : ∀ v, assign (.Subscript (.Name x px) k py) X.env v = (do
      let ov ← holding [v] (eval (.Name x px) X.env)
      let iv ← holding [v, ov] (eval k X.env)
      standAt py
      holding [v, ov, iv] (setItem ov iv v)
      release [v, ov, iv] []) := by intro _; rfl)
    (hs : swapsWithSole [.Subscript (.Name x px) k py] e pos.line X.env = pure false := by rfl) (hw : swappedStores [.Subscript (.Name x px) k py] e X.env = pure none := by rfl)
    (h1 : (assignEach [.Subscript (.Name x px) k py] X.env).map (·.2) = [assign (.Subscript (.Name x px) k py) X.env] := by rfl) :
    PS X (.Assign [.Subscript (.Name x px) k py] e pos) (TSt Γ E (sLput i ck ca)) :=
  (ps_asg he (pg_sub (pe_var hN hv hd hcd) hk set_list ha) hs hw h1).imp fun D σ H ⟨B, δ, ρ, G, s, q⟩ => by
    refine ⟨B, δ, ρ, G, s, ?_⟩
    unfold sLput at q
    cases hA : ca δ ρ with
    | er k ρ1 => rw [hA] at q; exact fun H' x r => q σ H' (s.base.mono x) r
    | no => rw [hA] at q; exact q.elim
    | ok d fr ρ1 =>
      rw [hA] at q
      cases fr with
      | false => exact q.elim
      | true =>
        intro v H1 x1 r1 l1
        dsimp only at q
        split at q
        · rename_i ds e1
          have s1 := s.nx x1 r1
          obtain ⟨l, vs, G0, eσ, nR, gl, nl, w0, q0, n0⟩ := s1.root e1
          have hH1 : H1 l = some (.lst vs) := (s1.vw i).2 l _ gl
          have hH : H l = some (.lst vs) := (s.vw i).2 l _ gl
          refine ⟨_, eσ, B, δ, ρ1, G, s1, ?_⟩
          cases hB : ck δ ρ1 with
          | er k ρ2 => rw [hB] at q; exact fun H' x r => q σ H' (s1.base.mono x) r
          | no => rw [hB] at q; exact q.elim
          | ok kd f2 ρ2 =>
            rw [hB] at q
            intro y H2 x2 r2 l2
            split at q
            · rename_i k f3 ρ3 e3
              cases e3
              split at q
              · rename_i j hj
                have s2 := s1.nx x2 r2
                have hH2 : H2 l = some (.lst vs) := (s2.vw i).2 l _ gl
                obtain ⟨Ge, w1, q1, n1, _⟩ := l1.fresh rfl
                have gel : Ge l = none := by
                  cases z : Ge l with
                  | none => rfl
                  | some o =>
                    have e2 := w1.2 l o z
                    rw [hH1] at e2
                    cases e2
                    rw [n1 l _ z rfl] at hH
                    cases hH
                have w0' := w0.mono x2
                have w1' := w1.mono x2
                have nlU : un G0 Ge l = none := by unfold un; rw [nl]; exact gel
                have nU : ∀ a o, un G0 Ge a = some o → Mu o = true → B a = none ∧ ∀ j, j ≠ i → G j a = none := fun a o ea m => by
                  rcases un_some ea with ea | ea
                  · exact n0 a o ea m
                  · have := n1 a o ea m
                    exact ⟨s.back a this, fun j _ => (s.vw j).2.none this⟩
                have hx := q1.mono (un_r w0'.2 w1'.2).xr
                obtain ⟨G', s'⟩ := s2.lset (vs' := vs.set j v) (ds' := ds.set j d) e1 eσ gl nR (un_vw w0' w1') ((q0.mono un_l.xr).set hx j) nlU nU
                exact ⟨l, vs, k, j, rfl, l2.rp.int_of, hH2, by rw [q0.length]; exact hj, q G' σ _ s'⟩
              · exact q.elim
            · rename_i e; cases e
            · exact q.elim
        · exact q.elim

/-! ### constants of the module -/
theorem c_glob {x : Str} {u : Value} (v : V) (hg : Gl X x) (hm : X.mg x = some u) (r : RelV v u) (hr : ∀ H, Rp Γ H v d) (m : imm d = true) (hd : (x == ("__debug__" : Str)) = false := by decide) : PE X (.Name x pos) (T Γ E (eC d)) :=
  c_const (pe_glob hg hm r hd) hr m
def fKd (p : Addr) (tab : List (Str × Str)) : Op2 := fun a b => match a, b with
  | .ptr q, .str z => if q = p then (tab.lookup z).map fun w => (.str w, true) else none
  | _, _ => none
theorem oKd {p : Addr} {tab : List (Str × Str)} (w : World) (h : ∀ z y, tab.lookup z = some y → KDct Γ.K w p z (.str y)) : OpS Γ (rIxD Γ.K w) (fKd p tab) := fun H x y a b d fr ρ Q row ra rb e q => by
  unfold fKd at e
  split at e
  · rename_i q' z
    split at e
    · rename_i hq
      subst hq
      cases e1 : tab.lookup z with
      | none => rw [e1] at e; cases e
      | some u =>
        rw [e1] at e
        cases e
        have hx : x = .ref q' := by cases ra; rfl
        exact ⟨q', z, .str u, hx, rb.str_of, h z u e1, q _ H (Ex.refl H) (Vl.of_imm row (.str _) rfl)⟩
    · cases e
  · cases e

/-! ### len, also of an object of one's own -/
def eLenX (Γ : Gam) (c : Nat) (F : Fn) (r : CA) : CE := fun δ ρ => match r δ ρ with
  | .ok as _ ρ1 => match as with
    | [.ins c' fs] => if c' = c then match F [.ins c' fs] ρ1 with
        | .ok (.int n) _ ρ2 => if 0 ≤ n ∧ n < 9223372036854775808 then .ok (.int n) true ρ2 else .no
        | _ => .no
      else .no
    | as => match fLen Γ as with
      | some (d, fr) => .ok d fr ρ1
      | none => .no
  | .er k ρ1 => .er k ρ1
  | .no => .no
theorem c_len {k c : Nat} {f : Addr} {fd : FuncData} {ps : List Str} {F : Fn} {r : CA} {p : Pos} (hK : X.K = Γ.K) (hs : PySem.W.findIn X.K (.ref (Γ.cls c)) "__len__" = some (some (.ref f))) (hf : PySem.W.isFn X.K (.ref f) = true)
    (hF : FnOk X.prog X.w X.K X.mg X.base (L2.CX X.prog X.w) k f fd ps (SpOf Γ F)) (hr : Room (k + 1) X.A) (hb : Binds X.K fd ps []) (hg : Gl X "len") (hm : X.mg "len" = none) (ha : PA X [e] (TAs Γ E r)) (he : starEach [e] X.env = (false, eval e X.env) :: starEach [] X.env := by rfl) :
    PE X (.Call (.Name "len" p) [e] [] pos) (T Γ E (eLenX Γ c F r)) := by
  obtain ⟨r0, h0, o0⟩ := oLen (X := X) (Γ := Γ) hK
  refine (pe_callB (h0.or (cr_lenO hs hf hF hr hb)) hg hm (by rfl) ha (by decide) (by decide) he (by rfl)).imp fun σ H Q ⟨B, δ, ρ, G, s, q⟩ => ?_
  refine ⟨B, δ, ρ, G, s, ?_⟩
  unfold eLenX at q
  cases hA : r δ ρ with
  | er k ρ1 => rw [hA] at q; exact q
  | no => rw [hA] at q; exact q.elim
  | ok ds fr ρ1 =>
    rw [hA] at q
    intro vs H1 x1 r1 l1
    dsimp only at q
    split at q
    · rename_i c' fs
      split at q
      · rename_i hc
        subst hc
        split at q
        · rename_i n f2 ρ2 hF2
          split at q
          · rename_i hn
            obtain ⟨v, rfl, rv⟩ := l1.rp.one
            cases hv : rv with
            | @ins a dx _ fs' _ h1 h2 h3 =>
              refine .inr ⟨a, dx, fs', rfl, h1, [.ins c' fs], ρ1, .cons rv .nil, r1, ?_⟩
              rw [hF2]
              exact fun v H2 x2 r2 l2 => ⟨n, l2.rp.int_of, hn.1, hn.2, q (.int n) H2 (x1.trans x2) r2 (Vl.of_imm r2 (.int n) rfl)⟩
          · exact q.elim
        · exact q.elim
      · exact q.elim
    · cases hF2 : fLen Γ ds with
      | none => rw [hF2] at q; exact q.elim
      | some pr =>
        obtain ⟨d2, fr2⟩ := pr
        rw [hF2] at q
        exact .inl (o0 H1 vs ds d2 fr2 ρ1 Q r1 l1.rp hF2 fun v H' ex w => q v H' (x1.trans ex.xr) (r1.ex ex) (w.from fun a e => x1.none r1 e))
end
end WF

/-! ## WFP -/
/-! Own layer, part P: the rules as a generator writes them. -/
namespace WF
open PySem PySem.Spec PyProof.Rows L2

section
variable {Γ : Gam} {E : L2.St → XK} {X : Cx} {B B' : Hp} {G : Nat → Hp} {σ : L2.St} {H H1 H2 : Hp} {δ : List Slot} {ρ ρ1 ρ2 : Row} {pos : Pos} {a b e : Expr} {ca cb cc : CE} {c c1 c2 : CS} {ct : CT} {tg : Expr} {v : V} {d : D} {vs : List V} {ds : List D} {Gv : Hp}

def BinX (X : Cx) (Γ : Gam) (op : Operator) (f : Op2) : Prop := ∃ r, OpR X (binaryOp op) r ∧ OpS Γ r f
def CmpX (X : Cx) (Γ : Gam) (op : CmpOp) (f : Op2) : Prop := ∃ r, OpR X (compareOp op) r ∧ OpS Γ r f
theorem xSub : BinX X Γ .Sub fSub := ⟨_, op_sub, oSub⟩
theorem xMod : BinX X Γ .Mod fMod := ⟨_, op_mod, oMod⟩
theorem xDiv : BinX X Γ .FloorDiv fDiv := ⟨_, op_fdiv, oDiv⟩
theorem xPow : BinX X Γ .Pow fPow := ⟨_, op_pow, oPow⟩
theorem xAdd (hK : X.K = Γ.K) : BinX X Γ .Add fAdd := oAdd hK
theorem xMul (hK : X.K = Γ.K) : BinX X Γ .Mult fMul := oMul hK
theorem xLt : CmpX X Γ .Lt fLt := ⟨_, op_lt, oLt⟩
theorem xLe : CmpX X Γ .LtE fLe := ⟨_, op_le, oLe⟩
theorem xGt : CmpX X Γ .Gt fGt := ⟨_, op_gt, oGt⟩
theorem xGe : CmpX X Γ .GtE fGe := ⟨_, op_ge, oGe⟩
theorem xEq {k : Nat} (hK : X.K = Γ.K) (hr : Room k X.A) : CmpX X Γ .Eq fEq := ⟨_, op_eqD hr.units, by rw [hK]; exact oEq⟩
theorem xNe {k : Nat} (hK : X.K = Γ.K) (hr : Room k X.A) : CmpX X Γ .NotEq fNe := ⟨_, op_neD hr.units, by rw [hK]; exact oNe⟩
theorem xIn {k : Nat} (hK : X.K = Γ.K) (hr : Room k X.A) : CmpX X Γ .In fIn := oIn hK (by have := hr.un; omega)
theorem xNi {k : Nat} (hK : X.K = Γ.K) (hr : Room k X.A) : CmpX X Γ .NotIn fNi := oNi hK (by have := hr.un; omega)
theorem xIs : CmpX X Γ .Is (fIs false) := ⟨_, op_isN, oIs⟩
theorem xIsn : CmpX X Γ .IsNot (fIs true) := ⟨_, op_notN, oIsn⟩
theorem g_bin {op : Operator} {f : Op2} (h : BinX X Γ op f) (ha : PE X a (T Γ E ca)) (hb : PE X b (T Γ E cb)) : PE X (.BinOp a op b pos) (T Γ E (eBin f ca cb)) := by
  obtain ⟨r, h1, h2⟩ := h; exact c_bin h1 h2 ha hb
theorem g_cmp {op : CmpOp} {f : Op2} (h : CmpX X Γ op f) (ha : PE X a (T Γ E ca)) (hb : PE X b (T Γ E cb)) (hm : behindInMarks op b = false := by first | exact nomark _ | rfl) : PE X (.Compare a [op] [b] pos) (T Γ E (eBin f ca cb)) := by
  obtain ⟨r, h1, h2⟩ := h; exact c_cmp h1 h2 ha hb hm
theorem g_tcmp {op : CmpOp} {f : Op2} (h : CmpX X Γ op f) (ha : PE X a (T Γ E ca)) (hb : PE X b (T Γ E cb)) (hm : behindInMarks op b = false := by first | exact nomark _ | rfl) : PT X (.Compare a [op] [b] pos) (TTs Γ E (bB (eBin f ca cb))) := by
  obtain ⟨r, h1, h2⟩ := h; exact c_tcmp h1 h2 ha hb hm
theorem g_tdin {k : Nat} (hr : Room k X.A) (ha : PE X a (T Γ E ca)) (hb : PE X b (T Γ E cb)) (hm : behindInMarks .In b = false := by first | exact nobehind _ (by decide) (by decide) | rfl) : PT X (.Compare a [.In] [b] pos) (TTs Γ E (bB (eBin (fDIn false) ca cb))) :=
  (pt_cmp (pc_din (by have := hr.un; omega) ha hb) hm).imp fun _ _ _ h => t_bB (fun _ _ _ h => t_bin oDIn h) h
theorem g_tdni {k : Nat} (hr : Room k X.A) (ha : PE X a (T Γ E ca)) (hb : PE X b (T Γ E cb)) (hm : behindInMarks .NotIn b = false := by first | exact nobehind _ (by decide) (by decide) | rfl) : PT X (.Compare a [.NotIn] [b] pos) (TTs Γ E (bB (eBin (fDIn true) ca cb))) :=
  (pt_cmp (pc_dnotin (by have := hr.un; omega) ha hb) hm).imp fun _ _ _ h => t_bB (fun _ _ _ h => t_bin oDNi h) h
theorem g_dget {k : Nat} (hr : Room k X.A) (ha : PE X a (T Γ E ca)) (hb : PE X b (T Γ E cb)) (hs : NoSl b := by exact fun _ _ => rfl) : PE X (.Subscript a b pos) (T Γ E (eBin fDGet ca cb)) := c_dget (by have := hr.un; omega) ha hb hs
theorem g_ix (hK : X.K = Γ.K) (ha : PE X a (T Γ E ca)) (hb : PE X b (T Γ E cb)) (hs : PlainIx b := by exact fun _ _ => rfl) : PE X (.Subscript a b pos) (T Γ E (eBin (orF fIx (fIxR Γ)) ca cb)) :=
  c_ix (r := fun x y H Q => rIx Γ.K x y H Q ∨ rIx Γ.K x y H Q) (by rw [← hK]; exact ix_seq.or ix_seq) oIxAll ha hb hs
theorem g_kd {p : Addr} {tab : List (Str × Str)} (hK : X.K = Γ.K) (h : ∀ z y, tab.lookup z = some y → KDct Γ.K X.w p z (.str y)) (ha : PE X a (T Γ E ca)) (hb : PE X b (T Γ E cb)) (hs : PlainIx b := by exact fun _ _ => rfl) : PE X (.Subscript a b pos) (T Γ E (eBin (fKd p tab) ca cb)) :=
  c_ix (r := rIxD Γ.K X.w) (by rw [← hK]; exact ix_kdict) (oKd X.w h) ha hb hs
theorem g_chain {c : Expr} {op op' : CmpOp} {f f' : Op2} (h : CmpX X Γ op f) (h' : CmpX X Γ op' f') (ha : PE X a (T Γ E ca)) (hb : PE X b (T Γ E cb)) (hc : PE X c (T Γ E cc))
    (hm : lastMarks [op, op'] [b, c] = false := by rfl) : PE X (.Compare a [op, op'] [b, c] pos) (T Γ E (eChain f f' ca cb cc)) := by
  obtain ⟨r, h1, h2⟩ := h
  obtain ⟨r', h1', h2'⟩ := h'
  exact c_chain h1 h2 h1' h2' ha hb hc hm
theorem g_tchain {c : Expr} {op op' : CmpOp} {f f' : Op2} (h : CmpX X Γ op f) (h' : CmpX X Γ op' f') (ha : PE X a (T Γ E ca)) (hb : PE X b (T Γ E cb)) (hc : PE X c (T Γ E cc))
    (hm : lastMarks [op, op'] [b, c] = false := by rfl) : PT X (.Compare a [op, op'] [b, c] pos) (TTs Γ E (bB (eChain f f' ca cb cc))) := by
  obtain ⟨r, h1, h2⟩ := h
  obtain ⟨r', h1', h2'⟩ := h'
  exact c_tchain h1 h2 h1' h2' ha hb hc hm
theorem g_callB {id : String} {f : OpN} {c : CA} {x : Str} {es : List Expr} {p : Pos} (h : ∃ r, CallR X (.builtin id) r ∧ CaS Γ r f) (hg : Gl X x) (hm : X.mg x = none) (hv : bootBuiltins x = some (.builtin id)) (ha : PA X (e :: es) (TAs Γ E c))
    (hn : x ≠ "__name__" := by decide) (hdb : (x == ("__debug__" : Str)) = false := by decide)
    (he : starEach (e :: es) X.env = (false, eval e X.env) :: starEach es X.env := by rfl) (hpl : (backTo pos (starEach es X.env)).any (·.1) = false := by rfl) : PE X (.Call (.Name x p) (e :: es) [] pos) (T Γ E (eCall f c)) := by
  obtain ⟨r, h1, h2⟩ := h; exact c_callB h1 h2 hg hm hv ha hn hdb he hpl
theorem g_callTy {ty : String} {f : OpN} {c : CA} {x : Str} {es : List Expr} {p : Pos} (h : ∃ r, CallR X (.type ty) r ∧ CaS Γ r f) (hg : Gl X x) (hm : X.mg x = none) (hv : bootBuiltins x = some (.type ty)) (ha : PA X (e :: es) (TAs Γ E c))
    (hn : x ≠ "__name__" := by decide) (hdb : (x == ("__debug__" : Str)) = false := by decide)
    (he : starEach (e :: es) X.env = (false, eval e X.env) :: starEach es X.env := by rfl) (hpl : (backTo pos (starEach es X.env)).any (·.1) = false := by rfl) : PE X (.Call (.Name x p) (e :: es) [] pos) (T Γ E (eCall f c)) := by
  obtain ⟨r, h1, h2⟩ := h; exact c_callTy h1 h2 hg hm hv ha hn hdb he hpl
theorem g_sl {lo hi : Option Expr} {p2 : Pos} {cl ch : CO} (hK : X.K = Γ.K) (he : PE X e (T Γ E ca)) (hl : PO X lo (TOs Γ cl)) (hu : PO X hi (TOs Γ ch)) : PE X (.Subscript e (.Slice lo hi none p2) pos) (T Γ E (eSl fSl ca cl ch)) := by
  obtain ⟨r, h1, h2⟩ := oSl (X := X) (Γ := Γ) hK; exact c_sl h1 h2 he hl hu
theorem xIsi (hK : X.K = Γ.K) : ∃ r, CallR X (.builtin "isinstance") r ∧ CaS Γ r fIsi := oIsi hK
/-- sorted: ints or pairs -/
def fSort : OpN := fun a => match fSortI a with | some p => some p | none => fSortP a
theorem xSort (hK : X.K = Γ.K) : ∃ r, CallR X (.builtin "sorted") r ∧ CaS Γ r fSort := by
  obtain ⟨r, h1, h2⟩ := oSortI (X := X) (Γ := Γ) hK
  obtain ⟨r', h1', h2'⟩ := oSortP (X := X) (Γ := Γ) hK
  exact ⟨_, h1.or h1', h2.or h2'⟩
def fLists : OpN := fun a => match fList a with | some p => some p | none => fListD a
theorem xList (hK : X.K = Γ.K) (hc : X.calm = true) : ∃ r, CallR X (.type "list") r ∧ CaS Γ r fLists := by
  obtain ⟨r, h1, h2⟩ := oList (X := X) (Γ := Γ) hK
  obtain ⟨r', h1', h2'⟩ := oListD (X := X) (Γ := Γ) hc
  exact ⟨_, h1.or h1', h2.or h2'⟩
theorem g_globI {x : Str} {i : Int} (hg : Gl X x) (hm : ∃ t, X.mg x = some (.int i t)) (hd : (x == ("__debug__" : Str)) = false := by decide) : PE X (.Name x pos) (T Γ E (eC (.int i))) := by
  obtain ⟨t, hm⟩ := hm
  exact c_glob (.int i) hg hm ⟨t, rfl⟩ (fun _ => .int i) rfl hd
theorem g_globC {x : Str} {c : Nat} (hg : Gl X x) (hm : X.mg x = some (.ref (Γ.cls c))) (hd : (x == ("__debug__" : Str)) = false := by decide) : PE X (.Name x pos) (T Γ E (eC (.cls c))) :=
  c_glob (.ref (Γ.cls c)) hg hm rfl (fun _ => .cls c) rfl hd
theorem g_globP {x : Str} {p : Addr} (hg : Gl X x) (hm : X.mg x = some (.ref p)) (hd : (x == ("__debug__" : Str)) = false := by decide) : PE X (.Name x pos) (T Γ E (eC (.ptr p))) :=
  c_glob (.ref p) hg hm rfl (fun _ => .ptr p) rfl hd
theorem g_globT {x : Str} {p : Addr} (hg : Gl X x) (hm : X.mg x = some (.ref p)) (hr : ∀ H, Rp Γ H (.ref p) (.ktup ds)) (m : immAll ds = true) (hd : (x == ("__debug__" : Str)) = false := by decide) : PE X (.Name x pos) (T Γ E (eC (.ktup ds))) :=
  c_glob (.ref p) hg hm rfl hr (by rw [imm]; exact m) hd
theorem g_ty {x : Str} {ty : String} (hg : Gl X x) (hm : X.mg x = none) (hv : bootBuiltins x = some (.type ty)) (hn : x ≠ "__name__" := by decide) (hd : (x == ("__debug__" : Str)) = false := by decide) : PE X (.Name x pos) (T Γ E (eC (.ty ty))) :=
  c_const (pe_bltn (v := .ty ty) hg hm hv rfl hn hd) (fun _ => .ty ty) rfl
/-- for x in e, e a list, a tuple or a text -/
def iAny (c : CE) : CI := fun δ ρ => match c δ ρ with
  | .ok (.str s) _ ρ1 => .ok (signs s) true ρ1
  | .ok d fr ρ1 => match items d with
    | some ds => .ok ds fr ρ1
    | none => .no
  | .er k ρ1 => .er k ρ1
  | .no => .no
theorem ci_any (hK : X.K = Γ.K) (he : PE X e (T Γ E ca)) : PI X tg e (TIx Γ E (iAny ca)) := ((ci_seq hK he).or (ci_text he)).imp fun σ H R ⟨B, δ, ρ, G, s, q⟩ => by
  unfold iAny at q
  split at q
  · rename_i s0 f1 ρ1 e1
    exact .inr ⟨B, δ, ρ, G, s, by unfold iText; rw [e1]; exact q⟩
  · rename_i d0 f1 ρ1 _ e1
    exact .inl ⟨B, δ, ρ, G, s, by unfold iSeq; rw [e1]; exact q⟩
  · rename_i k ρ1 e1
    exact .inl ⟨B, δ, ρ, G, s, by unfold iSeq; rw [e1]; exact q⟩
  · exact q.elim
theorem passB (σ : L2.St) : PassesAt (L2.CX X.prog X.w) X σ L2.E0 := fun pins H s e s' I c => passL pins σ H s e s' I c
theorem passD {E1 : XK} (tk : Takes X (fun cls d _ H => E1 cls d H)) : ∀ σ : L2.St, PassesAt (L2.CX X.prog X.w) X σ E1 := fun σ => passAt tk σ
theorem passM {E1 : XK} (tk : Takes X (fun cls d _ H => E1 cls d H)) : Passes (L2.CX X.prog X.w) X E1 := passes_call tk fun _ _ _ _ h => h
/-- a def as a function of data -/
def fnD (n m : Nat) (c : CS) : Fn := fun ds ρ => if ds.length = m then fnOfS n c ds ρ else .no
theorem fn_ok2 {P : Program} {w : World} {K : PySem.W.Frag} {mg : Str → Option Value} {base : Heap} {x qual : Str} {st : Stmt} {f : Addr} {fd : FuncData} {N ps : List Str} {k n m : Nat} {c : CS}
    (F : Fun K x qual st f fd) (S : FnScope N ps (defScope st)) (hn : N.length = n) (hm : ps.length = m)
    (hb : ∀ (cdv : Value) (A : Around) (outer : List Env) (s : Shared) (H : Hp) (E1 : XK), Room k (A.deeper (envOfC qual (defScope st) s.heap.objs.size f cdv)) → PSs (cxOf (L2.CX P w) P w K mg base N qual (defScope st) f cdv A outer s H E1) (defBody st) (TSt Γ (fun _ => E1) c)) :
    FnOk P w K mg base (L2.CX P w) (k + 1) f fd ps (SpOf Γ (fnD n m c)) := by
  have no : ∀ (vs : List V) (H : Hp) (Q : VK) (E1 : XK), SpOf Γ (fnD n m c) vs H Q E1 → ∃ ds ρ, RpAll Γ H vs ds ∧ RowAt Γ H ρ ∧ ds.length = m ∧ PoE Γ (fun _ => E1) (fnOfS n c ds ρ) [] H Q := fun vs H Q E1 ⟨ds, ρ, r, row, q⟩ => by
    unfold fnD at q
    by_cases h : ds.length = m
    · rw [if_pos h] at q; exact ⟨ds, ρ, r, row, h, q⟩
    · rw [if_neg h] at q; exact q.elim
  refine F.okX S (fun vs H Q E h => ?_) (fun cdv A outer s H vs Q E hr h => ?_)
  · obtain ⟨ds, ρ, r, _, hno, _⟩ := no _ _ _ _ h
    rw [r.length, hno, hm]
  · obtain ⟨ds, ρ, r, row, hno, q⟩ := no _ _ _ _ h
    exact ⟨_, hb cdv A outer s H E hr, body_of hn ⟨ds, ρ, r, row, q⟩⟩
/-! ### raise X() -/
theorem pmk_own0 {C : Addr} {bmB : List Value} {B newId initId : String} {x : Str} {p : Pos} (F : ExcBaseFacts B newId initId bmB) (q : PySem.W.excIn X.K C bmB newId = true) (gC : X.mg x = some (.ref C))
    (kC : PySem.W.keepIn X.K (.ref C) = true) (r : Raises X (.ref C)) (hg : Gl X x) (hdb : (x == ("__debug__" : Str)) = false := by decide) :
    PMk X (.Call (.Name x p) [] [] pos) (fun σ H Q => Q (.ref C) none H) := by
  intro pins s σ H Q I h
  refine wpAny_Call_Name_kw (ld_glob I hg gC ?_ hdb)
  refine PySem.W.callWith_K0 I.kIn kC ?_
  show wpAny _ _ (call (.ref C) []) _ _ _
  obtain ⟨bm, N, nm, qn, bs, hdct, sn, sub, ab, col, dd, k0, k1, k2, k3, k5, mN, hC, hN, hni, T⟩ := exc_obj I.kIn q
  refine wpAny_call_exc_subT F T hC hN hni (fun h' e hm => ?_) (by show 0 ≤ sizeLine; exact Nat.zero_le _)
  exact mk_of I hm r h (I.hok.gone hm.new)
/-- what is known of an own exception class -/
structure Xcp (Γ : Gam) (k : Nat) : Prop where
  q : ∃ B newId initId bmB, ExcBaseFacts B newId initId bmB ∧ PySem.W.excIn Γ.K (Γ.cls k) bmB newId = true
  kp : PySem.W.keepIn Γ.K (.ref (Γ.cls k)) = true
  sub : PySem.W.subIn Γ.K (.ref (Γ.cls k)) (.type "BaseException") = some true
  ty : PySem.W.typeIn Γ.K (.ref (Γ.cls k)) = some (.type "type")
theorem cs_raise {E1 : XK} {k : Nat} {x : Str} {p pos2 : Pos} (hK : X.K = Γ.K) (hc : X.calm = true) (tk : Takes X (fun cls d _ H => E1 cls d H)) (F : Xcp Γ k) (gC : X.mg x = some (.ref (Γ.cls k))) (hg : Gl X x) (hdb : (x == ("__debug__" : Str)) = false := by decide) :
    PS X (.Raise (some (.Call (.Name x p) [] [] pos)) none pos2) (TSt Γ (fun _ => E1) (sErr k)) := by
  obtain ⟨B, n, i, bm, F1, q⟩ := F.q
  exact (ps_raise hc tk (pmk_own0 F1 (by rw [hK]; exact q) gC (by rw [hK]; exact F.kp) (raises_own (by rw [hK]; exact F.sub) (by rw [hK]; exact F.ty)) hg hdb)).imp fun D σ H ⟨B, δ, ρ, G, s, q⟩ => q σ H s.base s.row
/-! ### odds and ends -/
abbrev iRg1 (c : CA) : CI := fun δ ρ => match c δ ρ with | .ok [.int n] fr ρ1 => iRange (fun _ _ => .ok [.int n] fr ρ1) δ ρ | .er k ρ1 => .er k ρ1 | _ => .no
theorem g_range1 {c : CA} {p : Pos} (hg : Gl X "range") (hm : X.mg "range" = none) (ha : PA X [a] (TAs Γ E c)) (hs : starEach [a] X.env = [(false, eval a X.env)] := by rfl) : PI X tg (.Call (.Name "range" p) [a] [] pos) (TIx Γ E (iRg1 c)) := ci_range1 hg hm ha hs
theorem _root_.L2.Room.unit1 {k : Nat} {A : Around} (r : Room k A) : A.units + 1 < cLine := by have := r.un; omega
theorem tk_of {P : Program} {w : World} {K : PySem.W.Frag} {mg : Str → Option Value} {base : Heap} {N : List Str} {qual : Str} {sc : Scope} {f : Addr} {cdv : Value} {A : Around} {outer : List Env} {s : Shared} {H : Hp} {E1 : XK} :
    Takes (cxOf (L2.CX P w) P w K mg base N qual sc f cdv A outer s H E1) (fun cls d _ H => E1 cls d H) := takes_of rfl rfl rfl rfl
theorem ini_ok2 {P : Program} {w : World} {K : PySem.W.Frag} {mg : Str → Option Value} {base : Heap} {x qual : Str} {st : Stmt} {f : Addr} {fd : FuncData} {N ps : List Str} {k n m c : Nat} {steps : List Stp}
    (F : Fun K x qual st f fd) (S : FnScope N ps (defScope st)) (hn : N.length = n + 1) (hl : ps.length = m + 1) (hmn : m ≤ n)
    (nd : (names steps).Nodup) (nf : ∀ c', Γ.cls c' = Γ.cls c → names steps = Γ.fld c') (sz : (names steps).length < 1000)
    (hb : ∀ (cdv : Value) (A : Around) (outer : List Env) (s : Shared) (H : Hp) (E1 : XK), Room k (A.deeper (envOfC qual (defScope st) s.heap.objs.size f cdv)) → PSs (cxOf (L2.CX P w) P w K mg base N qual (defScope st) f cdv A outer s H E1) (defBody st) (TIni Γ E1 (Γ.cls c) steps)) :
    FnOk P w K mg base (L2.CX P w) (k + 1) f fd ps (SpIni Γ c fun ds ρ => if ds.length = m then iniRun (none :: startD n ds) steps [] ρ else .no) := by
  refine F.okX S (fun vs H Q E h => ?_) (fun cdv A outer s H vs Q E hr h => ?_)
  · obtain ⟨x, dx, us, ds, ρ, rfl, hx, r, row, q⟩ := h
    dsimp only at q
    split at q
    · rename_i e
      rw [List.length_cons, r.length, e, hl]
    · exact q.elim
  · obtain ⟨x, dx, us, ds, ρ, rfl, hx, r, row, q⟩ := h
    dsimp only at q
    split at q
    · rename_i e
      refine ⟨_, hb cdv A outer s H E hr, ?_⟩
      have hul : us.length = m := by rw [r.length, e]
      refine ⟨x, dx, [], [], none :: startD n ds, ρ, ⟨hx, ?_, rfl, ?_, row, fun i w' d' ei => ?_, .nil⟩, ?_, ?_, ?_, ?_⟩
      · unfold L2.start
        rfl
      · unfold L2.start startD
        simp only [List.length_append, List.length_map, List.length_replicate, List.length_cons]
        omega
      · cases i with
        | zero => cases ei
        | succ i =>
          rw [List.getElem?_cons_succ] at ei
          obtain ⟨h1, h2⟩ := startD_get ei
          obtain ⟨v, hv, rv⟩ := r.get h2
          refine ⟨h1, v, ?_, rv⟩
          unfold L2.start
          have hi : i < us.length := (List.getElem?_eq_some_iff.mp hv).1
          rw [List.getElem?_append_left (by rw [List.length_map, List.length_cons]; omega), List.getElem?_map, List.getElem?_cons_succ, hv]
          rfl
      · exact nd
      · exact fun c' hc => nf c' hc
      · show 0 + _ < _; omega
      · have := nf c rfl
        show PoI' Γ E (Γ.cls c) x dx (names steps) _ H _
        rw [this]
        exact q
    · exact q.elim
end
end WF

/-! ## WFQ -/
/-! Own layer, part Q: the law's own def: the row is laid, then the rest. -/
namespace WF
open PySem PySem.Spec PyProof.Rows L2

section
variable {E : L2.St → XK} {X : Cx} {σ : L2.St} {H H1 H2 : Hp} {pos : Pos}
/-- a new list stands at no place of the top -/
def tLstN (K : PySem.W.Frag) (t : TA) : TE := fun σ H Q => t σ H fun xs H1 => xs.length ≤ sizeLine ∧ ∀ p, H1 p = none → K.lookup p = none → Q (.ref p) (upd H1 p (.lst xs))
theorem pe_lstN {es : List Expr} {t : TA} (h : PA X es t) : PE X (.List es pos) (tLstN X.K t) := by
  refine ⟨fun pins s σ H Q I hq => ?_⟩
  refine wpAny_List_spliced (thn (h.run pos pins s σ H _ I hq) fun us s1 ⟨xs, H1, I1, r, z, q⟩ => ⟨by rw [← r.length]; exact z, ?_⟩)
  have hf : H1 s1.heap.objs.size = none := I1.hok.fresh (Nat.le_refl _)
  have hk : X.K.lookup s1.heap.objs.size = none := by
    cases e : X.K.lookup s1.heap.objs.size with
    | none => rfl
    | some o => exact absurd (Heap.lt_size (I1.kIn _ _ e)) (Nat.lt_irrefl _)
  refine ⟨.ref s1.heap.objs.size, upd H1 s1.heap.objs.size (.lst xs), I1.laid (t' := s1.toks) (fun b u e => Heap.get?_push_of_some _ e) (Nat.le_refl _) ?_, rfl, q _ hf hk⟩
  exact ⟨z, us, 0, r, Heap.get?_push_size _ rfl⟩
/-- what a law asks: True at each script of at most 63 ints -/
def spLaw (K : PySem.W.Frag) (T : List (Addr × Str)) : Sp := fun vs H Q _ => ∃ (a : Addr) (ns : List Int), vs = [.ref a] ∧ SqL K H a (ns.map V.int) ∧ ns.length ≤ 63 ∧ LamX.Tabs T H ∧ ∀ H', Q (.bl true) H'
/-- what the lambdas that are kept as data are, by their numbers -/
structure LamTab where
  L : Nat → Addr → Addr → Addr → Heap → Prop
  q : Nat → Str
  d : Nat → Bool
abbrev gam (K : PySem.W.Frag) (cls : Nat → Addr) (fld : Nat → List Str) (T : List (Addr × Str)) (Lm : LamTab) (R S : Addr) (ns : List Int) : Gam := ⟨K, R, S, ns, cls, fld, T, Lm.L, Lm.q, Lm.d⟩
/-- the slots ahead of the law's second statement -/
def lawD (n : Nat) : List Slot := some (false, .scr) :: some (false, .row) :: List.replicate (n - 2) none
def TLaw (K : PySem.W.Frag) (cls : Nat → Addr) (fld : Nat → List Str) (TB : List (Addr × Str)) (Lm : LamTab) (E1 : XK) (c : Gam → CS) : TS := fun D σ H => ∃ R S ns, TSt (gam K cls fld TB Lm R S ns) (fun _ => E1) (c (gam K cls fld TB Lm R S ns)) D σ H
theorem law_ok {P : Program} {w : World} {K : PySem.W.Frag} {mg : Str → Option Value} {base : Heap} {x qual : Str} {st : Stmt} {f : Addr} {N : List Str} {k n : Nat} {TB : List (Addr × Str)} {oc kV doc pm cdv ct : Value} {od an : Option Addr} {osl : Array (Option Value)} {cls : Nat → Addr} {fld : Nat → List Str} {c : Gam → CS} {LF : Cx → LamTab}
    {xs xr : Str} {p1 p2 p3 p4 p5 p6 p7 : Pos} {j1 j2 j3 : Nat} {sd : Int} {rest : List Stmt} (lk : K.lookup f = some ⟨oc, od, .func (PySem.W.fnOf x qual (defArgs st) (defBody st) (defScope st) .none kV doc pm an cdv ct), osl⟩) (hcc : PySem.W.codeIn K cdv qual = true) (S : FnScope N [xs] (defScope st)) (hn : N.length = n) (h2 : 2 ≤ n) (hs : N[0]? = some xs) (hr0 : N[1]? = some xr)
    (hv : Vis (defScope st) xs) (hl : Loc (defScope st) xr) (hd : (xs == ("__debug__" : Str)) = false) (hcd : (xs == ("__classdict__" : Str)) = false)
    (hbody : defBody st = .Assign [.Name xr p1] (.List [.Name xs p2, .Constant (.int 0) j1 p3, .Constant (.int sd) j2 p4, .Constant (.int 0) j3 p5] p6) p7 :: rest)
    (hb : ∀ (R Sc : Addr) (ns : List Int) (A : Around) (outer : List Env) (s : Shared) (H : Hp) (E1 : XK), Room k (A.deeper (envOfC qual (defScope st) s.heap.objs.size f cdv)) →
      PSs (cxOf (L2.CX P w) P w K mg base N qual (defScope st) f cdv A outer s H E1) rest (TSt (gam K cls fld TB (LF (cxOf (L2.CX P w) P w K mg base N qual (defScope st) f cdv A outer s H E1)) R Sc ns) (fun _ => E1) (c (gam K cls fld TB (LF (cxOf (L2.CX P w) P w K mg base N qual (defScope st) f cdv A outer s H E1)) R Sc ns))))
    (pure : ∀ (Lm : LamTab) (R Sc : Addr) (ns : List Int), ns.length ≤ 63 → ∃ fr ρ, c (gam K cls fld TB Lm R Sc ns) (lawD n) ⟨0, sd, 0⟩ = .rt (.bl true) fr ρ) :
    FnOk P w K mg base (L2.CX P w) (k + 1) f (PySem.W.fnOf x qual (defArgs st) (defBody st) (defScope st) .none kV doc pm an cdv ct) [xs] (spLaw K TB) := by
  refine fn_of lk hcc S (fun vs H Q E h => ?_) (fun A outer s H vs Q E1 hr h => ?_)
  · obtain ⟨a, ns, rfl, _⟩ := h
    rfl
  · obtain ⟨a, ns, rfl, hS, hlen, hT0, k1⟩ := h
    let XX := cxOf (L2.CX P w) P w K mg base N qual (defScope st) f cdv A outer s H E1
    have hrest : PSs XX rest (TLaw K cls fld TB (LF XX) E1 c) := ⟨fun pins s' σ H' D I ⟨R, Sc, ms, h⟩ => (hb R Sc ms A outer s H E1 hr).run pins s' σ H' D I h⟩
    rw [hbody]
    refine ⟨_, pss_cons (ps_set (X := XX) (i := 1) S.nd hr0 hl (pe_lstN (pa_cons (pe_var (i := 0) hs hv hd hcd) (pa_cons pe_int (pa_cons pe_int (pa_cons pe_int pa_nil))))) (by rfl) (.inl rfl)) hrest, ?_⟩
    have hN : N = xs :: xr :: N.drop 2 := by
      cases N with
      | nil => cases hs
      | cons u N =>
        cases hs
        cases N with
        | nil => cases hr0
        | cons u2 N => cases hr0; rfl
    have hst : L2.start N [.ref a] = some (.ref a) :: none :: List.replicate (n - 2) none := by
      unfold L2.start
      rw [hn]
      have : n - ([V.ref a] : List V).length = (n - 2) + 1 := by show n - 1 = _; omega
      rw [this, List.replicate_succ]
      rfl
    rw [hst]
    refine ⟨.ref a, rfl, by show 4 ≤ sizeLine; exact small (by decide), fun p hp hkp => ?_⟩
    show TLaw K cls fld TB (LF XX) E1 c _ (some (.ref a) :: some (.ref p) :: List.replicate (n - 2) none) _
    have nap : a ≠ p := by
      rintro rfl
      rcases hS with (z | ⟨o, z⟩) | ⟨o, its, m, z, _⟩
      · rw [hp] at z; cases z
      · rw [hp] at z; cases z
      · have hkp' : K.lookup a = none := hkp
        rw [hkp'] at z; cases z
    have hS1 : SqL K (upd H p (.lst [.ref a, .int 0, .int sd, .int 0])) a (ns.map V.int) := by
      rcases hS with (z | ⟨o, z⟩) | z
      · exact .inl (.inl (by rw [upd_ne nap]; exact z))
      · exact .inl (.inr ⟨o, by rw [upd_ne nap]; exact z⟩)
      · exact .inr z
    refine ⟨p, a, ns, ?_⟩
    have row : RowAt (gam K cls fld TB (LF XX) p a ns) (upd H p (.lst [.ref a, .int 0, .int sd, .int 0])) ⟨0, sd, 0⟩ := ⟨upd_same, hS1, nap, hT0.ext (Ex.new hp)⟩
    refine ⟨offR (gam K cls fld TB (LF XX) p a ns) (upd H p (.lst [.ref a, .int 0, .int sd, .int 0])), lawD n, ⟨0, sd, 0⟩, fun _ => offT (gam K cls fld TB (LF XX) p a ns) (upd H p (.lst [.ref a, .int 0, .int sd, .int 0])), ⟨?_, offR_bw, ?_, row, fun _ => offT_vw, fun i w' d e => ?_, fun i d e => ?_, fun i d e => ?_⟩, ?_⟩
    · unfold lawD; rw [List.length_cons, List.length_cons, List.length_replicate, List.length_cons, List.length_cons, List.length_replicate]
    · rcases hS1 with (z | ⟨o, z⟩) | z
      · exact .inl (.inl ((if_neg nap : offR (gam K cls fld TB (LF XX) p a ns) _ a = _).trans z))
      · exact .inl (.inr ⟨o, (if_neg nap : offR (gam K cls fld TB (LF XX) p a ns) _ a = _).trans z⟩)
      · exact .inr z
    · unfold lawD at e
      match i, e with
      | 0, e => cases e; exact ⟨_, rfl, .scr⟩
      | 1, e => cases e; exact ⟨_, rfl, .row⟩
      | i + 2, e =>
        rw [List.getElem?_cons_succ, List.getElem?_cons_succ, List.getElem?_replicate] at e
        split at e <;> cases e
    · unfold lawD at e
      match i, e with
      | 0, e => cases e
      | 1, e => cases e
      | i + 2, e =>
        rw [List.getElem?_cons_succ, List.getElem?_cons_succ, List.getElem?_replicate] at e
        split at e <;> cases e
    · unfold lawD at e
      match i, e with
      | 0, e => cases e
      | 1, e => cases e
      | i + 2, e =>
        rw [List.getElem?_cons_succ, List.getElem?_cons_succ, List.getElem?_replicate] at e
        split at e <;> cases e
    · obtain ⟨fr, ρ1, e⟩ := pure (LF XX) p a ns hlen
      show PoS _ _ _ (c (gam K cls fld TB (LF XX) p a ns) (lawD n) ⟨0, sd, 0⟩) _
      rw [e]
      intro v H' _ _ l
      cases l.rp.bl_of
      exact k1 H'
/-- a dict of the module's top, texts to texts -/
theorem kd_tab {K : PySem.W.Frag} {w : World} {p : Addr} {es : Array DictEntry} {n : Nat} (tab : List (Str × Str)) (l : K.lookup p = some ⟨.type "dict", none, .dict es n, #[]⟩) (k : PySem.W.KeysLit w.params es.toList)
    (h : ∀ zy ∈ tab, ∃ t, PySem.W.nsIn K p zy.1 = some (some (.str zy.2 t))) : ∀ z y, tab.lookup z = some y → KDct K w p z (.str y) := fun z y hz => by
  obtain ⟨t, e⟩ := h (z, y) (PySem.mem_of_lookup hz)
  exact ⟨es, n, _, l, k, e, t, rfl⟩
end
end WF

/-! ## WFR -/
/-! Own layer, part R: d.get(k). -/
namespace WF
open PySem PySem.Spec PyProof.Rows L2

section
variable {Γ : Gam} {E : L2.St → XK} {X : Cx} {B B' : Hp} {G : Nat → Hp} {σ : L2.St} {H H1 H2 : Hp} {δ : List Slot} {ρ ρ1 ρ2 : Row} {pos : Pos} {a b e : Expr} {ca cb cc : CE} {v : V} {d : D} {vs : List V} {ds : List D}
def orNon : Option D → D
  | some d => d
  | none => .non
def eDGet1 (ca cb : CE) : CE := fun δ ρ => match ca δ ρ with
  | .ok (.dct t ks vs) _ ρ1 => match cb δ ρ1 with
    | .ok kd _ ρ2 => match anyKey t kd with
      | some k => .ok (orNon (getD t ks vs k)) (imm (orNon (getD t ks vs k))) ρ2
      | none => .no
    | .er k ρ2 => .er k ρ2
    | .no => .no
  | .er k ρ1 => .er k ρ1
  | _ => .no
theorem c_dget1 {o e : Expr} {apos cpos : Pos} {k : Nat} (hr : Room k X.A) (m : M1 X o "get" apos e cpos) (ha : PE X o (T Γ E ca)) (hb : PE X e (T Γ E cb)) : PE X (.Call (.Attribute o "get" apos) [e] [] cpos) (T Γ E (eDGet1 ca cb)) :=
  (pe_dget1 (by have := hr.un; omega) ha hb m).imp fun σ H Q ⟨B, δ, ρ, G, s, q⟩ => by
    refine ⟨B, δ, ρ, G, s, ?_⟩
    unfold eDGet1 at q
    cases hA : ca δ ρ with
    | er k ρ1 => rw [hA] at q; exact q
    | no => rw [hA] at q; exact q.elim
    | ok d f1 ρ1 =>
      rw [hA] at q
      intro x H1 x1 r1 l1
      have s1 := s.nx x1 r1
      split at q
      · rename_i t ks vs f2 ρ2 e2
        cases e2
        obtain ⟨a, rfl, hD⟩ : ∃ a, x = .ref a ∧ IsD H1 a := by
          cases l1.rp with
          | @dK a kvs _ n h r => exact ⟨a, rfl, .inl ⟨kvs, .inl h⟩⟩
          | @dT a kvs _ n h r => exact ⟨a, rfl, .inr ⟨kvs, .inl h⟩⟩
        refine ⟨a, rfl, hD, B, δ, ρ1, G, s1, ?_⟩
        cases hB : cb δ ρ1 with
        | er k ρ2 => rw [hB] at q; exact fun H' y r => q H' (x1.trans y) r
        | no => rw [hB] at q; exact q.elim
        | ok kd f3 ρ3 =>
          rw [hB] at q
          dsimp only at q
          intro y H2 x2 r2 l2
          split at q
          · rename_i kk hk
            obtain ⟨a', o, ea, g, so⟩ := dct_get (l1.rp.mono x2) l2.rp hk
            cases ea
            refine ⟨o, g, ?_⟩
            refine q _ _ (x1.trans x2) r2 ?_
            cases o with
            | none =>
              cases hg : getD t ks vs kk with
              | none => exact Vl.ifimm r2 .non
              | some d => rw [hg] at so; exact so.elim
            | some v =>
              cases hg : getD t ks vs kk with
              | none => rw [hg] at so; exact so.elim
              | some d => rw [hg] at so; exact Vl.ifimm r2 so
          · exact q.elim
      · rename_i e; cases e
      · exact q.elim
end
end WF

/-! ## WFS -/
/-! Own layer, part S: several names at once with things of one's own, pop, sorted data, the least of one. -/
namespace WF
open PySem PySem.Spec PyProof.Rows L2

section
variable {Γ : Gam} {E : L2.St → XK} {X : Cx} {B B' : Hp} {G : Nat → Hp} {σ : L2.St} {H H1 H2 : Hp} {δ : List Slot} {ρ ρ1 ρ2 : Row} {pos : Pos} {a b e : Expr} {ca cb cc : CE} {v : V} {d : D} {vs : List V} {ds : List D}

/-! ### a, b = x, y: each thing as fresh as it is -/
def sPar2 (i j : Nat) (ca cb : CE) : CS := fun δ ρ => match ca δ ρ with
  | .ok d1 f1 ρ1 => match cb δ ρ1 with
    | .ok d2 f2 ρ2 => .nx (put j d2 f2 (put i d1 f1 δ)) ρ2
    | .er k ρ2 => .er k ρ2
    | .no => .no
  | .er k ρ1 => .er k ρ1
  | .no => .no
theorem cs_par2 {i j : Nat} {x y : Str} {px py pt : Pos} {kt k2 : Nat} {pt2 : Pos} (hc : X.calm = true) (hN : X.N.Nodup) (hi : X.N[i]? = some x) (hj : X.N[j]? = some y) (hij : i ≠ j)
    (hx : X.env.scope.names.lookup x = some .local) (hy : X.env.scope.names.lookup y = some .local) (ha : PE X a (T Γ E ca)) (hb : PE X b (T Γ E cb))
    (hw : swappedStores [.Tuple [.Name x px, .Name y py] kt pt] (.Tuple [a, b] k2 pt2) X.env = pure (some [x, y]))
    (hs : swapsWithSole [.Tuple [.Name x px, .Name y py] kt pt] (.Tuple [a, b] k2 pt2) pos.line X.env = pure false := by rfl)
    (s1 : starEach [a, b] X.env = (false, eval a X.env) :: starEach [b] X.env := by rfl) (s2 : starEach [b] X.env = (false, eval b X.env) :: starEach [] X.env := by rfl) :
    PS X (.Assign [.Tuple [.Name x px, .Name y py] kt pt] (.Tuple [a, b] k2 pt2) pos) (TSt Γ E (sPar2 i j ca cb)) :=
  (ps_par hc hN hi hj hij hx hy (pa_cons ha (pa_cons hb pa_nil s2) s1) hw hs).imp fun D σ H ⟨B, δ, ρ, G, s, q⟩ => by
    refine ⟨B, δ, ρ, G, s, ?_⟩
    unfold sPar2 at q
    cases hA : ca δ ρ with
    | er k ρ1 => rw [hA] at q; exact fun H' x r => q σ H' (s.base.mono x) r
    | no => rw [hA] at q; exact q.elim
    | ok d1 f1 ρ1 =>
      rw [hA] at q
      dsimp only at q
      intro v1 H1 x1 r1 l1
      have s1 := s.nx x1 r1
      refine ⟨B, δ, ρ1, G, s1, ?_⟩
      cases hB : cb δ ρ1 with
      | er k ρ2 => rw [hB] at q; exact fun H' x r => q σ H' (s1.base.mono x) r
      | no => rw [hB] at q; exact q.elim
      | ok d2 f2 ρ2 =>
        rw [hB] at q
        dsimp only at q
        intro v2 H2 x2 r2 l2
        obtain ⟨G1, p1⟩ := s1.put (i := i) l1 fun a e => ⟨s.back a e, fun j => (s.vw j).2.none e⟩
        obtain ⟨G2, p2⟩ := (p1.nx x2 r2).put (i := j) l2 fun a e => ⟨p1.back a e, fun j => (p1.vw j).2.none e⟩
        exact ⟨v1, v2, rfl, q G2 _ _ p2⟩
def sPar3 (i j l : Nat) (ca cb cc : CE) : CS := fun δ ρ => match ca δ ρ with
  | .ok d1 f1 ρ1 => match cb δ ρ1 with
    | .ok d2 f2 ρ2 => match cc δ ρ2 with
      | .ok d3 f3 ρ3 => .nx (put l d3 f3 (put j d2 f2 (put i d1 f1 δ))) ρ3
      | .er k ρ3 => .er k ρ3
      | .no => .no
    | .er k ρ2 => .er k ρ2
    | .no => .no
  | .er k ρ1 => .er k ρ1
  | .no => .no
theorem cs_par3 {c : Expr} {i j l : Nat} {x y z : Str} {px py pz pt : Pos} {kt k2 : Nat} {pt2 : Pos} (hc : X.calm = true) (hN : X.N.Nodup) (hi : X.N[i]? = some x) (hj : X.N[j]? = some y) (hl : X.N[l]? = some z) (hij : i ≠ j) (hil : i ≠ l) (hjl : j ≠ l)
    (hx : X.env.scope.names.lookup x = some .local) (hy : X.env.scope.names.lookup y = some .local) (hz : X.env.scope.names.lookup z = some .local) (ha : PE X a (T Γ E ca)) (hb : PE X b (T Γ E cb)) (hcc : PE X c (T Γ E cc))
    (hw : swappedStores [.Tuple [.Name x px, .Name y py, .Name z pz] kt pt] (.Tuple [a, b, c] k2 pt2) X.env = pure (some [x, y, z]))
    (hs : swapsWithSole [.Tuple [.Name x px, .Name y py, .Name z pz] kt pt] (.Tuple [a, b, c] k2 pt2) pos.line X.env = pure false := by rfl)
    (s1 : starEach [a, b, c] X.env = (false, eval a X.env) :: starEach [b, c] X.env := by rfl) (s2 : starEach [b, c] X.env = (false, eval b X.env) :: starEach [c] X.env := by rfl) (s3 : starEach [c] X.env = (false, eval c X.env) :: starEach [] X.env := by rfl) :
    PS X (.Assign [.Tuple [.Name x px, .Name y py, .Name z pz] kt pt] (.Tuple [a, b, c] k2 pt2) pos) (TSt Γ E (sPar3 i j l ca cb cc)) :=
  (ps_par3 hc hN hi hj hl hij hil hjl hx hy hz (pa_cons ha (pa_cons hb (pa_cons hcc pa_nil s3) s2) s1) hw hs).imp fun D σ H ⟨B, δ, ρ, G, s, q⟩ => by
    refine ⟨B, δ, ρ, G, s, ?_⟩
    unfold sPar3 at q
    cases hA : ca δ ρ with
    | er k ρ1 => rw [hA] at q; exact fun H' x r => q σ H' (s.base.mono x) r
    | no => rw [hA] at q; exact q.elim
    | ok d1 f1 ρ1 =>
      rw [hA] at q
      dsimp only at q
      intro v1 H1 x1 r1 l1
      have s1 := s.nx x1 r1
      refine ⟨B, δ, ρ1, G, s1, ?_⟩
      cases hB : cb δ ρ1 with
      | er k ρ2 => rw [hB] at q; exact fun H' x r => q σ H' (s1.base.mono x) r
      | no => rw [hB] at q; exact q.elim
      | ok d2 f2 ρ2 =>
        rw [hB] at q
        dsimp only at q
        intro v2 H2 x2 r2 l2
        have s2 := s1.nx x2 r2
        refine ⟨B, δ, ρ2, G, s2, ?_⟩
        cases hC : cc δ ρ2 with
        | er k ρ3 => rw [hC] at q; exact fun H' x r => q σ H' (s2.base.mono x) r
        | no => rw [hC] at q; exact q.elim
        | ok d3 f3 ρ3 =>
          rw [hC] at q
          dsimp only at q
          intro v3 H3 x3 r3 l3
          obtain ⟨G1, p1⟩ := s1.put (i := i) l1 fun a e => ⟨s.back a e, fun j => (s.vw j).2.none e⟩
          obtain ⟨G2, p2⟩ := (p1.nx x2 r2).put (i := j) l2 fun a e => ⟨p1.back a e, fun j => (p1.vw j).2.none e⟩
          obtain ⟨G3, p3⟩ := (p2.nx x3 r3).put (i := l) l3 fun a e => ⟨p2.back a e, fun j => (p2.vw j).2.none e⟩
          exact ⟨v1, v2, v3, rfl, q G3 _ _ p3⟩

/-! ### y = xs.pop() -/
def sPop (i j : Nat) : CS := fun δ ρ => match δ[j]? with
  | some (some (true, .lst ds)) => match ds[ds.length - 1]? with
    | some d => if imm d then .nx (put i d true (δ.set j (some (true, .lst ds.dropLast)))) ρ else .no
    | none => .no
  | _ => .no
theorem RpAll.dropLast : ∀ {vs : List V} {ds : List D}, RpAll Γ H vs ds → RpAll Γ H vs.dropLast ds.dropLast
  | _, _, .nil => .nil
  | _, _, .cons h .nil => .nil
  | _, _, .cons h (.cons h2 r) => .cons h (RpAll.dropLast (.cons h2 r))
theorem cs_pop {i j : Nat} {x y : Str} {px pxs apos cpos : Pos} (hN : X.N.Nodup) (hi : X.N[i]? = some x) (hx : Loc X.env.scope x) (hj : X.N[j]? = some y) (hv : Vis X.env.scope y) (hK : X.K = Γ.K)
    (hf : X.fn x = true ∨ X.env.scope.names.lookup x = some .local := by first | exact .inl rfl | exact .inr rfl | assumption)
    (hd : (y == ("__debug__" : Str)) = false := by decide) (hcd : (y == ("__classdict__" : Str)) = false := by decide)
    (hbase : attributeBase (.Name y pxs) "pop" X.env (eval (.Name y pxs) X.env) = eval (.Name y pxs) X.env := by rfl)
    (hline : (apos.endLine == cpos.line) = true := by rfl)
    (hs : swapsWithSole [.Name x px] (.Call (.Attribute (.Name y pxs) "pop" apos) [] [] cpos) pos.line X.env = pure false := by rfl)
    (hw : swappedStores [.Name x px] (.Call (.Attribute (.Name y pxs) "pop" apos) [] [] cpos) X.env = pure none := by rfl) :
    PS X (.Assign [.Name x px] (.Call (.Attribute (.Name y pxs) "pop" apos) [] [] cpos) pos) (TSt Γ E (sPop i j)) :=
  (ps_asg (pe_bm0 PySem.F.plainAttrs_list PySem.F.slot_list_pop PySem.F.type_list_pop mt_pop (pe_var hj hv hd hcd) hbase hline) (pg_name hN hi hx hf) hs hw).imp fun D σ H ⟨B, δ, ρ, G, s, q⟩ => by
    unfold sPop at q
    split at q
    · rename_i ds e1
      split at q
      · rename_i d e2
        by_cases m : imm d = true
        · rw [if_pos m] at q
          obtain ⟨l, vs, G0, eσ, nR, gl, nl, w0, q0, n0⟩ := s.root e1
          have hH : H l = some (.lst vs) := (s.vw j).2 l _ gl
          obtain ⟨v, hv1, rv⟩ := q0.get e2
          refine ⟨_, eσ, .inl ⟨rfl, vs, SqL.of hH⟩, l, vs, v, rfl, rfl, hH, by rw [q0.length]; exact hv1, ?_⟩
          obtain ⟨G', s'⟩ := s.lset (vs' := vs.dropLast) (ds' := ds.dropLast) (G0 := G0) e1 eσ gl nR w0 q0.dropLast nl n0
          have xr : ∀ a o, G0 a = some o → upd H l (.lst vs.dropLast) a = some o := fun a o ea => by
            have na : a ≠ l := by rintro rfl; rw [nl] at ea; cases ea
            rw [upd_ne na]; exact w0.2 a o ea
          have rp : Rp Γ (upd H l (.lst vs.dropLast)) v d := rv.mono (Ex.xr xr)
          obtain ⟨G2, p2⟩ := s'.put (i := i) (Vl.of_imm (H := upd H l (.lst vs.dropLast)) s'.row rp m (fr := true)) fun a e => ⟨s'.back a e, fun k => (s'.vw k).2.none e⟩
          exact q G2 _ _ p2
        · rw [if_neg m] at q; exact q.elim
      · exact q.elim
    · exact q.elim

/-! ### sorted(xs) of plain data of one shape -/
def encD (d : D) : PyData := (py d).getD .none
def isT1 : PyData → Bool
  | .tuple (_ :: _) => true
  | _ => false
def notT : PyData → Bool
  | .none => false
  | .tuple _ => false
  | _ => true
def okSort (ps : List PyData) : Bool := (ps.all fun p => ps.all fun q => PySem.W.alike p q) && (ps.all isT1 || ps.all notT) && ps.all fun p => decide (p.depth ≤ 50)
theorem okSort_of {ps : List PyData} (h : okSort ps = true) : PySem.W.AllAlike ps ∧ PySem.W.Sortable ps ∧ ∀ p ∈ ps, p.depth ≤ 50 := by
  unfold okSort at h
  rw [Bool.and_eq_true, Bool.and_eq_true] at h
  obtain ⟨⟨h1, h2⟩, h3⟩ := h
  refine ⟨fun p hp q hq => List.all_eq_true.mp (List.all_eq_true.mp h1 p hp) q hq, ?_, fun p hp => of_decide_eq_true (List.all_eq_true.mp h3 p hp)⟩
  rcases Bool.or_eq_true_iff.mp h2 with h2 | h2
  · refine .inl fun d hd => ?_
    have := List.all_eq_true.mp h2 d hd
    unfold isT1 at this
    split at this
    · exact ⟨_, _, rfl⟩
    · cases this
  · refine .inr fun d hd => ?_
    have := List.all_eq_true.mp h2 d hd
    unfold notT at this
    split at this
    · cases this
    · cases this
    · rename_i n1 n2
      exact ⟨n1, n2⟩
theorem pyAll_enc : ∀ {ds : List D} {ps : List PyData}, pyAll ds = some ps → ps = ds.map encD ∧ ∀ d ∈ ds, py d = some (encD d)
  | [], _, h => by rw [pyAll] at h; cases h; exact ⟨rfl, fun _ z => by cases z⟩
  | x :: xs, _, h => by
    rw [pyAll] at h
    split at h
    · rename_i y ys h1 h2
      cases h
      obtain ⟨e1, e2⟩ := pyAll_enc h2
      have e3 : encD x = y := by unfold encD; rw [h1]; rfl
      refine ⟨by rw [List.map_cons, e3, e1], fun d hd => ?_⟩
      rcases List.mem_cons.mp hd with rfl | hd
      · rw [e3]; exact h1
      · exact e2 d hd
    · cases h
def sortD (ds : List D) : List D := ds.mergeSort (PySem.W.dataLe false encD)
theorem imm_sortD {xs : List D} (h : immAll xs = true) : immAll (sortD xs) = true := by
  rw [immAll_eq] at h ⊢
  exact List.all_eq_true.mpr fun x hx => List.all_eq_true.mp h x ((List.mergeSort_perm _ _).mem_iff.mp hx)
def fSortD : OpN := fun as => match as with
  | [.lst xs] => match pyAll xs with
    | some ps => if okSort ps && immAll xs then some (.lst (sortD xs), true) else none
    | none => none
  | _ => none
def rSortDT (Γ : Gam) : List V → Hp → VK → Prop := fun xs H Q => ∃ (a : Addr) (vs : List V) (ds : List D) (ps : List PyData), xs = [V.ref a] ∧ SqL Γ.K H a vs ∧ RpAll Γ H vs ds ∧ pyAll ds = some ps ∧ okSort ps = true ∧
  ∀ ys p, RpAll Γ H ys (sortD ds) → H p = none → Q (.ref p) (upd H p (.lst ys))
theorem each_of {R : Value → V × D → Prop} : ∀ {its : List Value} {vs : List V} {ds : List D}, Vals vs its → RpAll Γ H vs ds → (∀ u v d, RelV v u → Rp Γ H v d → R u (v, d)) → PySem.W.EachIs R its (vs.zip ds)
  | _, _, _, .nil, .nil, _ => .nil
  | _, _, _, .cons a r, .cons b q, h => .cons (h _ _ _ a b) (each_of r q h)
theorem zip_snd : ∀ {vs : List V} {ds : List D}, vs.length = ds.length → (vs.zip ds).map (·.2) = ds
  | [], [], _ => rfl
  | [], _ :: _, h => by cases h
  | _ :: _, [], h => by cases h
  | v :: vs, d :: ds, h => by rw [List.zip_cons_cons, List.map_cons, zip_snd (by simpa using h)]
theorem each_back : ∀ {out : List Value} {bs : List (V × D)}, PySem.W.EachIs (fun u p => RelV p.1 u ∧ Rp Γ H p.1 p.2) out bs → Vals (bs.map (·.1)) out ∧ RpAll Γ H (bs.map (·.1)) (bs.map (·.2))
  | _, _, .nil => ⟨.nil, .nil⟩
  | _, _, .cons h t => ⟨.cons h.1 (each_back t).1, .cons h.2 (each_back t).2⟩
theorem cr_sortDT {k : Nat} (hK : X.K = Γ.K) (hr : Room k X.A) : CallR X (.builtin "sorted") (rSortDT Γ) := by
  intro pins s σ H xs us Q I r h
  obtain ⟨a, vs, ds, ps, rfl, hs, hv, hp, ho, q⟩ := h
  obtain ⟨ha, hsr, hd⟩ := okSort_of ho
  obtain ⟨ep, eq⟩ := pyAll_enc hp
  rw [← hK] at hs
  obtain ⟨its, rv, hl, hz⟩ := I.list hs
  rw [Vals.ref1 r]
  have e1 : PySem.W.EachIs (fun u (p : V × D) => RelV p.1 u ∧ Rp Γ H p.1 p.2) its (vs.zip ds) := each_of rv hv fun u v d h1 h2 => ⟨h1, h2⟩
  have ez : (vs.zip ds).map (fun p => encD p.2) = ps := by
    rw [ep]
    have := congrArg (List.map encD) (zip_snd hv.length)
    rw [List.map_map] at this
    exact this
  have hm : ∀ p ∈ vs.zip ds, py p.2 = some (encD p.2) := fun p hp => eq p.2 (by
    have := List.mem_map_of_mem (f := Prod.snd) hp
    rw [show (vs.zip ds).map Prod.snd = ds from zip_snd hv.length] at this
    exact this)
  have er : PySem.W.EachIs (fun u (p : V × D) => ∃ as, Reads s.heap u (encD p.2) as) its (vs.zip ds) := by
    refine (PySem.W.each_mem e1).mono fun u p ⟨⟨h1, h2⟩, h3⟩ => ?_
    have := dp_of h2 (hm p h3)
    rw [← hK] at this
    exact Dp.reads I _ _ _ this h1
  have hL : (vs.zip ds).length ≤ sizeLine := by rw [List.length_zip]; omega
  have hun := hr.units
  refine PySem.W.sorted_data (enc := fun p : V × D => encD p.2) (R := fun u (p : V × D) => RelV p.1 u ∧ Rp Γ H p.1 p.2) hl.isList e1 er (by rw [ez]; exact ha) (by rw [ez]; exact hsr) hL (fun p hp => ?_) fun out ol oe => ?_
  · have : encD p.2 ∈ ps := by rw [← ez]; exact List.mem_map_of_mem (f := fun p : V × D => encD p.2) hp
    have := hd _ this
    omega
  · obtain ⟨b1, b2⟩ := each_back oe
    have em : ((vs.zip ds).mergeSort (PySem.W.dataLe false fun p : V × D => encD p.2)).map (·.2) = sortD ds := by
      have := List.map_mergeSort (r := PySem.W.dataLe false fun p : V × D => encD p.2) (s := PySem.W.dataLe false encD) (f := Prod.snd) (l := vs.zip ds) (fun a _ b _ => rfl)
      rw [show (vs.zip ds).map Prod.snd = ds from zip_snd hv.length] at this
      exact this
    rw [em] at b2
    obtain ⟨ep', he'⟩ := PyProof.Rows.sortedAll_at s.heap its out.toArray
    refine ⟨.ref _, upd H (s.heap.objs.size + 1) (.lst _), I.laid (t' := s.toks) (fun _ _ => PyProof.Rows.sortedAll_old) (Nat.le_succ _) ⟨?_, out, ep', b1, he'⟩, rfl, q _ _ b2 (I.hok.fresh (Nat.le_succ _))⟩
    rw [List.length_map, List.length_mergeSort]
    exact hL
theorem oSortD {k : Nat} (hK : X.K = Γ.K) (hr : Room k X.A) : ∃ r, CallR X (.builtin "sorted") r ∧ CaS Γ r fSortD := ⟨_, cr_sortDT hK hr, by
  intro H xs as d fr ρ Q row r e q
  unfold fSortD at e
  split at e
  · split at e
    · rename_i ps hp
      split at e
      · rename_i hb
        cases e
        rw [Bool.and_eq_true] at hb
        obtain ⟨v, rfl, rv⟩ := r.one
        obtain ⟨a, ys, rfl, h, ry, _⟩ := rv.lst_of
        refine ⟨a, ys, _, ps, rfl, SqL.of h, ry, hp, hb.1, fun zs p rz hpn => ?_⟩
        exact q _ _ (Ex.new hpn) (Vl.list row (VlA.of_imm row rz (imm_sortD hb.2)) hpn fun _ h => h)
      · cases e
    · cases e
  · cases e⟩
def fSortX : OpN := fun a => match fSort a with | some p => some p | none => fSortD a
theorem xSortX {k : Nat} (hK : X.K = Γ.K) (hr : Room k X.A) : ∃ r, CallR X (.builtin "sorted") r ∧ CaS Γ r fSortX := by
  obtain ⟨r, h1, h2⟩ := xSort (X := X) (Γ := Γ) hK
  obtain ⟨r', h1', h2'⟩ := oSortD (X := X) (Γ := Γ) hK hr
  exact ⟨_, h1.or h1', h2.or h2'⟩

/-! ### min(xs) of one plain thing -/
def fMin1 : OpN := fun as => match as with
  | [.lst [d]] => match py d with
    | some p => if PySem.W.alike p p && notN p && decide (p.depth ≤ 50) then some (d, imm d) else none
    | none => none
  | _ => none
where notN : PyData → Bool
  | .none => false
  | _ => true
def rMin1 (Γ : Gam) : List V → Hp → VK → Prop := fun xs H Q => ∃ (a : Addr) (v : V) (d : D) (p : PyData), xs = [V.ref a] ∧ SqL Γ.K H a [v] ∧ Rp Γ H v d ∧ py d = some p ∧ PySem.W.alike p p = true ∧ p ≠ .none ∧ p.depth ≤ 50 ∧ Q v H
theorem cr_min1 {k : Nat} (hK : X.K = Γ.K) (hr : Room k X.A) (hc : X.calm = true) : CallR X (.builtin "min") (rMin1 Γ) := by
  intro pins s σ H xs us Q I r h
  obtain ⟨a, v, d, p, rfl, hs, hv, hp, ha, hn, hd, q⟩ := h
  rw [← hK] at hs
  obtain ⟨its, rv, hl, hz⟩ := I.list hs
  rw [Vals.ref1 r]
  obtain ⟨u, rfl, ru⟩ := vals1 rv
  have dp := dp_of hv hp
  rw [← hK] at dp
  obtain ⟨bs, rd⟩ := Dp.reads I _ _ _ dp ru
  have hun := hr.units
  refine PySem.W.min_list_data (x := p) (xs := []) (I.ok.hd hc) hl.isList (ReadsAll.cons rd ReadsAll.nil) ⟨fun x hx y hy => ?_, fun x hx => ?_⟩ ?_ fun i w h' tk cs hi hw hk => ?_
  · rw [List.mem_singleton.mp hx, List.mem_singleton.mp hy]; exact ha
  · rw [List.mem_singleton.mp hx]; exact hn
  · have : PyData.depthAll [p] ≤ 50 := by rw [PyData.depthAll, PyData.depthAll]; omega
    omega
  · have : w = u := by
      cases i with
      | zero => simpa using hi.symm
      | succ i => simp at hi
    subst this
    exact ⟨v, H, I.kept hk, ru, q⟩
theorem oMin1 {k : Nat} (hK : X.K = Γ.K) (hr : Room k X.A) (hc : X.calm = true) : ∃ r, CallR X (.builtin "min") r ∧ CaS Γ r fMin1 := ⟨_, cr_min1 hK hr hc, by
  intro H xs as d fr ρ Q row r e q
  unfold fMin1 at e
  split at e
  · split at e
    · rename_i p hp
      split at e
      · rename_i hb
        cases e
        rw [Bool.and_eq_true, Bool.and_eq_true] at hb
        obtain ⟨v, rfl, rv⟩ := r.one
        obtain ⟨a, ys, rfl, h, ry, _⟩ := rv.lst_of
        obtain ⟨w, rfl, rw'⟩ := ry.one
        refine ⟨a, w, _, p, rfl, SqL.of h, rw', hp, hb.1.1, fun z => ?_, of_decide_eq_true hb.2, q _ _ (Ex.refl H) (Vl.ifimm row rw')⟩
        subst z
        exact Bool.noConfusion hb.1.2
      · cases e
    · cases e
  · cases e⟩
end
end WF

/-! ## WFT -/
/-! Own layer, part T: lambdas handed to a def; what one of them raises, told as a word. -/
namespace WF
open PySem PySem.Spec PyProof.Rows L2 LamX

/-- all is kept, and a table stays one -/
def ExT (H H' : Hp) : Prop := ∀ b o, H b = some o → H' b = some o ∨ ∃ ps ps', o = .tbl ps ∧ H' b = some (.tbl ps')
theorem ExT.rfl' (H : Hp) : ExT H H := fun _ _ h => .inl h
theorem ExT.xr {Γ : Gam} {H H' : Hp} (e : ExT H H') : Xr Γ H H' := fun b o h => (e b o h).imp id .inr
theorem ExT.none {H H' : Hp} (e : ExT H H') {b : Addr} (h : H' b = none) : H b = none := by
  cases q : H b with
  | none => rfl
  | some o =>
    rcases e b o q with z | ⟨_, _, _, z⟩
    · rw [h] at z; cases z
    · rw [h] at z; cases z
/-- who makes lambdas: the code object at c, its table at P, told in T -/
structure Maker (X : Cx) (T : List (Addr × Str)) (c P : Addr) : Prop where
  tb : TabB X.base X.mg c P
  cd : X.env.code = .ref c
  mem : (P, X.env.qual ++ "<lambda>") ∈ T
  one : ∀ p ∈ T, p.1 = P → p.2 = X.env.qual ++ "<lambda>"
abbrev lamO (X : Cx) (params : Arguments) (body : Expr) (scope : Scope) (pm : Value) (c' : Addr) (ctv : Value) : Obj := PySem.W.kla_obj "<lambda>" (X.env.qual ++ "<lambda>") params body scope (cloFrom X.env.cells scope.names []) pm c' ctv
section
variable {X : Cx} {pins : List (Addr × Obj)} {σ : L2.St} {H : Hp} {s : Shared} {T : List (Addr × Str)} {c P : Addr}
theorem old_frs (I : Inv X pins σ H s) {f : Addr} (h : s.heap.objs.size ≤ f) : f ∉ frs X.stack := by
  intro z
  rcases List.mem_cons.mp (I.stkSub _ z) with e | e
  · have h2 := I.lt
    rw [← e] at h2
    exact Nat.lt_irrefl _ (Nat.lt_of_lt_of_le h2 h)
  · exact I.nofs h e
theorem lam_new {params : Arguments} {body : Expr} {scope : Scope} {pos : Pos} {E Q : Value → Shared → Prop} (I : Inv X pins σ H s) (M : Maker X T c P) (hT : Tabs T H) (hd : defaultsOf params X.env = ([], [])) (hf : ∀ y ∈ scope.names, y.2 = .free → ∃ c, X.env.cells.lookup y.1 = some c)
    (k : ∀ (f c' : Addr) (pm ctv : Value) (H1 : Hp) (s' : Shared), Inv X pins σ H1 s' → ExT H H1 → Tabs T H1 → s'.heap.get? f = some (lamO X params body scope pm c' ctv) → H1 f = none → f ∉ frs X.stack → H1 c' = some (CodeO c' (X.env.qual ++ "<lambda>")) → Q (.ref f) s') :
    wpAny (model X.prog X.w) X.A (eval (.Lambda params body scope pos) X.env) Q E s := by
  obtain ⟨ps, atP, wf, known⟩ := hT _ M.mem
  have real := I.hok P _ atP
  have bi := M.tb.bm.keeps I.bk
  have gl := I.mod.glob.keeps I.bk
  have cd := M.tb.code.keeps I.bk
  refine PySem.W.kla_eval hd ?_
  rcases hc : codeAmong pos ps.toList with _ | cv
  · refine PySem.W.kla_makeFunction (ps := ps) (closure_ok hf) I.ok.glob gl M.cd cd real wf hc M.tb.gP bi ?_
    rintro c' ctv h' tk keep old lt ⟨_, oc, vs, t, e2, o1, o2, o3⟩ tab
    cases e2
    have grow : s.heap.objs.size ≤ h'.objs.size := by omega
    have nC : H c' = none := I.hok.fresh old
    have nPC : P ≠ c' := ne_of_none atP nC
    let more : Array Value := #[rawInt pos.line, rawInt pos.col, .ref c']
    let H1 : Hp := upd (upd H P (.tbl (ps ++ more))) c' (CodeO c' (X.env.qual ++ "<lambda>"))
    let ob := lamO X params body scope ((X.mg "__name__").getD .none) c' ctv
    have J : Inv X pins σ H1 { s with heap := h'.push ob, toks := tk } := inv_table (more := more) I atP (fun b o hb e => Heap.get?_push_of_some _ (keep b o hb e)) (Heap.get?_push_of_some _ tab) old ⟨oc, vs, t, Heap.get?_push_of_some _ o1, o2, o3⟩
    have atC : H1 c' = some (CodeO c' (X.env.qual ++ "<lambda>")) := upd_same
    have away : ∀ {b o}, b ≠ P → H b = some o → H1 b = some o := fun {b o} n e => by
      show upd _ c' _ b = _
      rw [upd_ne (ne_of_none e nC), upd_ne n]; exact e
    have atP1 : H1 P = some (.tbl (ps ++ more)) := by
      show upd _ c' _ P = _
      rw [upd_ne nPC, upd_same]
    have X1 : ExT H H1 := fun b o e => by
      by_cases hb : b = P
      · subst hb; rw [atP] at e; cases e; exact .inr ⟨_, _, rfl, atP1⟩
      · exact .inl (away hb e)
    have codes : ∀ {b : Addr} {q : Str}, H b = some (CodeO b q) → H1 b = some (CodeO b q) := fun {b q} e => by
      by_cases hb : b = P
      · subst hb; rw [atP] at e; exact absurd (Option.some.inj e).symm (codeO_ne ps)
      · exact away hb e
    refine k h'.objs.size c' _ ctv H1 _ J X1 ?_ (Heap.get?_push_size _ rfl) ?_ (old_frs I grow) atC
    · intro p hp
      by_cases hb : p.1 = P
      · rw [M.one p hp hb, hb]
        have eL : (ps ++ more).toList = ps.toList ++ [rawInt pos.line, rawInt pos.col, .ref c'] := by simp [more]
        refine ⟨ps ++ more, atP1, ?_, ?_⟩
        · rw [eL]; exact PySem.TriplesOk_snoc _ _ _ _ wf
        · intro p' cv h
          rw [eL] at h
          rcases among_app _ wf h with z | z
          · obtain ⟨c0, e1, e2⟩ := known p' cv z
            exact ⟨c0, e1, codes e2⟩
          · exact ⟨c', z, atC⟩
      · obtain ⟨qs, a1, a2, a3⟩ := hT p hp
        refine ⟨qs, away hb a1, a2, fun p' cv h => ?_⟩
        obtain ⟨c0, e1, e2⟩ := a3 p' cv h
        exact ⟨c0, e1, codes e2⟩
    · show upd _ c' _ _ = _
      have h1 : h'.objs.size ≠ c' := by omega
      have h2 : h'.objs.size ≠ P := by
        intro z
        have h3 : P < s.heap.objs.size := Heap.lt_size real
        rw [← z] at h3
        exact absurd grow (Nat.not_le.mpr h3)
      rw [upd_ne h1, upd_ne h2]
      exact I.hok.fresh grow
  · obtain ⟨c', rfl, hco⟩ := known pos cv hc
    refine PySem.W.kla_makeFunctionHit (ps := ps) (closure_ok hf) I.ok.glob gl M.cd cd real wf hc bi ?_
    intro ctv h' tk keep grow
    exact k h'.objs.size c' _ ctv H _ (I.kept (t' := tk) fun b o e => Heap.get?_push_of_some _ (keep b o e)) (ExT.rfl' H) hT (Heap.get?_push_size _ rfl) (I.hok.fresh grow) (old_frs I grow) hco
/-- the frame of the def nm, entered at (t, G), as a law's own told() is -/
abbrev errCx (X : Cx) (names : List Str) (nm : Str) (sg : Scope) (g : Addr) (cdg : Value) (t : Shared) (G : Hp) : Cx := cxOf C8.CX0 X.prog X.w X.K X.mg X.base names nm sg g cdg X.A X.stack t G C8.E0
/-- a def that calls what it gets once, and tells how that ends; it has room for k more calls -/
def GivesR (k : Nat) (X : Cx) (names : List Str) (nm : Str) (sg : Scope) (g : Addr) (cdg : Value) (suite : List Stmt) (a : Str) (q : Str) (told : (XK → Hp → VK → Prop) → Hp → VK → Prop) : Prop :=
  ∀ (f c' : Addr) (t : Shared) (G : Hp) (Q : VK) (ask : XK → Hp → VK → Prop), Room k (X.A.deeper (envOfC nm sg t.heap.objs.size g cdg)) → (∃ pins σ, Inv X pins σ G t) →
    (∀ (V : WX) (pn : List (Addr × Obj)) (xe : Value → Shared → Prop) (Er : XK) (c1 c2 : Pos), Takes ((errCx X names nm sg g cdg t G).tr pn xe) V → (∀ kind v τ G2, Er kind v G2 → V kind v τ G2) →
      PE ((errCx X names nm sg g cdg t G).tr pn xe) (.Call (.Name a c1) [] [] c2) fun τ G2 R => τ[0]? = some (some (.ref f)) ∧ G2 c' = some (CodeO c' q) ∧ ask Er G2 R) →
    G c' = some (CodeO c' q) → told ask G Q → ∃ wish, PSs (errCx X names nm sg g cdg t G).nox suite wish ∧ wish { nx := fun _ G2 => Q .non G2, rt := Q } (L2.start names [.ref f]) G
/-- the lambda is laid, then handed to the def x -/
def tGive (T : List (Addr × Str)) (TT : (XK → Hp → VK → Prop) → Hp → VK → Prop) (t : XK → TE) : TE := fun σ H Q => Tabs T H ∧ ∀ H1, ExT H H1 → Tabs T H1 → TT (fun E H' Q' => t E σ H' Q') H1 Q
theorem pe_give {told : (XK → Hp → VK → Prop) → Hp → VK → Prop} {x a : Str} {g : Addr} {k : Nat} {pg : Arguments} {suite : List Stmt} {sg : Scope} {dV kV doc pm cdv ct oc : Value} {an od : Option Addr} {osl : Array (Option Value)} {names : List Str}
    {ps : Arguments} {e : Expr} {sc : Scope} {t : XK → TE} {p lpos pos : Pos} (hg : Gl X x) (hm : X.mg x = some (.ref g)) (hk : PySem.W.keepIn X.K (.ref g) = true)
    (look : X.K.lookup g = some ⟨oc, od, .func (PySem.W.fnOf x x pg suite sg dV kV doc pm an cdv ct), osl⟩) (coded : PySem.W.codeIn X.K cdv x = true) (binds : L2.Binds X.K (PySem.W.fnOf x x pg suite sg dV kV doc pm an cdv ct) [a] []) (Sg : FnScope names [a] sg) (first : names[0]? = some a) (vis : Vis sg a)
    (gives : GivesR (k + 1) X names x sg g cdv suite a (X.env.qual ++ "<lambda>") told) (M : Maker X T c P) (room : Room (k + 2) X.A) (L : LamS X.env.scope sc) (plain : defaultsOf ps X.env = ([], []))
    (none_bound : ∀ (q : Str) (cl : List (Str × Addr)) (m cv tv : Value), bindArgs (PySem.W.kla_fn "<lambda>" q ps e sc cl m cv tv) ⟨[], []⟩ = pure [])
    (does : ∀ (Ar : Around) (out : List Env) (u : Shared) (G : Hp) (Er : XK) (f c' : Addr), Room k (Ar.deeper (lamEnv X sc u.heap.objs.size f c')) → PE (lamCx X Ar out u G Er sc f c') e (t Er))
    (n0 : (x == ("__debug__" : Str)) = false := by decide) (n1 : (a == ("__debug__" : Str)) = false := by decide) (n2 : (a == ("__classdict__" : Str)) = false := by decide) :
    PE X (.Call (.Name x p) [.Lambda ps e sc lpos] [] pos) (tGive T told t) := by
  refine ⟨fun pins s σ H Q I h => ?_⟩
  refine wpAny_Call_Name_kw (ld_glob I hg hm (PySem.W.callWith_K (h₀ := X.base) I.ok.mod.kin hk ?_ (by rfl) (by rfl)) n0)
  refine Calls.spliced_cons (lam_new I M h.1 plain (L.has I.ok) ?_)
  intro f c' pm' ctv H1 s' J x1 T1 hf m1 m2 hco
  refine Calls.spliced_nil ⟨J.kIn, wpAny_call (codeAny_mono (run_ofS (CX := C8.CX0) (Q := Q) (E := C8.E0) (N := names) (ps := [a]) (us := [.ref f]) (vs := [.ref f]) look coded Sg room J.env0 (binds s' [.ref f] J.kIn rfl) (.cons rfl .nil) rfl ?_) ?_)⟩
  · intro room2
    obtain ⟨u, hu, hq⟩ := gives f c' s' H1 Q _ room2 ⟨_, _, J⟩ (fun W pn xe E p1 p2 tk hW => pe_act (i := 0) J L hf m1 m2 (none_bound _ _ _ _ _) tk hW room2 (fun A outer s H room3 => does A outer s H E f c' room3) first vis n1 n2) hco (h.2 H1 x1 T1)
    exact ⟨u, hu.nox, hq⟩
  · rintro (e | w) s2 end_
    · exact (show False from end_).elim
    · cases w with
      | ret u => exact J.after end_
      | next => cases (end_ : False)
      | brk => cases (end_ : False)
      | cont => cases (end_ : False)
end
end WF

/-! ## WFU -/
/-! Own layer, part U: xs.index(y), xs.count(y), isinstance(e, C) in an except suite, the word of what is raised. -/
namespace WF
open PySem PySem.Spec PyProof.Rows L2 LamX
section
variable {Γ : Gam} {E : L2.St → XK} {X : Cx} {B B' : Hp} {G : Nat → Hp} {σ : L2.St} {H H1 H2 : Hp} {δ : List Slot} {ρ ρ1 ρ2 : Row} {pos cpos apos : Pos} {a b e o : Expr} {ca cb cc : CE} {v : V} {d : D} {vs : List V} {ds : List D}
theorem xEqU (hK : X.K = Γ.K) (hu : X.A.units + 65 < cLine) : CmpX X Γ .Eq fEq := ⟨_, op_eqD (by omega), by rw [hK]; exact oEq⟩
def idxOf : List PyData → PyData → Option Nat
  | [], _ => none
  | z :: r, p => if PyData.eqv z p then some 0 else (idxOf r p).map (· + 1)
theorem idxOf_ok : ∀ {ps : List PyData} {p : PyData} {j : Nat}, idxOf ps p = some j → ∃ z, ps[j]? = some z ∧ PyData.eqv z p = true ∧ ∀ (m : Nat) (z' : PyData), m < j → ps[m]? = some z' → PyData.eqv z' p = false
  | [], _, _, h => by cases h
  | z :: r, p, j, h => by
    unfold idxOf at h
    split at h
    · rename_i hz
      cases h
      exact ⟨z, rfl, hz, fun m _ hm => absurd hm (Nat.not_lt_zero m)⟩
    · rename_i hz
      cases q : idxOf r p with
      | none => rw [q] at h; cases h
      | some i =>
        rw [q] at h
        cases h
        obtain ⟨y, h1, h2, h3⟩ := idxOf_ok q
        refine ⟨y, h1, h2, fun m z' hm hz' => ?_⟩
        cases m with
        | zero => cases hz'; simpa using hz
        | succ m => exact h3 m z' (Nat.lt_of_succ_lt_succ hm) hz'
def fIdx : Op2 := fun a b => match a, py b with
  | .lst xs, some p => match pyAll xs with
    | some ps => if SeqAt.shaped (.list ps) && SeqAt.shaped p then (match idxOf ps p with | some j => some (.int (j : Nat), true) | none => none) else none
    | none => none
  | _, _ => none
def fCnt : Op2 := fun a b => match a, py b with
  | .lst xs, some p => match pyAll xs with
    | some ps => if PyData.plainAll ps && p.plain && decide (PyData.depthAll ps ≤ 60) then some (.int ((ps.countP fun y => PyData.eqv y p : Nat) : Int), true) else none
    | none => none
  | _, _ => none
theorem oIdx : OpS Γ (fun x y H Q => rIndexD Γ.K x [y] H Q) fIdx := fun H x y a b d fr ρ Q row ra rb e q => by
  unfold fIdx at e
  split at e
  · rename_i xs p hp
    split at e
    · rename_i ps hps
      split at e
      · rename_i hs
        split at e
        · rename_i j hj
          cases e
          rw [Bool.and_eq_true] at hs
          obtain ⟨z, h1, h2, h3⟩ := idxOf_ok hj
          obtain ⟨l, us, rfl, _⟩ := ra.lst_of
          have hl : py (.lst xs) = some (.list ps) := by rw [py, hps]
          exact ⟨l, y, p, ps, j, z, rfl, rfl, dp_of ra hl, dp_of rb hp, hs.1, hs.2, h1, h2, h3, q _ H (Ex.refl H) (Vl.of_imm row (.int _) rfl)⟩
        · cases e
      · cases e
    · cases e
  · cases e
def rCntD (K : PySem.W.Frag) : V → List V → Hp → VK → Prop := fun x xs H Q => ∃ (a : Addr) (y : V) (d : PyData) (ds : List PyData), x = V.ref a ∧ xs = [y] ∧ Dp K H (V.ref a) (.list ds) ∧ Dp K H y d ∧ PyData.plainAll ds = true ∧ d.plain = true ∧ PyData.depthAll ds ≤ 60 ∧
  Q (.int ((ds.countP fun z => PyData.eqv z d : Nat) : Int)) H
theorem mt_cntD (hu : X.A.units + 65 < cLine) : MtR X "list.count" (rCntD X.K) := by
  intro pins s σ H x xs v us Q I rx rxs h
  obtain ⟨a, y, d, ds, rfl, rfl, hl, hy, p1, p2, hd, q⟩ := h
  cases rx
  obtain ⟨u, rfl, ru⟩ := rxs.one
  obtain ⟨bs, r1⟩ := Dp.reads I d y u hy ru
  cases hl with
  | lst hs ha =>
    obtain ⟨its, rv, li, hz⟩ := I.list hs
    obtain ⟨as, r2⟩ := Dp.readsAll I ds _ its ha rv
    refine PySem.SeqAt.count_list_data li.isList (vs := its.toArray) (xs := ds) (d := d) (by simpa using r2) r1 p1 p2 (by omega) ?_
    exact ⟨.int ((ds.countP fun z => PyData.eqv z d : Nat) : Int), H, I.tok _, ⟨_, rfl⟩, q⟩
theorem oCnt : OpS Γ (fun x y H Q => rCntD Γ.K x [y] H Q) fCnt := fun H x y a b d fr ρ Q row ra rb e q => by
  unfold fCnt at e
  split at e
  · rename_i xs p hp
    split at e
    · rename_i ps hps
      split at e
      · rename_i hs
        cases e
        rw [Bool.and_eq_true, Bool.and_eq_true] at hs
        obtain ⟨l, us, rfl, _⟩ := ra.lst_of
        have hl : py (.lst xs) = some (.list ps) := by rw [py, hps]
        exact ⟨l, y, p, ps, rfl, rfl, dp_of ra hl, dp_of rb hp, hs.1.1, hs.1.2, of_decide_eq_true hs.2, q _ H (Ex.refl H) (Vl.of_imm row (.int _) rfl)⟩
      · cases e
    · cases e
  · cases e
/-- xs.m(y), xs a list -/
def eLM (f : Op2) (ca cb : CE) : CE := fun δ ρ => match ca δ ρ with
  | .ok (.lst xs) _ ρ1 => match cb δ ρ1 with
    | .ok y _ ρ2 => match f (.lst xs) y with
      | some (d, fr) => .ok d fr ρ2
      | none => .no
    | .er k ρ2 => .er k ρ2
    | .no => .no
  | .er k ρ1 => .er k ρ1
  | _ => .no
theorem c_lm {id : String} {name : Str} {f : Op2} {r : V → List V → Hp → VK → Prop} (hK : X.K = Γ.K) (slot : PySem.Slot "list" name id) (hty : typeOf (.builtin id) = pure (.type "method_descriptor")) (hm : MtR X id r) (hf : OpS Γ (fun x y H Q => r x [y] H Q) f)
    (ho : PE X o (T Γ E ca)) (he : PE X e (T Γ E cb)) (hbase : attributeBase o name X.env (eval o X.env) = eval o X.env := by rfl)
    (hfew : ((backTo cpos (starEach [e] X.env)).all (fun x => !x.1) && (backToKw cpos (keywordEach [] X.env)).all (fun x => x.1.isSome)
      && decide (([e] : List Expr).length + ([] : List Keyword).length + (if ([] : List Keyword).isEmpty then 0 else 1) < 30)) = true := by rfl)
    (hline : (apos.endLine == cpos.line) = true := by rfl) (hs : starEach [e] X.env = (false, eval e X.env) :: starEach [] X.env := by rfl) (hplain : (backTo cpos (starEach [] X.env)).any (·.1) = false := by rfl) :
    PE X (.Call (.Attribute o name apos) [e] [] cpos) (T Γ E (eLM f ca cb)) :=
  (pe_bm PySem.F.plainAttrs_list slot hty hm ho (pa_cons he pa_nil hs) hbase hfew hline hs hplain).imp fun σ H Q ⟨B, δ, ρ, G, s, q⟩ => by
    refine ⟨B, δ, ρ, G, s, ?_⟩
    unfold eLM at q
    cases hA : ca δ ρ with
    | er k ρ1 => rw [hA] at q; exact q
    | no => rw [hA] at q; exact q.elim
    | ok d f1 ρ1 =>
      rw [hA] at q
      intro x H1 x1 r1 l1
      have s1 := s.nx x1 r1
      split at q
      · rename_i xs f2 ρ2 e2
        cases e2
        obtain ⟨l, us, rfl, hl, _⟩ := l1.rp.lst_of
        refine ⟨by rw [hK]; exact .inl ⟨rfl, us, SqL.of hl⟩, B, δ, ρ1, G, s1, ?_⟩
        cases hB : cb δ ρ1 with
        | er k ρ2 => rw [hB] at q; exact fun H' y r => q H' (x1.trans y) r
        | no => rw [hB] at q; exact q.elim
        | ok kd f3 ρ3 =>
          rw [hB] at q
          dsimp only at q
          intro y H2 x2 r2 l2
          split at q
          · rename_i dd fr hk
            refine hf H2 _ _ _ _ dd fr ρ3 Q r2 (l1.rp.mono x2) l2.rp hk fun w H3 x3 l3 => ?_
            refine q w H3 ((x1.trans x2).trans x3.xr) (r2.ex x3) ?_
            exact l3.from fun a h => (x1.trans x2).none r2 h
          · exact q.elim
      · rename_i e; cases e
      · exact q.elim
theorem c_lidx (hK : X.K = Γ.K) (hu : X.A.units + 65 < cLine) (ho : PE X o (T Γ E ca)) (he : PE X e (T Γ E cb)) (hbase : attributeBase o "index" X.env (eval o X.env) = eval o X.env := by rfl)
    (hfew : ((backTo cpos (starEach [e] X.env)).all (fun x => !x.1) && (backToKw cpos (keywordEach [] X.env)).all (fun x => x.1.isSome)
      && decide (([e] : List Expr).length + ([] : List Keyword).length + (if ([] : List Keyword).isEmpty then 0 else 1) < 30)) = true := by rfl)
    (hline : (apos.endLine == cpos.line) = true := by rfl) (hs : starEach [e] X.env = (false, eval e X.env) :: starEach [] X.env := by rfl) (hplain : (backTo cpos (starEach [] X.env)).any (·.1) = false := by rfl) :
    PE X (.Call (.Attribute o "index" apos) [e] [] cpos) (T Γ E (eLM fIdx ca cb)) := c_lm hK PySem.F.slot_list_index PySem.F.type_list_index (mt_indexD hu) (by rw [hK]; exact oIdx) ho he hbase hfew hline hs hplain
theorem c_lcnt (hK : X.K = Γ.K) (hu : X.A.units + 65 < cLine) (ho : PE X o (T Γ E ca)) (he : PE X e (T Γ E cb)) (hbase : attributeBase o "count" X.env (eval o X.env) = eval o X.env := by rfl)
    (hfew : ((backTo cpos (starEach [e] X.env)).all (fun x => !x.1) && (backToKw cpos (keywordEach [] X.env)).all (fun x => x.1.isSome)
      && decide (([e] : List Expr).length + ([] : List Keyword).length + (if ([] : List Keyword).isEmpty then 0 else 1) < 30)) = true := by rfl)
    (hline : (apos.endLine == cpos.line) = true := by rfl) (hs : starEach [e] X.env = (false, eval e X.env) :: starEach [] X.env := by rfl) (hplain : (backTo cpos (starEach [] X.env)).any (·.1) = false := by rfl) :
    PE X (.Call (.Attribute o "count" apos) [e] [] cpos) (T Γ E (eLM fCnt ca cb)) := c_lm hK PySem.F.slot_list_count PySem.F.type_list_count (mt_cntD hu) (by rw [hK]; exact oCnt) ho he hbase hfew hline hs hplain
/-! ### isinstance(e, C), e held by the suite -/
def fIsE (a : Addr) (is : Nat → Option Bool) : OpN := fun as => match as with
  | [.ptr a', .cls j] => if a' = a then (match is j with | some b => some (.bl b, true) | none => none) else none
  | [.ptr a', .ty "ValueError"] => if a' = a then some (.bl true, true) else none
  | _ => none
/-- what the class k says of itself, so that its instances can be asked -/
structure Ask (Γ : Gam) (k : Nat) (is : Nat → Option Bool) : Prop where
  ex : ExcC Γ.K (Γ.cls k)
  ve : PySem.W.kitOne Γ.K (.ref (Γ.cls k)) (.type "ValueError") = some true
  cl : ∀ j b, is j = some b → PySem.W.kitOne Γ.K (.ref (Γ.cls k)) (.ref (Γ.cls j)) = some b
theorem oIsE {a : Addr} {oe : Obj} {pn : List (Addr × Obj)} {k : Nat} {is : Nat → Option Bool} (hK : X.K = Γ.K) (F : Ask Γ k is) (hz : Zc (.ref (Γ.cls k)) none oe) (hf : ∃ vs, oe.data = .fields vs) :
    ∃ r, CallR (X.suite a ((a, oe) :: pn)) (.builtin "isinstance") r ∧ CaS Γ r (fIsE a is) := ⟨_, call_isE (by rw [hK]; exact F.ex) hz hf, by
  rw [hK]
  intro H xs as d fr ρ Q row r e q
  unfold fIsE at e
  split at e
  · rename_i a' j
    split at e
    · rename_i ha
      subst ha
      split at e
      · rename_i b hb
        cases e
        obtain ⟨v, w, rfl, rv, rw'⟩ := r.two
        cases rv
        have hw : w = .ref (Γ.cls j) := by cases rw'; rfl
        subst hw
        exact ⟨_, .ref (Γ.cls j), b, rfl, fun u hu => hu, F.cl j b hb, q _ H (Ex.refl H) (Vl.of_imm row (.bl _) rfl)⟩
      · cases e
    · cases e
  · rename_i a'
    split at e
    · rename_i ha
      subst ha
      cases e
      obtain ⟨v, w, rfl, rv, rw'⟩ := r.two
      cases rv
      have hw : w = .ty "ValueError" := by cases rw'; rfl
      subst hw
      exact ⟨_, .type "ValueError", true, rfl, fun u hu => hu, F.ve, q _ H (Ex.refl H) (Vl.of_imm row (.bl _) rfl)⟩
    · cases e
  · cases e⟩
end
end WF

/-! ## WFV -/
/-! Own layer, part V: try: work() except X as e: .., told as a word. -/
namespace WF
open PySem PySem.Spec PyProof.Rows L2 LamX
section
variable {Γ : Gam} {X : Cx}
theorem pe_mono {e : Expr} {t : TE} (h : PE X e t) : PE X e (fun σ H Q => ∃ Q' : VK, (∀ v H', Q' v H' → Q v H') ∧ t σ H Q') :=
  ⟨fun pins s σ H Q I ⟨Q', i, q⟩ => wpAny_mono (h.run pins s σ H Q' I q) (fun u s' ⟨v, H', J, r, z⟩ => ⟨v, H', J, r, i v H' z⟩) fun _ _ z => z⟩
/-- what work() is asked for: it ends, or raises one that has a word -/
def TTw (Γ : Gam) (words : Nat → Option Str) : (XK → Hp → VK → Prop) → Hp → VK → Prop := fun tl H Q => SqL Γ.K H Γ.S (Γ.ns.map V.int) ∧
  tl (fun cls d H' => ∃ k s ρ, cls = .ref (Γ.cls k) ∧ d = none ∧ words k = some s ∧ RowAt Γ H' ρ ∧ ∀ H'', Xr Γ H' H'' → RowAt Γ H'' ρ → Q (.str s) H'') H fun _ H' => Q .non H'
theorem bw_xr {H H' : Hp} {ρ : Row} (r : RowAt Γ H ρ) (b : Bw Γ (offR Γ H) H') : Xr Γ H H' := fun a o e => by
  by_cases ha : a = Γ.R
  · subst ha
    rw [r.1] at e; cases e
    exact .inr (.inl ⟨rfl, _, rfl⟩)
  · exact b.2 a o ((if_neg ha).trans e)
theorem sq_off {H : Hp} {ρ : Row} (r : RowAt Γ H ρ) : SqL Γ.K (offR Γ H) Γ.S (Γ.ns.map V.int) := by
  rcases r.2.1 with (z | ⟨o, z⟩) | z
  · exact .inl (.inl ((if_neg r.2.2.1).trans z))
  · exact .inl (.inr ⟨o, (if_neg r.2.2.1).trans z⟩)
  · exact .inr z
abbrev dErr (a : Addr) : List Slot := [none, none, some (false, .ptr a), none, none]
theorem dErr_get {a : Addr} {i : Nat} {w : Bool} {d : D} (h : (dErr a)[i]? = some (some (w, d))) : i = 2 ∧ w = false ∧ d = .ptr a := by
  rcases i with _ | _ | _ | _ | _ | i
  · cases h
  · cases h
  · cases h; exact ⟨rfl, rfl, rfl⟩
  · cases h
  · cases h
  · cases h
theorem err_gives {k : Nat} {words : Nat → Option Str} {cS : Nat → Addr → CS} {x a found e xw q : Str} {sg : Scope} {g CW : Addr} {cdg : Value} {u1 u2 : Str} {b₀ : Stmt} {suite : List Stmt} {j : Nat} {p1 p2 p3 p4 p5 p6 p7 p8 q1 q2 q3 : Pos}
    (hnd : ([a, found, e, u1, u2] : List Str).Nodup) (hlf : Loc sg found) (hvf : Vis sg found) (hle : sg.names.lookup e = some .local) (hxw : sg.names.lookup xw = some .globalImplicit) (hmw : X.mg xw = some (.ref CW)) (hdw : (xw == ("__debug__" : Str)) = false)
    (hdf : (found == ("__debug__" : Str)) = false) (hcf : (found == ("__classdict__" : Str)) = false)
    (hxm : ∀ k s, words k = some s → PySem.W.exmOne X.K (.ref (Γ.cls k)) (.ref CW) = some true)
    (hsuite : ∀ (s : Shared) (H : Hp) (i : Nat) (wd : Str), words i = some wd → Room k (X.A.deeper (envOfC x sg s.heap.objs.size g cdg)) → ∀ (ad : Addr) (oe : Obj) (pn : List (Addr × Obj)), Zc (.ref (Γ.cls i)) none oe → (∃ vs, oe.data = .fields vs) →
      PSs ((cxOf C8.CX0 X.prog X.w X.K X.mg X.base [a, found, e, u1, u2] x sg g cdg X.A X.stack s H C8.E0).nox.suite ad ((ad, oe) :: pn)) (b₀ :: suite) (TSt Γ (fun _ => L2.E0) (cS i ad)))
    (hpure : ∀ i wd ad ρ, words i = some wd → ∃ w1 d1 d2, cS i ad (dErr ad) ρ = .nx [none, some (w1, .str wd), some (false, .ptr ad), d1, d2] ρ) :
    GivesR k X [a, found, e, u1, u2] x sg g cdg [.Assign [.Name found q1] (.Constant .none j q2) q3,
      .Try [.Expr (.Call (.Name a p1) [] [] p2) p3] [.ExceptHandler (some (.Name xw p4)) (some e) (b₀ :: suite) p5] [] [] p6, .Return (some (.Name found p7)) p8] a q (TTw Γ words) := by
  intro f c' s H Q tl room _ act hc h
  obtain ⟨_, h⟩ := h
  let XX := (cxOf C8.CX0 X.prog X.w X.K X.mg X.base [a, found, e, u1, u2] x sg g cdg X.A X.stack s H C8.E0).nox
  refine ⟨_, pss_cons (ps_set (X := XX) (i := 1) hnd rfl hlf pe_non (by rfl) (.inl rfl)) (pss_cons (ps_try_as (X := XX) (i := 2) (c := .ref CW)
      (tb := fun W D σ H => ∃ (Ech : XK) (Q' : VK), (∀ cls d σ' H', Ech cls d H' → σ'.length = 5 → W cls d σ' H') ∧ (∀ v H', Q' v H' → D.nx σ H') ∧ σ[0]? = some (some (.ref f)) ∧ H c' = some (CodeO c' q) ∧ tl Ech H Q')
      (ts := fun ad cls d D σ H => ∃ i wd, cls = .ref (Γ.cls i) ∧ d = none ∧ words i = some wd ∧ TSt Γ (fun _ => L2.E0) (cS i ad) D σ H)
      rfl rfl hnd rfl hle ⟨hxw, hdw, .inl hmw⟩ L2.takes0 (fun W pn xe tk _ => ?_) (fun ad oe cls d pn hz hf => ?_)) (pss_one (ps_ret (pe_var (X := XX) (i := 1) rfl hvf hdf hcf)))), ?_⟩
  · refine ⟨fun pins s' σ H D I ⟨Ech, Q', hW, hQ, h0, h1, ht⟩ => ?_⟩
    have tk' : Takes (XX.tr pn xe) (fun cls d σ H => σ.length = 5 → W cls d σ H) := fun u s' ⟨b1, b2, b3, b4, b5, b6, b7, b8, b9, J, c1, c2, c3, c4, c5, c6, w⟩ => tk u s' ⟨b1, b2, b3, b4, b5, b6, b7, b8, b9, J, c1, c2, c3, c4, c5, c6, w J.len⟩
    have hp := act (fun cls d σ H => σ.length = 5 → W cls d σ H) pn xe Ech p1 p2 tk' hW
    exact (pss_one (ps_expr (pe_mono hp))).run pins s' σ H D I ⟨Q', fun v H' z => hQ v H' z, h0, h1, ht⟩
  · refine ⟨fun pins s' σ H D I ⟨i, wd, e1, e2, hw, h⟩ => ?_⟩
    subst e1 e2
    exact (hsuite _ _ i wd hw room ad oe pn hz hf).run pins s' σ H D I h
  · show ∃ Ech Q', _
    refine ⟨_, _, ?_, ?_, rfl, hc, h⟩
    · rintro cls d σ' H' ⟨i, wd, ρ, rfl, rfl, hw, row, hk⟩ hlen
      refine ⟨true, hxm i wd hw, fun _ ad had => ⟨i, wd, rfl, rfl, hw, ?_⟩, fun z => Bool.noConfusion z⟩
      obtain ⟨w1, d1, d2, hp⟩ := hpure i wd ad ρ hw
      refine ⟨offR Γ H', dErr ad, ρ, fun _ => offT Γ H', ⟨?_, offR_bw, sq_off row, row, fun _ => offT_vw, fun j w d hj => ?_, fun j d hj => ?_, fun j d hj => ?_⟩, ?_⟩
      · rw [List.length_set, hlen]; rfl
      · obtain ⟨rfl, rfl, rfl⟩ := dErr_get hj
        refine ⟨.ref ad, ?_, .ptr ad⟩
        rw [List.getElem?_set_self (by omega)]
      · exact Bool.noConfusion (dErr_get hj).2.1
      · exact Bool.noConfusion (dErr_get hj).2.1
      · rw [hp]
        intro G σ2 H2 st
        obtain ⟨v, hv, rv⟩ := st.at_ 1 _ _ rfl
        cases rv
        refine ⟨.str wd, ?_, hk H2 (bw_xr row st.base) st.row⟩
        rw [List.getElem?_set_ne (by decide)]
        exact hv
    · intro v H' hq
      exact ⟨.non, rfl, hq⟩
end
end WF
namespace WF
open PySem PySem.Spec PyProof.Rows L2 LamX
section
variable {Γ : Gam} {X : Cx} {E : L2.St → XK}
theorem RowAt.exT {H H1 : Hp} {ρ : Row} (r : RowAt Γ H ρ) (x : ExT H H1) (t : Tabs Γ.T H1) : RowAt Γ H1 ρ := by
  refine ⟨?_, ?_, r.2.2.1, t⟩
  · rcases x _ _ r.1 with z | ⟨_, _, z, _⟩
    · exact z
    · cases z
  · rcases r.2.1 with (z | ⟨o, z⟩) | z
    · rcases x _ _ z with y | ⟨_, _, y, _⟩
      · exact .inl (.inl y)
      · cases y
    · rcases x _ _ z with y | ⟨_, _, y, _⟩
      · exact .inl (.inr ⟨o, y⟩)
      · cases y
    · exact .inr z
/-- told(lambda: e): none, or the word of what is raised -/
def eErr (words : Nat → Option Str) (cb : CE) : CE := fun δ ρ => match cb δ ρ with
  | .ok _ _ ρ1 => .ok .non true ρ1
  | .er k ρ1 => match words k with
    | some s => .ok (.str s) true ρ1
    | none => .no
  | .no => .no
theorem tk_lam {A : Around} {outer : List Env} {s : Shared} {H : Hp} {E1 : XK} {scope : Scope} {f c' : Addr} : Takes (lamCx X A outer s H E1 scope f c') (fun cls d _ H => E1 cls d H) := takes_of rfl rfl rfl rfl
theorem c_err {words : Nat → Option Str} {cb : CE} {x a : Str} {st : Stmt} {g : Addr} {fd : FuncData} {k : Nat} {Ng : List Str} {params : Arguments} {body : Expr} {scope : Scope} {p lpos pos : Pos} {c P : Addr}
    (F : Fun X.K x x st g fd) (hb : L2.Binds X.K fd [a] []) (Sg : FnScope Ng [a] (defScope st)) (hNg : Ng[0]? = some a) (hva : Vis (defScope st) a) (hm : X.mg x = some (.ref g)) (hk : PySem.W.keepIn X.K (.ref g) = true)
    (hG : ∀ (cdg : Value) (q : Str), GivesR (k + 1) X Ng x (defScope st) g cdg (defBody st) a q (TTw Γ words)) (M : Maker X Γ.T c P) (hr : Room (k + 2) X.A) (hg : Gl X x) (L : LamS X.env.scope scope)
    (hbody : ∀ (A : Around) (outer : List Env) (s : Shared) (H : Hp) (E : XK) (f c' : Addr), Room k (A.deeper (lamEnv X scope s.heap.objs.size f c')) → PE (lamCx X A outer s H E scope f c') body (T Γ (fun _ => E) cb))
    (hbind : ∀ (q : Str) (cl : List (Str × Addr)) (pm cv ctv : Value), bindArgs (PySem.W.kla_fn "<lambda>" q params body scope cl pm cv ctv) ⟨[], []⟩ = pure [] := by exact fun _ _ _ _ _ => rfl)
    (hdef : defaultsOf params X.env = ([], []) := by rfl)
    (hdb : (x == ("__debug__" : Str)) = false := by decide) (hd : (a == ("__debug__" : Str)) = false := by decide) (hcd : (a == ("__classdict__" : Str)) = false := by decide) :
    PE X (.Call (.Name x p) [.Lambda params body scope lpos] [] pos) (T Γ E (eErr words cb)) := by
  obtain ⟨oc, od, kV, doc, pm, an, cdv, ct, osl, rfl, lk, hcg⟩ := F.ex
  refine (pe_give (t := fun E => T Γ (fun _ => E) cb) hg hm hk lk hcg hb Sg hNg hva (hG _ _) M hr L hdef hbind hbody hdb hd hcd).imp fun σ H Q ⟨B, δ, ρ, G, s, q⟩ => ⟨s.row.2.2.2, fun H1 x1 t1 => ?_⟩
  have r1 : RowAt Γ H1 ρ := s.row.exT x1 t1
  refine ⟨r1.2.1, B, δ, ρ, G, s.nx x1.xr r1, ?_⟩
  unfold eErr at q
  cases hA : cb δ ρ with
  | no => rw [hA] at q; exact q.elim
  | ok d fr ρ1 =>
    rw [hA] at q
    exact fun v H' x2 r2 _ => q .non H' (x1.xr.trans x2) r2 (Vl.of_imm r2 .non rfl)
  | er i ρ1 =>
    rw [hA] at q
    dsimp only at q
    intro H' x2 r2
    split at q
    · rename_i wd hw
      exact ⟨i, wd, ρ1, rfl, rfl, hw, r2, fun H'' x3 r3 => q (.str wd) H'' ((x1.xr.trans x2).trans x3) r3 (Vl.of_imm r3 (.str _) rfl)⟩
    · exact q.elim
end
end WF

/-! ## WFW -/
/-! Own layer, part W: sorted(set(xs)) of a list of ints, max of two, int of a truth value. -/
namespace WF
open PySem PySem.Spec PyProof.Rows L2
/-- a set that is still empty -/
abbrev emptyS (w : World) : Obj := { cls := .type "set", dict := none, data := .set #[] 0 (.fresh 0 0 (!w.params.followText "set-order")) }
section
variable {P : Program} {w : World} {A : Around} {E : Value → Shared → Prop} {s : Shared}
theorem call_set_lst {l : Addr} {its : Array Value} (ns : List Int) {Q : Value → Shared → Prop} (calm : A.handled = none) (isl : s.heap.IsList l its) (hI : IntsAre its.toList ns) (few : ns.length + 1 < scanBound)
    (k : ∀ (g : Heap) (tk c : Nat), SetR w g s.heap.objs.size (fun j => decide (j ∈ ns)) c → c ≤ ns.length → (∀ b o, s.heap.get? b = some o → g.get? b = some o) → Q (.ref s.heap.objs.size) { s with heap := g, toks := tk }) :
    wpAny (model P w) A (call (.type "set") [.ref l]) Q E s := by
  have size_eq : its.size = ns.length := by rw [← IntsAre.length hI, Array.length_toList]
  obtain ⟨_, _, mro⟩ := F.called_set.mro
  have a1 := F.called_set.made; have a2 := F.called_set.sub
  have a3 := F.called_set.notType; have a4 := F.called_set.canCreate
  have a5 := F.typeCall_set_1 (.ref l)
  refine wpAny_call (codeAny_of_tree (show wpAny _ _ (callAny (.type "set") _) _ _ _ from ?_))
  refine wpAny_pure (And.intro (Code.quiet_builtin _ (by decide +kernel)) (codeAny_builtin F.entry_type_call ?_))
  rw [show A.under _ = _ from Around.under_plain (weight_type_call_type "set" [.ref l] []) rfl]
  repeat (any_goals (first | assumption | wp_step))
  let h1 : Heap := s.heap.push (emptyS w)
  have z1 : h1.objs.size = s.heap.objs.size + 1 := Heap.size_push ..
  have at1 : h1.get? s.heap.objs.size = some (emptyS w) := Heap.get?_push_size _ rfl
  refine codeAny_mono (code_set_led1 (.ref l) (E := E) (Q₁ := fun u t => u = .ref s.heap.objs.size ∧ t = { s with heap := h1 }) (And.intro rfl rfl)) ?_
  rintro (e | (_ | _ | _ | u)) t ht
  · exact ht
  · exact ht.elim
  · exact ht.elim
  · exact ht.elim
  obtain ⟨rfl, rfl⟩ := ht
  have ty1 : Shared.TypeIs { s with heap := h1 } (.ref s.heap.objs.size) "set" := ⟨_, at1, rfl⟩
  have b1 := F.called_set.init.lookup; have b2 := F.called_set.init.bind (.ref s.heap.objs.size)
  repeat (any_goals (first | assumption | wp_step))
  let Done : Value → Shared → Prop := fun u t => u = .none ∧ ∃ (g : Heap) (tk c : Nat), t = { s with heap := g, toks := tk } ∧ SetR w g s.heap.objs.size (fun j => decide (j ∈ ns)) c ∧ c ≤ ns.length ∧ ∀ b o, s.heap.get? b = some o → g.get? b = some o
  refine codeAny_mono (codeAny_call_builtin (R := wants Done E) F.called_set.init.plain F.entry_set_init (check_set_init_1 ty1 ?_)) ?_
  · obtain ⟨⟨_, od, _, sl⟩, atL, rfl, n0, rfl⟩ := isl
    have atL1 : h1.get? l = some { cls := .type "list", dict := od, data := .seq its n0, slots := sl } := Heap.get?_push_of_some _ atL
    have isl1 : h1.IsList l its := ⟨_, atL1, rfl, n0, rfl⟩
    have c1 := F.sub_list_set; have c2 := F.sub_list_frozenset
    have c3 : (Value.type "list" == Value.type "dict") = false := by decide
    unfold Builtin.«set.__init__» noKeywords Builtin.Frozenset.updateFrom
    generalize hp : pyIter = walkIt
    wp_walk
    subst hp
    refine wpAny_pyIter_list isl1 (wpAny_bind (wpAny_runValue ?_))
    have lt0 : l < s.heap.objs.size := Heap.lt_size atL
    have calm3 : A.in1.in1.in1.handled = none := by simp [calm]
    have ne1 : l ≠ h1.objs.size := Nat.ne_of_lt (by rw [z1]; exact Nat.lt_succ_of_lt lt0)
    have out1 : s.heap.objs.size ∉ [h1.objs.size, l] := by
      intro z
      rcases List.mem_cons.mp z with z | z
      · omega
      · exact absurd lt0 (by rw [← List.mem_singleton.mp z]; exact Nat.lt_irrefl _)
    have items_at : ∀ (i : Nat) (v : Value), its[i]? = some v → ∃ j t, ns[i]? = some j ∧ v = .int j t := by
      intro i v hv
      have lt : i < ns.length := by
        rw [← size_eq]
        exact (Array.getElem?_eq_some_iff.mp hv).1
      obtain ⟨t, et⟩ := PyProof.Rows.IntsAre.int_at hI i v (by rw [Array.getElem?_toList]; exact hv)
      have ej : ns[i]? = some (ns.getD i 0) := by rw [List.getD_eq_getElem?_getD, List.getElem?_eq_getElem lt]; rfl
      exact ⟨_, t, ej, et⟩
    let it : Obj := { cls := .type "list_iterator", data := .fields #[.ref l, .int 0 0] }
    have at2 : (h1.push it).get? s.heap.objs.size = some (emptyS w) := Heap.get?_push_of_some _ at1
    refine set_update_ints ((Walks.list calm3 _ l ne1 its).toS) s.heap.objs.size out1 ns size_eq few items_at (its.size - 0) 0 _ (by omega) (Nat.zero_le _) ⟨⟨_, Heap.get?_push_size _ rfl, rfl, rfl⟩, isl1.push _⟩ ⟨0, Nat.le_refl 0, setR_new_at at2⟩ ?_
    rintro ⟨g, g2, d2, tk, os2⟩ c mv hc R
    obtain rfl : g2 = s.gens := mv.gens
    obtain rfl : d2 = s.drawn := mv.drawn
    obtain rfl : os2 = s.os := mv.os
    refine show wpAny _ _ _ _ _ _ from wpAny_pure (show wpAny _ _ (ret Value.none) _ _ _ from wpAny_pure ⟨rfl, g, tk, c, rfl, R, by omega, fun b o e => ?_⟩)
    have lt := Heap.lt_size e
    refine mv.heap b o (fun z => ?_) (Heap.get?_push_of_some _ (Heap.get?_push_of_some _ e))
    rcases List.mem_cons.mp z with z | z
    · exact absurd lt (by rw [z]; exact Nat.lt_irrefl _)
    · exact absurd lt (by rw [List.mem_singleton.mp z, z1]; exact Nat.not_lt.mpr (Nat.le_succ _))
  · rintro (e | (_ | _ | _ | u)) t ht
    · exact ht
    · exact ht.elim
    · exact ht.elim
    · exact ht.elim
    obtain ⟨rfl, g, tk, c, rfl, R, hc, keep⟩ := ht
    repeat (any_goals (first | assumption | wp_step))
    exact k _ _ _ R hc keep
end
section
variable {Γ : Gam} {E : L2.St → XK} {X : Cx} {B B' : Hp} {G : Nat → Hp} {σ : L2.St} {H H1 H2 : Hp} {δ : List Slot} {ρ ρ1 ρ2 : Row} {pos cpos apos : Pos} {a b e o : Expr} {ca cb cc : CE} {v : V} {d : D} {vs : List V} {ds : List D}
/-- set(xs), xs a list of ints -/
def rSetLI (K : PySem.W.Frag) (w : World) : List V → Hp → VK → Prop := fun xs H Q => ∃ (l : Addr) (ns : List Int), xs = [V.ref l] ∧ SqL K H l (ns.map V.int) ∧ ns.length < 64 ∧
  ∀ p c, H p = none → c ≤ ns.length → Q (.ref p) (upd H p (SetO w p (fun j => decide (j ∈ ns)) c))
theorem cr_setLI (hc : X.calm = true) : CallR X (.type "set") (rSetLI X.K X.w) := by
  intro pins s σ H xs us Q I r h
  obtain ⟨l, ns, rfl, hl, hf, q⟩ := h
  rw [Vals.ref1 r]
  obtain ⟨its, rv, pl, hz⟩ := I.list hl
  have hi : IntsAre its.toArray.toList ns := ints_of_vals rv
  refine call_set_lst ns (I.ok.hd hc) pl.isList hi (by unfold scanBound; omega) fun h' tk c R1 hcn k => ?_
  exact ⟨.ref s.heap.objs.size, _, I.laid (t' := tk) k (Nat.le_refl _) (setO_new R1), rfl, q _ _ (I.hok.fresh (Nat.le_refl _)) hcn⟩
def fSortL : OpN := fun as => match as with
  | [.lst xs] => match intsOf xs with
    | some ns => if ns.length < 64 then some (.lst ((sortU ns).map D.int), true) else none
    | none => none
  | _ => none
theorem c_sortSetL {p p2 pos2 : Pos} {c : CA} {es : List Expr} (hK : X.K = Γ.K) (hc : X.calm = true) (hg : Gl X "sorted") (hm : X.mg "sorted" = none) (hg2 : Gl X "set") (hm2 : X.mg "set" = none) (ha : PA X (e :: es) (TAs Γ E c)) (hs : starEach (e :: es) X.env = (false, eval e X.env) :: starEach es X.env := by rfl) (hpl : (backTo pos2 (starEach es X.env)).any (·.1) = false := by rfl)
    (nb : starEach [(Expr.Call (.Name "set" p2) (e :: es) [] pos2)] X.env = (false, eval (Expr.Call (.Name "set" p2) (e :: es) [] pos2) X.env) :: starEach [] X.env := by rfl) :
    PE X (.Call (.Name "sorted" p) [.Call (.Name "set" p2) (e :: es) [] pos2] [] pos) (T Γ E (eCall fSortL c)) :=
  (pe_callB (cr_sortedSet hc) hg hm (by rfl) (pa_cons (pe_callTy (cr_setLI hc) hg2 hm2 (by rfl) ha (by decide) (by decide) hs hpl) pa_nil nb) (by decide) (by decide) nb (by rfl)).imp fun σ H Q ⟨B, δ, ρ, G, s, q⟩ => by
    refine ⟨B, δ, ρ, G, s, ?_⟩
    unfold eCall at q
    cases hA : c δ ρ with
    | er k ρ1 => rw [hA] at q; exact q
    | no => rw [hA] at q; exact q.elim
    | ok ds fr ρ1 =>
      rw [hA] at q
      dsimp only at q
      intro vs H1 x1 r1 l1
      cases hF : fSortL ds with
      | none => rw [hF] at q; exact q.elim
      | some pr =>
        rw [hF] at q
        unfold fSortL at hF
        split at hF
        · split at hF
          · rename_i xs ns hns
            split at hF
            · rename_i hlen
              cases hF
              obtain ⟨v, rfl, rv⟩ := l1.rp.one
              obtain ⟨l, us, rfl, hl, ru, _⟩ := rv.lst_of
              rw [intsOf_eq hns] at ru
              refine ⟨l, ns, rfl, by rw [hK, ← ru.ints]; exact SqL.of hl, hlen, fun p c hp hcn => ?_⟩
              have x2 := Ex.new (o := SetO X.w p (fun j => decide (j ∈ ns)) c) hp
              refine ⟨p, _, c, rfl, upd_same, (by omega), fun ns' t so mem le ht => ?_⟩
              have e1 : ns' = sortU ns := strict_uniq so (sortU_sorted ns) fun z => by rw [mem z, decide_eq_true_eq, sortU_mem]
              subst e1
              have x3 := x2.trans (Ex.new (o := .lst ((sortU ns).map V.int)) ht)
              have hpn : ∀ a, upd H1 p (SetO X.w p (fun j => decide (j ∈ ns)) c) a = none → H a = none := fun a ea => x1.none r1 (Ex.none x2 ea)
              exact q _ _ (x1.trans x3.xr) (r1.ex x3) (Vl.list (r1.ex x2) (VlA.of_imm (r1.ex x2) (RpAll.of_ints _) (immAll_ints _)) ht hpn)
            · cases hF
          · cases hF
        · cases hF
def fMax2 : OpN := fun as => match as with
  | [.int i, .int j] => some (.int (if j > i then j else i), true)
  | _ => none
theorem oMax2 (hc : X.calm = true) : ∃ r, CallR X (.builtin "max") r ∧ CaS Γ r fMax2 := ⟨_, call_max2 hc, by
  intro H xs as d fr ρ Q row r e q
  unfold fMax2 at e
  split at e
  · cases e
    obtain ⟨v, w, rfl, rv, rw'⟩ := r.two
    exact ⟨_, _, by rw [rv.int_of, rw'.int_of], q _ H (Ex.refl H) (Vl.of_imm row (.int _) rfl)⟩
  · cases e⟩
def fMin2 : OpN := fun as => match as with
  | [.int i, .int j] => some (.int (if j < i then j else i), true)
  | _ => none
theorem oMin2 (hc : X.calm = true) : ∃ r, CallR X (.builtin "min") r ∧ CaS Γ r fMin2 := ⟨_, call_min2 hc, by
  intro H xs as d fr ρ Q row r e q
  unfold fMin2 at e
  split at e
  · cases e
    obtain ⟨v, w, rfl, rv, rw'⟩ := r.two
    exact ⟨_, _, by rw [rv.int_of, rw'.int_of], q _ H (Ex.refl H) (Vl.of_imm row (.int _) rfl)⟩
  · cases e⟩
theorem lookup_mem : ∀ {ps : List (Nat × Bool)} {j : Nat} {b : Bool}, ps.lookup j = some b → (j, b) ∈ ps
  | [], _, _, h => by cases h
  | (i, c) :: r, j, b, h => by
    rw [List.lookup_cons] at h
    split at h
    · rename_i e
      cases h
      rw [beq_iff_eq.mp e]
      exact List.mem_cons_self
    · exact List.mem_cons_of_mem _ (lookup_mem h)
theorem ask_mk {k : Nat} (ps : List (Nat × Bool)) (ex : ExcC Γ.K (Γ.cls k)) (ve : PySem.W.kitOne Γ.K (.ref (Γ.cls k)) (.type "ValueError") = some true) (h : ∀ p ∈ ps, PySem.W.kitOne Γ.K (.ref (Γ.cls k)) (.ref (Γ.cls p.1)) = some p.2) : Ask Γ k (fun j => ps.lookup j) :=
  ⟨ex, ve, fun j b hj => h (j, b) (lookup_mem hj)⟩
/-! ### a, b = e, where one of the names is captured -/
def sAsgT (g : TGt) (ca : CE) : CS := fun δ ρ => match ca δ ρ with
  | .ok d _ ρ1 => match g d δ with
    | some δ' => .nx δ' ρ1
    | none => .no
  | .er k ρ1 => .er k ρ1
  | .no => .no
theorem cs_asgT {tg : Expr} {g : TGt} {ts : List Nat} (hg : PG X tg (TGx Γ g ts)) (he : PE X e (T Γ E ca)) (hs : swapsWithSole [tg] e pos.line X.env = pure false := by rfl) (hw : swappedStores [tg] e X.env = pure none := by rfl) (h1 : (assignEach [tg] X.env).map (·.2) = [assign tg X.env] := by rfl) :
    PS X (.Assign [tg] e pos) (TSt Γ E (sAsgT g ca)) := (ps_asg he hg hs hw h1).imp fun D σ H ⟨B, δ, ρ, G, s, q⟩ => by
  refine ⟨B, δ, ρ, G, s, ?_⟩
  unfold sAsgT at q
  cases hA : ca δ ρ with
  | er k ρ1 => rw [hA] at q; exact fun H' x r => q σ H' (s.base.mono x) r
  | no => rw [hA] at q; exact q.elim
  | ok d f1 ρ1 =>
    rw [hA] at q
    dsimp only at q
    intro v H1 x1 r1 l1
    refine ⟨B, G, δ, ρ1, d, s.nx x1 r1, l1.rp, ?_⟩
    unfold PoG
    cases hg : g d δ with
    | none => rw [hg] at q; exact q.elim
    | some δ' =>
      rw [hg] at q
      exact fun G' σ' s' _ => q G' σ' H1 s'
end
end WF

/-! ## WFY -/
/-! Own layer, part Y: sorted(xs, key=lambda a: (len(a), a)), the items tuples of ints. -/
namespace WF
open PySem PySem.Spec PyProof.Rows L2 LamX
theorem reads_ints {h : Heap} : ∀ {vs : List Value} {ns : List Int}, IntsAre vs ns → ReadsAll h vs (ns.map PyData.int) []
  | _, _, .nil => .nil
  | _, _, .cons n t r => ReadsAll.cons (as := []) (bs := []) (.int n t) (reads_ints r)
abbrev keyBody (a : Str) (p1 p2 p3 p4 p5 : Pos) (j : Nat) : Expr := .Tuple [.Call (.Name "len" p1) [.Name a p2] [] p3, .Name a p4] j p5
def keyP (ns : List Int) : PyData := .tuple [.int ns.length, .tuple (ns.map PyData.int)]
section
variable {X : Cx} {pins : List (Addr × Obj)} {σ : L2.St} {H : Hp} {s : Shared}
theorem key_turn (I : Inv X pins σ H s) {f c' : Addr} {pm ctv : Value} {params : Arguments} {scope : Scope} {a : Str} {p1 p2 p3 p4 p5 : Pos} {j : Nat} {A' : Around} (hd : A'.depth < recursionLimit)
    (hf : s.heap.get? f = some (lamO X params (keyBody a p1 p2 p3 p4 p5 j) scope pm c' ctv)) (hc : H c' = some (CodeO c' (X.env.qual ++ "<lambda>"))) (hk : scope.kind = .function) (hco : scope.isCoroutine = false) (hgen : scope.isGenerator = false)
    (nc : ∀ y ∈ scope.names, y.2 ≠ .cell) (la : scope.names.lookup a = some .local) (ll : scope.names.lookup ("len" : Str) = some NameKind.globalImplicit) (hm : X.mg "len" = none) (ha : (a == ("__debug__" : Str)) = false)
    (hbind : ∀ (q : Str) (cl : List (Str × Addr)) (pm cv ctv v : Value), bindArgs (PySem.W.kla_fn "<lambda>" q params (keyBody a p1 p2 p3 p4 p5 j) scope cl pm cv ctv) ⟨[v], []⟩ = pure [(a, v)])
    {p : Addr} {its : List Value} {ns : List Int} (ht : IsTup s.heap p its.toArray) (hi : IntsAre its ns) (hl : ns.length < 1000) {h : Heap} {tk : Nat} (kp : ∀ b o, s.heap.get? b = some o → h.get? b = some o) :
    wpAny (model X.prog X.w) A' (call (.ref f) [.ref p]) (PySem.W.KeyPure (keyP ns) { s with heap := h, toks := tk }) (fun _ _ => False) { s with heap := h, toks := tk } := by
  obtain ⟨⟨oc, vs, t, hoc, hdc, hvc⟩, _, _⟩ := I.hok c' _ hc
  have hlen : its.length = ns.length := IntsAre.length hi
  refine wpAny_call (PySem.W.kla_callFunE hd (kp _ _ hf) rfl hco hgen rfl ⟨c', oc, vs, t, rfl, kp _ _ hoc, hdc, hvc⟩ ?_)
  rw [hbind]
  refine wpAny_pure (wpAny_newFunctionEnv nc (fun y hy => by rw [List.mem_singleton.mp hy]; exact la) (fun h₁ hns hsb => ⟨(I.nolimit.keeps kp).fresh _ hsb, PySem.W.kla_codeExpr ?_⟩) hk)
  have k1 : ∀ b o, h.get? b = some o → h₁.get? b = some o := fun b o e => hsb.extBut b o (Nat.ne_of_lt (Heap.lt_size e)) (Heap.get?_push_of_some _ e)
  have k2 : ∀ b o, s.heap.get? b = some o → h₁.get? b = some o := fun b o e => k1 b o (kp b o e)
  obtain ⟨mb, b1, b2⟩ := I.mod.blt
  have gl := (I.mod.glob.keeps I.bk).keeps k2
  have bl := (b1.keeps I.bk).keeps k2
  have ht1 : IsTup h₁ p its.toArray := by
    obtain ⟨o, e, r⟩ := ht
    exact ⟨o, k2 _ _ e, r⟩
  have la2 : List.lookup a ([(a, Value.ref p)] : List (Str × Value)).reverse = some (Value.ref p) := by simp [List.lookup]
  refine wpAny_Tuple_spliced (Calls.spliced_cons (wpAny_Call_Name_kw (Calls.Name_function_global hk ll (Calls.loadGlobal_builtin gl hm bl ((b2 "len" (by decide)).trans (by rfl)) ?_))))
  refine PyProof.Rows.callWith_builtin1 (Calls.spliced_cons (wpAny_Name (wpAny_loadName_local hk la hns la2 ?_) ha)) (by rfl) (by rfl)
  refine Calls.spliced_nil (len_tuple ht1 (by rw [List.size_toArray, hlen]; omega) ?_)
  refine Calls.spliced_cons (wpAny_Name (wpAny_loadName_local hk la hns la2 ?_) ha)
  refine Calls.spliced_nil ⟨by show 2 ≤ sizeLine; exact small (by decide), ?_⟩
  refine ⟨_, _, rfl, fun b o e => Heap.get?_push_of_some _ (k1 b o e), ?_⟩
  have r1 : ∀ ob, Reads (h₁.push ob) (.ref p) (.tuple (ns.map PyData.int)) [] := fun ob => by
    obtain ⟨o, e1, e2, n, e3⟩ := ht1
    exact .tuple (Heap.get?_push_of_some _ e1) e2 e3 (reads_ints (by simpa using hi))
  exact Reads.tuple (as := []) (Heap.get?_push_size _ rfl) rfl rfl (.cons (as := []) (bs := []) (by rw [List.size_toArray, hlen]; exact .int _ _) (.cons (as := []) (bs := []) (r1 _) .nil))
end
/-! ### the keys -/
theorem alike_ints : ∀ xs ys : List Int, PySem.W.alikeAll (xs.map PyData.int) (ys.map PyData.int) = true
  | [], _ => by rw [List.map_nil, PySem.W.alikeAll]
  | _ :: _, [] => by rw [List.map_cons, List.map_nil, PySem.W.alikeAll]
  | x :: xs, y :: ys => by
    rw [List.map_cons, List.map_cons, PySem.W.alikeAll, PySem.W.alike, alike_ints xs ys]
    rfl
theorem alike_key (xs ys : List Int) : PySem.W.alike (keyP xs) (keyP ys) = true := by
  unfold keyP
  rw [PySem.W.alike, PySem.W.alikeAll, PySem.W.alike, PySem.W.alikeAll, PySem.W.alike, alike_ints, PySem.W.alikeAll]
  rfl
theorem depth_ints : ∀ xs : List Int, PyData.depthAll (xs.map PyData.int) ≤ 1
  | [] => by rw [List.map_nil, PyData.depthAll]; exact Nat.zero_le _
  | x :: xs => by
    rw [List.map_cons, PyData.depthAll]
    have h1 : (PyData.int x).depth ≤ 1 := by rw [PyData.depth] <;> first | exact Nat.zero_le _ | exact Nat.le_refl _
    exact Nat.max_le.mpr ⟨h1, depth_ints xs⟩
theorem depth_key (xs : List Int) : (keyP xs).depth ≤ 10 := by
  have h := depth_ints xs
  have h1 : ∀ i, (PyData.int i).depth ≤ 1 := fun i => by rw [PyData.depth] <;> first | exact Nat.zero_le _ | exact Nat.le_refl _
  have h2 := h1 xs.length
  unfold keyP
  simp only [PyData.depth, PyData.depthAll] at h2 ⊢
  omega
def lotOf : D → Option (List Int)
  | .tup xs => intsOf xs
  | _ => none
def lotI (d : D) : List Int := (lotOf d).getD []
def okLot (d : D) : Bool := match lotOf d with
  | some ns => decide (ns.length < 1000)
  | none => false
def sortKD (ds : List D) : List D := ds.mergeSort (PySem.W.dataLe false fun d => keyP (lotI d))
def eSortK (ca : CE) : CE := fun δ ρ => match ca δ ρ with
  | .ok (.lst ds) _ ρ1 => if ds.all okLot && decide (ds.length ≤ 100000) then .ok (.lst (sortKD ds)) true ρ1 else .no
  | .er k ρ1 => .er k ρ1
  | _ => .no
theorem okLot_tup {d : D} (h : okLot d = true) : ∃ ns : List Int, d = .tup (ns.map D.int) ∧ lotI d = ns ∧ ns.length < 1000 := by
  unfold okLot at h
  split at h
  · rename_i ns hn
    have hn0 := hn
    unfold lotOf at hn
    split at hn
    · rename_i xs
      exact ⟨ns, by rw [intsOf_eq hn], by unfold lotI; rw [hn0]; rfl, of_decide_eq_true h⟩
    · cases hn
  · cases h
theorem imm_lots {ds : List D} (h : ds.all okLot = true) : immAll ds = true := by
  rw [immAll_eq]
  refine List.all_eq_true.mpr fun d hd => ?_
  obtain ⟨ns, rfl, _⟩ := okLot_tup (List.all_eq_true.mp h d hd)
  exact imm_ints ns
theorem all_sortKD {ds : List D} (h : ds.all okLot = true) : (sortKD ds).all okLot = true :=
  List.all_eq_true.mpr fun d hd => List.all_eq_true.mp h d ((List.mergeSort_perm ds _).mem_iff.mp hd)
section
variable {Γ : Gam} {E : L2.St → XK} {X : Cx} {σ : L2.St} {H : Hp} {δ : List Slot} {ρ : Row} {e : Expr} {ca : CE}
theorem c_sortKey {c P : Addr} {params : Arguments} {scope : Scope} {a : Str} {p p1 p2 p3 p4 p5 lpos kpos pos : Pos} {j k : Nat} (hK : X.K = Γ.K) (M : Maker X Γ.T c P) (hr : Room k X.A) (hg : Gl X "sorted") (hm : X.mg "sorted" = none) (hml : X.mg "len" = none) (he : PE X e (T Γ E ca))
    (hk : scope.kind = .function) (hco : scope.isCoroutine = false) (hgen : scope.isGenerator = false) (nc : ∀ y ∈ scope.names, y.2 ≠ .cell) (nf : ∀ y ∈ scope.names, y.2 ≠ .free) (la : scope.names.lookup a = some .local) (ll : scope.names.lookup ("len" : Str) = some NameKind.globalImplicit)
    (hbind : ∀ (q : Str) (cl : List (Str × Addr)) (pm cv ctv v : Value), bindArgs (PySem.W.kla_fn "<lambda>" q params (keyBody a p1 p2 p3 p4 p5 j) scope cl pm cv ctv) ⟨[v], []⟩ = pure [(a, v)] := by exact fun _ _ _ _ _ _ => rfl)
    (hdef : defaultsOf params X.env = ([], []) := by rfl) (ha : (a == ("__debug__" : Str)) = false := by decide)
    (h1 : backTo pos (starEach [e] X.env) = (false, eval e X.env) :: backTo pos (starEach [] X.env) := by rfl) (h2 : (backTo pos (starEach [e] X.env)).any (·.1) = false := by rfl)
    (hs : starEach [e] X.env = (false, eval e X.env) :: starEach [] X.env := by rfl) :
    PE X (.Call (.Name "sorted" p) [e] [⟨some "key", .Lambda params (keyBody a p1 p2 p3 p4 p5 j) scope lpos, kpos⟩] pos) (T Γ E (eSortK ca)) := by
  refine ⟨fun pins s σ H Q I ⟨B, δ, ρ, G, st, q⟩ => ?_⟩
  let Qa : List V → Hp → Prop := fun vs H1 => ∃ x ds fr ρ1, vs = [x] ∧ ds.all okLot = true ∧ ds.length ≤ 100000 ∧ Xr Γ H H1 ∧ RowAt Γ H1 ρ1 ∧ Vl Γ H H1 x (.lst ds) fr ∧ ∀ v H', Xr Γ H H' → RowAt Γ H' ρ1 → Vl Γ H H' v (.lst (sortKD ds)) true → Q v H'
  have hT : T Γ E ca σ H (fun x H1 => Qa [x] H1) := by
    refine ⟨B, δ, ρ, G, st, ?_⟩
    unfold eSortK at q
    cases hA : ca δ ρ with
    | er k ρ1 => rw [hA] at q; exact q
    | no => rw [hA] at q; exact q.elim
    | ok d f1 ρ1 =>
      rw [hA] at q
      intro x H1 x1 r1 l1
      split at q
      · rename_i ds f2 ρ2 e2
        cases e2
        split at q
        · rename_i hb
          rw [Bool.and_eq_true] at hb
          exact ⟨x, ds, f1, ρ1, rfl, hb.1, of_decide_eq_true hb.2, x1, r1, l1, fun v H' => q v H'⟩
        · exact q.elim
      · rename_i e; cases e
      · exact q.elim
  refine wpAny_Call_Name_kw (ld_blt I hg hm (by rfl) ?_ (by decide) (by decide))
  refine PyProof.Rows.callWith_kw (thn ((pa_cons he pa_nil hs).run pos pins s σ H Qa I hT) fun us s1 ⟨vs, H1, I1, rv, x, ds, fr, ρ1, ev, hds, hdl, x1, r1, l1, q1⟩ => ?_) h1 h2 (by rfl) (by rfl)
  subst ev
  obtain ⟨u, rfl, ru⟩ := vals1 rv
  refine show wpAny _ _ (evalAll ((do let v ← eval (.Lambda params (keyBody a p1 p2 p3 p4 p5 j) scope lpos) X.env; standAt pos; pure v) :: [])) _ _ s1 from wpAny_evalAll_cons (wpAny_bind (lam_new I1 M r1.2.2.2 hdef (fun y hy z => absurd z (nf y hy)) ?_))
  intro f c' pm ctv H2 s2 I2 x2 T2 hf n1 n2 hco2
  refine wpAny_bind (wpAny_standAt (wpAny_pure (wpAny_evalAll_nil ?_)))
  obtain ⟨l, ys, rfl, hl2, ry, _⟩ := (l1.rp.mono x2.xr).lst_of
  obtain rfl : u = .ref l := ru
  obtain ⟨its, rits, isl, hz⟩ := I2.list (SqL.of hl2)
  have r2 : RowAt Γ H2 ρ1 := r1.exT x2 T2
  have e1 : PySem.W.EachIs (fun u (p : V × D) => RelV p.1 u ∧ Rp Γ H2 p.1 p.2) its (ys.zip ds) := each_of rits ry fun u v d a b => ⟨a, b⟩
  have md : ∀ p ∈ ys.zip ds, okLot p.2 = true := fun p hp => by
    have h := List.mem_map_of_mem (f := Prod.snd) hp
    rw [show (ys.zip ds).map Prod.snd = ds from zip_snd ry.length] at h
    exact List.all_eq_true.mp hds _ h
  have lz : (ys.zip ds).length ≤ sizeLine := by rw [List.length_zip]; exact Nat.le_trans (Nat.min_le_right _ _) (by rw [sizeLine_eq]; omega)
  have un := hr.un
  have dp := hr.dp
  refine PySem.W.sorted_key_data (β := V × D) (b := false) (vs := its) (bs := ys.zip ds) (R := fun u p => RelV p.1 u ∧ Rp Γ H2 p.1 p.2) (fun p => keyP (lotI p.2)) isl.isList e1 ?_ ?_ lz ?_ (PyProof.Rows.ksk_s1 _ _) (fun x => PyProof.Rows.ksk_l1 _ _) (fun x => PyProof.Rows.ksk_t1 f x) ?_ ?_
  · intro d hd d' hd'
    obtain ⟨p, _, rfl⟩ := List.mem_map.mp hd
    obtain ⟨p', _, rfl⟩ := List.mem_map.mp hd'
    exact alike_key _ _
  · refine .inl fun d hd => ?_
    obtain ⟨p, _, rfl⟩ := List.mem_map.mp hd
    exact ⟨_, _, rfl⟩
  · intro p hp
    have := depth_key (lotI p.2)
    omega
  · intro v p hR hp h tk kp
    obtain ⟨ns, ed, el, hlen⟩ := okLot_tup (md p hp)
    obtain ⟨rv, rp⟩ := hR
    rw [ed] at rp
    obtain ⟨t, us, et, ht, ra⟩ := rp.tup_of
    rw [et] at rv
    obtain rfl : v = .ref t := rv
    have es := RpAll.ints ra
    subst es
    obtain ⟨tits, rt, pt, _⟩ := I2.tuple (SqT.of ht)
    rw [el]
    exact key_turn I2 (A' := X.A.in1.in1) (show X.A.depth < recursionLimit by omega) hf hco2 hk hco hgen nc la ll hml ha hbind pt (ints_of_vals rt) hlen kp
  · intro out co h' tk kp fresh at' lo oe
    obtain ⟨b1, b2⟩ := each_back oe
    have em : ((ys.zip ds).mergeSort (PySem.W.dataLe false fun p : V × D => keyP (lotI p.2))).map (·.2) = sortKD ds := by
      have h := List.map_mergeSort (r := PySem.W.dataLe false fun p : V × D => keyP (lotI p.2)) (s := PySem.W.dataLe false fun d => keyP (lotI d)) (f := Prod.snd) (l := ys.zip ds) (fun a _ b _ => rfl)
      rw [show (ys.zip ds).map Prod.snd = ds from zip_snd ry.length] at h
      exact h
    rw [em] at b2
    have hn : H2 (s2.heap.objs.size + 1) = none := I2.hok.fresh (Nat.le_succ _)
    refine ⟨.ref _, upd H2 (s2.heap.objs.size + 1) (.lst _), I2.laid (t' := tk) kp (Nat.le_succ _) ⟨?_, out, co, b1, at'⟩, rfl, ?_⟩
    · rw [List.length_map, List.length_mergeSort]; exact lz
    · have x3 := Ex.new (o := .lst (((ys.zip ds).mergeSort (PySem.W.dataLe false fun p : V × D => keyP (lotI p.2))).map (·.1))) hn
      exact q1 _ _ ((x1.trans x2.xr).trans x3.xr) (r2.ex x3) (Vl.list r2 (VlA.of_imm r2 b2 (imm_lots (all_sortKD hds))) hn fun b hb => x1.none r1 (x2.none hb))
end
end WF
namespace WF
open PySem PySem.Spec PyProof.Rows L2 LamX
/-- a def whose code object is known: it makes lambdas -/
structure FunC (K : PySem.W.Frag) (x qual : Str) (st : Stmt) (f : Addr) (fd : FuncData) (c : Addr) : Prop where
  ex : ∃ (oc : Value) (od : Option Addr) (kV doc pm : Value) (an : Option Addr) (ct : Value) (osl : Array (Option Value)),
    fd = PySem.W.fnOf x qual (defArgs st) (defBody st) (defScope st) .none kV doc pm an (.ref c) ct ∧ K.lookup f = some ⟨oc, od, .func fd, osl⟩ ∧ PySem.W.codeIn K (.ref c) qual = true
theorem funC_mk {K : PySem.W.Frag} {x qual : Str} {st : Stmt} {f c : Addr} {oc kV doc pm ct : Value} {od an : Option Addr} {osl : Array (Option Value)} (lk : K.lookup f = some ⟨oc, od, .func (PySem.W.fnOf x qual (defArgs st) (defBody st) (defScope st) .none kV doc pm an (.ref c) ct), osl⟩) (hc : PySem.W.codeIn K (.ref c) qual = true) :
    FunC K x qual st f (PySem.W.fnOf x qual (defArgs st) (defBody st) (defScope st) .none kV doc pm an (.ref c) ct) c := ⟨oc, od, kV, doc, pm, an, ct, osl, rfl, lk, hc⟩
theorem fn_ok2C {Γ : Gam} {P : Program} {w : World} {K : PySem.W.Frag} {mg : Str → Option Value} {base : Heap} {x qual : Str} {st : Stmt} {f c0 : Addr} {fd : FuncData} {N ps : List Str} {k n m : Nat} {c : CS}
    (F : FunC K x qual st f fd c0) (S : FnScope N ps (defScope st)) (hn : N.length = n) (hm : ps.length = m)
    (hb : ∀ (A : Around) (outer : List Env) (s : Shared) (H : Hp) (E1 : XK), Room k (A.deeper (envOfC qual (defScope st) s.heap.objs.size f (.ref c0))) → PSs (cxOf (L2.CX P w) P w K mg base N qual (defScope st) f (.ref c0) A outer s H E1) (defBody st) (TSt Γ (fun _ => E1) c)) :
    FnOk P w K mg base (L2.CX P w) (k + 1) f fd ps (SpOf Γ (fnD n m c)) := by
  obtain ⟨oc, od, kV, doc, pm, an, ct, osl, rfl, lk, hc⟩ := F.ex
  have no : ∀ (vs : List V) (H : Hp) (Q : VK) (E1 : XK), SpOf Γ (fnD n m c) vs H Q E1 → ∃ ds ρ, RpAll Γ H vs ds ∧ RowAt Γ H ρ ∧ ds.length = m ∧ PoE Γ (fun _ => E1) (fnOfS n c ds ρ) [] H Q := fun vs H Q E1 ⟨ds, ρ, r, row, q⟩ => by
    unfold fnD at q
    by_cases h : ds.length = m
    · rw [if_pos h] at q; exact ⟨ds, ρ, r, row, h, q⟩
    · rw [if_neg h] at q; exact q.elim
  refine fn_of lk hc S (fun vs H Q E h => ?_) (fun A outer s H vs Q E hr h => ?_)
  · obtain ⟨ds, ρ, r, _, hno, _⟩ := no _ _ _ _ h
    rw [r.length, hno, hm]
  · obtain ⟨ds, ρ, r, row, hno, q⟩ := no _ _ _ _ h
    exact ⟨_, hb A outer s H E hr, body_of hn ⟨ds, ρ, r, row, q⟩⟩
end WF

/-! ## WGH -/
/-! Own layer, part GH: range(a, b). -/
namespace WF
open PySem PySem.Spec PyProof.Rows L2 LamX
section
variable {Γ : Gam} {X : Cx} {E : L2.St → XK} {pos : Pos} {a b tg : Expr}
abbrev iRg2 (c : CA) : CI := fun δ ρ => match c δ ρ with | .ok [.int m, .int n] fr ρ1 => iRange (fun _ _ => .ok [.int m, .int n] fr ρ1) δ ρ | .er k ρ1 => .er k ρ1 | _ => .no
theorem g_range2 {c : CA} {p : Pos} (hg : Gl X "range") (hm : X.mg "range" = none) (ha : PA X [a, b] (TAs Γ E c)) (hs : starEach [a, b] X.env = [(false, eval a X.env), (false, eval b X.env)] := by rfl) (hs2 : starEach [b] X.env = [(false, eval b X.env)] := by rfl) :
    PI X tg (.Call (.Name "range" p) [a, b] [] pos) (TIx Γ E (iRg2 c)) := ci_range2 hg hm ha hs hs2
end
end WF

/-! ## WGK -/
/-! Own layer: {t: v}, one pair, the key a tuple made in the run. -/
namespace WF
open PySem PySem.Spec PyProof.Rows L2 LamX
def tDisp1T (tk tv : TE) : TE := fun σ H Q => ∀ p, H p = none → tPairs [(tk, tv)] σ (upd H p (.dT [])) fun ps H2 => ∃ (ks : List Key) (b : Addr) (y : V), ps = [(.ref b, y)] ∧ H2 b = some (.tup (ks.map kV)) ∧ H2 p = some (.dT []) ∧ Q (.ref p) (upd H2 p (.dT [(ks, y)]))
section
variable {X : Cx} {pos : Pos}
theorem pe_disp1T {k v : Expr} {tk tv : TE} (hk : PE X k tk) (hv : PE X v tv) (hu : X.A.units < cLine) : PE X (.Dict [some k] [v] pos) (tDisp1T tk tv) := by
  refine ⟨fun pins s σ H Q I q => ?_⟩
  have hn := I.hok.fresh (Nat.le_refl s.heap.objs.size)
  have I1 := I.laid (a := s.heap.objs.size) (o := .dT []) (h' := s.heap.push { cls := .type "dict", data := .dict #[] }) (t' := s.toks) (fun _ _ q => Heap.get?_push_of_some _ q) (Nat.le_refl _) (dt_empty s.heap I.big)
  refine wpAny_Dict_any (by rfl) (by rfl) (fun z => by cases z) (show (1 : Nat) ≤ 15 by decide) (thn ((pps_cons (pos := pos) hk hv pps_nil).run pins _ σ _ _ I1 (q _ hn)) fun ws s2 ⟨ps, H2, I2, rel, ks, b, y, ep, eb, e, q2⟩ => ?_)
  subst ep
  cases rel with
  | @cons p0 q0 ps0 qs0 h t =>
  cases t
  obtain ⟨uk, uv⟩ := q0
  obtain ⟨h1, h2⟩ := h
  obtain rfl : uk = Value.ref b := h1
  obtain ⟨z, hd, xs, r0, dd⟩ := dt_of I2.hok e
  cases r0
  refine wpAny_storeAllH (knd := tupleKind (mixKind X.prog X.w)) (by exact hu) [(.ref b, uv)] [(ks, b, uv)] [] s2 _ ⟨rfl, rfl, key_of I2.hok eb, True.intro⟩ dd (show (0 : Nat) + 1 ≤ sizeLine by rw [sizeLine_eq]; decide) fun h' tk dd' hs => ⟨.ref s.heap.objs.size, _, ?_, rfl, q2⟩
  obtain ⟨q, es, ep, hq, h3, h4, h5, _, h6⟩ := dd'
  refine d_write I2 (by rw [e]; exact True.intro) hs ⟨q, hq⟩ ⟨show (1 : Nat) ≤ sizeLine by rw [sizeLine_eq]; decide, hd, _, .cons ⟨rfl, ?_, h2⟩ .nil, q, es, ep, hq, h3, h4, h5, h6⟩
  show upd H2 s.heap.objs.size _ b = _
  rw [upd_ne (ne_of eb e (fun z => nomatch z))]
  exact eb
end
/-- {k: v}, the key a tuple of ints and texts -/
def eDoneT (ck cv : CE) : CE := fun δ ρ => match ck δ ρ with
  | .ok kd _ ρ1 => match anyKey true kd with
    | some _ => match cv δ ρ1 with
      | .ok d true ρ2 => .ok (.dct true [kd] [d]) true ρ2
      | .er k ρ2 => .er k ρ2
      | _ => .no
    | none => .no
  | .er k ρ1 => .er k ρ1
  | .no => .no
theorem anyKeyT_eq {d : D} {k : Key ⊕ List Key} (h : anyKey true d = some k) : ∃ ks : List Key, d = .tup (ks.map keyD) ∧ k = .inr ks := by
  unfold anyKey at h
  dsimp only at h
  split at h
  · rename_i xs
    obtain ⟨ks, e1, e2⟩ := Option.map_eq_some_iff.mp h
    exact ⟨ks, by rw [keysOf_eq e1], e2.symm⟩
  · cases h
section
variable {Γ : Gam} {E : L2.St → XK} {X : Cx} {σ : L2.St} {H : Hp} {δ : List Slot} {ρ : Row} {e : Expr} {pos : Pos}
theorem c_doneT {k : Expr} {ck cv : CE} {kr : Nat} (hr : Room kr X.A) (hk : PE X k (T Γ E ck)) (he : PE X e (T Γ E cv)) : PE X (.Dict [some k] [e] pos) (T Γ E (eDoneT ck cv)) :=
  (pe_disp1T hk he (by have := hr.un; omega)).imp fun σ H Q ⟨B, δ, ρ, G, s, q⟩ => by
    intro p hp
    have x0 := (Ex.new (o := .dT []) hp)
    have s0 := s.nx x0.xr (s.row.ex x0)
    refine ⟨B, δ, ρ, G, s0, ?_⟩
    unfold eDoneT at q
    cases hA : ck δ ρ with
    | er k ρ1 => rw [hA] at q; exact fun H' x r => q H' (x0.xr.trans x) r
    | no => rw [hA] at q; exact q.elim
    | ok kd f1 ρ1 =>
      rw [hA] at q
      dsimp only at q
      intro y H1 x1 r1 l1
      split at q
      · rename_i k0 hk0
        have s1 := s0.nx x1 r1
        refine ⟨B, δ, ρ1, G, s1, ?_⟩
        cases hB : cv δ ρ1 with
        | er k ρ2 => rw [hB] at q; exact fun H' x r => q H' ((x0.xr.trans x1).trans x) r
        | no => rw [hB] at q; exact q.elim
        | ok d fr ρ2 =>
          rw [hB] at q
          cases fr with
          | false => exact q.elim
          | true =>
          intro v H2 x2 r2 l2
          have np : p ≠ Γ.R := by rintro rfl; rw [s.row.1] at hp; cases hp
          have hp2 : H2 p = some (.dT []) := by
            rcases (x1.trans x2) p _ upd_same with z | ⟨z, _⟩ | ⟨_, _, z, _⟩
            · exact z
            · exact absurd z np
            · cases z
          obtain ⟨ks, rfl, _⟩ := anyKeyT_eq hk0
          obtain ⟨b, us, ev, hb, rb⟩ := l1.rp.tup_of
          subst ev
          rw [rp_keys rb] at hb
          have hb2 : H2 b = some (.tup (ks.map kV)) := by
            rcases x2 b _ hb with z | ⟨_, _, z⟩ | ⟨_, _, z, _⟩
            · exact z
            · cases z
            · cases z
          refine ⟨ks, b, v, rfl, hb2, hp2, ?_⟩
          have x3 : Xr Γ H (upd H2 p (.dT [(ks, v)])) := fun a o ea => by
            have na : a ≠ p := by rintro rfl; rw [hp] at ea; cases ea
            rw [upd_ne na]
            exact (x0.xr.trans (x1.trans x2)) a o ea
          have r3 : RowAt Γ (upd H2 p (.dT [(ks, v)])) ρ2 := by
            exact ⟨by rw [upd_ne np.symm]; exact r2.1, x3.sqS s.row.2.2.1 s.row.2.1, r2.2.2.1, Tabs.upd r2.2.2.2 hp2 (by intro _ z; cases z) (by intro _ z; cases z)⟩
          have keep : ∀ {g : Hp}, (∀ a o, g a = some o → H2 a = some o) → g p = none → ∀ a o, g a = some o → upd H2 p (.dT [(ks, v)]) a = some o := fun hg gn a o ea => by
            have na : a ≠ p := by rintro rfl; rw [gn] at ea; cases ea
            rw [upd_ne na]; exact hg a o ea
          have mk : ∀ Ge, Vw Γ Ge H2 → Rp Γ Ge v d → Ge p = none → Rp Γ (upd Ge p (.dT [(ks, v)])) (.ref p) (.dct true [.tup (ks.map keyD)] [d]) := fun Ge w rr gn =>
            Rp.dT (kvs := [(ks, v)]) np upd_same (.cons (rr.mono (Ex.new gn).xr) .nil)
          have fresh : true = true → ∃ Ge, Vw Γ Ge H2 ∧ Rp Γ Ge v d ∧ (∀ a o, Ge a = some o → Mu o = true → H a = none) ∧ Ge p = none := fun hf => by
            obtain ⟨Ge, w, rr, n, _⟩ := l2.fresh hf
            refine ⟨Ge, w, rr, fun a o ea m => ?_, ?_⟩
            · have h1 := n a o ea m
              have h2 := x1.none r1 h1
              exact Ex.none x0 h2
            · cases z : Ge p with
              | none => rfl
              | some o =>
                have e2 := w.2 p o z
                rw [hp2] at e2
                cases e2
                have h1 := n p _ z rfl
                have h2 := x1.none r1 h1
                rw [upd_same] at h2
                cases h2
          refine q _ _ x3 r3 ⟨?_, fun hf => ?_⟩
          · obtain ⟨Ge, w, rr, n, gn⟩ := fresh rfl
            refine (mk Ge w rr gn).mono (Ex.xr fun a o ea => ?_)
            by_cases ha : a = p
            · subst ha; rw [upd_same] at ea; rw [upd_same]; exact ea
            · rw [upd_ne ha] at ea; exact keep w.2 gn a o ea
          · obtain ⟨Ge, w, rr, n, gn⟩ := fresh hf
            refine ⟨upd Ge p (.dT [(ks, v)]), ⟨⟨by rw [upd_ne np.symm]; exact w.1.1, upd_notb w.1.2 (by intro _ z; cases z)⟩, fun a o ea => ?_⟩, mk Ge w rr gn, fun a o ea m => ?_, Sep.dT (kvs := [(ks, v)]) np gn (.cons rr .nil)⟩
            · by_cases ha : a = p
              · subst ha; rw [upd_same] at ea; rw [upd_same]; exact ea
              · rw [upd_ne ha] at ea; exact keep w.2 gn a o ea
            · by_cases ha : a = p
              · subst ha; exact hp
              · rw [upd_ne ha] at ea; exact n a o ea m
      · exact q.elim
end
end WF

/-! ## WGR -/
/-! Own layer: `for pair in zip(a, b)`, a and b tuples, the pair a name: the tuple that was handed out may still be held. -/
namespace WF
open PySem PySem.Spec PyProof.Rows L2 LamX RZ
/-- the zip object at Z; `out` is the tuple that it handed out last, `kept` whether it is held -/
abbrev ZipG (h : Heap) (Z TI TO : Addr) (out : Value) (kept : Bool) : Prop :=
  h.get? Z = some { cls := .type "zip", dict := none, data := .fields #[out, .bool kept, .bool false, .ref TI, .ref TO], slots := #[] }
def OutOr (out : Value) : Prop := out = .none ∨ ∃ T : Addr, out = rawInt T
/-- what the zip walks, m pairs behind it on the left, n on the right -/
structure ZAt (TI TO i1 i2 l1 l2 : Addr) (xs ys : Array Value) (m n : Nat) (h : Heap) : Prop where
  ti : IsPair h TI (.ref i1) (.ref i2)
  to : ∃ u v, IsPair h TO u v
  p1 : h.IsTupleIter i1 l1 m
  p2 : h.IsTupleIter i2 l2 n
  t1 : h.IsTuple l1 xs
  t2 : h.IsTuple l2 ys
/-- all is kept, the zip's own four apart -/
def ZKeep (Z TO i1 i2 : Addr) (h g : Heap) : Prop := ∀ b o, b ≠ Z → b ≠ TO → b ≠ i1 → b ≠ i2 → h.get? b = some o → g.get? b = some o
section
variable {Z TI TO i1 i2 l1 l2 : Addr} {xs ys : Array Value} {m n : Nat} {h g : Heap}
theorem ZKeep.rfl' : ZKeep Z TO i1 i2 h h := fun _ _ _ _ _ _ e => e
theorem ZKeep.then {g2 : Heap} (a : ZKeep Z TO i1 i2 h g) (b : ZKeep Z TO i1 i2 g g2) : ZKeep Z TO i1 i2 h g2 := fun c o n1 n2 n3 n4 e => b c o n1 n2 n3 n4 (a c o n1 n2 n3 n4 e)
theorem ZKeep.z (a : Heap.ExtBut Z h g) : ZKeep Z TO i1 i2 h g := fun b o n1 _ _ _ e => a b o n1 e
theorem ZKeep.o (a : Heap.ExtBut TO h g) : ZKeep Z TO i1 i2 h g := fun b o _ n2 _ _ e => a b o n2 e
theorem ZKeep.l (a : Heap.ExtBut i1 h g) : ZKeep Z TO i1 i2 h g := fun b o _ _ n3 _ e => a b o n3 e
theorem ZKeep.r (a : Heap.ExtBut i2 h g) : ZKeep Z TO i1 i2 h g := fun b o _ _ _ n4 e => a b o n4 e
theorem ZKeep.up (a : ∀ b o, h.get? b = some o → g.get? b = some o) : ZKeep Z TO i1 i2 h g := fun b o _ _ _ _ e => a b o e
/-- the zip itself has changed alone -/
theorem ZAt.z (D : ZipApart Z TI TO i1 i2 l1 l2) (q : ZAt TI TO i1 i2 l1 l2 xs ys m n h) (k : Heap.ExtBut Z h g) : ZAt TI TO i1 i2 l1 l2 xs ys m n g :=
  ⟨k _ _ D.TIz q.ti, q.to.imp fun _ z => z.imp fun _ e => k _ _ D.TOz e, q.p1.extBut k D.i1z, q.p2.extBut k D.i2z, q.t1.extBut k D.l1z, q.t2.extBut k D.l2z⟩
theorem ZAt.up (q : ZAt TI TO i1 i2 l1 l2 xs ys m n h) (k : ∀ b o, h.get? b = some o → g.get? b = some o) : ZAt TI TO i1 i2 l1 l2 xs ys m n g :=
  ⟨k _ _ q.ti, q.to.imp fun _ z => z.imp fun _ e => k _ _ e, q.p1.at fun o e => k _ o e, q.p2.at fun o e => k _ o e, let ⟨o, e, r⟩ := q.t1; ⟨o, k _ _ e, r⟩, let ⟨o, e, r⟩ := q.t2; ⟨o, k _ _ e, r⟩⟩
/-- the pair that it owns has changed alone -/
theorem ZAt.o (D : ZipApart Z TI TO i1 i2 l1 l2) {u v : Value} (q : ZAt TI TO i1 i2 l1 l2 xs ys m n h) (k : Heap.ExtBut TO h g) (e : IsPair g TO u v) : ZAt TI TO i1 i2 l1 l2 xs ys m n g :=
  ⟨k _ _ D.TITO q.ti, ⟨u, v, e⟩, q.p1.extBut k D.TOi1.symm, q.p2.extBut k D.TOi2.symm, q.t1.extBut k D.l1TO, q.t2.extBut k D.l2TO⟩
theorem ZAt.l (D : ZipApart Z TI TO i1 i2 l1 l2) (q : ZAt TI TO i1 i2 l1 l2 xs ys m n h) (k : Heap.ExtBut i1 h g) (e : g.IsTupleIter i1 l1 (m + 1)) : ZAt TI TO i1 i2 l1 l2 xs ys (m + 1) n g :=
  ⟨k _ _ D.TIi1 q.ti, q.to.imp fun _ z => z.imp fun _ e => k _ _ D.TOi1 e, e, q.p2.extBut k D.i12.symm, q.t1.extBut k D.l1i1, q.t2.extBut k D.l2i1⟩
theorem ZAt.r (D : ZipApart Z TI TO i1 i2 l1 l2) (q : ZAt TI TO i1 i2 l1 l2 xs ys m n h) (k : Heap.ExtBut i2 h g) (e : g.IsTupleIter i2 l2 (n + 1)) : ZAt TI TO i1 i2 l1 l2 xs ys m (n + 1) g :=
  ⟨k _ _ D.TIi2 q.ti, q.to.imp fun _ z => z.imp fun _ e => k _ _ D.TOi2 e, q.p1.extBut k D.i12, e, q.t1.extBut k D.l1i2, q.t2.extBut k D.l2i2⟩
end
section
variable {prog : Program} {w : World} {A : Around} {E : Value → Shared → Prop} {s : Shared} {Z TI TO i1 i2 l1 l2 : Addr} {xs ys : Array Value} {m n : Nat} {out : Value} {kept : Bool}
theorem alive_wp {T : Addr} {Q : Option Obj → Shared → Prop} (q : Q (s.heap.get? T) s) : wpAny (model prog w) A (loadIfAlive T) Q E s := fun _ _ _ => q
/-- may the pair be given out once more? either answer; the mark alone may change -/
theorem zipG_free {Q : Bool → Shared → Prop} (zip : ZipG s.heap Z TI TO out kept) (ok : OutOr out) (go : ∀ b g k2, ZipG g Z TI TO out k2 → Heap.SameBut Z s.heap g → Q b { s with heap := g }) :
    wpAny (model prog w) A (Builtin.SmallTypes.ownedTupleIsFree (.ref Z)) Q E s := by
  have same := fun b => go b s.heap kept zip (Heap.SameBut.refl _ _)
  unfold Builtin.SmallTypes.ownedTupleIsFree
  refine wpAny_bind (wpAny_field zip rfl (x := out) rfl ?_)
  obtain rfl | ⟨T, rfl⟩ := ok
  · exact wpAny_pure (same true)
  · show wpAny _ _ (loadIfAlive ((T : Int).toNat) >>= _) _ _ _
    rw [Int.toNat_natCast]
    refine wpAny_bind (alive_wp ?_)
    cases s.heap.get? T with
    | none => exact wpAny_pure (same true)
    | some obj =>
      show wpAny _ _ (field (.ref Z) 1 >>= _) _ _ _
      refine wpAny_bind (wpAny_field zip rfl (x := .bool kept) rfl ?_)
      cases kept with
      | true => exact wpAny_pure (same false)
      | false => exact wpAny_bind (wpAny_setField_rec zip (by simp) fun g z2 k => wpAny_pure (go false g true z2 k))
/-- the next pair -/
theorem zipG_item {x y : Value} {Q : Value → Shared → Prop} (D : ZipApart Z TI TO i1 i2 l1 l2) (zip : ZipG s.heap Z TI TO out kept) (ok : OutOr out) (at_ : ZAt TI TO i1 i2 l1 l2 xs ys m n s.heap) (hx : xs[m]? = some x) (hy : ys[n]? = some y)
    (go : ∀ g out2 kept2, OutOr out2 → ZipG g Z TI TO out2 kept2 → ZAt TI TO i1 i2 l1 l2 xs ys (m + 1) (n + 1) g → IsPair g s.heap.objs.size x y → ZKeep Z TO i1 i2 s.heap g → Q (.ref s.heap.objs.size) { s with heap := g }) :
    wpAny (model prog w) A (Builtin.«zip.__next__» ⟨[.ref Z], []⟩) (fun fin t => ∃ v, fin = .done (.ret v) ∧ Q v t) E s := by
  show wpAny _ _ (field (.ref Z) 2 >>= _) _ _ _
  refine wpAny_bind (wpAny_field zip rfl (x := .bool false) rfl ?_)
  show wpAny _ _ (field (.ref Z) 3 >>= _) _ _ _
  refine wpAny_bind (wpAny_field zip rfl (x := .ref TI) rfl (wpAny_bind (wpAny_seqItems at_.ti rfl ?_)))
  show wpAny _ _ (Builtin.SmallTypes.ownedTupleIsFree (.ref Z) >>= _) _ _ _
  refine wpAny_bind (zipG_free zip ok fun free g0 k0 zip0 s0 => ?_)
  have at0 := at_.z D s0.extBut
  have keep0 : ZKeep Z TO i1 i2 s.heap g0 := .z s0.extBut
  cases free with
  | true =>
    refine wpAny_bind (wpAny_rule (wpAny_bind (wpAny_field zip0 rfl (x := .ref TO) rfl (wpAny_bind (wpAny_setField_rec zip0 (by simp) fun g1 zip1 s1 => wpAny_bind ?_)))))
    have zip1 : ZipG g1 Z TI TO .ellipsis k0 := zip1
    have at1 := at0.z D s1.extBut
    have keep1 := keep0.then (.z s1.extBut)
    simp only [List.zipIdx_cons, List.zipIdx_nil, List.forIn_cons, List.forIn_nil]
    refine wpAny_bind (wpAny_bind (wpAny_onRaise ?left))
    case left =>
      show wpAny _ _ (Builtin.SmallTypes.nextOf (.ref i1) >>= _) _ _ { s with heap := g1 }
      refine wpAny_bind (nextOf_tuple_item at1.p1 at1.t1 hx fun g2 e2 s2 => wpAny_pure ?_)
      have at2 := at1.l D s2.extBut e2
      have keep2 := keep1.then (.l s2.extBut)
      have zip2 : ZipG g2 Z TI TO .ellipsis k0 := s2.extBut _ _ D.i1z.symm zip1
      obtain ⟨u, v, o2⟩ := at2.to
      refine wpAny_bind (wpAny_seqItems o2 rfl (wpAny_bind (wpAny_updateSeq_pair o2 fun g3 o3 s3 => wpAny_bind (wpAny_letGo (wpAny_pure ?_)))))
      have o3 : IsPair g3 TO x v := o3
      have at3 := at2.o D s3.extBut o3
      have keep3 := keep2.then (.o s3.extBut)
      have zip3 : ZipG g3 Z TI TO .ellipsis k0 := s3.extBut _ _ D.TOz.symm zip2
      refine wpAny_bind (wpAny_bind (wpAny_onRaise ?right))
      case right =>
        show wpAny _ _ (Builtin.SmallTypes.nextOf (.ref i2) >>= _) _ _ { s with heap := g3 }
        refine wpAny_bind (nextOf_tuple_item at3.p2 at3.t2 hy fun g4 e4 s4 => wpAny_pure ?_)
        have at4 := at3.r D s4.extBut e4
        have keep4 := keep3.then (.r s4.extBut)
        have zip4 : ZipG g4 Z TI TO .ellipsis k0 := s4.extBut _ _ D.i2z.symm zip3
        have o4 : IsPair g4 TO x v := s4.extBut _ _ D.TOi2 o3
        refine wpAny_bind (wpAny_seqItems o4 rfl (wpAny_bind (wpAny_updateSeq_pair o4 fun g5 o5 s5 => wpAny_bind (wpAny_letGo (wpAny_pure (wpAny_pure ?_))))))
        have o5 : IsPair g5 TO x y := o5
        have at5 := at4.o D s5.extBut o5
        have keep5 := keep4.then (.o s5.extBut)
        have zip5 : ZipG g5 Z TI TO .ellipsis k0 := s5.extBut _ _ D.TOz.symm zip4
        have size5 : g5.objs.size = s.heap.objs.size := (((s5.1.trans s4.1).trans s3.1).trans s2.1).trans (s1.1.trans s0.1)
        have below : Z < g5.objs.size := Heap.lt_size zip5
        refine wpAny_bind (wpAny_seqItems o5 rfl (wpAny_bind (wpAny_newTuple (wpAny_bind ?_))))
        have at6 := at5.up (g := g5.push { cls := .type "tuple", data := .seq #[x, y] }) fun b o e => Heap.get?_push_of_some _ e
        unfold Builtin.SmallTypes.ownedTupleHandOut
        have zip6 : ZipG (g5.push { cls := .type "tuple", data := .seq #[x, y] }) Z TI TO .ellipsis k0 := Heap.get?_push_of_some _ zip5
        refine wpAny_bind (wpAny_setField_rec zip6 (by simp) fun g7 zip7 s7 => ?_)
        have zip7 : ZipG g7 Z TI TO (rawInt g5.objs.size) k0 := zip7
        refine wpAny_setField_rec zip7 (by simp) fun g8 zip8 s8 => wpAny_pure ⟨_, rfl, ?_⟩
        have zip8 : ZipG g8 Z TI TO (rawInt g5.objs.size) false := zip8
        have new8 : IsPair g8 g5.objs.size x y := s8.extBut _ _ (Nat.ne_of_gt below) (s7.extBut _ _ (Nat.ne_of_gt below) (Heap.get?_push_size _ rfl))
        have keep8 : ZKeep Z TO i1 i2 s.heap g8 := keep5.then (.then (.up fun b o e => Heap.get?_push_of_some _ e) (.then (.z s7.extBut) (.z s8.extBut)))
        have at8 := (at6.z D s7.extBut).z D s8.extBut
        show Q (.ref g5.objs.size) _
        rw [size5] at zip8 new8 ⊢
        exact go g8 _ _ (.inr ⟨_, rfl⟩) zip8 at8 new8 keep8
  | false =>
    refine wpAny_bind ?_
    rw [← Array.forIn_toList]
    simp only [List.forIn_cons, List.forIn_nil]
    refine wpAny_bind (wpAny_bind (wpAny_holding ?left))
    case left =>
      show wpAny _ _ (Builtin.SmallTypes.nextOf (.ref i1) >>= _) _ _ { s with heap := g0 }
      refine wpAny_bind (nextOf_tuple_item at0.p1 at0.t1 hx fun g2 e2 s2 => wpAny_pure (wpAny_pure ?_))
      have at2 := at0.l D s2.extBut e2
      refine wpAny_bind (wpAny_bind (wpAny_holding ?right))
      case right =>
        show wpAny _ _ (Builtin.SmallTypes.nextOf (.ref i2) >>= _) _ _ { s with heap := g2 }
        refine wpAny_bind (nextOf_tuple_item at2.p2 at2.t2 hy fun g3 e3 s3 => wpAny_pure (wpAny_pure (wpAny_pure ?_)))
        have at3 := at2.r D s3.extBut e3
        have zip3 : ZipG g3 Z TI TO out k0 := s3.extBut _ _ D.i2z.symm (s2.extBut _ _ D.i1z.symm zip0)
        have keep3 : ZKeep Z TO i1 i2 s.heap g3 := keep0.then (.then (.l s2.extBut) (.r s3.extBut))
        have size3 : g3.objs.size = s.heap.objs.size := (s3.1.trans s2.1).trans s0.1
        show wpAny _ _ (newTuple [x, y] >>= _) _ _ { s with heap := g3 }
        refine wpAny_bind (wpAny_newTuple (wpAny_pure ⟨_, rfl, ?_⟩))
        have new4 : IsPair (g3.push { cls := .type "tuple", data := .seq #[x, y] }) g3.objs.size x y := Heap.get?_push_size _ rfl
        have up4 : ∀ b o, g3.get? b = some o → (g3.push { cls := .type "tuple", data := .seq #[x, y] }).get? b = some o := fun b o e => Heap.get?_push_of_some _ e
        show Q (.ref g3.objs.size) _
        rw [size3] at new4 ⊢
        exact go _ _ _ ok (up4 _ _ zip3) (at3.up up4) new4 (keep3.then (.up up4))
/-- no pair is left -/
theorem zipG_end {Q : Fin → Shared → Prop} (calm : A.handled = none) (D : ZipApart Z TI TO i1 i2 l1 l2) (zip : ZipG s.heap Z TI TO out kept) (ok : OutOr out) (at_ : ZAt TI TO i1 i2 l1 l2 xs ys m n s.heap) (over : xs[m]? = none ∨ ys[n]? = none)
    (stop : ∀ g e, ZKeep Z TO i1 i2 s.heap g → (∃ o, g.get? e = some o ∧ o.cls = .type "StopIteration") → E (.ref e) { s with heap := g }) : wpAny (model prog w) A (Builtin.«zip.__next__» ⟨[.ref Z], []⟩) Q E s := by
  show wpAny _ _ (field (.ref Z) 2 >>= _) _ _ _
  refine wpAny_bind (wpAny_field zip rfl (x := .bool false) rfl ?_)
  show wpAny _ _ (field (.ref Z) 3 >>= _) _ _ _
  refine wpAny_bind (wpAny_field zip rfl (x := .ref TI) rfl (wpAny_bind (wpAny_seqItems at_.ti rfl ?_)))
  show wpAny _ _ (Builtin.SmallTypes.ownedTupleIsFree (.ref Z) >>= _) _ _ _
  refine wpAny_bind (zipG_free zip ok fun free g0 k0 zip0 s0 => ?_)
  have at0 := at_.z D s0.extBut
  have keep0 : ZKeep Z TO i1 i2 s.heap g0 := .z s0.extBut
  cases free with
  | true =>
    refine wpAny_bind (wpAny_rule (wpAny_bind (wpAny_field zip0 rfl (x := .ref TO) rfl (wpAny_bind (wpAny_setField_rec zip0 (by simp) fun g1 zip1 s1 => wpAny_bind ?_)))))
    have zip1 : ZipG g1 Z TI TO .ellipsis k0 := zip1
    have at1 := at0.z D s1.extBut
    have keep1 := keep0.then (.z s1.extBut)
    -- what is raised, once the mark is put back
    have raise : ∀ {g : Heap} {e : Addr}, ZipG g Z TI TO .ellipsis k0 → ZKeep Z TO i1 i2 s.heap g → (∃ o, g.get? e = some o ∧ o.cls = .type "StopIteration") → ∀ g2, Heap.SameBut Z g g2 → E (.ref e) { s with heap := g2 } := fun {g e} zg kg ⟨o, e1, e2⟩ g2 sg =>
      stop g2 e (kg.then (.z sg.extBut)) ⟨o, sg.extBut _ _ (fun c => by subst c; rw [zg] at e1; cases e1; simp at e2) e1, e2⟩
    simp only [List.zipIdx_cons, List.zipIdx_nil, List.forIn_cons, List.forIn_nil]
    refine wpAny_bind (wpAny_bind (wpAny_onRaise ?left))
    case left =>
      show wpAny _ _ (Builtin.SmallTypes.nextOf (.ref i1) >>= _) _ _ { s with heap := g1 }
      cases hx : xs[m]? with
      | none =>
        refine wpAny_bind (nextOf_tuple_end calm at1.p1 at1.t1 hx fun g2 e s2 thrown => ?_)
        have zip2 : ZipG g2 Z TI TO .ellipsis k0 := s2 _ _ D.i1z.symm zip1
        exact wpAny_setField_rec zip2 (by simp) fun g3 _ s3 => raise zip2 (keep1.then (.l s2)) thrown g3 s3
      | some x =>
        have hy : ys[n]? = none := over.resolve_left (by rw [hx]; simp)
        refine wpAny_bind (nextOf_tuple_item at1.p1 at1.t1 hx fun g2 e2 s2 => wpAny_pure ?_)
        have at2 := at1.l D s2.extBut e2
        have keep2 := keep1.then (.l s2.extBut)
        have zip2 : ZipG g2 Z TI TO .ellipsis k0 := s2.extBut _ _ D.i1z.symm zip1
        obtain ⟨u, v, o2⟩ := at2.to
        refine wpAny_bind (wpAny_seqItems o2 rfl (wpAny_bind (wpAny_updateSeq_pair o2 fun g3 o3 s3 => wpAny_bind (wpAny_letGo (wpAny_pure ?_)))))
        have at3 := at2.o D s3.extBut (show IsPair g3 TO x v from o3)
        have keep3 := keep2.then (.o s3.extBut)
        have zip3 : ZipG g3 Z TI TO .ellipsis k0 := s3.extBut _ _ D.TOz.symm zip2
        refine wpAny_bind (wpAny_bind (wpAny_onRaise ?right))
        case right =>
          show wpAny _ _ (Builtin.SmallTypes.nextOf (.ref i2) >>= _) _ _ { s with heap := g3 }
          refine wpAny_bind (nextOf_tuple_end calm at3.p2 at3.t2 hy fun g4 e s4 thrown => ?_)
          have zip4 : ZipG g4 Z TI TO .ellipsis k0 := s4 _ _ D.i2z.symm zip3
          exact wpAny_setField_rec zip4 (by simp) fun g5 _ s5 => raise zip4 (keep3.then (.r s4)) thrown g5 s5
  | false =>
    refine wpAny_bind ?_
    rw [← Array.forIn_toList]
    simp only [List.forIn_cons, List.forIn_nil]
    refine wpAny_bind (wpAny_bind (wpAny_holding ?left))
    case left =>
      show wpAny _ _ (Builtin.SmallTypes.nextOf (.ref i1) >>= _) _ _ { s with heap := g0 }
      cases hx : xs[m]? with
      | none => exact wpAny_bind (nextOf_tuple_end calm at0.p1 at0.t1 hx fun g2 e s2 thrown => stop g2 e (keep0.then (.l s2)) thrown)
      | some x =>
        have hy : ys[n]? = none := over.resolve_left (by rw [hx]; simp)
        refine wpAny_bind (nextOf_tuple_item at0.p1 at0.t1 hx fun g2 e2 s2 => wpAny_pure (wpAny_pure ?_))
        have at2 := at0.l D s2.extBut e2
        refine wpAny_bind (wpAny_bind (wpAny_holding ?right))
        case right =>
          show wpAny _ _ (Builtin.SmallTypes.nextOf (.ref i2) >>= _) _ _ { s with heap := g2 }
          exact wpAny_bind (nextOf_tuple_end calm at2.p2 at2.t2 hy fun g3 e s3 thrown => stop g3 e ((keep0.then (.l s2.extBut)).then (.r s3)) thrown)
theorem pyNextG_item {x y : Value} {Q : Option Value → Shared → Prop} (D : ZipApart Z TI TO i1 i2 l1 l2) (zip : ZipG s.heap Z TI TO out kept) (ok : OutOr out) (at_ : ZAt TI TO i1 i2 l1 l2 xs ys m n s.heap) (hx : xs[m]? = some x) (hy : ys[n]? = some y)
    (go : ∀ g out2 kept2, OutOr out2 → ZipG g Z TI TO out2 kept2 → ZAt TI TO i1 i2 l1 l2 xs ys (m + 1) (n + 1) g → IsPair g s.heap.objs.size x y → ZKeep Z TO i1 i2 s.heap g → Q (some (.ref s.heap.objs.size)) { s with heap := g }) : wpAny (model prog w) A (pyNext (.ref Z)) Q E s := by
  have ty : s.TypeIs (.ref Z) "zip" := ⟨_, zip, rfl⟩
  unfold pyNext
  refine wpAny_bind (wpAny_attempt (wpAny_callSpecial?_slot (name := Str.ofString "__next__") ty F.slot_zip_next (wpAny_call_entry F.slot_zip_next ty F.entry_zip_next (zipG_item D zip ok at_ hx hy ?_) (F.args_zip_next_1 _))))
  exact fun g o2 k2 a1 a2 a3 a4 a5 => wpAny_pure (go g o2 k2 a1 a2 a3 a4 a5)
theorem pyNextG_end {Q : Option Value → Shared → Prop} (calm : A.handled = none) (D : ZipApart Z TI TO i1 i2 l1 l2) (zip : ZipG s.heap Z TI TO out kept) (ok : OutOr out) (at_ : ZAt TI TO i1 i2 l1 l2 xs ys m n s.heap) (over : xs[m]? = none ∨ ys[n]? = none)
    (go : ∀ g, ZKeep Z TO i1 i2 s.heap g → Q none { s with heap := g }) : wpAny (model prog w) A (pyNext (.ref Z)) Q E s := by
  have ty : s.TypeIs (.ref Z) "zip" := ⟨_, zip, rfl⟩
  unfold pyNext
  refine wpAny_bind (wpAny_attempt (wpAny_callSpecial?_slot (name := Str.ofString "__next__") ty F.slot_zip_next (wpAny_call_entry F.slot_zip_next ty F.entry_zip_next (zipG_end calm D zip ok at_ over ?_) (F.args_zip_next_1 _))))
  rintro g e keep ⟨o, e1, e2⟩
  exact wpAny_bind (wpAny_isInstance (T := "StopIteration") (b := true) ⟨o, e1, e2⟩ isSubtype_stop (wpAny_pure (go _ keep)))
theorem pyIterG {Q : Value → Shared → Prop} (zip : ZipG s.heap Z TI TO out kept) (q : Q (.ref Z) s) : wpAny (model prog w) A (pyIter (.ref Z)) Q E s := by
  have ty : s.TypeIs (.ref Z) "zip" := ⟨_, zip, rfl⟩
  refine wpAny_pyIter_slot ty F.slot_zip_iter (wpAny_call_entry F.slot_zip_iter ty F.entry_zip_iter ?_ (F.args_zip_iter_1 _))
  show wpAny _ _ (ret (.ref Z)) _ _ s
  exact wpAny_pure ⟨_, rfl, "zip", _, ty, F.slot_zip_next.lookup, q⟩
end
/-- the walk: its five objects -/
abbrev fiveZ (Z TI TO i1 i2 : Addr) : List Addr := [Z, TI, TO, i1, i2]
theorem ZKeep.off {Z TI TO i1 i2 : Addr} {h g : Heap} (k : ZKeep Z TO i1 i2 h g) : ∀ b o, b ∉ fiveZ Z TI TO i1 i2 → h.get? b = some o → g.get? b = some o := fun b o no e => by
  simp only [fiveZ, List.mem_cons, List.not_mem_nil, or_false, not_or] at no
  exact k b o no.1 no.2.2.1 no.2.2.2.1 no.2.2.2.2 e
theorem five_old {N c : Addr} (hc : c ∈ fiveZ (N + 4) (N + 2) (N + 3) N (N + 1)) : N ≤ c := by
  simp only [fiveZ, List.mem_cons, List.not_mem_nil, or_false] at hc
  rcases hc with rfl | rfl | rfl | rfl | rfl
  · exact Nat.le_add_right _ _
  · exact Nat.le_add_right _ _
  · exact Nat.le_add_right _ _
  · exact Nat.le_refl _
  · exact Nat.le_add_right _ _
/-- how a walk stands behind i pairs: the tuples are read off the state of things -/
structure ZWalk (Z TI TO i1 i2 a b : Addr) (i : Nat) (h : Heap) : Prop where
  zip : ∃ out kept, OutOr out ∧ ZipG h Z TI TO out kept
  ti : IsPair h TI (.ref i1) (.ref i2)
  to : ∃ u v, IsPair h TO u v
  p1 : h.IsTupleIter i1 a i
  p2 : h.IsTupleIter i2 b i
theorem turn_zipN {P : Program} {w : World} {K : PySem.W.Frag} {nm : Str} {npos : Pos} {a b Z TI TO i1 i2 : Addr} (D : ZipApart Z TI TO i1 i2 a b) : Turn P w K (.Name nm npos) (ItzT K a b) (fiveZ Z TI TO i1 i2) Z (ZWalk Z TI TO i1 i2 a b) where
  mem := List.mem_cons_self
  obj := fun i h st c hc => by
    obtain ⟨⟨_, _, _, q0⟩, q1, ⟨_, _, q2⟩, ⟨_, q3, _, d3⟩, ⟨_, q4, _, d4⟩⟩ := st
    simp only [fiveZ, List.mem_cons, List.not_mem_nil, or_false] at hc
    rcases hc with rfl | rfl | rfl | rfl | rfl
    · exact ⟨_, q0, fun _ => nofun⟩
    · exact ⟨_, q1, fun _ => nofun⟩
    · exact ⟨_, q2, fun _ => nofun⟩
    · exact ⟨_, q3, fun v z => by rw [d3] at z; cases z⟩
    · exact ⟨_, q4, fun v z => by rw [d4] at z; cases z⟩
  keep := fun i h g st k =>
    ⟨st.zip.imp fun _ z => z.imp fun _ q => ⟨q.1, k Z (by simp [fiveZ]) _ q.2⟩, k TI (by simp [fiveZ]) _ st.ti, st.to.imp fun _ z => z.imp fun _ q => k TO (by simp [fiveZ]) _ q, st.p1.at fun o e => k i1 (by simp [fiveZ]) o e, st.p2.at fun o e => k i2 (by simp [fiveZ]) o e⟩
  item := by
    rintro X rfl rfl rfl calm i pins s σ H E I fp ⟨⟨out, kept, ok, zip⟩, ti, to, p1, p2⟩ ⟨xs, ys, x, y, sx, sy, hx, hy⟩
    obtain ⟨us, ru, tu, _⟩ := I.tuple sx
    obtain ⟨vs, rv, tv, _⟩ := I.tuple sy
    obtain ⟨u, hu, r1⟩ := ru.get hx
    obtain ⟨v, hv, r2⟩ := rv.get hy
    have five : ∀ c ∈ fiveZ Z TI TO i1 i2, c < s.heap.objs.size := fun c hc => by
      simp only [fiveZ, List.mem_cons, List.not_mem_nil, or_false] at hc
      obtain ⟨_, _, q2⟩ := to
      obtain ⟨_, q3, _⟩ := id p1
      obtain ⟨_, q4, _⟩ := id p2
      rcases hc with rfl | rfl | rfl | rfl | rfl
      · exact Heap.lt_size zip
      · exact Heap.lt_size ti
      · exact Heap.lt_size q2
      · exact Heap.lt_size q3
      · exact Heap.lt_size q4
    refine pyNextG_item D zip ok ⟨ti, to, p1, p2, tu, tv⟩ (x := u) (y := v) (by simpa using hu) (by simpa using hv) fun g out2 kept2 ok2 zip2 at2 new keep => ⟨_, rfl, wpAny_pure ?_⟩
    have I1 : Inv X pins σ (upd H s.heap.objs.size (.tup [x, y])) { s with heap := g } :=
      I.turnedNew (t' := s.toks) (ch := fiveZ Z TI TO i1 i2) keep.off fp (Nat.le_refl _) ⟨show 2 ≤ sizeLine by decide, [u, v], .cons r1 (.cons r2 .nil), ⟨_, new, rfl, _, rfl⟩⟩
    refine ⟨.ref s.heap.objs.size, _, I1, rfl, ⟨_, x, y, rfl, I.hok.fresh (Nat.le_refl _), rfl, fun l hl => by rw [I.tuple_inj hl sx]; exact hx, fun l hl => by rw [I.tuple_inj hl sy]; exact hy⟩, ⟨⟨out2, kept2, ok2, zip2⟩, at2.ti, at2.to, at2.p1, at2.p2⟩, fun c hc => ?_⟩
    exact (upd_ne (Nat.ne_of_lt (five c hc))).trans (fp c hc).1
  done := by
    rintro X rfl rfl rfl calm i pins s σ H E I fp ⟨⟨out, kept, ok, zip⟩, ti, to, p1, p2⟩ ⟨xs, ys, sx, sy, over⟩
    obtain ⟨us, ru, tu, _⟩ := I.tuple sx
    obtain ⟨vs, rv, tv, _⟩ := I.tuple sy
    have c1 := ru.length
    have c2 := rv.length
    have none_left : us.toArray[i]? = none ∨ vs.toArray[i]? = none := over.imp (fun z => by simp; omega) fun z => by simp; omega
    exact pyNextG_end (I.ok.hd calm) D zip ok ⟨ti, to, p1, p2, tu, tv⟩ none_left fun g keep => ⟨rfl, I.turnedL (t' := s.toks) (ch := fiveZ Z TI TO i1 i2) keep.off fp⟩
  self := fun A i s Q E st q => let ⟨_, _, _, zip⟩ := st.zip; pyIterG zip q
def iZipN (K : PySem.W.Frag) (ta : TA) : TI := fun σ H R => ta σ H fun vs H1 => ∃ a b xs ys, vs = [.ref a, .ref b] ∧ SqT K H1 a xs ∧ SqT K H1 b ys ∧ R (ItzT K a b) H1
theorem pi_zipN {X : Cx} {e1 e2 : Expr} {ta : TA} {p pos npos : Pos} {nm : Str} (hg : Gl X "zip") (hm : X.mg "zip" = none) (args : PA X [e1, e2] ta)
    (each : starEach [e1, e2] X.env = (false, eval e1 X.env) :: starEach [e2] X.env := by rfl) (plain : (backTo pos (starEach [e2] X.env)).any (·.1) = false := by rfl) :
    PI X (.Name nm npos) (.Call (.Name "zip" p) [e1, e2] [] pos) (iZipN X.K ta) := by
  refine ⟨fun pins s σ H R I wish => Call_ (ld_blt I hg hm boot_zip (callWith_type1 (thn (args.run pos pins s σ H _ I wish) ?_) each plain))⟩
  rintro us t ⟨_, H1, I1, rel, a, b, xs, ys, rfl, sx, sy, q⟩
  obtain ⟨_, _, rfl, ra, rest⟩ : ∃ u r, us = u :: r ∧ RelV (.ref a) u ∧ Vals [V.ref b] r := by
    cases rel with
    | cons z1 z2 => exact ⟨_, _, rfl, z1, z2⟩
  rw [Vals.ref1 rest]
  obtain rfl : _ = Value.ref a := ra
  obtain ⟨_, _, tu, _⟩ := I1.tuple sx
  obtain ⟨_, _, tv, _⟩ := I1.tuple sy
  obtain ⟨_, g1, _⟩ := id tu
  obtain ⟨_, g2, _⟩ := id tv
  let N := t.heap.objs.size
  have young : ∀ c ∈ fiveZ (N + 4) (N + 2) (N + 3) N (N + 1), FpOk X pins H1 c := fun c hc => by
    have old := five_old hc
    exact I1.fpOk old (I1.hok.fresh old)
  refine call_zipT tu tv fun g zip ti to p1 p2 size keep => wpAny_pyIter_zip zip ?_
  exact ⟨N + 4, fiveZ (N + 4) (N + 2) (N + 3) N (N + 1), _, _, H1, rfl, I1.kept (t' := t.toks) keep, turn_zipN (PySem.W.ktu_apart N a b (Heap.lt_size g1) (Heap.lt_size g2)), ⟨⟨_, _, .inl rfl, zip⟩, ti, ⟨_, _, to⟩, p1, p2⟩, young, q⟩
section
variable {Γ : Gam} {E : L2.St → XK} {X : Cx} {a b : Expr} {pos : Pos}
theorem ci_zipN {c : CA} {p npos : Pos} {nm : Str} (hK : X.K = Γ.K) (hg : Gl X "zip") (hm : X.mg "zip" = none) (ha : PA X [a, b] (TAs Γ E c)) (hs : starEach [a, b] X.env = (false, eval a X.env) :: starEach [b] X.env := by rfl) (hpl : (backTo pos (starEach [b] X.env)).any (·.1) = false := by rfl) :
    PI X (.Name nm npos) (.Call (.Name "zip" p) [a, b] [] pos) (TIx Γ E (iZip c)) := (pi_zipN hg hm ha hs hpl).imp fun σ H R ⟨B, δ, ρ, G, s, q⟩ => by
  refine ⟨B, δ, ρ, G, s, ?_⟩
  unfold iZip at q
  cases hA : c δ ρ with
  | ok as fr ρ1 =>
    rw [hA] at q
    intro vs H1 x r l
    split at q
    · rename_i ds1 ds2 f1 ρ2 e
      cases e
      obtain ⟨Gv, w, rv, n⟩ := l.view r
      cases rv with
      | cons rv rn =>
        cases rn with
        | cons rv2 rn =>
          cases rn
          cases rv with
          | @tup la xs _ h ra =>
            cases rv2 with
            | @tup lb ys _ h2 rb =>
              exact ⟨la, lb, xs, ys, rfl, SqT.of (w.2 _ _ h), SqT.of (w.2 _ _ h2), by rw [hK]; exact q _ H1 Gv x r (wlk_zipT (SqT.of h) ra (SqT.of h2) rb) w n⟩
    · rename_i e; cases e
    · exact q.elim
  | er k ρ1 => rw [hA] at q; exact q
  | no => rw [hA] at q; exact q.elim
end
end WF

/-! ## WGT -/
/-! Own layer: lambdas kept as data, some with an int as default. -/
namespace WF
open PySem PySem.Spec PyProof.Rows L2 LamX
abbrev lamF (q : Str) (params : Arguments) (body : Expr) (scope : Scope) (cl : List (Str × Addr)) (pm cdv ct dV : Value) : FuncData :=
  { name := "<lambda>", qualname := q, params, body := .expr body, scope, globals := mainGlobals, closure := cl, defaults := dV, kwdefaults := .none, doc := .none, pyModule := pm, annotations := none, code := cdv, closureTuple := ct, builtins := builtinsNs }
abbrev lamOb (q : Str) (params : Arguments) (body : Expr) (scope : Scope) (cl : List (Str × Addr)) (pm : Value) (c' : Addr) (ct dV : Value) : Obj := { cls := .type "function", data := .func (lamF q params body scope cl pm (.ref c') ct dV) }
/-- the function object at f is known -/
def LamAt (q : Str) (params : Arguments) (body : Expr) (scope : Scope) (cl : List (Str × Addr)) (dV : Value) (f c' : Addr) (h : Heap) : Prop := ∃ pm ctv, h.get? f = some (lamOb q params body scope cl pm c' ctv dV)
section
variable {M : Model} {A : Around} {E : Value → Shared → Prop} {s : Shared} {qual : Str} {params : Arguments} {body : Expr} {scope : Scope} {env : Env} {c P : Addr} {ps : Array Value} {pos : Pos} {line : Nat} {mg : Str → Option Value} {clos : List (Str × Addr)} {Q : Value → Shared → Prop} {dV : Value}
/-- the tuple of cells is laid, or there is none: all is kept -/
theorem clo_step {α : Type} {items : List Value} {k : Value → Sem α} {R : α → Shared → Prop} (go : ∀ (ct : Value) (g : Heap), (∀ b o, s.heap.get? b = some o → g.get? b = some o) → s.heap.objs.size ≤ g.objs.size → wpAny M A (k ct) R E { s with heap := g }) :
    wpAny M A (if clos.isEmpty = true then pure Value.none >>= k else newTextTuple items >>= k) R E s := by
  by_cases z : clos.isEmpty = true
  · rw [if_pos z]
    exact wpAny_bind (wpAny_pure (go .none s.heap (fun _ _ e => e) (Nat.le_refl _)))
  · rw [if_neg z]
    exact wpAny_bind (wpAny_newTextTuple (go _ _ (fun _ _ e => Heap.get?_push_of_some _ e) (by rw [Heap.size_push]; exact Nat.le_succ _)))
/-- what the making of a function asks of the frame -/
structure Mk0 (s : Shared) (env : Env) (scope : Scope) (clos : List (Str × Addr)) (mg : Str → Option Value) (c P : Addr) (ps : Array Value) : Prop where
  clo : closureFor scope env = pure clos
  gl : env.globals = mainGlobals
  ns : s.heap.Ns mainGlobals mg
  code : env.code = .ref c
  hd : PySem.W.CodeHd s.heap c P
  tab : s.heap.get? P = some (PySem.W.tabObj ps)
  ok : TriplesOk ps.toList
  blt : s.heap.BuiltinsAt mg P
theorem mk_new (F : Mk0 s env scope clos mg c P ps) (new : codeAmong pos ps.toList = none) (gP : mainGlobals ≠ P)
    (go : ∀ (c' : Addr) (ct : Value) (g : Heap) (tk : Tok), Heap.ExtBut P s.heap g → s.heap.objs.size ≤ c' → c' < g.objs.size → g.CodeRec (.ref c') qual → g.get? P = some (PySem.W.tabObj (ps ++ #[rawInt pos.line, rawInt pos.col, .ref c'])) →
      Q (.ref g.objs.size) { s with heap := g.push (lamOb qual params body scope clos ((mg "__name__").getD .none) c' ct dV), toks := tk }) :
    wpAny M A (makeTail "<lambda>" qual params (.expr body) scope env dV .none none pos line) Q E s := by
  obtain ⟨bm, ob, b1, b2, b3, b4, b5, b6, b7, b8⟩ := F.blt
  unfold makeTail
  rw [F.clo, F.gl]
  refine wpAny_bind (wpAny_pure (clo_step fun ct g keep grow => ?_))
  have hd := F.hd.keeps keep
  refine wpAny_bind (wpAny_functionCodeX F.code (hd.code (keep _ _ F.tab) F.ok) (hd.tab (keep _ _ F.tab)) new fun c' g2 tk ext old lt _ rec_ tab2 _ => ?_)
  have ns2 := (F.ns.keeps keep).extBut ext gP
  have ext2 : Heap.ExtBut P s.heap g2 := fun b o nb e => ext b o nb (keep b o e)
  refine wpAny_bind (wpAny_builtinsFor ns2 b1 b2 (ext2 _ _ b4 b5) b6 b7 b8 (wpAny_bind (wpAny_nsGet ns2 (wpAny_bind (wpAny_pure ?_)))))
  exact wpAny_newObj_type (go c' ct g2 tk ext2 (Nat.le_trans grow old) lt rec_ tab2.2) (by size_fits)
theorem mk_old {cv : Value} (F : Mk0 s env scope clos mg c P ps) (there : codeAmong pos ps.toList = some cv)
    (go : ∀ (ct : Value) (g : Heap), (∀ b o, s.heap.get? b = some o → g.get? b = some o) →
      Q (.ref g.objs.size) { s with heap := g.push { cls := .type "function", data := .func (lamF qual params body scope clos ((mg "__name__").getD .none) cv ct dV) } }) :
    wpAny M A (makeTail "<lambda>" qual params (.expr body) scope env dV .none none pos line) Q E s := by
  obtain ⟨bm, ob, b1, b2, b3, b4, b5, b6, b7, b8⟩ := F.blt
  unfold makeTail
  rw [F.clo, F.gl]
  refine wpAny_bind (wpAny_pure (clo_step fun ct g keep _ => ?_))
  have hd := F.hd.keeps keep
  have ns2 := F.ns.keeps keep
  refine wpAny_bind (wpAny_functionCode_hit F.code (hd.code (keep _ _ F.tab) F.ok) there ?_)
  refine wpAny_bind (wpAny_builtinsFor ns2 b1 b2 (keep _ _ b5) b6 b7 b8 (wpAny_bind (wpAny_nsGet ns2 (wpAny_bind (wpAny_pure ?_)))))
  exact wpAny_newObj_type (go ct g keep) (by size_fits)
end
section
variable {X : Cx} {pins : List (Addr × Obj)} {σ : L2.St} {H : Hp} {s : Shared} {T : List (Addr × Str)} {c P : Addr}
abbrev lamQ (X : Cx) : Str := X.env.qual ++ "<lambda>"
abbrev lamC (X : Cx) (scope : Scope) : List (Str × Addr) := cloFrom X.env.cells scope.names []
/-- the function object is laid and tracked -/
theorem lay_fun {params : Arguments} {body : Expr} {scope : Scope} {h' : Heap} {tk : Nat} {pm dV ctv : Value} {c' : Addr} (I : Inv X pins σ H { s with heap := h', toks := tk }) :
    Inv X pins σ (upd H h'.objs.size (.ext (LamAt (lamQ X) params body scope (lamC X scope) dV h'.objs.size c'))) { s with heap := h'.push (lamOb (lamQ X) params body scope (lamC X scope) pm c' ctv dV), toks := tk } :=
  I.laid (t' := tk) (fun b u q => Heap.get?_push_of_some _ q) (Nat.le_refl _) ⟨⟨pm, ctv, Heap.get?_push_size _ rfl⟩, ⟨_, Heap.get?_push_size _ rfl⟩, fun h1 h2 ⟨a, b, e⟩ st => ⟨a, b, st _ e⟩⟩
theorem ExT.new {H1 : Hp} (x : ExT H H1) {p : Addr} {o : HO} (h : H1 p = Option.none) : ExT H (upd H1 p o) := fun b u e => by
  rcases x b u e with z | ⟨ps, ps', z, z2⟩
  · exact .inl (by rw [upd_ne (ne_of_none z h)]; exact z)
  · exact .inr ⟨ps, ps', z, by rw [upd_ne (ne_of_none z2 h)]; exact z2⟩
theorem ExT.trans {H1 H2 : Hp} (x : ExT H H1) (y : ExT H1 H2) : ExT H H2 := fun b u e => by
  rcases x b u e with z | ⟨ps, ps', z, z2⟩
  · exact y b u z
  · rcases y b _ z2 with w | ⟨qs, qs', w, w2⟩
    · exact .inr ⟨ps, ps', z, w⟩
    · exact .inr ⟨ps, qs', z, w2⟩
theorem ExT.of {H1 : Hp} (x : Ex H H1) : ExT H H1 := fun b u e => .inl (x b u e)
/-- a function object is made for a lambda, and known from then on, as its code object is -/
theorem lam_tail {params : Arguments} {body : Expr} {scope : Scope} {pos : Pos} {dV : Value} {E Q : Value → Shared → Prop} (I : Inv X pins σ H s) (M : Maker X T c P) (tabs : Tabs T H) (caught : ∀ y ∈ scope.names, y.2 = .free → ∃ c, X.env.cells.lookup y.1 = some c)
    (go : ∀ (f c' : Addr) (H1 : Hp) (s' : Shared), Inv X pins σ H1 s' → ExT H H1 → Tabs T H1 → H1 f = some (.ext (LamAt (lamQ X) params body scope (lamC X scope) dV f c')) → H1 c' = some (CodeO c' (lamQ X)) → Q (.ref f) s') :
    wpAny (model X.prog X.w) X.A (makeTail "<lambda>" (lamQ X) params (.expr body) scope X.env dV .none none pos pos.line) Q E s := by
  obtain ⟨ps, told, wf, all_⟩ := tabs _ M.mem
  have F : Mk0 s X.env scope (lamC X scope) X.mg c P ps := ⟨closure_ok caught, I.ok.glob, I.mod.glob.keeps I.bk, M.cd, M.tb.code.keeps I.bk, I.hok P _ told, wf, M.tb.bm.keeps I.bk⟩
  cases seen : codeAmong pos ps.toList with
  | some cv =>
    obtain ⟨c', rfl, co⟩ := all_ pos cv seen
    refine mk_old F seen fun ct g keep => ?_
    have J : Inv X pins σ H { s with heap := g, toks := s.toks } := I.kept keep
    have free : H g.objs.size = none := J.hok.fresh (Nat.le_refl _)
    exact go g.objs.size c' _ _ (lay_fun J) ((ExT.rfl' H).new free) (tabs.ext (Ex.new free)) upd_same (by rw [upd_ne (ne_of_none co free)]; exact co)
  | none =>
    refine mk_new F seen M.tb.gP ?_
    rintro c' ct g tk ext old lt ⟨_, oc, vs, t, e2, o1, o2, o3⟩ tab
    cases e2
    have fc : H c' = none := I.hok.fresh old
    let add : Array Value := #[rawInt pos.line, rawInt pos.col, .ref c']
    let H1 : Hp := upd (upd H P (.tbl (ps ++ add))) c' (CodeO c' (lamQ X))
    have J : Inv X pins σ H1 { s with heap := g, toks := tk } := inv_table (more := add) I told ext tab old ⟨oc, vs, t, o1, o2, o3⟩
    have co : H1 c' = some (CodeO c' (lamQ X)) := upd_same
    have same : ∀ b, b ≠ P → b ≠ c' → H1 b = H b := fun b n1 n2 => (upd_ne n2).trans (upd_ne n1)
    have tabP : H1 P = some (.tbl (ps ++ add)) := (upd_ne (ne_of_none told fc)).trans upd_same
    have grown : ExT H H1 := fun b o e => if z : b = P then by
        subst z
        exact .inr ⟨ps, _, Option.some.inj (e.symm.trans told), tabP⟩
      else .inl ((same b z (ne_of_none e fc)).trans e)
    have coded : ∀ {b : Addr} {w : Str}, H b = some (CodeO b w) → H1 b = some (CodeO b w) := fun {b w} e => by
      rcases grown b _ e with z | ⟨_, _, z, _⟩
      · exact z
      · exact absurd z (codeO_ne _)
    have tabs1 : Tabs T H1 := fun p hp => by
      by_cases z : p.1 = P
      · rw [M.one p hp z, z]
        have flat : (ps ++ add).toList = ps.toList ++ [rawInt pos.line, rawInt pos.col, .ref c'] := by simp [add]
        refine ⟨_, tabP, flat ▸ PySem.TriplesOk_snoc _ _ _ _ wf, fun p' cv found => ?_⟩
        rcases among_app _ wf (flat ▸ found) with y | y
        · obtain ⟨c0, y1, y2⟩ := all_ p' cv y
          exact ⟨c0, y1, coded y2⟩
        · exact ⟨c', y, co⟩
      · obtain ⟨qs, a1, a2, a3⟩ := tabs p hp
        refine ⟨qs, (same _ z (ne_of_none a1 fc)).trans a1, a2, fun p' cv found => ?_⟩
        obtain ⟨c0, y1, y2⟩ := a3 p' cv found
        exact ⟨c0, y1, coded y2⟩
    have free : H1 g.objs.size = none := J.hok.fresh (Nat.le_refl _)
    exact go g.objs.size c' _ _ (lay_fun J) (grown.new free) (tabs1.ext (Ex.new free)) upd_same (by rw [upd_ne (ne_of_none co free)]; exact co)
/-- lambda: e -/
theorem lam_new0 {params : Arguments} {body : Expr} {scope : Scope} {pos : Pos} {E Q : Value → Shared → Prop} (I : Inv X pins σ H s) (M : Maker X T c P) (hT : Tabs T H) (hd : defaultsOf params X.env = ([], [])) (hf : ∀ y ∈ scope.names, y.2 = .free → ∃ c, X.env.cells.lookup y.1 = some c)
    (k : ∀ (f c' : Addr) (H1 : Hp) (s' : Shared), Inv X pins σ H1 s' → ExT H H1 → Tabs T H1 → H1 f = some (.ext (LamAt (lamQ X) params body scope (lamC X scope) .none f c')) → H1 c' = some (CodeO c' (lamQ X)) → Q (.ref f) s') :
    wpAny (model X.prog X.w) X.A (eval (.Lambda params body scope pos) X.env) Q E s := by
  refine PySem.W.kla_eval hd ?_
  rw [makeFunction_eq]
  simp only [List.zip_nil_right, List.filterMap_nil, List.isEmpty_nil, if_true, pure_bind]
  exact lam_tail I M hT hf k
/-- lambda a=i: e -/
theorem lam_new1 {params : Arguments} {body : Expr} {scope : Scope} {pos p1 : Pos} {i : Int} {j : Nat} {E Q : Value → Shared → Prop} (I : Inv X pins σ H s) (M : Maker X T c P) (hT : Tabs T H) (hd : defaultsOf params X.env = ([eval (.Constant (.int i) j p1) X.env], [])) (hf : ∀ y ∈ scope.names, y.2 = .free → ∃ c, X.env.cells.lookup y.1 = some c)
    (k : ∀ (f c' TT : Addr) (H1 : Hp) (s' : Shared), Inv X pins σ H1 s' → ExT H H1 → Tabs T H1 → H1 f = some (.ext (LamAt (lamQ X) params body scope (lamC X scope) (.ref TT) f c')) → H1 c' = some (CodeO c' (lamQ X)) → H1 TT = some (.tup [.int i]) → Q (.ref f) s') :
    wpAny (model X.prog X.w) X.A (eval (.Lambda params body scope pos) X.env) Q E s := by
  rw [arm_eval_Lambda, hd]
  show wpAny _ _ (do let dv ← evalAll [eval (.Constant (.int i) j p1) X.env]; let kdv ← holding dv (evalAllOpt []); makeFunction "<lambda>" (X.env.qual ++ "<lambda>") params (.expr body) scope X.env dv kdv [] pos pos.line) Q E s
  refine wpAny_bind (wpAny_bind (wpAny_Constant_int ?_))
  refine wpAny_bind (wpAny_holding (wpAny_pure (wpAny_pure ?_)))
  refine wpAny_bind (wpAny_holding (wpAny_pure ?_))
  rw [makeFunction_eq]
  simp only [List.zip_nil_right, List.filterMap_nil, List.isEmpty_nil, List.isEmpty_cons, Bool.false_eq_true, if_false, if_true, pure_bind]
  refine wpAny_bind (wpAny_newTextTuple ?_)
  have I0 := I.tok (s.toks + 1)
  have nT : H s.heap.objs.size = none := I.hok.fresh (Nat.le_refl _)
  have I1 : Inv X pins σ (upd H s.heap.objs.size (.tup [.int i])) { s with heap := s.heap.push { cls := .type "tuple", data := .seq [Value.int i s.toks].toArray }, toks := s.toks + 1 } :=
    I0.laid (t' := s.toks + 1) (fun b u q => Heap.get?_push_of_some _ q) (Nat.le_refl _) ⟨by show 1 ≤ sizeLine; rw [sizeLine_eq]; decide, _, .cons ⟨_, rfl⟩ .nil, IsTup.new _ _⟩
  refine lam_tail I1 M (hT.ext (Ex.new nT)) hf fun f c' H1 s' J x1 t1 h1 h2 => ?_
  refine k f c' s.heap.objs.size H1 s' J ((ExT.of (Ex.new nT)).trans x1) t1 h1 h2 ?_
  rcases x1 s.heap.objs.size _ upd_same with z | ⟨_, _, z, _⟩
  · exact z
  · cases z
end
end WF

/-! ## WGU -/
/-! Own layer: a kept lambda is called: with no argument, its default in its place. -/
namespace WF
open PySem PySem.Spec PyProof.Rows L2 LamX
/-- what the scope of a kept lambda is: its parameters alone are its own, and none is a name of the maker's frame -/
structure LamP (N : List Str) (sc scope : Scope) (ow : List Str) : Prop where
  kind : scope.kind = .function
  plain : scope.isCoroutine = false ∧ scope.isGenerator = false
  all : ∀ y ∈ scope.names, y.2 ≠ .cell ∧ (y.2 = .local → y.1 ∈ ow) ∧ (y.2 = .free → sc.names.lookup y.1 = some .cell ∨ sc.names.lookup y.1 = some .free)
  ow : ∀ y ∈ ow, scope.names.lookup y = some .local ∧ y ∉ N
def lamPB (N : List Str) (sc scope : Scope) (ow : List Str) : Bool :=
  (decide (scope.kind = .function) && (!scope.isCoroutine && !scope.isGenerator)) &&
  ((scope.names.all fun y => !decide (y.2 = .cell) && ((!decide (y.2 = .local) || decide (y.1 ∈ ow)) && (!decide (y.2 = .free) || (decide (sc.names.lookup y.1 = some .cell) || decide (sc.names.lookup y.1 = some .free))))) && ow.all fun y => decide (scope.names.lookup y = some .local) && !decide (y ∈ N))
theorem lamP_by {N : List Str} {sc scope : Scope} {ow : List Str} (h : lamPB N sc scope ow = true) : LamP N sc scope ow := by
  simp only [lamPB, Bool.and_eq_true, Bool.or_eq_true, List.all_eq_true, decide_eq_true_eq, Bool.not_eq_true', decide_eq_false_iff_not] at h
  exact ⟨h.1.1, h.1.2, fun y hy => ⟨(h.2.1 y hy).1, fun e => (h.2.1 y hy).2.1.resolve_left fun n => n e, fun e => (h.2.1 y hy).2.2.resolve_left fun n => n e⟩, h.2.2⟩
theorem clo_old {cells : List (Str × Addr)} {names : List (Str × NameKind)} (old : ∀ y ∈ names, y.2 = .free → ∃ c, cells.lookup y.1 = some c) {y : Str} {c : Addr} (e : (cloFrom cells names []).lookup y = some c) : cells.lookup y = some c := by
  match cloFrom_mem (PySem.mem_of_lookup e) with
  | .inl z => cases z
  | .inr ⟨m, z⟩ =>
    obtain ⟨d, at_⟩ := old _ m rfl
    have at_ : cells.lookup y = some d := at_
    have : c = d := by rw [z, at_]; rfl
    rw [at_, this]
theorem clo_new {cells : List (Str × Addr)} {names : List (Str × NameKind)} {y : Str} (e : names.lookup y = some .free) : ∃ c, (cloFrom cells names []).lookup y = some c := mem_lookup (cloFrom_has (acc := []) (PySem.mem_of_lookup e))
theorem un_cell {fs : List Addr} {H HZ : Hp} {g g1 : Heap} (un : Un fs [] H HZ g g1) {c : Addr} {v : Option Value} (free : H c = none) (k : g.IsCell c v) : g1.IsCell c v := by
  obtain ⟨o, at_, da⟩ := k
  exact ⟨_, (un.any at_ free (by simp)).choose_spec, da⟩
theorem kept_cell {g g1 : Heap} (keep : ∀ b o, g.get? b = some o → g1.get? b = some o) {c : Addr} {v : Option Value} (k : g.IsCell c v) : g1.IsCell c v := by
  obtain ⟨o, at_, da⟩ := k
  exact ⟨o, keep _ _ at_, da⟩
section
variable {X : Cx} {pins : List (Addr × Obj)} {σ : L2.St} {H HZ : Hp} {s s1 : Shared} {ow : List Str}
theorem LamP.old {scope : Scope} (L : LamP X.N X.env.scope scope ow) (ok : X.Ok) : ∀ y ∈ scope.names, y.2 = .free → ∃ c, X.env.cells.lookup y.1 = some c := fun y m e => ok.has _ (((L.all y m).2.2 e).imp id id)
theorem LamP.own {scope : Scope} (L : LamP X.N X.env.scope scope ow) {y : Str} (e : scope.names.lookup y = some .local) : y ∉ X.N := (L.ow y ((L.all _ (PySem.mem_of_lookup e)).2.1 rfl)).2
theorem LamP.noCell {scope : Scope} (L : LamP X.N X.env.scope scope ow) {y : Str} (e : scope.names.lookup y = some .cell) : False := (L.all _ (PySem.mem_of_lookup e)).1 rfl
/-- the frame of the lambda's body: the maker's slots, read by the cells -/
theorem lam_in {A : Around} {outer : List Env} {E : XK} {scope : Scope} {f c' : Addr} {g : Heap} {tk : Nat} {m : Str → Option Value} (I : Inv X pins σ H s) (L : LamP X.N X.env.scope scope ow) (B : Env0 X.prog X.w X.K X.mg X.base A outer s1 HZ) (calm : A.handled = none)
    (un : Un (frs X.stack) [] H HZ s.heap s1.heap) (ns : g.Ns s1.heap.objs.size m) (keep : ∀ b o, s1.heap.get? b = some o → g.get? b = some o) : Inv (lamCx X A outer s1 HZ E scope f c') [] σ HZ { s1 with heap := g, toks := tk } :=
  have old := L.old I.ok
  { ok :=
      { mod := B.mod, kind := L.kind, glob := rfl, blt := rfl, above := Nat.le_refl _
        inj := fun y z c e1 e2 => I.ok.inj y z c (clo_old old e1) (clo_old old e2)
        has := fun y z => z.elim (fun k => (L.noCell k).elim) fun k => clo_new k
        cab := fun _ _ z _ => Bool.noConfusion z
        hd := fun _ => calm, frames := Around.frames_deeper B.frames, stk := .inr ⟨rfl, rfl⟩
        exf := fun b z => absurd (show b ∈ [] from z) List.not_mem_nil
        bs := B.bs, bsz := B.bsz, noex := fun _ _ _ => List.not_mem_nil
        exfs := fun b z => absurd (show b ∈ [] from z) List.not_mem_nil
        funs := B.funs, frf := B.frf }
    os := rfl, bare := B.bare, base := Un.kept keep
    loc := ⟨m, ns, fun i y v at_ told vis => by
      have at2 : X.N[i]? = some y := at_
      rcases (show Vis scope y from vis) with k | k | k
      · exact absurd (List.mem_of_getElem? at2) (L.own k)
      · exact (L.noCell k).elim
      · obtain ⟨_, _, look⟩ := I.loc
        have sc := (L.all _ (PySem.mem_of_lookup k)).2.2 rfl
        obtain ⟨u, rel, w⟩ := look i y v at2 told (.inr sc)
        obtain ⟨c, caught⟩ := clo_new (cells := X.env.cells) k
        have there := clo_old old caught
        refine ⟨u, rel, .inr ⟨.inr k, c, caught, ?_⟩⟩
        rcases w with ⟨no, _⟩ | ⟨_, d, e, cell⟩
        · have no : X.env.scope.names.lookup y = some .local := no
          have sc : X.env.scope.names.lookup y = some .cell ∨ X.env.scope.names.lookup y = some .free := sc
          rcases sc with z | z
          · rw [no] at z; cases z
          · rw [no] at z; cases z
        · obtain rfl : c = d := Option.some.inj (there.symm.trans e)
          exact kept_cell keep (un_cell un (I.freeC y c there) cell)⟩
    cell := fun y c e => (I.cell y c (clo_old old e)).imp fun _ k => kept_cell keep (un_cell un (I.freeC y c (clo_old old e)) k)
    free := B.hok.fresh (Nat.le_refl _)
    freeC := fun y c e => by
      have there := clo_old old e
      obtain ⟨_, o, at_, _⟩ := I.cell y c there
      exact un.free c o at_ (I.freeC y c there) (by simp)
    pin := fun q z => absurd (show q ∈ ([] : List (Addr × Obj)) from z) List.not_mem_nil
    hok := B.hok.kept keep
    len := I.len }
/-- what a call with no argument binds: nothing, or the default, read from the tuple at TT -/
inductive DflB (q : Str) (params : Arguments) (body : Expr) (scope : Scope) (ow : List Str) : Bool → Prop
  | no : ow = [] → (∀ (cl : List (Str × Addr)) (pm cv ctv : Value), bindArgs (lamF q params body scope cl pm cv ctv .none) ⟨[], []⟩ = pure []) → DflB q params body scope ow false
  | yes {a : Str} : ow = [a] → (∀ (cl : List (Str × Addr)) (pm cv ctv : Value) (TT : Addr), ∃ k, bindArgs (lamF q params body scope cl pm cv ctv (.ref TT)) ⟨[], []⟩ = seqItems? (.ref TT) >>= k ∧ ∀ u : Value, k (some #[u]) = pure [(a, u)]) → DflB q params body scope ow true
def dflV (d : Bool) (TT : Addr) : Value := if d then .ref TT else .none
theorem DflB.wp {q : Str} {params : Arguments} {body : Expr} {scope : Scope} {cl : List (Str × Addr)} {pm cv ctv : Value} {d : Bool} {TT : Addr} {M : Model} {A : Around} {E : Value → Shared → Prop} {Q : List (Str × Value) → Shared → Prop} (B : DflB q params body scope ow d) (I : Inv X pins σ H s) (hT : d = true → H TT = some (.tup [.int 0]))
    (h : ∀ binds : List (Str × Value), (∀ y ∈ binds, y.1 ∈ ow) → Q binds s) : wpAny M A (bindArgs (lamF q params body scope cl pm cv ctv (dflV d TT)) ⟨[], []⟩) Q E s := by
  cases B with
  | no e b =>
    show wpAny M A (bindArgs (lamF q params body scope cl pm cv ctv .none) ⟨[], []⟩) Q E s
    rw [b]
    exact wpAny_pure (h [] fun y hy => absurd hy (by simp))
  | @yes a e b =>
    show wpAny M A (bindArgs (lamF q params body scope cl pm cv ctv (.ref TT)) ⟨[], []⟩) Q E s
    obtain ⟨k, e1, e2⟩ := b cl pm cv ctv TT
    rw [e1]
    obtain ⟨_, its, r, ⟨o, ho, hc, n, hd⟩⟩ := I.hok TT _ (hT rfl)
    refine wpAny_bind (wpAny_seqItems ho hd ?_)
    have : ∃ u, its = [u] := by
      cases r with
      | cons r1 r2 => cases r2 with
        | nil => exact ⟨_, rfl⟩
    obtain ⟨u, rfl⟩ := this
    show wpAny M A (k (some #[u])) Q E s
    rw [e2]
    exact wpAny_pure (h _ fun y hy => by
      rw [List.mem_singleton.mp hy, e]
      exact List.mem_singleton.mpr rfl)
/-- x(), in the def that got a kept lambda: that def's context was entered at s -/
theorem pe_actT {CXg : CXT} {Eg : XK} {Ng : List Str} {qg : Str} {sg : Scope} {g f c' TT : Addr} {cdg : Value} {params : Arguments} {body : Expr} {scope : Scope} {k i : Nat} {a : Str} {pn : List (Addr × Obj)} {xe : Value → Shared → Prop} {W : WX} {E : XK} {tb : TE} {p1 p2 : Pos} {d : Bool}
    (I : Inv X pins σ H s) (L : LamP X.N X.env.scope scope ow) (D : DflB (lamQ X) params body scope ow d) {Z : Cx} (hZ : Z = (cxOf CXg X.prog X.w X.K X.mg X.base Ng qg sg g cdg X.A X.stack s H Eg).tr pn xe) (takes : Takes Z W) (weak : ∀ cls v σ' H', E cls v H' → W cls v σ' H') (room : Room (k + 1) Z.A)
    (does : ∀ (A : Around) (outer : List Env) (s : Shared) (H : Hp), Room k (A.deeper (lamEnv X scope s.heap.objs.size f c')) → PE (lamCx X A outer s H E scope f c') body tb) (place : Ng[i]? = some a) (vis : Vis sg a) (n1 : (a == ("__debug__" : Str)) = false) (n2 : (a == ("__classdict__" : Str)) = false) :
    PE Z (.Call (.Name a p1) [] [] p2) (fun τ G Q => τ[i]? = some (some (.ref f)) ∧ G c' = some (CodeO c' (lamQ X)) ∧ (G f = some (.ext (LamAt (lamQ X) params body scope (lamC X scope) (dflV d TT) f c')) ∧ (d = true → G TT = some (.tup [.int 0])) ∧ tb σ G Q)) := by
  subst hZ
  refine ⟨fun ps z τ G Q J ⟨told, code, fun_, dfl, go⟩ => ?_⟩
  have name := (pe_var (X := (cxOf CXg X.prog X.w X.K X.mg X.base Ng qg sg g cdg X.A X.stack s H Eg).tr pn xe) (pos := p1) (i := i) place vis n1 n2).run ps z τ G (fun v G' => v = .ref f ∧ G' = G) J ⟨.ref f, told, rfl, rfl⟩
  refine wpAny_Call_Name_kw (thn name ?_)
  rintro u y ⟨v0, G0, J1, rel, rfl, e2⟩
  rw [e2] at J1
  cases (rel : u = Value.ref f)
  obtain ⟨⟨pm, ct, obj⟩, _⟩ := J1.hok f _ fun_
  obtain ⟨⟨oc, vs, t, c1, c2, c3⟩, _⟩ := J1.hok c' _ code
  have since : Un (frs X.stack) [] H _ s.heap y.heap := J1.base
  refine PySem.W.callWith_F0 ⟨_, _, _, _, obj⟩ (wpAny_call (codeAny_mono (R := CR (L2.CX X.prog X.w) (envOfC qg sg s.heap.objs.size g cdg :: X.stack) X.prog X.w G y Q E) ?_ ?_))
  · refine PySem.W.kla_callFunE room.depth obj rfl L.plain.1 L.plain.2 rfl ⟨c', oc, vs, t, rfl, c1, c2, c3⟩ (D.wp J1 dfl fun binds names => ?_)
    refine wpAny_newFunctionEnv (fun n z e => (L.all n z).1 e) (fun n z => (L.ow _ (names n z)).1) (fun g1 ns one => ⟨J1.nolimit.fresh _ one, ?_⟩) L.kind
    have keep : ∀ b o, y.heap.get? b = some o → g1.get? b = some o := fun b o e => one.extBut b o (fun z => Nat.lt_irrefl _ (z ▸ Heap.lt_size e)) (Heap.get?_push_of_some _ e)
    have K := lam_in (E := E) (f := f) (c' := c') (tk := y.toks + binds.length) I L J1.env0 room.hd since ns keep
    exact PySem.W.kla_codeExpr (wpAny_mono ((does _ _ y G (room.deeper _)).run [] _ σ G Q K go) (fun v y' ⟨v', G', K', r, q⟩ => ⟨v', G', K'.os, K'.bare, K'.base, K'.hok, r, q⟩) fun _ _ z => z)
  · have out : Passes (L2.CX X.prog X.w) ((cxOf CXg X.prog X.w X.K X.mg X.base Ng qg sg g cdg X.A X.stack s H Eg).tr pn xe) E := passes_call takes weak
    rintro (e | w) y' end_
    · exact out ps τ G y e y' J1 end_
    · cases w with
      | ret u => exact J1.after end_
      | next => cases (end_ : False)
      | brk => cases (end_ : False)
      | cont => cases (end_ : False)
end
end WF

/-! ## WGV -/
/-! Own layer: lambdas as data (eLam), and told(w) of a kept one (eErrL). -/
namespace WF
open PySem PySem.Spec PyProof.Rows L2 LamX
section
variable {Γ : Gam} {X : Cx} {E : L2.St → XK}
def eLam (i : Nat) : CE := fun _ ρ => .ok (.lam i) false ρ
theorem c_lam0 {i : Nat} {params : Arguments} {body : Expr} {scope : Scope} {own : List Str} {lpos : Pos} {c P : Addr} (M : Maker X Γ.T c P) (L : LamP X.N X.env.scope scope own)
    (hL : Γ.L i = fun f c' TT => LamAt (lamQ X) params body scope (lamC X scope) (dflV false TT) f c') (hq : Γ.Lq i = lamQ X) (hD : Γ.Ld i = false) (hdef : defaultsOf params X.env = ([], []) := by rfl) :
    PE X (.Lambda params body scope lpos) (T Γ E (eLam i)) := by
  refine ⟨fun pins s σ H Q I ⟨B, δ, ρ, G, st, q⟩ => ?_⟩
  refine lam_new0 I M st.row.2.2.2 hdef (L.old I.ok) fun f c' H1 s' J x1 t1 h1 h2 => ?_
  refine ⟨.ref f, H1, J, rfl, q _ H1 x1.xr (st.row.exT x1 t1) (Vl.no (.lam (f := f) (c' := c') (T := f) ?_ ?_ ?_))⟩
  · rw [hL]; exact h1
  · rw [hq]; exact h2
  · rw [hD]; exact fun z => Bool.noConfusion z
theorem c_lam1 {i j : Nat} {params : Arguments} {body : Expr} {scope : Scope} {own : List Str} {lpos p1 : Pos} {c P : Addr} (M : Maker X Γ.T c P) (L : LamP X.N X.env.scope scope own)
    (hL : Γ.L i = fun f c' TT => LamAt (lamQ X) params body scope (lamC X scope) (dflV true TT) f c') (hq : Γ.Lq i = lamQ X) (hdef : defaultsOf params X.env = ([eval (.Constant (.int 0) j p1) X.env], []) := by rfl) :
    PE X (.Lambda params body scope lpos) (T Γ E (eLam i)) := by
  refine ⟨fun pins s σ H Q I ⟨B, δ, ρ, G, st, q⟩ => ?_⟩
  refine lam_new1 I M st.row.2.2.2 hdef (L.old I.ok) fun f c' TT H1 s' J x1 t1 h1 h2 h3 => ?_
  refine ⟨.ref f, H1, J, rfl, q _ H1 x1.xr (st.row.exT x1 t1) (Vl.no (.lam (f := f) (c' := c') (T := TT) ?_ ?_ fun _ => h3))⟩
  · rw [hL]; exact h1
  · rw [hq]; exact h2
/-- told(w): none, or the word of what the lambda raises -/
def toldR (words : Nat → Option Str) : RE → RE
  | .ok _ _ ρ1 => .ok .non true ρ1
  | .er k ρ1 => match words k with
    | some s => .ok (.str s) true ρ1
    | none => .no
  | .no => .no
def eErrL (words : Nat → Option Str) (bs : List CE) (ca : CE) : CE := fun δ ρ => match ca δ ρ with
  | .ok (.lam i) _ ρ0 => match bs[i]? with
    | some cb => toldR words (cb δ ρ0)
    | none => .no
  | .er k ρ1 => .er k ρ1
  | _ => .no
/-- the lambda of number i does as cb -/
structure LamI (Γ : Gam) (X : Cx) (k i : Nat) (cb : CE) : Prop where
  ex : ∃ (params : Arguments) (body : Expr) (scope : Scope) (own : List Str) (d : Bool), (Γ.L i = fun f c' TT => LamAt (lamQ X) params body scope (lamC X scope) (dflV d TT) f c') ∧ Γ.Lq i = lamQ X ∧ Γ.Ld i = d ∧ LamP X.N X.env.scope scope own ∧ DflB (lamQ X) params body scope own d ∧
    ∀ (A : Around) (outer : List Env) (s : Shared) (H : Hp) (E : XK) (f c' : Addr), Room k (A.deeper (lamEnv X scope s.heap.objs.size f c')) → PE (lamCx X A outer s H E scope f c') body (T Γ (fun _ => E) cb)
theorem c_errL {words : Nat → Option Str} {bs : List CE} {ca : CE} {x a : Str} {e : Expr} {st : Stmt} {g : Addr} {fd : FuncData} {k : Nat} {Ng : List Str} {p pos : Pos}
    (F : Fun X.K x x st g fd) (hb : L2.Binds X.K fd [a] []) (Sg : FnScope Ng [a] (defScope st)) (hNg : Ng[0]? = some a) (hva : Vis (defScope st) a) (hm : X.mg x = some (.ref g)) (hk : PySem.W.keepIn X.K (.ref g) = true)
    (hG : ∀ (cdg : Value) (q : Str), GivesR (k + 1) X Ng x (defScope st) g cdg (defBody st) a q (TTw Γ words)) (hr : Room (k + 2) X.A) (hg : Gl X x) (ha : PE X e (T Γ E ca)) (hbs : ∀ i cb, bs[i]? = some cb → LamI Γ X k i cb)
    (n0 : (x == ("__debug__" : Str)) = false := by decide) (n1 : (a == ("__debug__" : Str)) = false := by decide) (n2 : (a == ("__classdict__" : Str)) = false := by decide)
    (st1 : starEach [e] X.env = (false, eval e X.env) :: starEach [] X.env := by rfl) (st2 : backTo pos (starEach [e] X.env) = [(false, eval e X.env)] := by rfl) :
    PE X (.Call (.Name x p) [e] [] pos) (T Γ E (eErrL words bs ca)) := by
  obtain ⟨oc, od, kV, doc, pm, an, cdv, ct, osl, rfl, lk, hcg⟩ := F.ex
  refine ⟨fun pins s σ H Q I ⟨B, δ, ρ, G, stt, q⟩ => ?_⟩
  unfold eErrL at q
  refine wpAny_Call_Name_kw (ld_glob I hg hm (PySem.W.callWith_K (h₀ := X.base) I.ok.mod.kin hk ?_ st1 rfl) n0)
  rw [st2]
  cases hA : ca δ ρ with
  | no => rw [hA] at q; exact q.elim
  | er i ρ1 =>
    rw [hA] at q
    refine Calls.spliced_cons (thn (ha.run pins s σ H (fun _ _ => False) I ⟨B, δ, ρ, G, stt, by rw [hA]; exact q⟩) fun u s1 ⟨_, _, _, _, z⟩ => z.elim)
  | ok d fr ρ0 =>
    rw [hA] at q
    cases d with
    | lam i =>
      dsimp only at q
      cases hB : bs[i]? with
      | none => rw [hB] at q; exact q.elim
      | some cb =>
        rw [hB] at q
        dsimp only at q
        refine Calls.spliced_cons (thn (ha.run pins s σ H (fun v H1 => Xr Γ H H1 ∧ RowAt Γ H1 ρ0 ∧ Rp Γ H1 v (.lam i)) I ⟨B, δ, ρ, G, stt, by rw [hA]; exact fun v H1 x1 r1 l1 => ⟨x1, r1, l1.rp⟩⟩) fun u s1 ⟨v, H1, I1, r1, x1, row1, rp1⟩ => ?_)
        obtain ⟨params, body, scope, own, dd, hL, hq, hD, LP, DB, hbody⟩ := (hbs i cb hB).ex
        cases rp1 with
        | @lam f c' TT _ h1 h2 h3 =>
          obtain rfl : u = Value.ref f := r1
          rw [hL] at h1
          rw [hq] at h2
          rw [hD] at h3
          have st1 := stt.nx x1 row1
          refine Calls.spliced_nil ⟨I1.kIn, wpAny_call (codeAny_mono (run_ofS (CX := C8.CX0) (Q := Q) (E := C8.E0) (N := Ng) (ps := [a]) (us := [.ref f]) (vs := [.ref f]) lk hcg Sg hr I1.env0 (hb s1 [.ref f] I1.kIn rfl) (.cons rfl .nil) rfl ?_) ?_)⟩
          · intro room
            have tt : TTw Γ words (fun E' H' Q' => H' f = some (.ext (LamAt (lamQ X) params body scope (lamC X scope) (dflV dd TT) f c')) ∧ (dd = true → H' TT = some (.tup [.int 0])) ∧ T Γ (fun _ => E') cb σ H' Q') H1 Q := by
              refine ⟨row1.2.1, h1, h3, B, δ, ρ0, G, st1, ?_⟩
              cases hC : cb δ ρ0 with
              | no => rw [hC] at q; exact q.elim
              | ok d2 fr2 ρ1 =>
                rw [hC] at q
                exact fun v H' x2 r2 _ => q .non H' (x1.trans x2) r2 (Vl.of_imm r2 .non rfl)
              | er j ρ1 =>
                rw [hC] at q
                unfold toldR at q
                dsimp only at q
                intro H' x2 r2
                split at q
                · rename_i wd hw
                  exact ⟨j, wd, ρ1, rfl, rfl, hw, r2, fun H'' x3 r3 => q (.str wd) H'' ((x1.trans x2).trans x3) r3 (Vl.of_imm r3 (.str _) rfl)⟩
                · exact q.elim
            obtain ⟨u, hu, hq2⟩ := hG cdv (lamQ X) f c' s1 H1 Q _ room ⟨_, _, I1⟩ (fun W pn xe E p1 p2 tk hW => pe_actT (i := 0) (TT := TT) I1 LP DB rfl tk hW room (fun A outer s H room2 => hbody A outer s H E f c' room2) hNg hva n1 n2) h2 tt
            exact ⟨u, hu.nox, hq2⟩
          · intro r s2 hq3
            match r, hq3 with
            | .error _, hq3 => exact (show False from hq3).elim
            | .ok (.ret u), hq3 => exact I1.after hq3
    | _ => exact q.elim
end
end WF

/-! ## WGW -/
/-! Own layer: the way to a lambda in a def's text. -/
namespace WF
open PySem
def noS : Stmt := .Pass default
def noE : Expr := .Name "" default
def sAt : Nat → List Stmt → Stmt
  | _, [] => noS
  | 0, s :: _ => s
  | n + 1, _ :: r => sAt n r
def eAt : Nat → List Expr → Expr
  | _, [] => noE
  | 0, e :: _ => e
  | n + 1, _ :: r => eAt n r
def sBody : Stmt → List Stmt
  | .For _ _ b _ _ => b
  | .While _ b _ _ => b
  | .If _ b _ _ => b
  | _ => []
def sVal : Stmt → Expr
  | .Assign _ v _ => v
  | .Return (some v) _ => v
  | .Expr v _ => v
  | _ => noE
def eL : Expr → Expr
  | .BinOp a _ _ _ => a
  | _ => noE
def eR : Expr → Expr
  | .BinOp _ _ b _ => b
  | _ => noE
def eItems : Expr → List Expr
  | .List es _ => es
  | .Call _ es _ _ => es
  | _ => []
def lamArgs : Expr → Arguments
  | .Lambda a _ _ _ => a
  | _ => ⟨[], [], none, [], [], none, []⟩
def lamBody : Expr → Expr
  | .Lambda _ b _ _ => b
  | _ => noE
def lamScope : Expr → Scope
  | .Lambda _ _ s _ => s
  | _ => default
/-- the lambda written at e, kept as data: its function object -/
abbrev lamTab (X : L2.Cx) (e : Expr) (d : Bool) (f c' TT : PySem.Addr) : Heap → Prop := LamAt (lamQ X) (lamArgs e) (lamBody e) (lamScope e) (lamC X (lamScope e)) (dflV d TT) f c'
end WF

/-! ## WGX -/
/-! Own layer: an instance == any of: an instance of its class, an int, a tuple (its own __eq__ is asked). -/
namespace WF
open PySem PySem.Spec PyProof.Rows L2
section
variable {Γ : Gam} {E : L2.St → XK} {X : Cx} {B B' : Hp} {G : Nat → Hp} {σ : L2.St} {H H1 H2 : Hp} {δ : List Slot} {ρ ρ1 ρ2 : Row} {pos : Pos} {a b : Expr} {ca cb cc : CE} {v : V} {d : D}
def rOwnV (K : PySem.W.Frag) (C : Addr) (sp : Sp) : R2 := fun x y H Q => ∃ a dx fs, x = .ref a ∧ H a = some (.ins C dx fs) ∧ ((∃ b dy gs, y = .ref b ∧ H b = some (.ins C dy gs)) ∨ (∃ i, y = .int i) ∨ ∃ b xs, y = .ref b ∧ SqT K H b xs) ∧ sp [x, y] H (fun v H' => ∃ t, v = .bl t ∧ Q (.bl t) H') L2.E0
theorem op_ownV {CX : CXT} {C f : Addr} {fd : FuncData} {ps : List Str} {n : Nat} {sp : Sp} (F : FnOk X.prog X.w X.K X.mg X.base CX n f fd ps sp) (h1 : PySem.W.findIn X.K (.ref C) "__eq__" = some (some (.ref f))) (h2 : PySem.W.isFn X.K (.ref f) = true)
    (nI : PySem.W.subIn X.K (.type "int") (.ref C) = some false) (nT : PySem.W.subIn X.K (.type "tuple") (.ref C) = some false) (hb : Binds X.K fd ps []) (hx : Passes CX X L2.E0) (hr : Room n X.A) : OpR X (compareOp .Eq) (rOwnV X.K C sp) := by
  rintro pins s σ H x y v u Q I rv ru ⟨a, dx, fs, rfl, atA, kinds, ask⟩
  cases (rv : v = Value.ref a)
  obtain ⟨_, oa, _⟩ := ins_get I.hok atA
  obtain ⟨_, la, _⟩ := oa.look
  obtain ⟨_, fr⟩ := I.fr
  have kind : ∃ tb, PySem.W.Looks (model X.prog X.w) s.heap (typeOf u) tb ∧ PySem.W.notFirst X.K C tb = true := by
    rcases kinds with ⟨b, dy, gs, rfl, atB⟩ | ⟨i, rfl⟩ | ⟨b, xs, rfl, told⟩
    · cases (ru : u = Value.ref b)
      obtain ⟨_, ob, _⟩ := ins_get I.hok atB
      obtain ⟨_, lb, _⟩ := ob.look
      exact ⟨_, lb.type, by simp [PySem.W.notFirst]⟩
    · obtain ⟨t, rfl⟩ := ru
      exact ⟨.type "int", PySem.W.Looks.of_pure rfl, by unfold PySem.W.notFirst; rw [nI]; rfl⟩
    · cases (ru : u = Value.ref b)
      obtain ⟨_, _, ⟨o, at_, ty, _⟩, _⟩ := I.tuple told
      refine ⟨.type "tuple", ?_, by unfold PySem.W.notFirst; rw [nT]; rfl⟩
      have seen : PySem.W.Looks (model X.prog X.w) s.heap (typeOf (.ref b)) o.cls := (PySem.W.Looks.ld at_).andThen .now
      rw [ty] at seen
      exact seen
  obtain ⟨tb, look, first⟩ := kind
  have two : Vals [V.ref a, y] [Value.ref a, u] := .cons rfl (.cons ru .nil)
  have bound : BindsTo s fd ⟨[.ref a, u], []⟩ (ps.zip [.ref a, u]) := by
    have := hb s [.ref a, u] I.kIn (by simpa using F.len _ _ _ _ ask)
    simpa using this
  refine show wpAny (model X.prog X.w) X.A (richCompare .Eq (.ref a) u) _ _ s from PySem.W.cmp_K (op := .Eq) (tb := tb) hr.units0 fr I.ok.mod.kin la look first h1 h2 (wpAny_call (codeAny_mono (F.run X.A X.stack s H _ _ _ _ _ hr I.env0 bound two ask) ?_))
  intro r s' hq
  match r, hq with
  | .error e, hq => exact hx pins σ H s e s' I hq
  | .ok (.ret w), hq =>
    obtain ⟨z, H', J, rz, t, rfl, q⟩ := I.after hq
    cases (show w = Value.bool t from rz)
    exact ⟨.bl t, H', J, rfl, q⟩
def eqSide (c : Nat) : D → Bool
  | .ins k _ => k == c
  | .int _ => true
  | .tup _ => true
  | _ => false
def eOwnV (c : Nat) (F : Fn) (ca cb : CE) : CE := fun δ ρ => match ca δ ρ with
  | .ok (.ins k fs) _ ρ1 => if k = c then (match cb δ ρ1 with
    | .ok d _ ρ2 => if eqSide c d then (match F [.ins k fs, d] ρ2 with
      | .ok (.bl t) _ ρ3 => .ok (.bl t) true ρ3
      | _ => .no) else .no
    | .er j ρ2 => .er j ρ2
    | _ => .no) else .no
  | .er j ρ1 => .er j ρ1
  | _ => .no
theorem t_ownV {c : Nat} {F : Fn} {Q : VK} (h : T Γ E (eOwnV c F ca cb) σ H Q) : tOp (rOwnV Γ.K (Γ.cls c) (SpOf Γ F)) (T Γ E ca) (T Γ E cb) σ H Q := by
  obtain ⟨B, δ, ρ, G, s, q⟩ := h
  refine ⟨B, δ, ρ, G, s, ?_⟩
  unfold eOwnV at q
  cases hA : ca δ ρ with
  | er k ρ1 => rw [hA] at q; exact q
  | no => rw [hA] at q; exact q.elim
  | ok d f1 ρ1 =>
    rw [hA] at q
    intro x H1 x1 r1 l1
    have s1 := s.nx x1 r1
    split at q
    · rename_i k fs f2 ρ2 e2
      cases e2
      split at q
      · rename_i hk
        subst hk
        refine ⟨B, δ, ρ1, G, s1, ?_⟩
        cases hB : cb δ ρ1 with
        | er j ρ2 => rw [hB] at q; exact fun H' y r => q H' (x1.trans y) r
        | no => rw [hB] at q; exact q.elim
        | ok d2 f3 ρ3 =>
          rw [hB] at q
          intro y H2 x2 r2 l2
          dsimp only at q
          split at q
          · rename_i side
            have rx := l1.rp.mono x2
            have ry := l2.rp
            cases hF : F [.ins k fs, d2] ρ3 with
            | no => rw [hF] at q; exact q.elim
            | er j ρ5 => rw [hF] at q; exact q.elim
            | ok w f5 ρ5 =>
              rw [hF] at q
              split at q
              · rename_i t f6 ρ6 e6
                cases e6
                have rx' := rx
                cases rx with
                | @ins pa da _ va _ ha na ra =>
                  refine ⟨pa, da, va, rfl, ha, ?_, _, ρ3, .cons rx' (.cons ry .nil), r2, ?_⟩
                  · cases ry with
                    | @ins pb db k2 vb _ hb nb rb =>
                      have : k2 = k := by simpa [eqSide] using side
                      subst this
                      exact .inl ⟨pb, db, vb, rfl, hb⟩
                    | int i => exact .inr (.inl ⟨i, rfl⟩)
                    | tup ht _ => exact .inr (.inr ⟨_, _, rfl, SqT.of ht⟩)
                    | _ => simp [eqSide] at side
                  · rw [hF]
                    intro v H3 x3 r3 l3
                    cases l3.rp
                    exact ⟨t, rfl, q (.bl t) H3 ((x1.trans x2).trans x3) r3 (Vl.of_imm r3 (.bl _) rfl)⟩
              · exact q.elim
          · exact q.elim
      · exact q.elim
    · rename_i e; cases e
    · exact q.elim
theorem c_tOwnV {CX : CXT} {c n : Nat} {f : Addr} {fd : FuncData} {ps : List Str} {F : Fn} (hK : X.K = Γ.K) (h1 : PySem.W.findIn Γ.K (.ref (Γ.cls c)) "__eq__" = some (some (.ref f))) (h2 : PySem.W.isFn Γ.K (.ref f) = true) (nI : PySem.W.subIn Γ.K (.type "int") (.ref (Γ.cls c)) = some false) (nT : PySem.W.subIn Γ.K (.type "tuple") (.ref (Γ.cls c)) = some false)
    (hF : FnOk X.prog X.w X.K X.mg X.base CX n f fd ps (SpOf Γ F)) (hr : Room n X.A) (hb : Binds X.K fd ps []) (hx : Passes CX X L2.E0) (ha : PE X a (T Γ E ca)) (hb' : PE X b (T Γ E cb)) (hm : behindInMarks .Eq b = false := by first | exact nomark _ | rfl) : PT X (.Compare a [.Eq] [b] pos) (TTs Γ E (bB (eOwnV c F ca cb))) :=
  (pt_cmpR (op_ownV hF (by rw [hK]; exact h1) (by rw [hK]; exact h2) (by rw [hK]; exact nI) (by rw [hK]; exact nT) hb hx hr) ha hb' hm).imp fun _ _ _ h => t_bB (fun _ _ _ h => by rw [hK]; exact t_ownV h) h
theorem c_ownV {CX : CXT} {c n : Nat} {f : Addr} {fd : FuncData} {ps : List Str} {F : Fn} (hK : X.K = Γ.K) (h1 : PySem.W.findIn Γ.K (.ref (Γ.cls c)) "__eq__" = some (some (.ref f))) (h2 : PySem.W.isFn Γ.K (.ref f) = true) (nI : PySem.W.subIn Γ.K (.type "int") (.ref (Γ.cls c)) = some false) (nT : PySem.W.subIn Γ.K (.type "tuple") (.ref (Γ.cls c)) = some false)
    (hF : FnOk X.prog X.w X.K X.mg X.base CX n f fd ps (SpOf Γ F)) (hr : Room n X.A) (hb : Binds X.K fd ps []) (hx : Passes CX X L2.E0) (ha : PE X a (T Γ E ca)) (hb' : PE X b (T Γ E cb)) (hm : behindInMarks .Eq b = false := by first | exact nomark _ | rfl) : PE X (.Compare a [.Eq] [b] pos) (T Γ E (eOwnV c F ca cb)) :=
  (pe_cmpR (op_ownV hF (by rw [hK]; exact h1) (by rw [hK]; exact h2) (by rw [hK]; exact nI) (by rw [hK]; exact nT) hb hx hr) ha hb' hm).imp fun _ _ _ h => by rw [hK]; exact t_ownV h
end
end WF

/-! ## WGY -/
/-! Own layer: x = x + e, x a list of one's own, e a new one: the sum stays one's own. -/
namespace WF
open PySem PySem.Spec PyProof.Rows L2
section
variable {Γ : Gam} {E : L2.St → XK} {X : Cx} {B B' : Hp} {G : Nat → Hp} {σ : L2.St} {H H1 H2 : Hp} {δ : List Slot} {ρ ρ1 ρ2 : Row} {pos : Pos} {e : Expr} {ca : CE}
def sAddO (i : Nat) (c : CE) : CS := fun δ ρ => match δ[i]? with
  | some (some (true, .lst ds)) => match c δ ρ with
    | .ok (.lst es) true ρ1 => if ds.length + es.length ≤ 100000 then .nx (δ.set i (some (true, .lst (ds ++ es)))) ρ1 else .no
    | .er k ρ1 => .er k ρ1
    | _ => .no
  | _ => .no
theorem cs_addO {i : Nat} {x : Str} {px p1 p2 : Pos} (hN : X.N.Nodup) (hi : X.N[i]? = some x) (hx : Loc X.env.scope x) (hv : Vis X.env.scope x) (he : PE X e (T Γ E ca)) (hK : X.K = Γ.K) (hd : (x == ("__debug__" : Str)) = false := by decide) (hcd : (x == ("__classdict__" : Str)) = false := by decide)
    (hf : X.fn x = true ∨ X.env.scope.names.lookup x = some .local := by first | exact .inl rfl | exact .inr rfl | assumption)
    (hs : swapsWithSole [.Name x px] (.BinOp (.Name x p1) .Add e p2) pos.line X.env = pure false := by rfl) (hw : swappedStores [.Name x px] (.BinOp (.Name x p1) .Add e p2) X.env = pure none := by rfl) :
    PS X (.Assign [.Name x px] (.BinOp (.Name x p1) .Add e p2) pos) (TSt Γ E (sAddO i ca)) :=
  (ps_asg (pe_op op_cat (pe_var (i := i) hi hv hd hcd) he) (pg_name hN hi hx hf) hs hw).imp fun D σ H ⟨B, δ, ρ, G, s, q⟩ => by
    unfold sAddO at q
    split at q
    · rename_i ds e1
      obtain ⟨l, vs, G0, eσ, nR, gl, nl, w0, q0, n0⟩ := s.root e1
      refine ⟨_, eσ, B, δ, ρ, G, s, ?_⟩
      cases hA : ca δ ρ with
      | no => rw [hA] at q; exact q.elim
      | er k ρ1 => rw [hA] at q; exact fun H' y r => q σ H' (s.base.mono y) r
      | ok d fr ρ1 =>
        rw [hA] at q
        split at q
        · rename_i es ρ3 e3
          cases e3
          split at q
          · rename_i few
            intro y H2 x2 r2 l2
            obtain ⟨Ge, we, _, ne, sep⟩ := l2.fresh rfl
            obtain ⟨m, ws, Ge0, rfl, mR, ml, eG, qs⟩ := sep.l es rfl
            have at1 : H2 l = some (.lst vs) := by
              rcases x2 l _ ((s.vw i).2 l _ gl) with z | ⟨z, _⟩ | ⟨_, _, z, _⟩
              · exact z
              · exact absurd z nR
              · cases z
            have at2 : H2 m = some (.lst ws) := we.2 m _ (by rw [eG]; exact upd_same)
            have sub : Ex Ge0 Ge := fun a o z => by
              rw [eG, upd_ne (by rintro rfl; rw [ml] at z; cases z)]
              exact z
            have wE : Vw Γ Ge0 H2 := by
              refine ⟨⟨?_, fun a ps z => we.1.2 a ps (sub a _ z)⟩, sub.trans we.2⟩
              cases z : Ge0 Γ.R with
              | none => rfl
              | some o => have := sub _ _ z; rw [we.1.1] at this; cases this
            have w1 := w0.mono x2
            refine ⟨l, m, vs, ws, rfl, rfl, at1, at2, by rw [q0.length, qs.length]; exact sz5 few, fun p hp => ?_⟩
            have wU : Vw Γ (un G0 Ge0) H2 := un_vw w1 wE
            have pU : un G0 Ge0 p = none := wU.2.none hp
            have pR : p ≠ Γ.R := by rintro rfl; rw [r2.1] at hp; cases hp
            have items : RpAll Γ (un G0 Ge0) (vs ++ ws) (ds ++ es) := (q0.mono un_l.xr).append (qs.mono (un_r w1.2 wE.2).xr)
            have more : Ex (un G0 Ge0) (upd (un G0 Ge0) p (.lst (vs ++ ws))) := Ex.new pU
            have wN : Vw Γ (upd (un G0 Ge0) p (.lst (vs ++ ws))) (upd H2 p (.lst (vs ++ ws))) := by
              refine ⟨⟨by rw [upd_ne pR.symm]; exact wU.1.1, fun a ps z => ?_⟩, fun a o z => ?_⟩
              · by_cases h : a = p
                · subst h; rw [upd_same] at z; cases z
                · rw [upd_ne h] at z; exact wU.1.2 a ps z
              · by_cases h : a = p
                · subst h; rw [upd_same] at z ⊢; exact z
                · rw [upd_ne h] at z ⊢; exact wU.2 a o z
            have grown : Ex H2 (upd H2 p (.lst (vs ++ ws))) := Ex.new hp
            have s3 := (s.nx x2 r2).nx grown.xr (r2.ex grown)
            refine q _ _ _ (s3.set wN (.lst pR upd_same (items.mono more.xr)) (fun a o z mu => ?_) (Sep.lst ⟨p, vs ++ ws, _, rfl, pR, pU, rfl, items⟩))
            by_cases h : a = p
            · subst h
              have s2 := s.nx x2 r2
              exact ⟨s2.back a hp, fun j _ => (s2.vw j).2.none hp⟩
            · rw [upd_ne h] at z
              rcases un_some z with z | z
              · exact n0 a o z mu
              · have free := ne a o (sub a o z) mu
                exact ⟨s.back a free, fun j _ => (s.vw j).2.none free⟩
          · exact q.elim
        · rename_i z; cases z
        · exact q.elim
    · exact q.elim
end
end WF

/-! ## G00 -/
namespace K00
open PySem PySem.Spec PyProof.Rows L2 WF
def top (i : Nat) : Stmt := PySem.Challenge.pw_wovenframes_k00_boards_refused.main.body.getD i (.Pass ⟨0, 0, 0, 0⟩)
/-! ### the text by places -/
abbrev s_is_number : Stmt := (top 17)
abbrev s_is_whole : Stmt := (top 18)
abbrev s_Board_len : Stmt := (inClass (top 27) 4)
abbrev s_are_numbers : Stmt := (top 19)
abbrev s_are_whole : Stmt := (top 20)
abbrev s_is_ascending : Stmt := (top 21)
abbrev s_first_of : Stmt := (top 22)
abbrev s_is_table : Stmt := (top 23)
abbrev s_is_cells : Stmt := (top 28)
abbrev s_Board_init : Stmt := (inClass (top 27) 0)
abbrev s_Board_cells : Stmt := (inClass (top 27) 1)
abbrev s_Board_rows : Stmt := (inClass (top 27) 2)
abbrev s_Board_columns : Stmt := (inClass (top 27) 3)
abbrev s_Board_eq : Stmt := (inClass (top 27) 5)
abbrev s_check_board : Stmt := (top 29)
abbrev s_is_thread : Stmt := (top 30)
abbrev s_check_thread : Stmt := (top 31)
abbrev s_check_cell : Stmt := (top 32)
abbrev s_steps : Stmt := (top 33)
abbrev s_flipped : Stmt := (top 34)
abbrev s_turned : Stmt := (top 35)
abbrev s_with_cell : Stmt := (top 36)
abbrev s_distances : Stmt := (top 38)
abbrev s_chain : Stmt := (top 40)
abbrev s_leads : Stmt := (top 39)
abbrev s_reached : Stmt := (top 41)
abbrev s_reaching : Stmt := (top 42)
abbrev s_is_lot : Stmt := (top 44)
abbrev s_check_lot : Stmt := (top 45)
abbrev s_together : Stmt := (top 46)
abbrev s_in_order : Stmt := (top 47)
abbrev s_is_closed : Stmt := (top 48)
abbrev s_closed_lots : Stmt := (top 49)
abbrev s_least_closed : Stmt := (top 50)
abbrev s_part_of : Stmt := (top 51)
abbrev s_holds : Stmt := (top 52)
abbrev s_lifts_off : Stmt := (top 55)
abbrev s_lifting : Stmt := (top 56)
abbrev s_is_motion : Stmt := (top 57)
abbrev s_as_load : Stmt := (top 58)
abbrev s_ring_row : Stmt := (top 59)
abbrev s_verdict : Stmt := (top 60)
abbrev s_law_taken : Stmt := (top 62)
abbrev s_law_cells : Stmt := (top 63)
abbrev s_law_many : Stmt := (top 64)
abbrev s_law_odd_cells : Stmt := (top 66)
abbrev s_law_error : Stmt := (top 65)
structure Ad where
  a_is_number : Addr
  fd_is_number : FuncData
  a_is_whole : Addr
  fd_is_whole : FuncData
  a_Board_len : Addr
  fd_Board_len : FuncData
  a_are_numbers : Addr
  fd_are_numbers : FuncData
  a_are_whole : Addr
  fd_are_whole : FuncData
  a_is_ascending : Addr
  fd_is_ascending : FuncData
  a_first_of : Addr
  fd_first_of : FuncData
  a_is_table : Addr
  fd_is_table : FuncData
  a_is_cells : Addr
  fd_is_cells : FuncData
  a_Board_init : Addr
  fd_Board_init : FuncData
  a_Board_cells : Addr
  fd_Board_cells : FuncData
  a_Board_rows : Addr
  fd_Board_rows : FuncData
  a_Board_columns : Addr
  fd_Board_columns : FuncData
  a_Board_eq : Addr
  fd_Board_eq : FuncData
  a_check_board : Addr
  fd_check_board : FuncData
  a_is_thread : Addr
  fd_is_thread : FuncData
  a_check_thread : Addr
  fd_check_thread : FuncData
  a_check_cell : Addr
  fd_check_cell : FuncData
  a_steps : Addr
  fd_steps : FuncData
  a_flipped : Addr
  fd_flipped : FuncData
  a_turned : Addr
  fd_turned : FuncData
  a_with_cell : Addr
  fd_with_cell : FuncData
  a_distances : Addr
  fd_distances : FuncData
  a_chain : Addr
  fd_chain : FuncData
  a_leads : Addr
  fd_leads : FuncData
  a_reached : Addr
  fd_reached : FuncData
  a_reaching : Addr
  fd_reaching : FuncData
  a_is_lot : Addr
  fd_is_lot : FuncData
  a_check_lot : Addr
  fd_check_lot : FuncData
  a_together : Addr
  fd_together : FuncData
  a_in_order : Addr
  fd_in_order : FuncData
  a_is_closed : Addr
  fd_is_closed : FuncData
  a_closed_lots : Addr
  fd_closed_lots : FuncData
  a_least_closed : Addr
  fd_least_closed : FuncData
  a_part_of : Addr
  fd_part_of : FuncData
  a_holds : Addr
  fd_holds : FuncData
  a_lifts_off : Addr
  fd_lifts_off : FuncData
  a_lifting : Addr
  fd_lifting : FuncData
  a_is_motion : Addr
  fd_is_motion : FuncData
  a_as_load : Addr
  fd_as_load : FuncData
  a_ring_row : Addr
  fd_ring_row : FuncData
  a_verdict : Addr
  fd_verdict : FuncData
  a_law_taken : Addr
  fd_law_taken : FuncData
  a_law_cells : Addr
  fd_law_cells : FuncData
  a_law_many : Addr
  fd_law_many : FuncData
  a_law_odd_cells : Addr
  fd_law_odd_cells : FuncData
  a_law_error : Addr
  fd_law_error : FuncData
  c_in_order : Addr
  P_in_order : Addr
  q_cells : Addr
  q_rows : Addr
  q_columns : Addr
  a_SIGNS : Addr
  a_OTHER_WAY : Addr
def k_SIGNS : List D := [.str ".", .str "<", .str ">", .str "x"]
def t_OTHER_WAY : List (Str × Str) := [(".", "."), ("<", ">"), (">", "<"), ("x", "x")]
def pairsE (k : Nat) : List (Nat × Bool) := [(2, 2 == k), (3, 3 == k), (4, 4 == k), (5, 5 == k), (6, 6 == k), (7, 7 == k), (8, 8 == k), (9, 9 == k), (10, 10 == k), (11, 11 == k), (12, 12 == k), (14, 14 == k), (13, 13 == k)]
def isE (k : Nat) : Nat → Option Bool := fun j => (pairsE k).lookup j
def wordsE : Nat → Option Str := fun k => match k with | 3 => some "cells" | 2 => some "board" | _ => none
def lamQ_in_order : Str := (envOfC "in_order" (defScope s_in_order) 0 0 .none).qual ++ "<lambda>"
/-- what the top has written -/
structure Tx (A : Ad) (Γ : Gam) (mg : Str → Option Value) (w : World) (base : Heap) : Prop where
  F_is_number : Fun Γ.K "is_number" "is_number" s_is_number A.a_is_number A.fd_is_number
  b_is_number : Binds Γ.K A.fd_is_number ["value"] []
  m_is_number : mg "is_number" = some (.ref A.a_is_number)
  k_is_number : PySem.W.keepIn Γ.K (.ref A.a_is_number) = true
  F_is_whole : Fun Γ.K "is_whole" "is_whole" s_is_whole A.a_is_whole A.fd_is_whole
  b_is_whole : Binds Γ.K A.fd_is_whole ["value", "least", "most"] []
  m_is_whole : mg "is_whole" = some (.ref A.a_is_whole)
  k_is_whole : PySem.W.keepIn Γ.K (.ref A.a_is_whole) = true
  F_Board_len : Fun Γ.K "__len__" "Board.__len__" s_Board_len A.a_Board_len A.fd_Board_len
  b_Board_len : Binds Γ.K A.fd_Board_len ["self"] []
  F_are_numbers : Fun Γ.K "are_numbers" "are_numbers" s_are_numbers A.a_are_numbers A.fd_are_numbers
  b_are_numbers : Binds Γ.K A.fd_are_numbers ["value", "many"] []
  m_are_numbers : mg "are_numbers" = some (.ref A.a_are_numbers)
  k_are_numbers : PySem.W.keepIn Γ.K (.ref A.a_are_numbers) = true
  F_are_whole : Fun Γ.K "are_whole" "are_whole" s_are_whole A.a_are_whole A.fd_are_whole
  b_are_whole : Binds Γ.K A.fd_are_whole ["value", "many", "least", "most"] []
  m_are_whole : mg "are_whole" = some (.ref A.a_are_whole)
  k_are_whole : PySem.W.keepIn Γ.K (.ref A.a_are_whole) = true
  F_is_ascending : Fun Γ.K "is_ascending" "is_ascending" s_is_ascending A.a_is_ascending A.fd_is_ascending
  b_is_ascending : Binds Γ.K A.fd_is_ascending ["values"] []
  m_is_ascending : mg "is_ascending" = some (.ref A.a_is_ascending)
  k_is_ascending : PySem.W.keepIn Γ.K (.ref A.a_is_ascending) = true
  F_first_of : Fun Γ.K "first_of" "first_of" s_first_of A.a_first_of A.fd_first_of
  b_first_of : Binds Γ.K A.fd_first_of ["values"] []
  m_first_of : mg "first_of" = some (.ref A.a_first_of)
  k_first_of : PySem.W.keepIn Γ.K (.ref A.a_first_of) = true
  F_is_table : Fun Γ.K "is_table" "is_table" s_is_table A.a_is_table A.fd_is_table
  b_is_table : Binds Γ.K A.fd_is_table ["value", "signs"] []
  m_is_table : mg "is_table" = some (.ref A.a_is_table)
  k_is_table : PySem.W.keepIn Γ.K (.ref A.a_is_table) = true
  F_is_cells : Fun Γ.K "is_cells" "is_cells" s_is_cells A.a_is_cells A.fd_is_cells
  b_is_cells : Binds Γ.K A.fd_is_cells ["value"] []
  m_is_cells : mg "is_cells" = some (.ref A.a_is_cells)
  k_is_cells : PySem.W.keepIn Γ.K (.ref A.a_is_cells) = true
  F_Board_init : Fun Γ.K "__init__" "Board.__init__" s_Board_init A.a_Board_init A.fd_Board_init
  b_Board_init : Binds Γ.K A.fd_Board_init ["self", "cells"] []
  F_Board_cells : Fun Γ.K "cells" "Board.cells" s_Board_cells A.a_Board_cells A.fd_Board_cells
  b_Board_cells : Binds Γ.K A.fd_Board_cells ["self"] []
  F_Board_rows : Fun Γ.K "rows" "Board.rows" s_Board_rows A.a_Board_rows A.fd_Board_rows
  b_Board_rows : Binds Γ.K A.fd_Board_rows ["self"] []
  F_Board_columns : Fun Γ.K "columns" "Board.columns" s_Board_columns A.a_Board_columns A.fd_Board_columns
  b_Board_columns : Binds Γ.K A.fd_Board_columns ["self"] []
  F_Board_eq : Fun Γ.K "__eq__" "Board.__eq__" s_Board_eq A.a_Board_eq A.fd_Board_eq
  b_Board_eq : Binds Γ.K A.fd_Board_eq ["self", "other"] []
  F_check_board : Fun Γ.K "check_board" "check_board" s_check_board A.a_check_board A.fd_check_board
  b_check_board : Binds Γ.K A.fd_check_board ["value"] []
  m_check_board : mg "check_board" = some (.ref A.a_check_board)
  k_check_board : PySem.W.keepIn Γ.K (.ref A.a_check_board) = true
  F_is_thread : Fun Γ.K "is_thread" "is_thread" s_is_thread A.a_is_thread A.fd_is_thread
  b_is_thread : Binds Γ.K A.fd_is_thread ["board", "value"] []
  m_is_thread : mg "is_thread" = some (.ref A.a_is_thread)
  k_is_thread : PySem.W.keepIn Γ.K (.ref A.a_is_thread) = true
  F_check_thread : Fun Γ.K "check_thread" "check_thread" s_check_thread A.a_check_thread A.fd_check_thread
  b_check_thread : Binds Γ.K A.fd_check_thread ["board", "value"] []
  m_check_thread : mg "check_thread" = some (.ref A.a_check_thread)
  k_check_thread : PySem.W.keepIn Γ.K (.ref A.a_check_thread) = true
  F_check_cell : Fun Γ.K "check_cell" "check_cell" s_check_cell A.a_check_cell A.fd_check_cell
  b_check_cell : Binds Γ.K A.fd_check_cell ["board", "row", "column"] []
  m_check_cell : mg "check_cell" = some (.ref A.a_check_cell)
  k_check_cell : PySem.W.keepIn Γ.K (.ref A.a_check_cell) = true
  F_steps : Fun Γ.K "steps" "steps" s_steps A.a_steps A.fd_steps
  b_steps : Binds Γ.K A.fd_steps ["board"] []
  m_steps : mg "steps" = some (.ref A.a_steps)
  k_steps : PySem.W.keepIn Γ.K (.ref A.a_steps) = true
  F_flipped : Fun Γ.K "flipped" "flipped" s_flipped A.a_flipped A.fd_flipped
  b_flipped : Binds Γ.K A.fd_flipped ["board"] []
  m_flipped : mg "flipped" = some (.ref A.a_flipped)
  k_flipped : PySem.W.keepIn Γ.K (.ref A.a_flipped) = true
  F_turned : Fun Γ.K "turned" "turned" s_turned A.a_turned A.fd_turned
  b_turned : Binds Γ.K A.fd_turned ["board"] []
  m_turned : mg "turned" = some (.ref A.a_turned)
  k_turned : PySem.W.keepIn Γ.K (.ref A.a_turned) = true
  F_with_cell : Fun Γ.K "with_cell" "with_cell" s_with_cell A.a_with_cell A.fd_with_cell
  b_with_cell : Binds Γ.K A.fd_with_cell ["board", "row", "column", "sign"] []
  m_with_cell : mg "with_cell" = some (.ref A.a_with_cell)
  k_with_cell : PySem.W.keepIn Γ.K (.ref A.a_with_cell) = true
  F_distances : Fun Γ.K "distances" "distances" s_distances A.a_distances A.fd_distances
  b_distances : Binds Γ.K A.fd_distances ["pairs", "start"] []
  m_distances : mg "distances" = some (.ref A.a_distances)
  k_distances : PySem.W.keepIn Γ.K (.ref A.a_distances) = true
  F_chain : Fun Γ.K "chain" "chain" s_chain A.a_chain A.fd_chain
  b_chain : Binds Γ.K A.fd_chain ["board", "one", "other"] []
  m_chain : mg "chain" = some (.ref A.a_chain)
  k_chain : PySem.W.keepIn Γ.K (.ref A.a_chain) = true
  F_leads : Fun Γ.K "leads" "leads" s_leads A.a_leads A.fd_leads
  b_leads : Binds Γ.K A.fd_leads ["board", "one", "other"] []
  m_leads : mg "leads" = some (.ref A.a_leads)
  k_leads : PySem.W.keepIn Γ.K (.ref A.a_leads) = true
  F_reached : Fun Γ.K "reached" "reached" s_reached A.a_reached A.fd_reached
  b_reached : Binds Γ.K A.fd_reached ["board", "one"] []
  m_reached : mg "reached" = some (.ref A.a_reached)
  k_reached : PySem.W.keepIn Γ.K (.ref A.a_reached) = true
  F_reaching : Fun Γ.K "reaching" "reaching" s_reaching A.a_reaching A.fd_reaching
  b_reaching : Binds Γ.K A.fd_reaching ["board", "other"] []
  m_reaching : mg "reaching" = some (.ref A.a_reaching)
  k_reaching : PySem.W.keepIn Γ.K (.ref A.a_reaching) = true
  F_is_lot : Fun Γ.K "is_lot" "is_lot" s_is_lot A.a_is_lot A.fd_is_lot
  b_is_lot : Binds Γ.K A.fd_is_lot ["board", "value"] []
  m_is_lot : mg "is_lot" = some (.ref A.a_is_lot)
  k_is_lot : PySem.W.keepIn Γ.K (.ref A.a_is_lot) = true
  F_check_lot : Fun Γ.K "check_lot" "check_lot" s_check_lot A.a_check_lot A.fd_check_lot
  b_check_lot : Binds Γ.K A.fd_check_lot ["board", "value"] []
  m_check_lot : mg "check_lot" = some (.ref A.a_check_lot)
  k_check_lot : PySem.W.keepIn Γ.K (.ref A.a_check_lot) = true
  F_together : Fun Γ.K "together" "together" s_together A.a_together A.fd_together
  b_together : Binds Γ.K A.fd_together ["lot", "other"] []
  m_together : mg "together" = some (.ref A.a_together)
  k_together : PySem.W.keepIn Γ.K (.ref A.a_together) = true
  F_in_order : Fun Γ.K "in_order" "in_order" s_in_order A.a_in_order A.fd_in_order
  b_in_order : Binds Γ.K A.fd_in_order ["lots"] []
  C_in_order : FunC Γ.K "in_order" "in_order" s_in_order A.a_in_order A.fd_in_order A.c_in_order
  tb_in_order : LamX.TabB base mg A.c_in_order A.P_in_order
  tm_in_order : (A.P_in_order, lamQ_in_order) ∈ Γ.T
  to_in_order : ∀ p ∈ Γ.T, p.1 = A.P_in_order → p.2 = lamQ_in_order
  m_in_order : mg "in_order" = some (.ref A.a_in_order)
  k_in_order : PySem.W.keepIn Γ.K (.ref A.a_in_order) = true
  F_is_closed : Fun Γ.K "is_closed" "is_closed" s_is_closed A.a_is_closed A.fd_is_closed
  b_is_closed : Binds Γ.K A.fd_is_closed ["board", "lot"] []
  m_is_closed : mg "is_closed" = some (.ref A.a_is_closed)
  k_is_closed : PySem.W.keepIn Γ.K (.ref A.a_is_closed) = true
  F_closed_lots : Fun Γ.K "closed_lots" "closed_lots" s_closed_lots A.a_closed_lots A.fd_closed_lots
  b_closed_lots : Binds Γ.K A.fd_closed_lots ["board"] []
  m_closed_lots : mg "closed_lots" = some (.ref A.a_closed_lots)
  k_closed_lots : PySem.W.keepIn Γ.K (.ref A.a_closed_lots) = true
  F_least_closed : Fun Γ.K "least_closed" "least_closed" s_least_closed A.a_least_closed A.fd_least_closed
  b_least_closed : Binds Γ.K A.fd_least_closed ["board", "lot"] []
  m_least_closed : mg "least_closed" = some (.ref A.a_least_closed)
  k_least_closed : PySem.W.keepIn Γ.K (.ref A.a_least_closed) = true
  F_part_of : Fun Γ.K "part_of" "part_of" s_part_of A.a_part_of A.fd_part_of
  b_part_of : Binds Γ.K A.fd_part_of ["board", "thread"] []
  m_part_of : mg "part_of" = some (.ref A.a_part_of)
  k_part_of : PySem.W.keepIn Γ.K (.ref A.a_part_of) = true
  F_holds : Fun Γ.K "holds" "holds" s_holds A.a_holds A.fd_holds
  b_holds : Binds Γ.K A.fd_holds ["board"] []
  m_holds : mg "holds" = some (.ref A.a_holds)
  k_holds : PySem.W.keepIn Γ.K (.ref A.a_holds) = true
  F_lifts_off : Fun Γ.K "lifts_off" "lifts_off" s_lifts_off A.a_lifts_off A.fd_lifts_off
  b_lifts_off : Binds Γ.K A.fd_lifts_off ["board", "lot"] []
  m_lifts_off : mg "lifts_off" = some (.ref A.a_lifts_off)
  k_lifts_off : PySem.W.keepIn Γ.K (.ref A.a_lifts_off) = true
  F_lifting : Fun Γ.K "lifting" "lifting" s_lifting A.a_lifting A.fd_lifting
  b_lifting : Binds Γ.K A.fd_lifting ["board"] []
  m_lifting : mg "lifting" = some (.ref A.a_lifting)
  k_lifting : PySem.W.keepIn Γ.K (.ref A.a_lifting) = true
  F_is_motion : Fun Γ.K "is_motion" "is_motion" s_is_motion A.a_is_motion A.fd_is_motion
  b_is_motion : Binds Γ.K A.fd_is_motion ["board", "value"] []
  m_is_motion : mg "is_motion" = some (.ref A.a_is_motion)
  k_is_motion : PySem.W.keepIn Γ.K (.ref A.a_is_motion) = true
  F_as_load : Fun Γ.K "as_load" "as_load" s_as_load A.a_as_load A.fd_as_load
  b_as_load : Binds Γ.K A.fd_as_load ["board", "lot"] []
  m_as_load : mg "as_load" = some (.ref A.a_as_load)
  k_as_load : PySem.W.keepIn Γ.K (.ref A.a_as_load) = true
  F_ring_row : Fun Γ.K "ring_row" "ring_row" s_ring_row A.a_ring_row A.fd_ring_row
  b_ring_row : Binds Γ.K A.fd_ring_row ["board"] []
  m_ring_row : mg "ring_row" = some (.ref A.a_ring_row)
  k_ring_row : PySem.W.keepIn Γ.K (.ref A.a_ring_row) = true
  F_verdict : Fun Γ.K "verdict" "verdict" s_verdict A.a_verdict A.fd_verdict
  b_verdict : Binds Γ.K A.fd_verdict ["board"] []
  m_verdict : mg "verdict" = some (.ref A.a_verdict)
  k_verdict : PySem.W.keepIn Γ.K (.ref A.a_verdict) = true
  F_law_taken : Fun Γ.K "_law_taken" "_law_taken" s_law_taken A.a_law_taken A.fd_law_taken
  b_law_taken : Binds Γ.K A.fd_law_taken ["_law_row", "_law_many_here"] []
  m_law_taken : mg "_law_taken" = some (.ref A.a_law_taken)
  k_law_taken : PySem.W.keepIn Γ.K (.ref A.a_law_taken) = true
  F_law_cells : Fun Γ.K "_law_cells" "_law_cells" s_law_cells A.a_law_cells A.fd_law_cells
  b_law_cells : Binds Γ.K A.fd_law_cells ["_law_row", "_law_most"] []
  m_law_cells : mg "_law_cells" = some (.ref A.a_law_cells)
  k_law_cells : PySem.W.keepIn Γ.K (.ref A.a_law_cells) = true
  F_law_many : Fun Γ.K "_law_many" "_law_many" s_law_many A.a_law_many A.fd_law_many
  b_law_many : Binds Γ.K A.fd_law_many ["_law_cells_here"] []
  m_law_many : mg "_law_many" = some (.ref A.a_law_many)
  k_law_many : PySem.W.keepIn Γ.K (.ref A.a_law_many) = true
  F_law_odd_cells : Fun Γ.K "_law_odd_cells" "_law_odd_cells" s_law_odd_cells A.a_law_odd_cells A.fd_law_odd_cells
  b_law_odd_cells : Binds Γ.K A.fd_law_odd_cells ["_law_row", "_law_cells_here"] []
  m_law_odd_cells : mg "_law_odd_cells" = some (.ref A.a_law_odd_cells)
  k_law_odd_cells : PySem.W.keepIn Γ.K (.ref A.a_law_odd_cells) = true
  F_law_error : Fun Γ.K "_law_error" "_law_error" s_law_error A.a_law_error A.fd_law_error
  b_law_error : Binds Γ.K A.fd_law_error ["_law_work"] []
  m_law_error : mg "_law_error" = some (.ref A.a_law_error)
  k_law_error : PySem.W.keepIn Γ.K (.ref A.a_law_error) = true
  g_LONGEST_SIDE : ∃ t, mg "LONGEST_SIDE" = some (.int 5 t)
  g_SIGNS : mg "SIGNS" = some (.ref A.a_SIGNS)
  h_SIGNS : ∀ H, Rp Γ H (.ref A.a_SIGNS) (.ktup k_SIGNS)
  g_OTHER_WAY : mg "OTHER_WAY" = some (.ref A.a_OTHER_WAY)
  h_OTHER_WAY : ∀ z y, t_OTHER_WAY.lookup z = some y → KDct Γ.K w A.a_OTHER_WAY z (.str y)
  g_GREATEST_ANGLE : ∃ t, mg "GREATEST_ANGLE" = some (.int 1000000 t)
  n_ValueError : mg "ValueError" = none
  n_all : mg "all" = none
  n_bool : mg "bool" = none
  n_enumerate : mg "enumerate" = none
  n_int : mg "int" = none
  n_isinstance : mg "isinstance" = none
  n_len : mg "len" = none
  n_list : mg "list" = none
  n_min : mg "min" = none
  n_range : mg "range" = none
  n_set : mg "set" = none
  n_sorted : mg "sorted" = none
  n_str : mg "str" = none
  n_tuple : mg "tuple" = none
  n_zip : mg "zip" = none
  m_Board : mg "Board" = some (.ref (Γ.cls 0))
  m_WovenError : mg "WovenError" = some (.ref (Γ.cls 1))
  m_BadBoard : mg "BadBoard" = some (.ref (Γ.cls 2))
  x_BadBoard : Xcp Γ 2
  m_BadCells : mg "BadCells" = some (.ref (Γ.cls 3))
  x_BadCells : Xcp Γ 3
  m_BadRow : mg "BadRow" = some (.ref (Γ.cls 4))
  x_BadRow : Xcp Γ 4
  m_BadColumn : mg "BadColumn" = some (.ref (Γ.cls 5))
  x_BadColumn : Xcp Γ 5
  m_BadSign : mg "BadSign" = some (.ref (Γ.cls 6))
  x_BadSign : Xcp Γ 6
  m_BadThread : mg "BadThread" = some (.ref (Γ.cls 7))
  x_BadThread : Xcp Γ 7
  m_BadLot : mg "BadLot" = some (.ref (Γ.cls 8))
  x_BadLot : Xcp Γ 8
  m_NotClosed : mg "NotClosed" = some (.ref (Γ.cls 9))
  m_NotLifting : mg "NotLifting" = some (.ref (Γ.cls 10))
  x_NotLifting : Xcp Γ 10
  m_BadLoad : mg "BadLoad" = some (.ref (Γ.cls 11))
  m_BadStrengths : mg "BadStrengths" = some (.ref (Γ.cls 12))
  m_BadPrices : mg "BadPrices" = some (.ref (Γ.cls 13))
  m_TooMany : mg "TooMany" = some (.ref (Γ.cls 14))
  y_BadCells : Ask Γ 3 (isE 3)
  z_BadCells : PySem.W.exmOne Γ.K (.ref (Γ.cls 3)) (.ref (Γ.cls 1)) = some true
  y_BadBoard : Ask Γ 2 (isE 2)
  z_BadBoard : PySem.W.exmOne Γ.K (.ref (Γ.cls 2)) (.ref (Γ.cls 1)) = some true
  cl_Board : Cls Γ.K (Γ.cls 0)
  na__cells : NoAttr Γ.K (Γ.cls 0) "_cells"
  na__threads : NoAttr Γ.K (Γ.cls 0) "_threads"
  fl_Board : Γ.fld 0 = (["_cells", "_threads"] : List Str)
  nf_Board : ∀ c', Γ.cls c' = Γ.cls 0 → Γ.fld c' = (["_cells", "_threads"] : List Str)
  mk_Board : Mk Γ.K (Γ.cls 0) A.a_Board_init
  isc_Board : IsC Γ 0
  len_s : PySem.W.findIn Γ.K (.ref (Γ.cls 0)) "__len__" = some (some (.ref A.a_Board_len))
  len_f : PySem.W.isFn Γ.K (.ref A.a_Board_len) = true
  ns_int : PySem.W.subIn Γ.K (.type "int") (.ref (Γ.cls 0)) = some false
  ns_tuple : PySem.W.subIn Γ.K (.type "tuple") (.ref (Γ.cls 0)) = some false
  eq_s : PySem.W.findIn Γ.K (.ref (Γ.cls 0)) "__eq__" = some (some (.ref A.a_Board_eq))
  eq_f : PySem.W.isFn Γ.K (.ref A.a_Board_eq) = true
  prop_cells : PropOf Γ.K (Γ.cls 0) "cells" A.q_cells A.a_Board_cells
  prop_rows : PropOf Γ.K (Γ.cls 0) "rows" A.q_rows A.a_Board_rows
  prop_columns : PropOf Γ.K (Γ.cls 0) "columns" A.q_columns A.a_Board_columns
section
variable {A : Ad} {Γ : Gam} {mg : Str → Option Value} {w : World} {P : Program} {base : Heap}
theorem Tx.nd_Board (T : Tx A Γ mg w base) : (Γ.fld 0).Nodup := by rw [T.fl_Board]; decide +kernel
theorem Tx.f__cells (T : Tx A Γ mg w base) : (Γ.fld 0)[0]? = some ("_cells" : Str) := by rw [T.fl_Board]; rfl
theorem Tx.f__threads (T : Tx A Γ mg w base) : (Γ.fld 0)[1]? = some ("_threads" : Str) := by rw [T.fl_Board]; rfl
/-! ### is_number -/
theorem sc_is_number : FnScope ["value"] ["value"] (defScope s_is_number) := ⟨rfl, rfl, rfl, by decide +kernel, rfl, by decide +kernel, by decide +kernel⟩
def p_is_number (Γ : Gam) (A : Ad) : CS := (sRet (eAnd (eCall fIsi (aCons (eVar 0) (aCons (eC (.ty "int")) aNil))) (eNot (eCall fIsi (aCons (eVar 0) (aCons (eC (.ty "bool")) aNil))))))
def f_is_number (Γ : Gam) (A : Ad) : Fn := fnD 1 1 (p_is_number Γ A)
theorem ok_is_number (T : Tx A Γ mg w base) : FnOk P w Γ.K mg base (L2.CX P w) 1 A.a_is_number A.fd_is_number ["value"] (SpOf Γ (f_is_number Γ A)) :=
  fn_ok2 (k := 0) (c := p_is_number Γ A) T.F_is_number sc_is_number rfl rfl (fun cdv Ar outer s H E1 hr =>
    (cs_one (cs_ret (c_and (g_callB (xIsi rfl) rfl T.n_isinstance rfl (ca_cons (c_var 0) (ca_cons (g_ty rfl T.n_int rfl) ca_nil))) (c_one (c_not (g_callB (xIsi rfl) rfl T.n_isinstance rfl (ca_cons (c_var 0) (ca_cons (g_ty rfl T.n_bool rfl) ca_nil)))))))))
/-! ### is_whole -/
theorem sc_is_whole : FnScope ["value", "least", "most"] ["value", "least", "most"] (defScope s_is_whole) := ⟨rfl, rfl, rfl, by decide +kernel, rfl, by decide +kernel, by decide +kernel⟩
def p_is_whole (Γ : Gam) (A : Ad) : CS := (sRet (eAnd (eCallF (f_is_number Γ A) (aCons (eVar 0) aNil)) (eChain fLe fLe (eVar 1) (eVar 0) (eVar 2))))
def f_is_whole (Γ : Gam) (A : Ad) : Fn := fnD 3 3 (p_is_whole Γ A)
theorem ok_is_whole (T : Tx A Γ mg w base) : FnOk P w Γ.K mg base (L2.CX P w) 2 A.a_is_whole A.fd_is_whole ["value", "least", "most"] (SpOf Γ (f_is_whole Γ A)) :=
  fn_ok2 (k := 1) (c := p_is_whole Γ A) T.F_is_whole sc_is_whole rfl rfl (fun cdv Ar outer s H E1 hr =>
    (cs_one (cs_ret (c_and (c_callF (ok_is_number T) (hr.mono (by decide)) rfl T.m_is_number T.k_is_number T.b_is_number (passD tk_of) (ca_cons (c_var 0) ca_nil)) (c_one (g_chain xLe xLe (c_var 1) (c_var 0) (c_var 2)))))))
/-! ### Board.__len__ -/
theorem sc_Board_len : FnScope ["self"] ["self"] (defScope s_Board_len) := ⟨rfl, rfl, rfl, by decide +kernel, rfl, by decide +kernel, by decide +kernel⟩
def p_Board_len (Γ : Gam) (A : Ad) : CS := (sRet (eCall (fLen Γ) (aCons (eFld 0 1 (eVar 0)) aNil)))
def f_Board_len (Γ : Gam) (A : Ad) : Fn := fnD 1 1 (p_Board_len Γ A)
theorem ok_Board_len (T : Tx A Γ mg w base) : FnOk P w Γ.K mg base (L2.CX P w) 1 A.a_Board_len A.fd_Board_len ["self"] (SpOf Γ (f_Board_len Γ A)) :=
  fn_ok2 (k := 0) (c := p_Board_len Γ A) T.F_Board_len sc_Board_len rfl rfl (fun cdv Ar outer s H E1 hr =>
    (cs_one (cs_ret (g_callB (oLen rfl) rfl T.n_len rfl (ca_cons (c_fld rfl T.cl_Board T.na__threads T.nd_Board T.f__threads (c_var 0)) ca_nil)))))
/-! ### are_numbers -/
theorem sc_are_numbers : FnScope ["value", "many", "number"] ["value", "many"] (defScope s_are_numbers) := ⟨rfl, rfl, rfl, by decide +kernel, rfl, by decide +kernel, by decide +kernel⟩
def p_are_numbers (Γ : Gam) (A : Ad) : CS := (sRet (eAnd (eCall fIsi (aCons (eVar 0) (aCons (eC (.ty "tuple")) aNil))) (eAnd (eBin fEq (eLenX Γ 0 (f_Board_len Γ A) (aCons (eVar 0) aNil)) (eVar 1)) (eCall fAll (aCons (eLc (iAny (eVar 0)) (gN 2) bYes (eCallF (f_is_number Γ A) (aCons (eVar 2) aNil)) [2]) aNil)))))
def f_are_numbers (Γ : Gam) (A : Ad) : Fn := fnD 3 2 (p_are_numbers Γ A)
theorem ok_are_numbers (T : Tx A Γ mg w base) : FnOk P w Γ.K mg base (L2.CX P w) 3 A.a_are_numbers A.fd_are_numbers ["value", "many"] (SpOf Γ (f_are_numbers Γ A)) :=
  fn_ok2 (k := 2) (c := p_are_numbers Γ A) T.F_are_numbers sc_are_numbers rfl rfl (fun cdv Ar outer s H E1 hr =>
    (cs_one (cs_ret (c_and (g_callB (xIsi rfl) rfl T.n_isinstance rfl (ca_cons (c_var 0) (ca_cons (g_ty rfl T.n_tuple rfl) ca_nil))) (c_and (g_cmp (xEq rfl hr) (c_len rfl T.len_s T.len_f (ok_Board_len T) (hr.mono (by decide)) T.b_Board_len rfl T.n_len (ca_cons (c_var 0) ca_nil)) (c_var 1)) (c_one (g_callB (oAll rfl rfl) rfl T.n_all rfl (ca_cons (c_lc (own := [("number", 2)]) rfl sc_are_numbers.nd (ci_any rfl (c_var 0)) (blkOk_by (N := ["value", "many", "number"]) (sc := defScope s_are_numbers) (by decide +kernel)) (fun _ _ _ _ _ => (cg_name (i := 2) sc_are_numbers.nd rfl (by first | exact Or.inl rfl | exact Or.inr rfl))) (fun _ _ _ _ _ => (c_callF (ok_is_number T) (hr.mono (by decide)) rfl T.m_is_number T.k_is_number T.b_is_number passB (ca_cons (c_var 2) ca_nil)))) ca_nil))))))))
/-! ### are_whole -/
theorem sc_are_whole : FnScope ["value", "many", "least", "most", "number"] ["value", "many", "least", "most"] (defScope s_are_whole) := ⟨rfl, rfl, rfl, by decide +kernel, rfl, by decide +kernel, by decide +kernel⟩
def p_are_whole (Γ : Gam) (A : Ad) : CS := (sRet (eAnd (eCallF (f_are_numbers Γ A) (aCons (eVar 0) (aCons (eVar 1) aNil))) (eCall fAll (aCons (eLc (iAny (eVar 0)) (gN 4) bYes (eChain fLe fLe (eVar 2) (eVar 4) (eVar 3)) [4]) aNil))))
def f_are_whole (Γ : Gam) (A : Ad) : Fn := fnD 5 4 (p_are_whole Γ A)
theorem ok_are_whole (T : Tx A Γ mg w base) : FnOk P w Γ.K mg base (L2.CX P w) 4 A.a_are_whole A.fd_are_whole ["value", "many", "least", "most"] (SpOf Γ (f_are_whole Γ A)) :=
  fn_ok2 (k := 3) (c := p_are_whole Γ A) T.F_are_whole sc_are_whole rfl rfl (fun cdv Ar outer s H E1 hr =>
    (cs_one (cs_ret (c_and (c_callF (ok_are_numbers T) (hr.mono (by decide)) rfl T.m_are_numbers T.k_are_numbers T.b_are_numbers (passD tk_of) (ca_cons (c_var 0) (ca_cons (c_var 1) ca_nil))) (c_one (g_callB (oAll rfl rfl) rfl T.n_all rfl (ca_cons (c_lc (own := [("number", 4)]) rfl sc_are_whole.nd (ci_any rfl (c_var 0)) (blkOk_by (N := ["value", "many", "least", "most", "number"]) (sc := defScope s_are_whole) (by decide +kernel)) (fun _ _ _ _ _ => (cg_name (i := 4) sc_are_whole.nd rfl (by first | exact Or.inl rfl | exact Or.inr rfl))) (fun _ _ _ _ _ => (g_chain xLe xLe (c_var 2) (c_var 4) (c_var 3)))) ca_nil)))))))
/-! ### is_ascending -/
theorem sc_is_ascending : FnScope ["values", "one", "other"] ["values"] (defScope s_is_ascending) := ⟨rfl, rfl, rfl, by decide +kernel, rfl, by decide +kernel, by decide +kernel⟩
def p_is_ascending (Γ : Gam) (A : Ad) : CS := (sRet (eCall fAll (aCons (eLc (iZip (aCons (eVar 0) (aCons (eSl fSl (eVar 0) (oSome (eC (.int 1))) oNone) aNil))) (gTu ((gN 1) :: ((gN 2) :: []))) bYes (eBin fLt (eVar 1) (eVar 2)) [1, 2]) aNil)))
def f_is_ascending (Γ : Gam) (A : Ad) : Fn := fnD 3 1 (p_is_ascending Γ A)
theorem ok_is_ascending (T : Tx A Γ mg w base) : FnOk P w Γ.K mg base (L2.CX P w) 1 A.a_is_ascending A.fd_is_ascending ["values"] (SpOf Γ (f_is_ascending Γ A)) :=
  fn_ok2 (k := 0) (c := p_is_ascending Γ A) T.F_is_ascending sc_is_ascending rfl rfl (fun cdv Ar outer s H E1 hr =>
    (cs_one (cs_ret (g_callB (oAll rfl rfl) rfl T.n_all rfl (ca_cons (c_lc (own := [("one", 1), ("other", 2)]) rfl sc_is_ascending.nd (ci_zip rfl rfl T.n_zip (ca_cons (c_var 0) (ca_cons (g_sl rfl (c_var 0) (co_some (E := E0') c_int) co_none) ca_nil))) (blkOk_by (N := ["values", "one", "other"]) (sc := defScope s_is_ascending) (by decide +kernel)) (fun _ _ _ _ _ => (cg_tup rfl rfl (cgs_cons (cg_name (i := 1) sc_is_ascending.nd rfl (by first | exact Or.inl rfl | exact Or.inr rfl)) (cgs_cons (cg_name (i := 2) sc_is_ascending.nd rfl (by first | exact Or.inl rfl | exact Or.inr rfl)) cgs_nil)))) (fun _ _ _ _ _ => (g_cmp xLt (c_var 1) (c_var 2)))) ca_nil)))))
/-! ### first_of -/
theorem sc_first_of : FnScope ["values"] ["values"] (defScope s_first_of) := ⟨rfl, rfl, rfl, by decide +kernel, rfl, by decide +kernel, by decide +kernel⟩
def p_first_of (Γ : Gam) (A : Ad) : CS := (sRet (eIf (bE (eVar 0)) (eBin (orF fIx (fIxR Γ)) (eVar 0) (eC (.int 0))) (eC .non)))
def f_first_of (Γ : Gam) (A : Ad) : Fn := fnD 1 1 (p_first_of Γ A)
theorem ok_first_of (T : Tx A Γ mg w base) : FnOk P w Γ.K mg base (L2.CX P w) 1 A.a_first_of A.fd_first_of ["values"] (SpOf Γ (f_first_of Γ A)) :=
  fn_ok2 (k := 0) (c := p_first_of Γ A) T.F_first_of sc_first_of rfl rfl (fun cdv Ar outer s H E1 hr =>
    (cs_one (cs_ret (c_ifExp (c_test rfl (c_var 0)) (g_ix rfl (c_var 0) c_int) c_non))))
/-! ### is_table -/
theorem sc_is_table : FnScope ["value", "signs", "line", "sign"] ["value", "signs"] (defScope s_is_table) := ⟨rfl, rfl, rfl, by decide +kernel, rfl, by decide +kernel, by decide +kernel⟩
def p_is_table (Γ : Gam) (A : Ad) : CS := (sSeq (sIf (bOr (bNot (bE (eCall fIsi (aCons (eVar 0) (aCons (eC (.ty "tuple")) aNil))))) (bNot (bB (eChain fLe fLe (eC (.int 1)) (eLenX Γ 0 (f_Board_len Γ A) (aCons (eVar 0) aNil)) (eC (.int 5)))))) (sRet (eC (.bl false))) sNil) (sSeq (sIf (bNot (bE (eCall fAll (aCons (eLc (iAny (eVar 0)) (gN 2) bYes (eCall fIsi (aCons (eVar 2) (aCons (eC (.ty "str")) aNil))) [2]) aNil)))) (sRet (eC (.bl false))) sNil) (sSeq (sIf (bNot (bB (eChain fLe fLe (eC (.int 1)) (eLenX Γ 0 (f_Board_len Γ A) (aCons (eBin (orF fIx (fIxR Γ)) (eVar 0) (eC (.int 0))) aNil)) (eC (.int 5))))) (sRet (eC (.bl false))) sNil) (sRet (eCall fAll (aCons (eLc (iAny (eVar 0)) (gN 2) bYes (eAnd (eBin fEq (eLenX Γ 0 (f_Board_len Γ A) (aCons (eVar 2) aNil)) (eLenX Γ 0 (f_Board_len Γ A) (aCons (eBin (orF fIx (fIxR Γ)) (eVar 0) (eC (.int 0))) aNil))) (eCall fAll (aCons (eLc (iAny (eVar 2)) (gN 3) bYes (eBin fIn (eVar 3) (eVar 1)) [3]) aNil))) [2]) aNil))))))
def f_is_table (Γ : Gam) (A : Ad) : Fn := fnD 4 2 (p_is_table Γ A)
theorem ok_is_table (T : Tx A Γ mg w base) : FnOk P w Γ.K mg base (L2.CX P w) 3 A.a_is_table A.fd_is_table ["value", "signs"] (SpOf Γ (f_is_table Γ A)) :=
  fn_ok2 (k := 2) (c := p_is_table Γ A) T.F_is_table sc_is_table rfl rfl (fun cdv Ar outer s H E1 hr =>
    (cs_cons (cs_if (PW.pt (cw_or (cw_not (c_test rfl (g_callB (xIsi rfl) rfl T.n_isinstance rfl (ca_cons (c_var 0) (ca_cons (g_ty rfl T.n_tuple rfl) ca_nil))))) (cw_or1 (cw_not (g_tchain xLe xLe c_int (c_len rfl T.len_s T.len_f (ok_Board_len T) (hr.mono (by decide)) T.b_Board_len rfl T.n_len (ca_cons (c_var 0) ca_nil)) (g_globI rfl T.g_LONGEST_SIDE)))))) (cs_one (cs_ret c_bl)) cs_nil) (cs_cons (cs_if (cw_not (c_test rfl (g_callB (oAll rfl rfl) rfl T.n_all rfl (ca_cons (c_lc (own := [("line", 2)]) rfl sc_is_table.nd (ci_any rfl (c_var 0)) (blkOk_by (N := ["value", "signs", "line", "sign"]) (sc := defScope s_is_table) (by decide +kernel)) (fun _ _ _ _ _ => (cg_name (i := 2) sc_is_table.nd rfl (by first | exact Or.inl rfl | exact Or.inr rfl))) (fun _ _ _ _ _ => (g_callB (xIsi rfl) rfl T.n_isinstance rfl (ca_cons (c_var 2) (ca_cons (g_ty rfl T.n_str rfl) ca_nil))))) ca_nil)))) (cs_one (cs_ret c_bl)) cs_nil) (cs_cons (cs_if (cw_not (g_tchain xLe xLe c_int (c_len rfl T.len_s T.len_f (ok_Board_len T) (hr.mono (by decide)) T.b_Board_len rfl T.n_len (ca_cons (g_ix rfl (c_var 0) c_int) ca_nil)) (g_globI rfl T.g_LONGEST_SIDE))) (cs_one (cs_ret c_bl)) cs_nil) (cs_one (cs_ret (g_callB (oAll rfl rfl) rfl T.n_all rfl (ca_cons (c_lc (own := [("line", 2)]) rfl sc_is_table.nd (ci_any rfl (c_var 0)) (blkOk_by (N := ["value", "signs", "line", "sign"]) (sc := defScope s_is_table) (by decide +kernel)) (fun _ _ _ _ _ => (cg_name (i := 2) sc_is_table.nd rfl (by first | exact Or.inl rfl | exact Or.inr rfl))) (fun _ _ _ _ _ => (c_and (g_cmp (xEq rfl hr) (c_len rfl T.len_s T.len_f (ok_Board_len T) (hr.mono (by decide)) T.b_Board_len rfl T.n_len (ca_cons (c_var 2) ca_nil)) (c_len rfl T.len_s T.len_f (ok_Board_len T) (hr.mono (by decide)) T.b_Board_len rfl T.n_len (ca_cons (g_ix rfl (c_var 0) c_int) ca_nil))) (c_one (g_callB (oAll rfl rfl) rfl T.n_all rfl (ca_cons (c_lc (own := [("sign", 3)]) rfl sc_is_table.nd (ci_any rfl (c_var 2)) (blkOk_by rfl) (fun _ _ _ _ _ => (cg_name (i := 3) sc_is_table.nd rfl (by first | exact Or.inl rfl | exact Or.inr rfl))) (fun _ _ _ _ _ => (g_cmp (xIn rfl hr) (c_var 3) (c_var 1)))) ca_nil)))))) ca_nil))))))))
/-! ### is_cells -/
theorem sc_is_cells : FnScope ["value"] ["value"] (defScope s_is_cells) := ⟨rfl, rfl, rfl, by decide +kernel, rfl, by decide +kernel, by decide +kernel⟩
def p_is_cells (Γ : Gam) (A : Ad) : CS := (sRet (eCallF (f_is_table Γ A) (aCons (eVar 0) (aCons (eC (.ktup k_SIGNS)) aNil))))
def f_is_cells (Γ : Gam) (A : Ad) : Fn := fnD 1 1 (p_is_cells Γ A)
theorem ok_is_cells (T : Tx A Γ mg w base) : FnOk P w Γ.K mg base (L2.CX P w) 4 A.a_is_cells A.fd_is_cells ["value"] (SpOf Γ (f_is_cells Γ A)) :=
  fn_ok2 (k := 3) (c := p_is_cells Γ A) T.F_is_cells sc_is_cells rfl rfl (fun cdv Ar outer s H E1 hr =>
    (cs_one (cs_ret (c_callF (ok_is_table T) (hr.mono (by decide)) rfl T.m_is_table T.k_is_table T.b_is_table (passD tk_of) (ca_cons (c_var 0) (ca_cons (g_globT rfl T.g_SIGNS T.h_SIGNS rfl) ca_nil))))))
/-! ### Board.__init__ -/
theorem sc_Board_init : FnScope ["self", "cells"] ["self", "cells"] (defScope s_Board_init) := ⟨rfl, rfl, rfl, by decide +kernel, rfl, by decide +kernel, by decide +kernel⟩
def steps_Board (Γ : Gam) (A : Ad) : List Stp := [(.grd (bNot (bE (eCallF (f_is_cells Γ A) (aCons (eVar 1) aNil)))) 3), (.fld "_cells" (eVar 1)), (.fld "_threads" (eRg true (eBin fAdd (eCall (fLen Γ) (aCons (eVar 1) aNil)) (eCall (fLen Γ) (aCons (eBin (orF fIx (fIxR Γ)) (eVar 1) (eC (.int 0))) aNil)))))]
def i_Board (Γ : Gam) (A : Ad) : List D → WF.Row → RI := fun ds ρ => if ds.length = 1 then iniRun (none :: startD 1 ds) (steps_Board Γ A) [] ρ else .no
theorem ok_Board_init (T : Tx A Γ mg w base) : FnOk P w Γ.K mg base (L2.CX P w) 5 A.a_Board_init A.fd_Board_init ["self", "cells"] (SpIni Γ 0 (i_Board Γ A)) :=
  ini_ok2 (k := 4) (steps := steps_Board Γ A) T.F_Board_init sc_Board_init rfl rfl (by decide) (by show (["_cells", "_threads"] : List Str).Nodup; decide +kernel) (fun c' h => (T.nf_Board c' h).symm) (by show 2 < 1000; decide) (fun cdv Ar outer s H E1 hr =>
    (ci_grd (cw_not (c_test rfl (c_callF (ok_is_cells T) (hr.mono (by decide)) rfl T.m_is_cells T.k_is_cells T.b_is_cells (passD tk_of) (ca_cons (c_var 1) ca_nil)))) (cs_one (cs_raise rfl rfl tk_of T.x_BadCells T.m_BadCells rfl)) (ci_fld rfl T.cl_Board T.na__cells rfl (by first | exact Or.inl rfl | exact Or.inr (Or.inl rfl) | exact Or.inr (Or.inr rfl)) (c_var 1) (ci_fld rfl T.cl_Board T.na__threads rfl (by first | exact Or.inl rfl | exact Or.inr (Or.inl rfl) | exact Or.inr (Or.inr rfl)) (c_tupRg rfl rfl T.n_tuple rfl T.n_range (g_bin (xAdd rfl) (g_callB (oLen rfl) rfl T.n_len rfl (ca_cons (c_var 1) ca_nil)) (g_callB (oLen rfl) rfl T.n_len rfl (ca_cons (g_ix rfl (c_var 1) c_int) ca_nil)))) ci_nil))))
/-! ### Board.cells -/
theorem sc_Board_cells : FnScope ["self"] ["self"] (defScope s_Board_cells) := ⟨rfl, rfl, rfl, by decide +kernel, rfl, by decide +kernel, by decide +kernel⟩
def p_Board_cells (Γ : Gam) (A : Ad) : CS := (sRet (eFld 0 0 (eVar 0)))
def f_Board_cells (Γ : Gam) (A : Ad) : Fn := fnD 1 1 (p_Board_cells Γ A)
theorem ok_Board_cells (T : Tx A Γ mg w base) : FnOk P w Γ.K mg base (L2.CX P w) 1 A.a_Board_cells A.fd_Board_cells ["self"] (SpOf Γ (f_Board_cells Γ A)) :=
  fn_ok2 (k := 0) (c := p_Board_cells Γ A) T.F_Board_cells sc_Board_cells rfl rfl (fun cdv Ar outer s H E1 hr =>
    (cs_one (cs_ret (c_fld rfl T.cl_Board T.na__cells T.nd_Board T.f__cells (c_var 0)))))
/-! ### Board.rows -/
theorem sc_Board_rows : FnScope ["self"] ["self"] (defScope s_Board_rows) := ⟨rfl, rfl, rfl, by decide +kernel, rfl, by decide +kernel, by decide +kernel⟩
def p_Board_rows (Γ : Gam) (A : Ad) : CS := (sRet (eCall (fLen Γ) (aCons (eFld 0 0 (eVar 0)) aNil)))
def f_Board_rows (Γ : Gam) (A : Ad) : Fn := fnD 1 1 (p_Board_rows Γ A)
theorem ok_Board_rows (T : Tx A Γ mg w base) : FnOk P w Γ.K mg base (L2.CX P w) 1 A.a_Board_rows A.fd_Board_rows ["self"] (SpOf Γ (f_Board_rows Γ A)) :=
  fn_ok2 (k := 0) (c := p_Board_rows Γ A) T.F_Board_rows sc_Board_rows rfl rfl (fun cdv Ar outer s H E1 hr =>
    (cs_one (cs_ret (g_callB (oLen rfl) rfl T.n_len rfl (ca_cons (c_fld rfl T.cl_Board T.na__cells T.nd_Board T.f__cells (c_var 0)) ca_nil)))))
/-! ### Board.columns -/
theorem sc_Board_columns : FnScope ["self"] ["self"] (defScope s_Board_columns) := ⟨rfl, rfl, rfl, by decide +kernel, rfl, by decide +kernel, by decide +kernel⟩
def p_Board_columns (Γ : Gam) (A : Ad) : CS := (sRet (eCall (fLen Γ) (aCons (eBin (orF fIx (fIxR Γ)) (eFld 0 0 (eVar 0)) (eC (.int 0))) aNil)))
def f_Board_columns (Γ : Gam) (A : Ad) : Fn := fnD 1 1 (p_Board_columns Γ A)
theorem ok_Board_columns (T : Tx A Γ mg w base) : FnOk P w Γ.K mg base (L2.CX P w) 1 A.a_Board_columns A.fd_Board_columns ["self"] (SpOf Γ (f_Board_columns Γ A)) :=
  fn_ok2 (k := 0) (c := p_Board_columns Γ A) T.F_Board_columns sc_Board_columns rfl rfl (fun cdv Ar outer s H E1 hr =>
    (cs_one (cs_ret (g_callB (oLen rfl) rfl T.n_len rfl (ca_cons (g_ix rfl (c_fld rfl T.cl_Board T.na__cells T.nd_Board T.f__cells (c_var 0)) c_int) ca_nil)))))
/-! ### Board.__eq__ -/
theorem sc_Board_eq : FnScope ["self", "other"] ["self", "other"] (defScope s_Board_eq) := ⟨rfl, rfl, rfl, by decide +kernel, rfl, by decide +kernel, by decide +kernel⟩
def p_Board_eq (Γ : Gam) (A : Ad) : CS := (sRet (eAnd (eCall (fIsC 0) (aCons (eVar 1) (aCons (eC (.cls 0)) aNil))) (eBin fEq (eFld 0 0 (eVar 0)) (eFld 0 0 (eVar 1)))))
def f_Board_eq (Γ : Gam) (A : Ad) : Fn := fnD 2 2 (p_Board_eq Γ A)
theorem ok_Board_eq (T : Tx A Γ mg w base) : FnOk P w Γ.K mg base (L2.CX P w) 1 A.a_Board_eq A.fd_Board_eq ["self", "other"] (SpOf Γ (f_Board_eq Γ A)) :=
  fn_ok2 (k := 0) (c := p_Board_eq Γ A) T.F_Board_eq sc_Board_eq rfl rfl (fun cdv Ar outer s H E1 hr =>
    (cs_one (cs_ret (c_and (g_callB (oIsC rfl T.isc_Board) rfl T.n_isinstance rfl (ca_cons (c_var 1) (ca_cons (g_globC rfl T.m_Board) ca_nil))) (c_one (g_cmp (xEq rfl hr) (c_fld rfl T.cl_Board T.na__cells T.nd_Board T.f__cells (c_var 0)) (c_fld rfl T.cl_Board T.na__cells T.nd_Board T.f__cells (c_var 1))))))))
/-! ### check_board -/
theorem sc_check_board : FnScope ["value"] ["value"] (defScope s_check_board) := ⟨rfl, rfl, rfl, by decide +kernel, rfl, by decide +kernel, by decide +kernel⟩
def p_check_board (Γ : Gam) (A : Ad) : CS := (sIf (bNot (bE (eCall (fIsC 0) (aCons (eVar 0) (aCons (eC (.cls 0)) aNil))))) (sErr 2) sNil)
def f_check_board (Γ : Gam) (A : Ad) : Fn := fnD 1 1 (p_check_board Γ A)
theorem ok_check_board (T : Tx A Γ mg w base) : FnOk P w Γ.K mg base (L2.CX P w) 1 A.a_check_board A.fd_check_board ["value"] (SpOf Γ (f_check_board Γ A)) :=
  fn_ok2 (k := 0) (c := p_check_board Γ A) T.F_check_board sc_check_board rfl rfl (fun cdv Ar outer s H E1 hr =>
    (cs_one (cs_if (cw_not (c_test rfl (g_callB (oIsC rfl T.isc_Board) rfl T.n_isinstance rfl (ca_cons (c_var 0) (ca_cons (g_globC rfl T.m_Board) ca_nil))))) (cs_one (cs_raise rfl rfl tk_of T.x_BadBoard T.m_BadBoard rfl)) cs_nil)))
/-! ### is_thread -/
theorem sc_is_thread : FnScope ["board", "value"] ["board", "value"] (defScope s_is_thread) := ⟨rfl, rfl, rfl, by decide +kernel, rfl, by decide +kernel, by decide +kernel⟩
def p_is_thread (Γ : Gam) (A : Ad) : CS := (sRet (eCallF (f_is_whole Γ A) (aCons (eVar 1) (aCons (eC (.int 0)) (aCons (eBin fSub (eLenX Γ 0 (f_Board_len Γ A) (aCons (eVar 0) aNil)) (eC (.int 1))) aNil)))))
def f_is_thread (Γ : Gam) (A : Ad) : Fn := fnD 2 2 (p_is_thread Γ A)
theorem ok_is_thread (T : Tx A Γ mg w base) : FnOk P w Γ.K mg base (L2.CX P w) 3 A.a_is_thread A.fd_is_thread ["board", "value"] (SpOf Γ (f_is_thread Γ A)) :=
  fn_ok2 (k := 2) (c := p_is_thread Γ A) T.F_is_thread sc_is_thread rfl rfl (fun cdv Ar outer s H E1 hr =>
    (cs_one (cs_ret (c_callF (ok_is_whole T) (hr.mono (by decide)) rfl T.m_is_whole T.k_is_whole T.b_is_whole (passD tk_of) (ca_cons (c_var 1) (ca_cons c_int (ca_cons (g_bin xSub (c_len rfl T.len_s T.len_f (ok_Board_len T) (hr.mono (by decide)) T.b_Board_len rfl T.n_len (ca_cons (c_var 0) ca_nil)) c_int) ca_nil)))))))
/-! ### check_thread -/
theorem sc_check_thread : FnScope ["board", "value"] ["board", "value"] (defScope s_check_thread) := ⟨rfl, rfl, rfl, by decide +kernel, rfl, by decide +kernel, by decide +kernel⟩
def p_check_thread (Γ : Gam) (A : Ad) : CS := (sIf (bNot (bE (eCallF (f_is_thread Γ A) (aCons (eVar 0) (aCons (eVar 1) aNil))))) (sErr 7) sNil)
def f_check_thread (Γ : Gam) (A : Ad) : Fn := fnD 2 2 (p_check_thread Γ A)
theorem ok_check_thread (T : Tx A Γ mg w base) : FnOk P w Γ.K mg base (L2.CX P w) 4 A.a_check_thread A.fd_check_thread ["board", "value"] (SpOf Γ (f_check_thread Γ A)) :=
  fn_ok2 (k := 3) (c := p_check_thread Γ A) T.F_check_thread sc_check_thread rfl rfl (fun cdv Ar outer s H E1 hr =>
    (cs_one (cs_if (cw_not (c_test rfl (c_callF (ok_is_thread T) (hr.mono (by decide)) rfl T.m_is_thread T.k_is_thread T.b_is_thread (passD tk_of) (ca_cons (c_var 0) (ca_cons (c_var 1) ca_nil))))) (cs_one (cs_raise rfl rfl tk_of T.x_BadThread T.m_BadThread rfl)) cs_nil)))
/-! ### check_cell -/
theorem sc_check_cell : FnScope ["board", "row", "column"] ["board", "row", "column"] (defScope s_check_cell) := ⟨rfl, rfl, rfl, by decide +kernel, rfl, by decide +kernel, by decide +kernel⟩
def p_check_cell (Γ : Gam) (A : Ad) : CS := (sSeq (sIf (bNot (bE (eCallF (f_is_whole Γ A) (aCons (eVar 1) (aCons (eC (.int 0)) (aCons (eBin fSub (eProp 0 (f_Board_rows Γ A) (eVar 0)) (eC (.int 1))) aNil)))))) (sErr 4) sNil) (sIf (bNot (bE (eCallF (f_is_whole Γ A) (aCons (eVar 2) (aCons (eC (.int 0)) (aCons (eBin fSub (eProp 0 (f_Board_columns Γ A) (eVar 0)) (eC (.int 1))) aNil)))))) (sErr 5) sNil))
def f_check_cell (Γ : Gam) (A : Ad) : Fn := fnD 3 3 (p_check_cell Γ A)
theorem ok_check_cell (T : Tx A Γ mg w base) : FnOk P w Γ.K mg base (L2.CX P w) 3 A.a_check_cell A.fd_check_cell ["board", "row", "column"] (SpOf Γ (f_check_cell Γ A)) :=
  fn_ok2 (k := 2) (c := p_check_cell Γ A) T.F_check_cell sc_check_cell rfl rfl (fun cdv Ar outer s H E1 hr =>
    (cs_cons (cs_if (cw_not (c_test rfl (c_callF (ok_is_whole T) (hr.mono (by decide)) rfl T.m_is_whole T.k_is_whole T.b_is_whole (passD tk_of) (ca_cons (c_var 1) (ca_cons c_int (ca_cons (g_bin xSub (c_prop rfl T.cl_Board T.prop_rows (ok_Board_rows T) (hr.mono (by decide)) T.b_Board_rows (c_var 0)) c_int) ca_nil)))))) (cs_one (cs_raise rfl rfl tk_of T.x_BadRow T.m_BadRow rfl)) cs_nil) (cs_one (cs_if (cw_not (c_test rfl (c_callF (ok_is_whole T) (hr.mono (by decide)) rfl T.m_is_whole T.k_is_whole T.b_is_whole (passD tk_of) (ca_cons (c_var 2) (ca_cons c_int (ca_cons (g_bin xSub (c_prop rfl T.cl_Board T.prop_columns (ok_Board_columns T) (hr.mono (by decide)) T.b_Board_columns (c_var 0)) c_int) ca_nil)))))) (cs_one (cs_raise rfl rfl tk_of T.x_BadColumn T.m_BadColumn rfl)) cs_nil))))
/-! ### steps -/
theorem sc_steps : FnScope ["board", "found", "row", "signs", "column", "sign", "across"] ["board"] (defScope s_steps) := ⟨rfl, rfl, rfl, by decide +kernel, rfl, by decide +kernel, by decide +kernel⟩
def p_steps (Γ : Gam) (A : Ad) : CS := (sSeq (sDrop (eCallF (f_check_board Γ A) (aCons (eVar 0) aNil))) (sSeq (sSet 1 (eLst aNil)) (sSeq (sFor (gTu ((gN 2) :: ((gN 3) :: []))) (iEnum (aCons (eProp 0 (f_Board_cells Γ A) (eVar 0)) aNil)) (sFor (gTu ((gN 4) :: ((gN 5) :: []))) (iEnum (aCons (eVar 3) aNil)) (sSeq (sSet 6 (eBin fAdd (eProp 0 (f_Board_rows Γ A) (eVar 0)) (eVar 4))) (sSeq (sIf (bB (eBin fIn (eVar 5) (eTup (aCons (eC (.str ">")) (aCons (eC (.str "x")) aNil))))) (sApp 1 (eTup (aCons (eVar 2) (aCons (eVar 6) aNil)))) sNil) (sIf (bB (eBin fIn (eVar 5) (eTup (aCons (eC (.str "<")) (aCons (eC (.str "x")) aNil))))) (sApp 1 (eTup (aCons (eVar 6) (aCons (eVar 2) aNil)))) sNil))))) (sRet (eCall fSort (aCons (eVar 1) aNil))))))
def f_steps (Γ : Gam) (A : Ad) : Fn := fnD 7 1 (p_steps Γ A)
theorem ok_steps (T : Tx A Γ mg w base) : FnOk P w Γ.K mg base (L2.CX P w) 3 A.a_steps A.fd_steps ["board"] (SpOf Γ (f_steps Γ A)) :=
  fn_ok2 (k := 2) (c := p_steps Γ A) T.F_steps sc_steps rfl rfl (fun cdv Ar outer s H E1 hr =>
    (cs_cons (cs_drop (c_callF (ok_check_board T) (hr.mono (by decide)) rfl T.m_check_board T.k_check_board T.b_check_board (passD tk_of) (ca_cons (c_var 0) ca_nil))) (cs_cons (cs_set (i := 1) sc_steps.nd rfl (by first | exact Or.inl rfl | exact Or.inr rfl) (c_lst ca_nil)) (cs_cons (cs_for (passes_of rfl) rfl (ci_enum rfl rfl T.n_enumerate (ca_cons (c_prop rfl T.cl_Board T.prop_cells (ok_Board_cells T) (hr.mono (by decide)) T.b_Board_cells (c_var 0)) ca_nil)) (cg_tup rfl rfl (cgs_cons (cg_name (i := 2) sc_steps.nd rfl (by first | exact Or.inl rfl | exact Or.inr rfl)) (cgs_cons (cg_name (i := 3) sc_steps.nd rfl (by first | exact Or.inl rfl | exact Or.inr rfl)) cgs_nil))) (cs_one (cs_for (passes_of rfl) rfl (ci_enum rfl rfl T.n_enumerate (ca_cons (c_var 3) ca_nil)) (cg_tup rfl rfl (cgs_cons (cg_name (i := 4) sc_steps.nd rfl (by first | exact Or.inl rfl | exact Or.inr rfl)) (cgs_cons (cg_name (i := 5) sc_steps.nd rfl (by first | exact Or.inl rfl | exact Or.inr rfl)) cgs_nil))) (cs_cons (cs_set (i := 6) sc_steps.nd rfl (by first | exact Or.inl rfl | exact Or.inr rfl) (g_bin (xAdd rfl) (c_prop rfl T.cl_Board T.prop_rows (ok_Board_rows T) (hr.mono (by decide)) T.b_Board_rows (c_var 0)) (c_var 4))) (cs_cons (cs_if (g_tcmp (xIn rfl hr) (c_var 5) (c_tup (ca_cons c_str (ca_cons c_str ca_nil)))) (cs_one (cs_app (i := 1) rfl rfl (by first | exact Or.inl rfl | exact Or.inr (Or.inl rfl) | exact Or.inr (Or.inr rfl)) (c_tup (ca_cons (c_var 2) (ca_cons (c_var 6) ca_nil))))) cs_nil) (cs_one (cs_if (g_tcmp (xIn rfl hr) (c_var 5) (c_tup (ca_cons c_str (ca_cons c_str ca_nil)))) (cs_one (cs_app (i := 1) rfl rfl (by first | exact Or.inl rfl | exact Or.inr (Or.inl rfl) | exact Or.inr (Or.inr rfl)) (c_tup (ca_cons (c_var 6) (ca_cons (c_var 2) ca_nil))))) cs_nil))))))) (cs_one (cs_ret (g_callB (xSort rfl) rfl T.n_sorted rfl (ca_cons (c_var 1) ca_nil))))))))
/-! ### flipped -/
theorem sc_flipped : FnScope ["board", "column", "signs"] ["board"] (defScope s_flipped) := ⟨rfl, rfl, rfl, by decide +kernel, rfl, by decide +kernel, by decide +kernel⟩
def p_flipped (Γ : Gam) (A : Ad) : CS := (sSeq (sDrop (eCallF (f_check_board Γ A) (aCons (eVar 0) aNil))) (sRet (eMake 0 (i_Board Γ A) (aCons (eCall fTuple (aCons (eLc (iRg1 (aCons (eProp 0 (f_Board_columns Γ A) (eVar 0)) aNil)) (gN 1) bYes (eJoin (eC (.str "")) (eLc (iAny (eProp 0 (f_Board_cells Γ A) (eVar 0))) (gN 2) bYes (eBin (fKd A.a_OTHER_WAY t_OTHER_WAY) (eC (.ptr A.a_OTHER_WAY)) (eBin (orF fIx (fIxR Γ)) (eVar 2) (eVar 1))) [2])) [1]) aNil)) aNil))))
def f_flipped (Γ : Gam) (A : Ad) : Fn := fnD 3 1 (p_flipped Γ A)
theorem ok_flipped (T : Tx A Γ mg w base) : FnOk P w Γ.K mg base (L2.CX P w) 7 A.a_flipped A.fd_flipped ["board"] (SpOf Γ (f_flipped Γ A)) :=
  fn_ok2 (k := 6) (c := p_flipped Γ A) T.F_flipped sc_flipped rfl rfl (fun cdv Ar outer s H E1 hr =>
    (cs_cons (cs_drop (c_callF (ok_check_board T) (hr.mono (by decide)) rfl T.m_check_board T.k_check_board T.b_check_board (passD tk_of) (ca_cons (c_var 0) ca_nil))) (cs_one (cs_ret (c_make T.mk_Board (ok_Board_init T) (hr.mono (by decide)) rfl T.m_Board T.b_Board_init (passM tk_of) (ca_cons (g_callTy (oTuple rfl) rfl T.n_tuple rfl (ca_cons (c_lc (own := [("column", 1)]) rfl sc_flipped.nd (g_range1 rfl T.n_range (ca_cons (c_prop rfl T.cl_Board T.prop_columns (ok_Board_columns T) (hr.mono (by decide)) T.b_Board_columns (c_var 0)) ca_nil)) (blkOk_by (N := ["board", "column", "signs"]) (sc := defScope s_flipped) (by decide +kernel)) (fun _ _ _ _ _ => (cg_name (i := 1) sc_flipped.nd rfl (by first | exact Or.inl rfl | exact Or.inr rfl))) (fun _ _ _ _ _ => (c_join rfl c_str (c_lc (own := [("signs", 2)]) rfl sc_flipped.nd (ci_any rfl (c_prop rfl T.cl_Board T.prop_cells (ok_Board_cells T) (hr.mono (by decide)) T.b_Board_cells (c_var 0))) (blkOk_by rfl) (fun _ _ _ _ _ => (cg_name (i := 2) sc_flipped.nd rfl (by first | exact Or.inl rfl | exact Or.inr rfl))) (fun _ _ _ _ _ => (g_kd rfl T.h_OTHER_WAY (g_globP rfl T.g_OTHER_WAY) (g_ix rfl (c_var 2) (c_var 1)))))))) ca_nil)) ca_nil))))))
/-! ### turned -/
theorem sc_turned : FnScope ["board", "signs", "sign"] ["board"] (defScope s_turned) := ⟨rfl, rfl, rfl, by decide +kernel, rfl, by decide +kernel, by decide +kernel⟩
def p_turned (Γ : Gam) (A : Ad) : CS := (sSeq (sDrop (eCallF (f_check_board Γ A) (aCons (eVar 0) aNil))) (sRet (eMake 0 (i_Board Γ A) (aCons (eCall fTuple (aCons (eLc (iAny (eProp 0 (f_Board_cells Γ A) (eVar 0))) (gN 1) bYes (eJoin (eC (.str "")) (eLc (iAny (eVar 1)) (gN 2) bYes (eBin (fKd A.a_OTHER_WAY t_OTHER_WAY) (eC (.ptr A.a_OTHER_WAY)) (eVar 2)) [2])) [1]) aNil)) aNil))))
def f_turned (Γ : Gam) (A : Ad) : Fn := fnD 3 1 (p_turned Γ A)
theorem ok_turned (T : Tx A Γ mg w base) : FnOk P w Γ.K mg base (L2.CX P w) 7 A.a_turned A.fd_turned ["board"] (SpOf Γ (f_turned Γ A)) :=
  fn_ok2 (k := 6) (c := p_turned Γ A) T.F_turned sc_turned rfl rfl (fun cdv Ar outer s H E1 hr =>
    (cs_cons (cs_drop (c_callF (ok_check_board T) (hr.mono (by decide)) rfl T.m_check_board T.k_check_board T.b_check_board (passD tk_of) (ca_cons (c_var 0) ca_nil))) (cs_one (cs_ret (c_make T.mk_Board (ok_Board_init T) (hr.mono (by decide)) rfl T.m_Board T.b_Board_init (passM tk_of) (ca_cons (g_callTy (oTuple rfl) rfl T.n_tuple rfl (ca_cons (c_lc (own := [("signs", 1)]) rfl sc_turned.nd (ci_any rfl (c_prop rfl T.cl_Board T.prop_cells (ok_Board_cells T) (hr.mono (by decide)) T.b_Board_cells (c_var 0))) (blkOk_by (N := ["board", "signs", "sign"]) (sc := defScope s_turned) (by decide +kernel)) (fun _ _ _ _ _ => (cg_name (i := 1) sc_turned.nd rfl (by first | exact Or.inl rfl | exact Or.inr rfl))) (fun _ _ _ _ _ => (c_join rfl c_str (c_lc (own := [("sign", 2)]) rfl sc_turned.nd (ci_any rfl (c_var 1)) (blkOk_by rfl) (fun _ _ _ _ _ => (cg_name (i := 2) sc_turned.nd rfl (by first | exact Or.inl rfl | exact Or.inr rfl))) (fun _ _ _ _ _ => (g_kd rfl T.h_OTHER_WAY (g_globP rfl T.g_OTHER_WAY) (c_var 2))))))) ca_nil)) ca_nil))))))
/-! ### with_cell -/
theorem sc_with_cell : FnScope ["board", "row", "column", "sign", "lines"] ["board", "row", "column", "sign"] (defScope s_with_cell) := ⟨rfl, rfl, rfl, by decide +kernel, rfl, by decide +kernel, by decide +kernel⟩
def p_with_cell (Γ : Gam) (A : Ad) : CS := (sSeq (sDrop (eCallF (f_check_board Γ A) (aCons (eVar 0) aNil))) (sSeq (sDrop (eCallF (f_check_cell Γ A) (aCons (eVar 0) (aCons (eVar 1) (aCons (eVar 2) aNil))))) (sSeq (sIf (bB (eBin fNi (eVar 3) (eC (.ktup k_SIGNS)))) (sErr 6) sNil) (sSeq (sSet 4 (eCall fLists (aCons (eProp 0 (f_Board_cells Γ A) (eVar 0)) aNil))) (sSeq (sLput 4 (eVar 1) (eBin fAdd (eBin fAdd (eSl fSl (eBin (orF fIx (fIxR Γ)) (eVar 4) (eVar 1)) oNone (oSome (eVar 2))) (eVar 3)) (eSl fSl (eBin (orF fIx (fIxR Γ)) (eVar 4) (eVar 1)) (oSome (eBin fAdd (eVar 2) (eC (.int 1)))) oNone))) (sRet (eMake 0 (i_Board Γ A) (aCons (eCall fTuple (aCons (eVar 4) aNil)) aNil))))))))
def f_with_cell (Γ : Gam) (A : Ad) : Fn := fnD 5 4 (p_with_cell Γ A)
theorem ok_with_cell (T : Tx A Γ mg w base) : FnOk P w Γ.K mg base (L2.CX P w) 7 A.a_with_cell A.fd_with_cell ["board", "row", "column", "sign"] (SpOf Γ (f_with_cell Γ A)) :=
  fn_ok2 (k := 6) (c := p_with_cell Γ A) T.F_with_cell sc_with_cell rfl rfl (fun cdv Ar outer s H E1 hr =>
    (cs_cons (cs_drop (c_callF (ok_check_board T) (hr.mono (by decide)) rfl T.m_check_board T.k_check_board T.b_check_board (passD tk_of) (ca_cons (c_var 0) ca_nil))) (cs_cons (cs_drop (c_callF (ok_check_cell T) (hr.mono (by decide)) rfl T.m_check_cell T.k_check_cell T.b_check_cell (passD tk_of) (ca_cons (c_var 0) (ca_cons (c_var 1) (ca_cons (c_var 2) ca_nil))))) (cs_cons (cs_if (g_tcmp (xNi rfl hr) (c_var 3) (g_globT rfl T.g_SIGNS T.h_SIGNS rfl)) (cs_one (cs_raise rfl rfl tk_of T.x_BadSign T.m_BadSign rfl)) cs_nil) (cs_cons (cs_set (i := 4) sc_with_cell.nd rfl (by first | exact Or.inl rfl | exact Or.inr rfl) (g_callTy (xList rfl rfl) rfl T.n_list rfl (ca_cons (c_prop rfl T.cl_Board T.prop_cells (ok_Board_cells T) (hr.mono (by decide)) T.b_Board_cells (c_var 0)) ca_nil))) (cs_cons (cs_lput (i := 4) rfl (by first | exact Or.inl rfl | exact Or.inr (Or.inl rfl) | exact Or.inr (Or.inr rfl)) (c_var 1) (g_bin (xAdd rfl) (g_bin (xAdd rfl) (g_sl rfl (g_ix rfl (c_var 4) (c_var 1)) co_none (co_some (E := E0') (c_var 2))) (c_var 3)) (g_sl rfl (g_ix rfl (c_var 4) (c_var 1)) (co_some (E := E0') (g_bin (xAdd rfl) (c_var 2) c_int)) co_none))) (cs_one (cs_ret (c_make T.mk_Board (ok_Board_init T) (hr.mono (by decide)) rfl T.m_Board T.b_Board_init (passM tk_of) (ca_cons (g_callTy (oTuple rfl) rfl T.n_tuple rfl (ca_cons (c_var 4) ca_nil)) ca_nil))))))))))
/-! ### distances -/
theorem sc_distances : FnScope ["pairs", "start", "away", "edge", "further", "one", "other"] ["pairs", "start"] (defScope s_distances) := ⟨rfl, rfl, rfl, by decide +kernel, rfl, by decide +kernel, by decide +kernel⟩
def p_distances (Γ : Gam) (A : Ad) : CS := (sSeq (sSet 2 (eDone (eVar 1) (eC (.int 0)))) (sSeq (sSet 3 (eLst (aCons (eVar 1) aNil))) (sSeq (sWhile 12 (bE (eVar 3)) (sSeq (sSet 4 (eLst aNil)) (sSeq (sForV (gTu ((gN 5) :: ((gN 6) :: []))) 0 (sIf (bAnd (bB (eBin fIn (eVar 5) (eVar 3))) (bB (eBin (fDIn true) (eVar 6) (eVar 2)))) (sSeq (sDPut' 2 (eVar 6) (eBin fAdd (eBin fDGet (eVar 2) (eVar 5)) (eC (.int 1)))) (sApp 4 (eVar 6))) sNil)) (sMove 3 4)))) (sRetV 2))))
def f_distances (Γ : Gam) (A : Ad) : Fn := fnD 7 2 (p_distances Γ A)
theorem ok_distances (T : Tx A Γ mg w base) : FnOk P w Γ.K mg base (L2.CX P w) 1 A.a_distances A.fd_distances ["pairs", "start"] (SpOf Γ (f_distances Γ A)) :=
  fn_ok2 (k := 0) (c := p_distances Γ A) T.F_distances sc_distances rfl rfl (fun cdv Ar outer s H E1 hr =>
    (cs_cons (cs_set (i := 2) sc_distances.nd rfl (by first | exact Or.inl rfl | exact Or.inr rfl) (c_done (c_var 1) c_int)) (cs_cons (cs_set (i := 3) sc_distances.nd rfl (by first | exact Or.inl rfl | exact Or.inr rfl) (c_lst (ca_cons (c_var 1) ca_nil))) (cs_cons (cs_while 12 (passes_of rfl) (c_test rfl (c_var 3)) (cs_cons (cs_set (i := 4) sc_distances.nd rfl (by first | exact Or.inl rfl | exact Or.inr rfl) (c_lst ca_nil)) (cs_cons (cs_forV (i := 0) (passes_of rfl) rfl (ci_var 0 rfl) (cg_tup rfl rfl (cgs_cons (cg_name (i := 5) sc_distances.nd rfl (by first | exact Or.inl rfl | exact Or.inr rfl)) (cgs_cons (cg_name (i := 6) sc_distances.nd rfl (by first | exact Or.inl rfl | exact Or.inr rfl)) cgs_nil))) (cs_one (cs_if (PW.pt (cw_and (g_tcmp (xIn rfl hr) (c_var 5) (c_var 3)) (cw_and1 (g_tdni hr (c_var 6) (c_var 2))))) (cs_cons (cs_dput (i := 2) hr.unit1 rfl (by first | exact Or.inl rfl | exact Or.inr (Or.inl rfl) | exact Or.inr (Or.inr rfl)) (c_var 6) (g_bin (xAdd rfl) (g_dget hr (c_var 2) (c_var 5)) c_int)) (cs_one (cs_app (i := 4) rfl rfl (by first | exact Or.inl rfl | exact Or.inr (Or.inl rfl) | exact Or.inr (Or.inr rfl)) (c_var 6)))) cs_nil))) (cs_one (cs_move (i := 3) (j := 4) sc_distances.nd rfl (by first | exact Or.inl rfl | exact Or.inr rfl) rfl (by first | exact Or.inl rfl | exact Or.inr (Or.inl rfl) | exact Or.inr (Or.inr rfl))))))) (cs_one (cs_retV (i := 2) rfl (by first | exact Or.inl rfl | exact Or.inr (Or.inl rfl) | exact Or.inr (Or.inr rfl))))))))
/-! ### chain -/
theorem sc_chain : FnScope ["board", "one", "other", "away", "row", "nearer", "nexts", "behind", "ahead"] ["board", "one", "other"] (defScope s_chain) := ⟨rfl, rfl, rfl, by decide +kernel, rfl, by decide +kernel, by decide +kernel⟩
def p_chain (Γ : Gam) (A : Ad) : CS := (sSeq (sDrop (eCallF (f_check_board Γ A) (aCons (eVar 0) aNil))) (sSeq (sDrop (eCallF (f_check_thread Γ A) (aCons (eVar 0) (aCons (eVar 1) aNil)))) (sSeq (sDrop (eCallF (f_check_thread Γ A) (aCons (eVar 0) (aCons (eVar 2) aNil)))) (sSeq (sSet 3 (eCallF (f_distances Γ A) (aCons (eCallF (f_steps Γ A) (aCons (eCallF (f_turned Γ A) (aCons (eVar 0) aNil)) aNil)) (aCons (eVar 2) aNil)))) (sSeq (sIf (bB (eBin (fDIn true) (eVar 1) (eVar 3))) (sRet (eC .non)) sNil) (sSeq (sSet 4 (eLst (aCons (eVar 1) aNil))) (sSeq (sWhile 12 (bB (eBin fNe (eBin (orF fIx (fIxR Γ)) (eVar 4) (eUn fNeg (eC (.int 1)))) (eVar 2))) (sSeq (sSet 5 (eBin fSub (eBin fDGet (eVar 3) (eBin (orF fIx (fIxR Γ)) (eVar 4) (eUn fNeg (eC (.int 1))))) (eC (.int 1)))) (sSeq (sSet 6 (eLc (iAny (eCallF (f_steps Γ A) (aCons (eVar 0) aNil))) (gTu ((gN 7) :: ((gN 8) :: []))) (bAnd (bB (eBin fEq (eVar 7) (eBin (orF fIx (fIxR Γ)) (eVar 4) (eUn fNeg (eC (.int 1)))))) (bB (eBin fEq (eDGet1 (eVar 3) (eVar 8)) (eVar 5)))) (eVar 8) [7, 8])) (sApp 4 (eBin (orF fIx (fIxR Γ)) (eVar 6) (eC (.int 0))))))) (sRet (eCall fTuple (aCons (eVar 4) aNil))))))))))
def f_chain (Γ : Gam) (A : Ad) : Fn := fnD 9 3 (p_chain Γ A)
theorem ok_chain (T : Tx A Γ mg w base) : FnOk P w Γ.K mg base (L2.CX P w) 8 A.a_chain A.fd_chain ["board", "one", "other"] (SpOf Γ (f_chain Γ A)) :=
  fn_ok2 (k := 7) (c := p_chain Γ A) T.F_chain sc_chain rfl rfl (fun cdv Ar outer s H E1 hr =>
    (cs_cons (cs_drop (c_callF (ok_check_board T) (hr.mono (by decide)) rfl T.m_check_board T.k_check_board T.b_check_board (passD tk_of) (ca_cons (c_var 0) ca_nil))) (cs_cons (cs_drop (c_callF (ok_check_thread T) (hr.mono (by decide)) rfl T.m_check_thread T.k_check_thread T.b_check_thread (passD tk_of) (ca_cons (c_var 0) (ca_cons (c_var 1) ca_nil)))) (cs_cons (cs_drop (c_callF (ok_check_thread T) (hr.mono (by decide)) rfl T.m_check_thread T.k_check_thread T.b_check_thread (passD tk_of) (ca_cons (c_var 0) (ca_cons (c_var 2) ca_nil)))) (cs_cons (cs_set (i := 3) sc_chain.nd rfl (by first | exact Or.inl rfl | exact Or.inr rfl) (c_callF (ok_distances T) (hr.mono (by decide)) rfl T.m_distances T.k_distances T.b_distances (passD tk_of) (ca_cons (c_callF (ok_steps T) (hr.mono (by decide)) rfl T.m_steps T.k_steps T.b_steps (passD tk_of) (ca_cons (c_callF (ok_turned T) (hr.mono (by decide)) rfl T.m_turned T.k_turned T.b_turned (passD tk_of) (ca_cons (c_var 0) ca_nil)) ca_nil)) (ca_cons (c_var 2) ca_nil)))) (cs_cons (cs_if (g_tdni hr (c_var 1) (c_var 3)) (cs_one (cs_ret c_non)) cs_nil) (cs_cons (cs_set (i := 4) sc_chain.nd rfl (by first | exact Or.inl rfl | exact Or.inr rfl) (c_lst (ca_cons (c_var 1) ca_nil))) (cs_cons (cs_while 12 (passes_of rfl) (g_tcmp (xNe rfl hr) (g_ix rfl (c_var 4) (c_neg c_int)) (c_var 2)) (cs_cons (cs_set (i := 5) sc_chain.nd rfl (by first | exact Or.inl rfl | exact Or.inr rfl) (g_bin xSub (g_dget hr (c_var 3) (g_ix rfl (c_var 4) (c_neg c_int))) c_int)) (cs_cons (cs_setLcIf (i := 6) (own := [("behind", 7), ("ahead", 8)]) rfl sc_chain.nd rfl rfl rfl (ci_any rfl (c_callF (ok_steps T) (hr.mono (by decide)) rfl T.m_steps T.k_steps T.b_steps (passD tk_of) (ca_cons (c_var 0) ca_nil))) (blkOk_by (N := ["board", "one", "other", "away", "row", "nearer", "nexts", "behind", "ahead"]) (sc := defScope s_chain) (by decide +kernel)) (fun _ _ _ _ _ => (cg_tup rfl rfl (cgs_cons (cg_name (i := 7) sc_chain.nd rfl (by first | exact Or.inl rfl | exact Or.inr rfl)) (cgs_cons (cg_name (i := 8) sc_chain.nd rfl (by first | exact Or.inl rfl | exact Or.inr rfl)) cgs_nil)))) (fun _ _ _ _ _ => (PW.pt (cw_and (g_tcmp (xEq rfl hr) (c_var 7) (g_ix rfl (c_var 4) (c_neg c_int))) (cw_and1 (g_tcmp (xEq rfl hr) (c_dget1 hr ⟨rfl, rfl, rfl, rfl⟩ (c_var 3) (c_var 8)) (c_var 5)))))) (fun _ _ _ _ _ => (c_var 8))) (cs_one (cs_app (i := 4) rfl rfl (by first | exact Or.inl rfl | exact Or.inr (Or.inl rfl) | exact Or.inr (Or.inr rfl)) (g_ix rfl (c_var 6) c_int)))))) (cs_one (cs_ret (g_callTy (oTuple rfl) rfl T.n_tuple rfl (ca_cons (c_var 4) ca_nil))))))))))))
/-! ### leads -/
theorem sc_leads : FnScope ["board", "one", "other"] ["board", "one", "other"] (defScope s_leads) := ⟨rfl, rfl, rfl, by decide +kernel, rfl, by decide +kernel, by decide +kernel⟩
def p_leads (Γ : Gam) (A : Ad) : CS := (sRet (eBin (fIs true) (eCallF (f_chain Γ A) (aCons (eVar 0) (aCons (eVar 1) (aCons (eVar 2) aNil)))) (eC .non)))
def f_leads (Γ : Gam) (A : Ad) : Fn := fnD 3 3 (p_leads Γ A)
theorem ok_leads (T : Tx A Γ mg w base) : FnOk P w Γ.K mg base (L2.CX P w) 9 A.a_leads A.fd_leads ["board", "one", "other"] (SpOf Γ (f_leads Γ A)) :=
  fn_ok2 (k := 8) (c := p_leads Γ A) T.F_leads sc_leads rfl rfl (fun cdv Ar outer s H E1 hr =>
    (cs_one (cs_ret (g_cmp xIsn (c_callF (ok_chain T) (hr.mono (by decide)) rfl T.m_chain T.k_chain T.b_chain (passD tk_of) (ca_cons (c_var 0) (ca_cons (c_var 1) (ca_cons (c_var 2) ca_nil)))) c_non))))
/-! ### reached -/
theorem sc_reached : FnScope ["board", "one"] ["board", "one"] (defScope s_reached) := ⟨rfl, rfl, rfl, by decide +kernel, rfl, by decide +kernel, by decide +kernel⟩
def p_reached (Γ : Gam) (A : Ad) : CS := (sSeq (sDrop (eCallF (f_check_board Γ A) (aCons (eVar 0) aNil))) (sSeq (sDrop (eCallF (f_check_thread Γ A) (aCons (eVar 0) (aCons (eVar 1) aNil)))) (sRet (eCall fSort (aCons (eCall fLists (aCons (eCallF (f_distances Γ A) (aCons (eCallF (f_steps Γ A) (aCons (eVar 0) aNil)) (aCons (eVar 1) aNil))) aNil)) aNil)))))
def f_reached (Γ : Gam) (A : Ad) : Fn := fnD 2 2 (p_reached Γ A)
theorem ok_reached (T : Tx A Γ mg w base) : FnOk P w Γ.K mg base (L2.CX P w) 5 A.a_reached A.fd_reached ["board", "one"] (SpOf Γ (f_reached Γ A)) :=
  fn_ok2 (k := 4) (c := p_reached Γ A) T.F_reached sc_reached rfl rfl (fun cdv Ar outer s H E1 hr =>
    (cs_cons (cs_drop (c_callF (ok_check_board T) (hr.mono (by decide)) rfl T.m_check_board T.k_check_board T.b_check_board (passD tk_of) (ca_cons (c_var 0) ca_nil))) (cs_cons (cs_drop (c_callF (ok_check_thread T) (hr.mono (by decide)) rfl T.m_check_thread T.k_check_thread T.b_check_thread (passD tk_of) (ca_cons (c_var 0) (ca_cons (c_var 1) ca_nil)))) (cs_one (cs_ret (g_callB (xSort rfl) rfl T.n_sorted rfl (ca_cons (g_callTy (xList rfl rfl) rfl T.n_list rfl (ca_cons (c_callF (ok_distances T) (hr.mono (by decide)) rfl T.m_distances T.k_distances T.b_distances (passD tk_of) (ca_cons (c_callF (ok_steps T) (hr.mono (by decide)) rfl T.m_steps T.k_steps T.b_steps (passD tk_of) (ca_cons (c_var 0) ca_nil)) (ca_cons (c_var 1) ca_nil))) ca_nil)) ca_nil)))))))
/-! ### reaching -/
theorem sc_reaching : FnScope ["board", "other"] ["board", "other"] (defScope s_reaching) := ⟨rfl, rfl, rfl, by decide +kernel, rfl, by decide +kernel, by decide +kernel⟩
def p_reaching (Γ : Gam) (A : Ad) : CS := (sSeq (sDrop (eCallF (f_check_board Γ A) (aCons (eVar 0) aNil))) (sSeq (sDrop (eCallF (f_check_thread Γ A) (aCons (eVar 0) (aCons (eVar 1) aNil)))) (sRet (eCall fSort (aCons (eCall fLists (aCons (eCallF (f_distances Γ A) (aCons (eCallF (f_steps Γ A) (aCons (eCallF (f_turned Γ A) (aCons (eVar 0) aNil)) aNil)) (aCons (eVar 1) aNil))) aNil)) aNil)))))
def f_reaching (Γ : Gam) (A : Ad) : Fn := fnD 2 2 (p_reaching Γ A)
theorem ok_reaching (T : Tx A Γ mg w base) : FnOk P w Γ.K mg base (L2.CX P w) 8 A.a_reaching A.fd_reaching ["board", "other"] (SpOf Γ (f_reaching Γ A)) :=
  fn_ok2 (k := 7) (c := p_reaching Γ A) T.F_reaching sc_reaching rfl rfl (fun cdv Ar outer s H E1 hr =>
    (cs_cons (cs_drop (c_callF (ok_check_board T) (hr.mono (by decide)) rfl T.m_check_board T.k_check_board T.b_check_board (passD tk_of) (ca_cons (c_var 0) ca_nil))) (cs_cons (cs_drop (c_callF (ok_check_thread T) (hr.mono (by decide)) rfl T.m_check_thread T.k_check_thread T.b_check_thread (passD tk_of) (ca_cons (c_var 0) (ca_cons (c_var 1) ca_nil)))) (cs_one (cs_ret (g_callB (xSort rfl) rfl T.n_sorted rfl (ca_cons (g_callTy (xList rfl rfl) rfl T.n_list rfl (ca_cons (c_callF (ok_distances T) (hr.mono (by decide)) rfl T.m_distances T.k_distances T.b_distances (passD tk_of) (ca_cons (c_callF (ok_steps T) (hr.mono (by decide)) rfl T.m_steps T.k_steps T.b_steps (passD tk_of) (ca_cons (c_callF (ok_turned T) (hr.mono (by decide)) rfl T.m_turned T.k_turned T.b_turned (passD tk_of) (ca_cons (c_var 0) ca_nil)) ca_nil)) (ca_cons (c_var 1) ca_nil))) ca_nil)) ca_nil)))))))
/-! ### is_lot -/
theorem sc_is_lot : FnScope ["board", "value", "thread"] ["board", "value"] (defScope s_is_lot) := ⟨rfl, rfl, rfl, by decide +kernel, rfl, by decide +kernel, by decide +kernel⟩
def p_is_lot (Γ : Gam) (A : Ad) : CS := (sSeq (sIf (bNot (bE (eCall fIsi (aCons (eVar 1) (aCons (eC (.ty "tuple")) aNil))))) (sRet (eC (.bl false))) sNil) (sRet (eAnd (eCall fAll (aCons (eLc (iAny (eVar 1)) (gN 2) bYes (eCallF (f_is_thread Γ A) (aCons (eVar 0) (aCons (eVar 2) aNil))) [2]) aNil)) (eCallF (f_is_ascending Γ A) (aCons (eVar 1) aNil)))))
def f_is_lot (Γ : Gam) (A : Ad) : Fn := fnD 3 2 (p_is_lot Γ A)
theorem ok_is_lot (T : Tx A Γ mg w base) : FnOk P w Γ.K mg base (L2.CX P w) 4 A.a_is_lot A.fd_is_lot ["board", "value"] (SpOf Γ (f_is_lot Γ A)) :=
  fn_ok2 (k := 3) (c := p_is_lot Γ A) T.F_is_lot sc_is_lot rfl rfl (fun cdv Ar outer s H E1 hr =>
    (cs_cons (cs_if (cw_not (c_test rfl (g_callB (xIsi rfl) rfl T.n_isinstance rfl (ca_cons (c_var 1) (ca_cons (g_ty rfl T.n_tuple rfl) ca_nil))))) (cs_one (cs_ret c_bl)) cs_nil) (cs_one (cs_ret (c_and (g_callB (oAll rfl rfl) rfl T.n_all rfl (ca_cons (c_lc (own := [("thread", 2)]) rfl sc_is_lot.nd (ci_any rfl (c_var 1)) (blkOk_by (N := ["board", "value", "thread"]) (sc := defScope s_is_lot) (by decide +kernel)) (fun _ _ _ _ _ => (cg_name (i := 2) sc_is_lot.nd rfl (by first | exact Or.inl rfl | exact Or.inr rfl))) (fun _ _ _ _ _ => (c_callF (ok_is_thread T) (hr.mono (by decide)) rfl T.m_is_thread T.k_is_thread T.b_is_thread passB (ca_cons (c_var 0) (ca_cons (c_var 2) ca_nil))))) ca_nil)) (c_one (c_callF (ok_is_ascending T) (hr.mono (by decide)) rfl T.m_is_ascending T.k_is_ascending T.b_is_ascending (passD tk_of) (ca_cons (c_var 1) ca_nil))))))))
/-! ### check_lot -/
theorem sc_check_lot : FnScope ["board", "value"] ["board", "value"] (defScope s_check_lot) := ⟨rfl, rfl, rfl, by decide +kernel, rfl, by decide +kernel, by decide +kernel⟩
def p_check_lot (Γ : Gam) (A : Ad) : CS := (sIf (bNot (bE (eCallF (f_is_lot Γ A) (aCons (eVar 0) (aCons (eVar 1) aNil))))) (sErr 8) sNil)
def f_check_lot (Γ : Gam) (A : Ad) : Fn := fnD 2 2 (p_check_lot Γ A)
theorem ok_check_lot (T : Tx A Γ mg w base) : FnOk P w Γ.K mg base (L2.CX P w) 5 A.a_check_lot A.fd_check_lot ["board", "value"] (SpOf Γ (f_check_lot Γ A)) :=
  fn_ok2 (k := 4) (c := p_check_lot Γ A) T.F_check_lot sc_check_lot rfl rfl (fun cdv Ar outer s H E1 hr =>
    (cs_one (cs_if (cw_not (c_test rfl (c_callF (ok_is_lot T) (hr.mono (by decide)) rfl T.m_is_lot T.k_is_lot T.b_is_lot (passD tk_of) (ca_cons (c_var 0) (ca_cons (c_var 1) ca_nil))))) (cs_one (cs_raise rfl rfl tk_of T.x_BadLot T.m_BadLot rfl)) cs_nil)))
/-! ### together -/
theorem sc_together : FnScope ["lot", "other"] ["lot", "other"] (defScope s_together) := ⟨rfl, rfl, rfl, by decide +kernel, rfl, by decide +kernel, by decide +kernel⟩
def p_together (Γ : Gam) (A : Ad) : CS := (sRet (eCall fTuple (aCons (eCall fSortU (aCons (eBin fAdd (eVar 0) (eVar 1)) aNil)) aNil)))
def f_together (Γ : Gam) (A : Ad) : Fn := fnD 2 2 (p_together Γ A)
theorem ok_together (T : Tx A Γ mg w base) : FnOk P w Γ.K mg base (L2.CX P w) 1 A.a_together A.fd_together ["lot", "other"] (SpOf Γ (f_together Γ A)) :=
  fn_ok2 (k := 0) (c := p_together Γ A) T.F_together sc_together rfl rfl (fun cdv Ar outer s H E1 hr =>
    (cs_one (cs_ret (g_callTy (oTuple rfl) rfl T.n_tuple rfl (ca_cons (c_sortSet rfl rfl rfl T.n_sorted rfl T.n_set (ca_cons (g_bin (xAdd rfl) (c_var 0) (c_var 1)) ca_nil)) ca_nil)))))
/-! ### in_order -/
theorem sc_in_order : FnScope ["lots"] ["lots"] (defScope s_in_order) := ⟨rfl, rfl, rfl, by decide +kernel, rfl, by decide +kernel, by decide +kernel⟩
def p_in_order (Γ : Gam) (A : Ad) : CS := (sRet (eSortK (eVar 0)))
def f_in_order (Γ : Gam) (A : Ad) : Fn := fnD 1 1 (p_in_order Γ A)
theorem ok_in_order (T : Tx A Γ mg w base) : FnOk P w Γ.K mg base (L2.CX P w) 1 A.a_in_order A.fd_in_order ["lots"] (SpOf Γ (f_in_order Γ A)) :=
  fn_ok2C (k := 0) (c := p_in_order Γ A) T.C_in_order sc_in_order rfl rfl (fun Ar outer s H E1 hr => have M : Maker (cxOf (L2.CX P w) P w Γ.K mg base ["lots"] "in_order" (defScope s_in_order) A.a_in_order (.ref A.c_in_order) Ar outer s H E1) Γ.T A.c_in_order A.P_in_order := ⟨T.tb_in_order, rfl, T.tm_in_order, T.to_in_order⟩
    (cs_one (cs_ret (c_sortKey rfl M hr rfl T.n_sorted T.n_len (c_var 0) rfl rfl rfl (by decide) (by decide) rfl rfl))))
/-! ### is_closed -/
theorem sc_is_closed : FnScope ["board", "lot", "one", "other"] ["board", "lot"] (defScope s_is_closed) := ⟨rfl, rfl, rfl, by decide +kernel, rfl, by decide +kernel, by decide +kernel⟩
def p_is_closed (Γ : Gam) (A : Ad) : CS := (sSeq (sDrop (eCallF (f_check_board Γ A) (aCons (eVar 0) aNil))) (sSeq (sDrop (eCallF (f_check_lot Γ A) (aCons (eVar 0) (aCons (eVar 1) aNil)))) (sRet (eCall fAll (aCons (eLc (iAny (eCallF (f_steps Γ A) (aCons (eVar 0) aNil))) (gTu ((gN 2) :: ((gN 3) :: []))) bYes (eOr (eBin fIn (eVar 2) (eVar 1)) (eBin fNi (eVar 3) (eVar 1))) [2, 3]) aNil)))))
def f_is_closed (Γ : Gam) (A : Ad) : Fn := fnD 4 2 (p_is_closed Γ A)
theorem ok_is_closed (T : Tx A Γ mg w base) : FnOk P w Γ.K mg base (L2.CX P w) 6 A.a_is_closed A.fd_is_closed ["board", "lot"] (SpOf Γ (f_is_closed Γ A)) :=
  fn_ok2 (k := 5) (c := p_is_closed Γ A) T.F_is_closed sc_is_closed rfl rfl (fun cdv Ar outer s H E1 hr =>
    (cs_cons (cs_drop (c_callF (ok_check_board T) (hr.mono (by decide)) rfl T.m_check_board T.k_check_board T.b_check_board (passD tk_of) (ca_cons (c_var 0) ca_nil))) (cs_cons (cs_drop (c_callF (ok_check_lot T) (hr.mono (by decide)) rfl T.m_check_lot T.k_check_lot T.b_check_lot (passD tk_of) (ca_cons (c_var 0) (ca_cons (c_var 1) ca_nil)))) (cs_one (cs_ret (g_callB (oAll rfl rfl) rfl T.n_all rfl (ca_cons (c_lc (own := [("one", 2), ("other", 3)]) rfl sc_is_closed.nd (ci_any rfl (c_callF (ok_steps T) (hr.mono (by decide)) rfl T.m_steps T.k_steps T.b_steps (passD tk_of) (ca_cons (c_var 0) ca_nil))) (blkOk_by (N := ["board", "lot", "one", "other"]) (sc := defScope s_is_closed) (by decide +kernel)) (fun _ _ _ _ _ => (cg_tup rfl rfl (cgs_cons (cg_name (i := 2) sc_is_closed.nd rfl (by first | exact Or.inl rfl | exact Or.inr rfl)) (cgs_cons (cg_name (i := 3) sc_is_closed.nd rfl (by first | exact Or.inl rfl | exact Or.inr rfl)) cgs_nil)))) (fun _ _ _ _ _ => (c_or (g_cmp (xIn rfl hr) (c_var 2) (c_var 1)) (c_one (g_cmp (xNi rfl hr) (c_var 3) (c_var 1)))))) ca_nil)))))))
/-! ### closed_lots -/
theorem sc_closed_lots : FnScope ["board", "found", "thread", "least", "lot"] ["board"] (defScope s_closed_lots) := ⟨rfl, rfl, rfl, by decide +kernel, rfl, by decide +kernel, by decide +kernel⟩
def p_closed_lots (Γ : Gam) (A : Ad) : CS := (sSeq (sDrop (eCallF (f_check_board Γ A) (aCons (eVar 0) aNil))) (sSeq (sSet 1 (eDoneT (eTup aNil) (eC (.bl true)))) (sSeq (sFor (gN 2) (iRg1 (aCons (eLenX Γ 0 (f_Board_len Γ A) (aCons (eVar 0) aNil)) aNil)) (sSeq (sSet 3 (eCall fTuple (aCons (eCallF (f_reaching Γ A) (aCons (eVar 0) (aCons (eVar 2) aNil))) aNil))) (sFor (gN 4) (iAny (eCall fLists (aCons (eVar 1) aNil))) (sDPut' 1 (eCallF (f_together Γ A) (aCons (eVar 4) (aCons (eVar 3) aNil))) (eC (.bl true)))))) (sRet (eCallF (f_in_order Γ A) (aCons (eCall fLists (aCons (eVar 1) aNil)) aNil))))))
def f_closed_lots (Γ : Gam) (A : Ad) : Fn := fnD 5 1 (p_closed_lots Γ A)
theorem ok_closed_lots (T : Tx A Γ mg w base) : FnOk P w Γ.K mg base (L2.CX P w) 9 A.a_closed_lots A.fd_closed_lots ["board"] (SpOf Γ (f_closed_lots Γ A)) :=
  fn_ok2 (k := 8) (c := p_closed_lots Γ A) T.F_closed_lots sc_closed_lots rfl rfl (fun cdv Ar outer s H E1 hr =>
    (cs_cons (cs_drop (c_callF (ok_check_board T) (hr.mono (by decide)) rfl T.m_check_board T.k_check_board T.b_check_board (passD tk_of) (ca_cons (c_var 0) ca_nil))) (cs_cons (cs_set (i := 1) sc_closed_lots.nd rfl (by first | exact Or.inl rfl | exact Or.inr rfl) (c_doneT hr (c_tup ca_nil) c_bl)) (cs_cons (cs_for (passes_of rfl) rfl (g_range1 rfl T.n_range (ca_cons (c_len rfl T.len_s T.len_f (ok_Board_len T) (hr.mono (by decide)) T.b_Board_len rfl T.n_len (ca_cons (c_var 0) ca_nil)) ca_nil)) (cg_name (i := 2) sc_closed_lots.nd rfl (by first | exact Or.inl rfl | exact Or.inr rfl)) (cs_cons (cs_set (i := 3) sc_closed_lots.nd rfl (by first | exact Or.inl rfl | exact Or.inr rfl) (g_callTy (oTuple rfl) rfl T.n_tuple rfl (ca_cons (c_callF (ok_reaching T) (hr.mono (by decide)) rfl T.m_reaching T.k_reaching T.b_reaching (passD tk_of) (ca_cons (c_var 0) (ca_cons (c_var 2) ca_nil))) ca_nil))) (cs_one (cs_for (passes_of rfl) rfl (ci_any rfl (g_callTy (xList rfl rfl) rfl T.n_list rfl (ca_cons (c_var 1) ca_nil))) (cg_name (i := 4) sc_closed_lots.nd rfl (by first | exact Or.inl rfl | exact Or.inr rfl)) (cs_one (cs_dput (i := 1) hr.unit1 rfl (by first | exact Or.inl rfl | exact Or.inr (Or.inl rfl) | exact Or.inr (Or.inr rfl)) (c_callF (ok_together T) (hr.mono (by decide)) rfl T.m_together T.k_together T.b_together (passD tk_of) (ca_cons (c_var 4) (ca_cons (c_var 3) ca_nil))) c_bl)))))) (cs_one (cs_ret (c_callF (ok_in_order T) (hr.mono (by decide)) rfl T.m_in_order T.k_in_order T.b_in_order (passD tk_of) (ca_cons (g_callTy (xList rfl rfl) rfl T.n_list rfl (ca_cons (c_var 1) ca_nil)) ca_nil))))))))
/-! ### least_closed -/
theorem sc_least_closed : FnScope ["board", "lot", "found", "thread"] ["board", "lot"] (defScope s_least_closed) := ⟨rfl, rfl, rfl, by decide +kernel, rfl, by decide +kernel, by decide +kernel⟩
def p_least_closed (Γ : Gam) (A : Ad) : CS := (sSeq (sDrop (eCallF (f_check_board Γ A) (aCons (eVar 0) aNil))) (sSeq (sDrop (eCallF (f_check_lot Γ A) (aCons (eVar 0) (aCons (eVar 1) aNil)))) (sSeq (sSet 2 (eVar 1)) (sSeq (sForV (gN 3) 1 (sSet 2 (eCallF (f_together Γ A) (aCons (eVar 2) (aCons (eCall fTuple (aCons (eCallF (f_reaching Γ A) (aCons (eVar 0) (aCons (eVar 3) aNil))) aNil)) aNil))))) (sRetV 2)))))
def f_least_closed (Γ : Gam) (A : Ad) : Fn := fnD 4 2 (p_least_closed Γ A)
theorem ok_least_closed (T : Tx A Γ mg w base) : FnOk P w Γ.K mg base (L2.CX P w) 9 A.a_least_closed A.fd_least_closed ["board", "lot"] (SpOf Γ (f_least_closed Γ A)) :=
  fn_ok2 (k := 8) (c := p_least_closed Γ A) T.F_least_closed sc_least_closed rfl rfl (fun cdv Ar outer s H E1 hr =>
    (cs_cons (cs_drop (c_callF (ok_check_board T) (hr.mono (by decide)) rfl T.m_check_board T.k_check_board T.b_check_board (passD tk_of) (ca_cons (c_var 0) ca_nil))) (cs_cons (cs_drop (c_callF (ok_check_lot T) (hr.mono (by decide)) rfl T.m_check_lot T.k_check_lot T.b_check_lot (passD tk_of) (ca_cons (c_var 0) (ca_cons (c_var 1) ca_nil)))) (cs_cons (cs_set (i := 2) sc_least_closed.nd rfl (by first | exact Or.inl rfl | exact Or.inr rfl) (c_var 1)) (cs_cons (cs_forV (i := 1) (passes_of rfl) rfl (ci_var 1 rfl) (cg_name (i := 3) sc_least_closed.nd rfl (by first | exact Or.inl rfl | exact Or.inr rfl)) (cs_one (cs_set (i := 2) sc_least_closed.nd rfl (by first | exact Or.inl rfl | exact Or.inr rfl) (c_callF (ok_together T) (hr.mono (by decide)) rfl T.m_together T.k_together T.b_together (passD tk_of) (ca_cons (c_var 2) (ca_cons (g_callTy (oTuple rfl) rfl T.n_tuple rfl (ca_cons (c_callF (ok_reaching T) (hr.mono (by decide)) rfl T.m_reaching T.k_reaching T.b_reaching (passD tk_of) (ca_cons (c_var 0) (ca_cons (c_var 3) ca_nil))) ca_nil)) ca_nil)))))) (cs_one (cs_retV (i := 2) rfl (by first | exact Or.inl rfl | exact Or.inr (Or.inl rfl) | exact Or.inr (Or.inr rfl)))))))))
/-! ### part_of -/
theorem sc_part_of : FnScope ["board", "thread", "behind", "other"] ["board", "thread"] (defScope s_part_of) := ⟨rfl, rfl, rfl, by decide +kernel, rfl, by decide +kernel, by decide +kernel⟩
def p_part_of (Γ : Gam) (A : Ad) : CS := (sSeq (sSet 2 (eCallF (f_reaching Γ A) (aCons (eVar 0) (aCons (eVar 1) aNil)))) (sRet (eCall fTuple (aCons (eLc (iAny (eCallF (f_reached Γ A) (aCons (eVar 0) (aCons (eVar 1) aNil)))) (gN 3) (bB (eBin fIn (eVar 3) (eVar 2))) (eVar 3) [3]) aNil))))
def f_part_of (Γ : Gam) (A : Ad) : Fn := fnD 4 2 (p_part_of Γ A)
theorem ok_part_of (T : Tx A Γ mg w base) : FnOk P w Γ.K mg base (L2.CX P w) 9 A.a_part_of A.fd_part_of ["board", "thread"] (SpOf Γ (f_part_of Γ A)) :=
  fn_ok2 (k := 8) (c := p_part_of Γ A) T.F_part_of sc_part_of rfl rfl (fun cdv Ar outer s H E1 hr =>
    (cs_cons (cs_set (i := 2) sc_part_of.nd rfl (by first | exact Or.inl rfl | exact Or.inr rfl) (c_callF (ok_reaching T) (hr.mono (by decide)) rfl T.m_reaching T.k_reaching T.b_reaching (passD tk_of) (ca_cons (c_var 0) (ca_cons (c_var 1) ca_nil)))) (cs_one (cs_ret (g_callTy (oTuple rfl) rfl T.n_tuple rfl (ca_cons (c_lcIf (own := [("other", 3)]) rfl sc_part_of.nd (ci_any rfl (c_callF (ok_reached T) (hr.mono (by decide)) rfl T.m_reached T.k_reached T.b_reached (passD tk_of) (ca_cons (c_var 0) (ca_cons (c_var 1) ca_nil)))) (blkOk_by (N := ["board", "thread", "behind", "other"]) (sc := defScope s_part_of) (by decide +kernel)) (fun _ _ _ _ _ => (cg_name (i := 3) sc_part_of.nd rfl (by first | exact Or.inl rfl | exact Or.inr rfl))) (fun _ _ _ _ _ => (g_tcmp (xIn rfl hr) (c_var 3) (c_var 2))) (fun _ _ _ _ _ => (c_var 3))) ca_nil))))))
/-! ### holds -/
theorem sc_holds : FnScope ["board"] ["board"] (defScope s_holds) := ⟨rfl, rfl, rfl, by decide +kernel, rfl, by decide +kernel, by decide +kernel⟩
def p_holds (Γ : Gam) (A : Ad) : CS := (sSeq (sDrop (eCallF (f_check_board Γ A) (aCons (eVar 0) aNil))) (sRet (eBin fEq (eLenX Γ 0 (f_Board_len Γ A) (aCons (eCallF (f_part_of Γ A) (aCons (eVar 0) (aCons (eC (.int 0)) aNil))) aNil)) (eLenX Γ 0 (f_Board_len Γ A) (aCons (eVar 0) aNil)))))
def f_holds (Γ : Gam) (A : Ad) : Fn := fnD 1 1 (p_holds Γ A)
theorem ok_holds (T : Tx A Γ mg w base) : FnOk P w Γ.K mg base (L2.CX P w) 10 A.a_holds A.fd_holds ["board"] (SpOf Γ (f_holds Γ A)) :=
  fn_ok2 (k := 9) (c := p_holds Γ A) T.F_holds sc_holds rfl rfl (fun cdv Ar outer s H E1 hr =>
    (cs_cons (cs_drop (c_callF (ok_check_board T) (hr.mono (by decide)) rfl T.m_check_board T.k_check_board T.b_check_board (passD tk_of) (ca_cons (c_var 0) ca_nil))) (cs_one (cs_ret (g_cmp (xEq rfl hr) (c_len rfl T.len_s T.len_f (ok_Board_len T) (hr.mono (by decide)) T.b_Board_len rfl T.n_len (ca_cons (c_callF (ok_part_of T) (hr.mono (by decide)) rfl T.m_part_of T.k_part_of T.b_part_of (passD tk_of) (ca_cons (c_var 0) (ca_cons c_int ca_nil))) ca_nil)) (c_len rfl T.len_s T.len_f (ok_Board_len T) (hr.mono (by decide)) T.b_Board_len rfl T.n_len (ca_cons (c_var 0) ca_nil)))))))
/-! ### lifts_off -/
theorem sc_lifts_off : FnScope ["board", "lot"] ["board", "lot"] (defScope s_lifts_off) := ⟨rfl, rfl, rfl, by decide +kernel, rfl, by decide +kernel, by decide +kernel⟩
def p_lifts_off (Γ : Gam) (A : Ad) : CS := (sRet (eAnd (eChain fLt fLt (eC (.int 0)) (eLenX Γ 0 (f_Board_len Γ A) (aCons (eVar 1) aNil)) (eLenX Γ 0 (f_Board_len Γ A) (aCons (eVar 0) aNil))) (eCallF (f_is_closed Γ A) (aCons (eVar 0) (aCons (eVar 1) aNil)))))
def f_lifts_off (Γ : Gam) (A : Ad) : Fn := fnD 2 2 (p_lifts_off Γ A)
theorem ok_lifts_off (T : Tx A Γ mg w base) : FnOk P w Γ.K mg base (L2.CX P w) 7 A.a_lifts_off A.fd_lifts_off ["board", "lot"] (SpOf Γ (f_lifts_off Γ A)) :=
  fn_ok2 (k := 6) (c := p_lifts_off Γ A) T.F_lifts_off sc_lifts_off rfl rfl (fun cdv Ar outer s H E1 hr =>
    (cs_one (cs_ret (c_and (g_chain xLt xLt c_int (c_len rfl T.len_s T.len_f (ok_Board_len T) (hr.mono (by decide)) T.b_Board_len rfl T.n_len (ca_cons (c_var 1) ca_nil)) (c_len rfl T.len_s T.len_f (ok_Board_len T) (hr.mono (by decide)) T.b_Board_len rfl T.n_len (ca_cons (c_var 0) ca_nil))) (c_one (c_callF (ok_is_closed T) (hr.mono (by decide)) rfl T.m_is_closed T.k_is_closed T.b_is_closed (passD tk_of) (ca_cons (c_var 0) (ca_cons (c_var 1) ca_nil))))))))
/-! ### lifting -/
theorem sc_lifting : FnScope ["board"] ["board"] (defScope s_lifting) := ⟨rfl, rfl, rfl, by decide +kernel, rfl, by decide +kernel, by decide +kernel⟩
def p_lifting (Γ : Gam) (A : Ad) : CS := (sRet (eCallF (f_first_of Γ A) (aCons (eSl fSl (eCallF (f_closed_lots Γ A) (aCons (eVar 0) aNil)) (oSome (eC (.int 1))) (oSome (eUn fNeg (eC (.int 1))))) aNil)))
def f_lifting (Γ : Gam) (A : Ad) : Fn := fnD 1 1 (p_lifting Γ A)
theorem ok_lifting (T : Tx A Γ mg w base) : FnOk P w Γ.K mg base (L2.CX P w) 10 A.a_lifting A.fd_lifting ["board"] (SpOf Γ (f_lifting Γ A)) :=
  fn_ok2 (k := 9) (c := p_lifting Γ A) T.F_lifting sc_lifting rfl rfl (fun cdv Ar outer s H E1 hr =>
    (cs_one (cs_ret (c_callF (ok_first_of T) (hr.mono (by decide)) rfl T.m_first_of T.k_first_of T.b_first_of (passD tk_of) (ca_cons (g_sl rfl (c_callF (ok_closed_lots T) (hr.mono (by decide)) rfl T.m_closed_lots T.k_closed_lots T.b_closed_lots (passD tk_of) (ca_cons (c_var 0) ca_nil)) (co_some (E := E0') c_int) (co_some (E := E0') (c_neg c_int))) ca_nil)))))
/-! ### is_motion -/
theorem sc_is_motion : FnScope ["board", "value", "one", "other"] ["board", "value"] (defScope s_is_motion) := ⟨rfl, rfl, rfl, by decide +kernel, rfl, by decide +kernel, by decide +kernel⟩
def p_is_motion (Γ : Gam) (A : Ad) : CS := (sSeq (sDrop (eCallF (f_check_board Γ A) (aCons (eVar 0) aNil))) (sSeq (sIf (bNot (bE (eCallF (f_are_whole Γ A) (aCons (eVar 1) (aCons (eLenX Γ 0 (f_Board_len Γ A) (aCons (eVar 0) aNil)) (aCons (eUn fNeg (eC (.int 1000000))) (aCons (eC (.int 1000000)) aNil))))))) (sRet (eC (.bl false))) sNil) (sRet (eCall fAll (aCons (eLc (iAny (eCallF (f_steps Γ A) (aCons (eVar 0) aNil))) (gTu ((gN 2) :: ((gN 3) :: []))) bYes (eBin fLe (eBin (orF fIx (fIxR Γ)) (eVar 1) (eVar 3)) (eBin (orF fIx (fIxR Γ)) (eVar 1) (eVar 2))) [2, 3]) aNil)))))
def f_is_motion (Γ : Gam) (A : Ad) : Fn := fnD 4 2 (p_is_motion Γ A)
theorem ok_is_motion (T : Tx A Γ mg w base) : FnOk P w Γ.K mg base (L2.CX P w) 5 A.a_is_motion A.fd_is_motion ["board", "value"] (SpOf Γ (f_is_motion Γ A)) :=
  fn_ok2 (k := 4) (c := p_is_motion Γ A) T.F_is_motion sc_is_motion rfl rfl (fun cdv Ar outer s H E1 hr =>
    (cs_cons (cs_drop (c_callF (ok_check_board T) (hr.mono (by decide)) rfl T.m_check_board T.k_check_board T.b_check_board (passD tk_of) (ca_cons (c_var 0) ca_nil))) (cs_cons (cs_if (cw_not (c_test rfl (c_callF (ok_are_whole T) (hr.mono (by decide)) rfl T.m_are_whole T.k_are_whole T.b_are_whole (passD tk_of) (ca_cons (c_var 1) (ca_cons (c_len rfl T.len_s T.len_f (ok_Board_len T) (hr.mono (by decide)) T.b_Board_len rfl T.n_len (ca_cons (c_var 0) ca_nil)) (ca_cons (c_neg (g_globI rfl T.g_GREATEST_ANGLE)) (ca_cons (g_globI rfl T.g_GREATEST_ANGLE) ca_nil))))))) (cs_one (cs_ret c_bl)) cs_nil) (cs_one (cs_ret (g_callB (oAll rfl rfl) rfl T.n_all rfl (ca_cons (c_lc (own := [("one", 2), ("other", 3)]) rfl sc_is_motion.nd (ci_any rfl (c_callF (ok_steps T) (hr.mono (by decide)) rfl T.m_steps T.k_steps T.b_steps (passD tk_of) (ca_cons (c_var 0) ca_nil))) (blkOk_by (N := ["board", "value", "one", "other"]) (sc := defScope s_is_motion) (by decide +kernel)) (fun _ _ _ _ _ => (cg_tup rfl rfl (cgs_cons (cg_name (i := 2) sc_is_motion.nd rfl (by first | exact Or.inl rfl | exact Or.inr rfl)) (cgs_cons (cg_name (i := 3) sc_is_motion.nd rfl (by first | exact Or.inl rfl | exact Or.inr rfl)) cgs_nil)))) (fun _ _ _ _ _ => (g_cmp xLe (g_ix rfl (c_var 1) (c_var 3)) (g_ix rfl (c_var 1) (c_var 2))))) ca_nil)))))))
/-! ### as_load -/
theorem sc_as_load : FnScope ["board", "lot", "load", "thread"] ["board", "lot"] (defScope s_as_load) := ⟨rfl, rfl, rfl, by decide +kernel, rfl, by decide +kernel, by decide +kernel⟩
def p_as_load (Γ : Gam) (A : Ad) : CS := (sSeq (sDrop (eCallF (f_check_board Γ A) (aCons (eVar 0) aNil))) (sSeq (sDrop (eCallF (f_check_lot Γ A) (aCons (eVar 0) (aCons (eVar 1) aNil)))) (sSeq (sIf (bNot (bE (eCallF (f_lifts_off Γ A) (aCons (eVar 0) (aCons (eVar 1) aNil))))) (sErr 10) sNil) (sSeq (sSet 2 (eBin fMul (eLst (aCons (eC (.int 0)) aNil)) (eLenX Γ 0 (f_Board_len Γ A) (aCons (eVar 0) aNil)))) (sSeq (sLput 2 (eBin (orF fIx (fIxR Γ)) (eVar 1) (eC (.int 0))) (eUn fNeg (eC (.int 1)))) (sSeq (sLput 2 (eCall fMin1 (aCons (eLc (iRg1 (aCons (eLenX Γ 0 (f_Board_len Γ A) (aCons (eVar 0) aNil)) aNil)) (gN 3) (bB (eBin fNi (eVar 3) (eVar 1))) (eVar 3) [3]) aNil)) (eC (.int 1))) (sRet (eCall fTuple (aCons (eVar 2) aNil)))))))))
def f_as_load (Γ : Gam) (A : Ad) : Fn := fnD 4 2 (p_as_load Γ A)
theorem ok_as_load (T : Tx A Γ mg w base) : FnOk P w Γ.K mg base (L2.CX P w) 8 A.a_as_load A.fd_as_load ["board", "lot"] (SpOf Γ (f_as_load Γ A)) :=
  fn_ok2 (k := 7) (c := p_as_load Γ A) T.F_as_load sc_as_load rfl rfl (fun cdv Ar outer s H E1 hr =>
    (cs_cons (cs_drop (c_callF (ok_check_board T) (hr.mono (by decide)) rfl T.m_check_board T.k_check_board T.b_check_board (passD tk_of) (ca_cons (c_var 0) ca_nil))) (cs_cons (cs_drop (c_callF (ok_check_lot T) (hr.mono (by decide)) rfl T.m_check_lot T.k_check_lot T.b_check_lot (passD tk_of) (ca_cons (c_var 0) (ca_cons (c_var 1) ca_nil)))) (cs_cons (cs_if (cw_not (c_test rfl (c_callF (ok_lifts_off T) (hr.mono (by decide)) rfl T.m_lifts_off T.k_lifts_off T.b_lifts_off (passD tk_of) (ca_cons (c_var 0) (ca_cons (c_var 1) ca_nil))))) (cs_one (cs_raise rfl rfl tk_of T.x_NotLifting T.m_NotLifting rfl)) cs_nil) (cs_cons (cs_set (i := 2) sc_as_load.nd rfl (by first | exact Or.inl rfl | exact Or.inr rfl) (g_bin (xMul rfl) (c_lst (ca_cons c_int ca_nil)) (c_len rfl T.len_s T.len_f (ok_Board_len T) (hr.mono (by decide)) T.b_Board_len rfl T.n_len (ca_cons (c_var 0) ca_nil)))) (cs_cons (cs_lput (i := 2) rfl (by first | exact Or.inl rfl | exact Or.inr (Or.inl rfl) | exact Or.inr (Or.inr rfl)) (g_ix rfl (c_var 1) c_int) (c_neg c_int)) (cs_cons (cs_lput (i := 2) rfl (by first | exact Or.inl rfl | exact Or.inr (Or.inl rfl) | exact Or.inr (Or.inr rfl)) (g_callB (oMin1 rfl hr rfl) rfl T.n_min rfl (ca_cons (c_lcIf (own := [("thread", 3)]) rfl sc_as_load.nd (g_range1 rfl T.n_range (ca_cons (c_len rfl T.len_s T.len_f (ok_Board_len T) (hr.mono (by decide)) T.b_Board_len rfl T.n_len (ca_cons (c_var 0) ca_nil)) ca_nil)) (blkOk_by (N := ["board", "lot", "load", "thread"]) (sc := defScope s_as_load) (by decide +kernel)) (fun _ _ _ _ _ => (cg_name (i := 3) sc_as_load.nd rfl (by first | exact Or.inl rfl | exact Or.inr rfl))) (fun _ _ _ _ _ => (g_tcmp (xNi rfl hr) (c_var 3) (c_var 1))) (fun _ _ _ _ _ => (c_var 3))) ca_nil)) c_int) (cs_one (cs_ret (g_callTy (oTuple rfl) rfl T.n_tuple rfl (ca_cons (c_var 2) ca_nil)))))))))))
/-! ### ring_row -/
theorem sc_ring_row : FnScope ["board", "row", "thread"] ["board"] (defScope s_ring_row) := ⟨rfl, rfl, rfl, by decide +kernel, rfl, by decide +kernel, by decide +kernel⟩
def p_ring_row (Γ : Gam) (A : Ad) : CS := (sSeq (sIf (bNot (bE (eCallF (f_holds Γ A) (aCons (eVar 0) aNil)))) (sRet (eC .non)) sNil) (sSeq (sSet 1 (eTup (aCons (eC (.int 0)) aNil))) (sSeq (sFor (gN 2) (iRg2 (aCons (eC (.int 1)) (aCons (eLenX Γ 0 (f_Board_len Γ A) (aCons (eVar 0) aNil)) aNil))) (sSet 1 (eBin fAdd (eVar 1) (eSl fSl (eCallF (f_chain Γ A) (aCons (eVar 0) (aCons (eBin (orF fIx (fIxR Γ)) (eVar 1) (eUn fNeg (eC (.int 1)))) (aCons (eVar 2) aNil)))) (oSome (eC (.int 1))) oNone)))) (sRet (eBin fAdd (eVar 1) (eSl fSl (eCallF (f_chain Γ A) (aCons (eVar 0) (aCons (eBin (orF fIx (fIxR Γ)) (eVar 1) (eUn fNeg (eC (.int 1)))) (aCons (eC (.int 0)) aNil)))) (oSome (eC (.int 1))) oNone))))))
def f_ring_row (Γ : Gam) (A : Ad) : Fn := fnD 3 1 (p_ring_row Γ A)
theorem ok_ring_row (T : Tx A Γ mg w base) : FnOk P w Γ.K mg base (L2.CX P w) 11 A.a_ring_row A.fd_ring_row ["board"] (SpOf Γ (f_ring_row Γ A)) :=
  fn_ok2 (k := 10) (c := p_ring_row Γ A) T.F_ring_row sc_ring_row rfl rfl (fun cdv Ar outer s H E1 hr =>
    (cs_cons (cs_if (cw_not (c_test rfl (c_callF (ok_holds T) (hr.mono (by decide)) rfl T.m_holds T.k_holds T.b_holds (passD tk_of) (ca_cons (c_var 0) ca_nil)))) (cs_one (cs_ret c_non)) cs_nil) (cs_cons (cs_set (i := 1) sc_ring_row.nd rfl (by first | exact Or.inl rfl | exact Or.inr rfl) (c_tup (ca_cons c_int ca_nil))) (cs_cons (cs_for (passes_of rfl) rfl (g_range2 rfl T.n_range (ca_cons c_int (ca_cons (c_len rfl T.len_s T.len_f (ok_Board_len T) (hr.mono (by decide)) T.b_Board_len rfl T.n_len (ca_cons (c_var 0) ca_nil)) ca_nil))) (cg_name (i := 2) sc_ring_row.nd rfl (by first | exact Or.inl rfl | exact Or.inr rfl)) (cs_one (cs_set (i := 1) sc_ring_row.nd rfl (by first | exact Or.inl rfl | exact Or.inr rfl) (g_bin (xAdd rfl) (c_var 1) (g_sl rfl (c_callF (ok_chain T) (hr.mono (by decide)) rfl T.m_chain T.k_chain T.b_chain (passD tk_of) (ca_cons (c_var 0) (ca_cons (g_ix rfl (c_var 1) (c_neg c_int)) (ca_cons (c_var 2) ca_nil)))) (co_some (E := E0') c_int) co_none))))) (cs_one (cs_ret (g_bin (xAdd rfl) (c_var 1) (g_sl rfl (c_callF (ok_chain T) (hr.mono (by decide)) rfl T.m_chain T.k_chain T.b_chain (passD tk_of) (ca_cons (c_var 0) (ca_cons (g_ix rfl (c_var 1) (c_neg c_int)) (ca_cons c_int ca_nil)))) (co_some (E := E0') c_int) co_none))))))))
/-! ### verdict -/
theorem sc_verdict : FnScope ["board", "row"] ["board"] (defScope s_verdict) := ⟨rfl, rfl, rfl, by decide +kernel, rfl, by decide +kernel, by decide +kernel⟩
def p_verdict (Γ : Gam) (A : Ad) : CS := (sSeq (sSet 1 (eCallF (f_ring_row Γ A) (aCons (eVar 0) aNil))) (sSeq (sIf (bB (eBin (fIs false) (eVar 1) (eC .non))) (sRet (eTup (aCons (eC (.str "lot")) (aCons (eCallF (f_lifting Γ A) (aCons (eVar 0) aNil)) aNil)))) sNil) (sRet (eTup (aCons (eC (.str "ring")) (aCons (eVar 1) aNil))))))
def f_verdict (Γ : Gam) (A : Ad) : Fn := fnD 2 1 (p_verdict Γ A)
theorem ok_verdict (T : Tx A Γ mg w base) : FnOk P w Γ.K mg base (L2.CX P w) 12 A.a_verdict A.fd_verdict ["board"] (SpOf Γ (f_verdict Γ A)) :=
  fn_ok2 (k := 11) (c := p_verdict Γ A) T.F_verdict sc_verdict rfl rfl (fun cdv Ar outer s H E1 hr =>
    (cs_cons (cs_set (i := 1) sc_verdict.nd rfl (by first | exact Or.inl rfl | exact Or.inr rfl) (c_callF (ok_ring_row T) (hr.mono (by decide)) rfl T.m_ring_row T.k_ring_row T.b_ring_row (passD tk_of) (ca_cons (c_var 0) ca_nil))) (cs_cons (cs_if (g_tcmp xIs (c_var 1) c_non) (cs_one (cs_ret (c_tup (ca_cons c_str (ca_cons (c_callF (ok_lifting T) (hr.mono (by decide)) rfl T.m_lifting T.k_lifting T.b_lifting (passD tk_of) (ca_cons (c_var 0) ca_nil)) ca_nil))))) cs_nil) (cs_one (cs_ret (c_tup (ca_cons c_str (ca_cons (c_var 1) ca_nil))))))))
/-! ### _law_taken -/
theorem sc_law_taken : FnScope ["_law_row", "_law_many_here", "_law_cell", "_law_found"] ["_law_row", "_law_many_here"] (defScope s_law_taken) := ⟨rfl, rfl, rfl, by decide +kernel, rfl, by decide +kernel, by decide +kernel⟩
def p_law_taken (Γ : Gam) (A : Ad) : CS := (sSeq (sIf (bB (eBin fGt (eRow 0 3) (eC (.int 0)))) (sSeq (sSet 3 (eBin fMod (eCall fInt (aCons (eRow 0 3) aNil)) (eVar 1))) (sSeq (sRow 0 3 (eBin fDiv (eRow 0 3) (eVar 1))) (sRetV 3))) sNil) (sSeq (sRow 0 1 (eBin fAdd (eRow 0 1) (eC (.int 1)))) (sSeq (sIf (bB (eBin fGt (eRow 0 1) (eLenX Γ 0 (f_Board_len Γ A) (aCons (eRow 0 0) aNil)))) (sSeq (sRow 0 2 (eBin fMod (eCall fInt (aCons (eBin fAdd (eBin fMul (eRow 0 2) (eC (.int 48271))) (eC (.int 11))) aNil)) (eC (.int 2147483647)))) (sRet (eBin fMod (eCall fInt (aCons (eBin fDiv (eRow 0 2) (eC (.int 7))) aNil)) (eVar 1)))) sNil) (sSeq (sSet 2 (eBin (orF fIx (fIxR Γ)) (eRow 0 0) (eBin fSub (eRow 0 1) (eC (.int 1))))) (sSeq (sRow 0 2 (eBin fMod (eCall fInt (aCons (eBin fAdd (eBin fAdd (eBin fMul (eRow 0 2) (eC (.int 48271))) (eVar 2)) (eC (.int 11))) aNil)) (eC (.int 2147483647)))) (sSeq (sIf (bB (eBin fGe (eVar 2) (eBin fPow (eC (.int 10)) (eC (.int 18))))) (sRow 0 3 (eBin fDiv (eVar 2) (eVar 1))) sNil) (sRet (eBin fMod (eCall fInt (aCons (eVar 2) aNil)) (eVar 1)))))))))
def f_law_taken (Γ : Gam) (A : Ad) : Fn := fnD 4 2 (p_law_taken Γ A)
theorem ok_law_taken (T : Tx A Γ mg w base) : FnOk P w Γ.K mg base (L2.CX P w) 3 A.a_law_taken A.fd_law_taken ["_law_row", "_law_many_here"] (SpOf Γ (f_law_taken Γ A)) :=
  fn_ok2 (k := 2) (c := p_law_taken Γ A) T.F_law_taken sc_law_taken rfl rfl (fun cdv Ar outer s H E1 hr =>
    (cs_cons (cs_if (g_tcmp xGt (c_row 0 3) c_int) (cs_cons (cs_set (i := 3) sc_law_taken.nd rfl (by first | exact Or.inl rfl | exact Or.inr rfl) (g_bin xMod (g_callTy oInt rfl T.n_int rfl (ca_cons (c_row 0 3) ca_nil)) (c_var 1))) (cs_cons (cs_row 0 3 rfl (by first | exact Or.inl rfl | exact Or.inr (Or.inl rfl) | exact Or.inr (Or.inr rfl)) (g_bin xDiv (c_row 0 3) (c_var 1))) (cs_one (cs_retV (i := 3) rfl (by first | exact Or.inl rfl | exact Or.inr (Or.inl rfl) | exact Or.inr (Or.inr rfl)))))) cs_nil) (cs_cons (cs_row 0 1 rfl (by first | exact Or.inl rfl | exact Or.inr (Or.inl rfl) | exact Or.inr (Or.inr rfl)) (g_bin (xAdd rfl) (c_row 0 1) c_int)) (cs_cons (cs_if (g_tcmp xGt (c_row 0 1) (c_len rfl T.len_s T.len_f (ok_Board_len T) (hr.mono (by decide)) T.b_Board_len rfl T.n_len (ca_cons (c_row 0 0) ca_nil))) (cs_cons (cs_row 0 2 rfl (by first | exact Or.inl rfl | exact Or.inr (Or.inl rfl) | exact Or.inr (Or.inr rfl)) (g_bin xMod (g_callTy oInt rfl T.n_int rfl (ca_cons (g_bin (xAdd rfl) (g_bin (xMul rfl) (c_row 0 2) c_int) c_int) ca_nil)) c_int)) (cs_one (cs_ret (g_bin xMod (g_callTy oInt rfl T.n_int rfl (ca_cons (g_bin xDiv (c_row 0 2) c_int) ca_nil)) (c_var 1))))) cs_nil) (cs_cons (cs_set (i := 2) sc_law_taken.nd rfl (by first | exact Or.inl rfl | exact Or.inr rfl) (g_ix rfl (c_row 0 0) (g_bin xSub (c_row 0 1) c_int))) (cs_cons (cs_row 0 2 rfl (by first | exact Or.inl rfl | exact Or.inr (Or.inl rfl) | exact Or.inr (Or.inr rfl)) (g_bin xMod (g_callTy oInt rfl T.n_int rfl (ca_cons (g_bin (xAdd rfl) (g_bin (xAdd rfl) (g_bin (xMul rfl) (c_row 0 2) c_int) (c_var 2)) c_int) ca_nil)) c_int)) (cs_cons (cs_if (g_tcmp xGe (c_var 2) (g_bin xPow c_int c_int)) (cs_one (cs_row 0 3 rfl (by first | exact Or.inl rfl | exact Or.inr (Or.inl rfl) | exact Or.inr (Or.inr rfl)) (g_bin xDiv (c_var 2) (c_var 1)))) cs_nil) (cs_one (cs_ret (g_bin xMod (g_callTy oInt rfl T.n_int rfl (ca_cons (c_var 2) ca_nil)) (c_var 1)))))))))))
/-! ### _law_cells -/
theorem sc_law_cells : FnScope ["_law_row", "_law_most", "_law_some", "_law_lines", "_law_at", "_law_rows", "_law_columns", "_law_place"] ["_law_row", "_law_most"] (defScope s_law_cells) := ⟨rfl, rfl, rfl, by decide +kernel, rfl, by decide +kernel, by decide +kernel⟩
def p_law_cells (Γ : Gam) (A : Ad) : CS := (sSeq (sSet 2 (eBin (orF fIx (fIxR Γ)) (eLst (aCons (eC (.str ".<>x")) (aCons (eC (.str "....<>x")) (aCons (eC (.str "<>")) (aCons (eC (.str "<>x")) (aCons (eC (.str ".x")) (aCons (eC (.str ">>>>>><")) (aCons (eC (.str ".....<>")) (aCons (eC (.str ".")) (aCons (eC (.str "x")) (aCons (eC (.str ">")) aNil))))))))))) (eCallF (f_law_taken Γ A) (aCons (eVar 0) (aCons (eC (.int 10)) aNil))))) (sSeq (sPar 5 6 (aCons (eBin fAdd (eC (.int 1)) (eCallF (f_law_taken Γ A) (aCons (eVar 0) (aCons (eVar 1) aNil)))) (aCons (eBin fAdd (eC (.int 1)) (eCallF (f_law_taken Γ A) (aCons (eVar 0) (aCons (eVar 1) aNil)))) aNil))) (sSeq (sSet 3 (eLst aNil)) (sSeq (sFor (gN 4) (iRg1 (aCons (eVar 5) aNil)) (sApp 3 (eJoin (eC (.str "")) (eLc (iRg1 (aCons (eVar 6) aNil)) (gN 7) bYes (eBin (orF fIx (fIxR Γ)) (eVar 2) (eCallF (f_law_taken Γ A) (aCons (eVar 0) (aCons (eLenX Γ 0 (f_Board_len Γ A) (aCons (eVar 2) aNil)) aNil)))) [7])))) (sSeq (sIf (bB (eBin fEq (eCallF (f_law_taken Γ A) (aCons (eVar 0) (aCons (eC (.int 3)) aNil))) (eC (.int 0)))) (sSeq (sPar 4 7 (aCons (eCallF (f_law_taken Γ A) (aCons (eVar 0) (aCons (eVar 5) aNil))) (aCons (eCallF (f_law_taken Γ A) (aCons (eVar 0) (aCons (eVar 6) aNil))) aNil))) (sLput 3 (eVar 4) (eBin fAdd (eBin fAdd (eSl fSl (eBin (orF fIx (fIxR Γ)) (eVar 3) (eVar 4)) oNone (oSome (eVar 7))) (eBin (orF fIx (fIxR Γ)) (eC (.str ".<>x")) (eCallF (f_law_taken Γ A) (aCons (eVar 0) (aCons (eC (.int 4)) aNil))))) (eSl fSl (eBin (orF fIx (fIxR Γ)) (eVar 3) (eVar 4)) (oSome (eBin fAdd (eVar 7) (eC (.int 1)))) oNone)))) sNil) (sRet (eCall fTuple (aCons (eVar 3) aNil))))))))
def f_law_cells (Γ : Gam) (A : Ad) : Fn := fnD 8 2 (p_law_cells Γ A)
theorem ok_law_cells (T : Tx A Γ mg w base) : FnOk P w Γ.K mg base (L2.CX P w) 4 A.a_law_cells A.fd_law_cells ["_law_row", "_law_most"] (SpOf Γ (f_law_cells Γ A)) :=
  fn_ok2 (k := 3) (c := p_law_cells Γ A) T.F_law_cells sc_law_cells rfl rfl (fun cdv Ar outer s H E1 hr =>
    (cs_cons (cs_set (i := 2) sc_law_cells.nd rfl (by first | exact Or.inl rfl | exact Or.inr rfl) (g_ix rfl (c_lst (ca_cons c_str (ca_cons c_str (ca_cons c_str (ca_cons c_str (ca_cons c_str (ca_cons c_str (ca_cons c_str (ca_cons c_str (ca_cons c_str (ca_cons c_str ca_nil))))))))))) (c_callF (ok_law_taken T) (hr.mono (by decide)) rfl T.m_law_taken T.k_law_taken T.b_law_taken (passD tk_of) (ca_cons (c_var 0) (ca_cons c_int ca_nil))))) (cs_cons (cs_par (i := 5) (j := 6) rfl sc_law_cells.nd rfl rfl (by decide) rfl rfl (ca_cons (g_bin (xAdd rfl) c_int (c_callF (ok_law_taken T) (hr.mono (by decide)) rfl T.m_law_taken T.k_law_taken T.b_law_taken (passD tk_of) (ca_cons (c_var 0) (ca_cons (c_var 1) ca_nil)))) (ca_cons (g_bin (xAdd rfl) c_int (c_callF (ok_law_taken T) (hr.mono (by decide)) rfl T.m_law_taken T.k_law_taken T.b_law_taken (passD tk_of) (ca_cons (c_var 0) (ca_cons (c_var 1) ca_nil)))) ca_nil)) rfl) (cs_cons (cs_set (i := 3) sc_law_cells.nd rfl (by first | exact Or.inl rfl | exact Or.inr rfl) (c_lst ca_nil)) (cs_cons (cs_for (passes_of rfl) rfl (g_range1 rfl T.n_range (ca_cons (c_var 5) ca_nil)) (cg_name (i := 4) sc_law_cells.nd rfl (by first | exact Or.inl rfl | exact Or.inr rfl)) (cs_one (cs_app (i := 3) rfl rfl (by first | exact Or.inl rfl | exact Or.inr (Or.inl rfl) | exact Or.inr (Or.inr rfl)) (c_join rfl c_str (c_lc (own := [("_law_place", 7)]) rfl sc_law_cells.nd (g_range1 rfl T.n_range (ca_cons (c_var 6) ca_nil)) (blkOk_by (N := ["_law_row", "_law_most", "_law_some", "_law_lines", "_law_at", "_law_rows", "_law_columns", "_law_place"]) (sc := defScope s_law_cells) (by decide +kernel)) (fun _ _ _ _ _ => (cg_name (i := 7) sc_law_cells.nd rfl (by first | exact Or.inl rfl | exact Or.inr rfl))) (fun _ _ _ _ _ => (g_ix rfl (c_var 2) (c_callF (ok_law_taken T) (hr.mono (by decide)) rfl T.m_law_taken T.k_law_taken T.b_law_taken passB (ca_cons (c_var 0) (ca_cons (c_len rfl T.len_s T.len_f (ok_Board_len T) (hr.mono (by decide)) T.b_Board_len rfl T.n_len (ca_cons (c_var 2) ca_nil)) ca_nil)))))))))) (cs_cons (cs_if (g_tcmp (xEq rfl hr) (c_callF (ok_law_taken T) (hr.mono (by decide)) rfl T.m_law_taken T.k_law_taken T.b_law_taken (passD tk_of) (ca_cons (c_var 0) (ca_cons c_int ca_nil))) c_int) (cs_cons (cs_par (i := 4) (j := 7) rfl sc_law_cells.nd rfl rfl (by decide) rfl rfl (ca_cons (c_callF (ok_law_taken T) (hr.mono (by decide)) rfl T.m_law_taken T.k_law_taken T.b_law_taken (passD tk_of) (ca_cons (c_var 0) (ca_cons (c_var 5) ca_nil))) (ca_cons (c_callF (ok_law_taken T) (hr.mono (by decide)) rfl T.m_law_taken T.k_law_taken T.b_law_taken (passD tk_of) (ca_cons (c_var 0) (ca_cons (c_var 6) ca_nil))) ca_nil)) rfl) (cs_one (cs_lput (i := 3) rfl (by first | exact Or.inl rfl | exact Or.inr (Or.inl rfl) | exact Or.inr (Or.inr rfl)) (c_var 4) (g_bin (xAdd rfl) (g_bin (xAdd rfl) (g_sl rfl (g_ix rfl (c_var 3) (c_var 4)) co_none (co_some (E := E0') (c_var 7))) (g_ix rfl c_str (c_callF (ok_law_taken T) (hr.mono (by decide)) rfl T.m_law_taken T.k_law_taken T.b_law_taken (passD tk_of) (ca_cons (c_var 0) (ca_cons c_int ca_nil))))) (g_sl rfl (g_ix rfl (c_var 3) (c_var 4)) (co_some (E := E0') (g_bin (xAdd rfl) (c_var 7) c_int)) co_none))))) cs_nil) (cs_one (cs_ret (g_callTy (oTuple rfl) rfl T.n_tuple rfl (ca_cons (c_var 3) ca_nil))))))))))
/-! ### _law_many -/
theorem sc_law_many : FnScope ["_law_cells_here"] ["_law_cells_here"] (defScope s_law_many) := ⟨rfl, rfl, rfl, by decide +kernel, rfl, by decide +kernel, by decide +kernel⟩
def p_law_many (Γ : Gam) (A : Ad) : CS := (sRet (eBin fAdd (eLenX Γ 0 (f_Board_len Γ A) (aCons (eVar 0) aNil)) (eLenX Γ 0 (f_Board_len Γ A) (aCons (eBin (orF fIx (fIxR Γ)) (eVar 0) (eC (.int 0))) aNil))))
def f_law_many (Γ : Gam) (A : Ad) : Fn := fnD 1 1 (p_law_many Γ A)
theorem ok_law_many (T : Tx A Γ mg w base) : FnOk P w Γ.K mg base (L2.CX P w) 3 A.a_law_many A.fd_law_many ["_law_cells_here"] (SpOf Γ (f_law_many Γ A)) :=
  fn_ok2 (k := 2) (c := p_law_many Γ A) T.F_law_many sc_law_many rfl rfl (fun cdv Ar outer s H E1 hr =>
    (cs_one (cs_ret (g_bin (xAdd rfl) (c_len rfl T.len_s T.len_f (ok_Board_len T) (hr.mono (by decide)) T.b_Board_len rfl T.n_len (ca_cons (c_var 0) ca_nil)) (c_len rfl T.len_s T.len_f (ok_Board_len T) (hr.mono (by decide)) T.b_Board_len rfl T.n_len (ca_cons (g_ix rfl (c_var 0) c_int) ca_nil))))))
/-! ### _law_odd_cells -/
theorem sc_law_odd_cells : FnScope ["_law_row", "_law_cells_here", "_law_odd"] ["_law_row", "_law_cells_here"] (defScope s_law_odd_cells) := ⟨rfl, rfl, rfl, by decide +kernel, rfl, by decide +kernel, by decide +kernel⟩
def p_law_odd_cells (Γ : Gam) (A : Ad) : CS := (sSeq (sSet 2 (eLst (aCons (eC .non) (aCons (eTup aNil) (aCons (eCall fLists (aCons (eVar 1) aNil)) (aCons (eBin (orF fIx (fIxR Γ)) (eVar 1) (eC (.int 0))) (aCons (eDnew false) (aCons (eTup aNil) (aCons (eBin fAdd (eVar 1) (eTup (aCons (eBin fAdd (eBin (orF fIx (fIxR Γ)) (eVar 1) (eC (.int 0))) (eC (.str "."))) aNil))) (aCons (eBin fAdd (eTup (aCons (eBin fAdd (eBin (orF fIx (fIxR Γ)) (eVar 1) (eC (.int 0))) (eC (.str "<"))) aNil)) (eVar 1)) aNil)))))))))) (sSeq (sAddO 2 (eLst (aCons (eTup (aCons (eC (.str "")) aNil)) (aCons (eTup (aCons (eC (.str ".....x")) aNil)) (aCons (eBin fMul (eTup (aCons (eC (.str ".")) aNil)) (eC (.int 6))) (aCons (eTup (aCons (eTup (aCons (eC (.str "<")) aNil)) aNil)) (aCons (eTup (aCons (eC (.int 1)) aNil)) (aCons (eTup (aCons (eC (.str "<")) (aCons (eC .non) aNil))) (aCons (eTup (aCons (eC (.str "-")) aNil)) (aCons (eTup (aCons (eC (.str "X")) aNil)) (aCons (eTup (aCons (eC (.str " ")) aNil)) (aCons (eTup (aCons (eC (.bl true)) aNil)) aNil)))))))))))) (sSeq (sApp 2 (eBin fAdd (eTup (aCons (eBin fAdd (eSl fSl (eBin (orF fIx (fIxR Γ)) (eVar 1) (eC (.int 0))) oNone (oSome (eUn fNeg (eC (.int 1))))) (eC (.str "o"))) aNil)) (eSl fSl (eVar 1) (oSome (eC (.int 1))) oNone))) (sRet (eBin (orF fIx (fIxR Γ)) (eVar 2) (eCallF (f_law_taken Γ A) (aCons (eVar 0) (aCons (eLenX Γ 0 (f_Board_len Γ A) (aCons (eVar 2) aNil)) aNil))))))))
def f_law_odd_cells (Γ : Gam) (A : Ad) : Fn := fnD 3 2 (p_law_odd_cells Γ A)
theorem ok_law_odd_cells (T : Tx A Γ mg w base) : FnOk P w Γ.K mg base (L2.CX P w) 4 A.a_law_odd_cells A.fd_law_odd_cells ["_law_row", "_law_cells_here"] (SpOf Γ (f_law_odd_cells Γ A)) :=
  fn_ok2 (k := 3) (c := p_law_odd_cells Γ A) T.F_law_odd_cells sc_law_odd_cells rfl rfl (fun cdv Ar outer s H E1 hr =>
    (cs_cons (cs_set (i := 2) sc_law_odd_cells.nd rfl (by first | exact Or.inl rfl | exact Or.inr rfl) (c_lst (ca_cons c_non (ca_cons (c_tup ca_nil) (ca_cons (g_callTy (xList rfl rfl) rfl T.n_list rfl (ca_cons (c_var 1) ca_nil)) (ca_cons (g_ix rfl (c_var 1) c_int) (ca_cons (c_dnew false) (ca_cons (c_tup ca_nil) (ca_cons (g_bin (xAdd rfl) (c_var 1) (c_tup (ca_cons (g_bin (xAdd rfl) (g_ix rfl (c_var 1) c_int) c_str) ca_nil))) (ca_cons (g_bin (xAdd rfl) (c_tup (ca_cons (g_bin (xAdd rfl) (g_ix rfl (c_var 1) c_int) c_str) ca_nil)) (c_var 1)) ca_nil)))))))))) (cs_cons (cs_addO (i := 2) sc_law_odd_cells.nd rfl (by first | exact Or.inl rfl | exact Or.inr rfl) (by first | exact Or.inl rfl | exact Or.inr (Or.inl rfl) | exact Or.inr (Or.inr rfl)) (c_lst (ca_cons (c_tup (ca_cons c_str ca_nil)) (ca_cons (c_tup (ca_cons c_str ca_nil)) (ca_cons (g_bin (xMul rfl) (c_tup (ca_cons c_str ca_nil)) c_int) (ca_cons (c_tup (ca_cons (c_tup (ca_cons c_str ca_nil)) ca_nil)) (ca_cons (c_tup (ca_cons c_int ca_nil)) (ca_cons (c_tup (ca_cons c_str (ca_cons c_non ca_nil))) (ca_cons (c_tup (ca_cons c_str ca_nil)) (ca_cons (c_tup (ca_cons c_str ca_nil)) (ca_cons (c_tup (ca_cons c_str ca_nil)) (ca_cons (c_tup (ca_cons c_bl ca_nil)) ca_nil))))))))))) rfl) (cs_cons (cs_app (i := 2) rfl rfl (by first | exact Or.inl rfl | exact Or.inr (Or.inl rfl) | exact Or.inr (Or.inr rfl)) (g_bin (xAdd rfl) (c_tup (ca_cons (g_bin (xAdd rfl) (g_sl rfl (g_ix rfl (c_var 1) c_int) co_none (co_some (E := E0') (c_neg c_int))) c_str) ca_nil)) (g_sl rfl (c_var 1) (co_some (E := E0') c_int) co_none))) (cs_one (cs_ret (g_ix rfl (c_var 2) (c_callF (ok_law_taken T) (hr.mono (by decide)) rfl T.m_law_taken T.k_law_taken T.b_law_taken (passD tk_of) (ca_cons (c_var 0) (ca_cons (c_len rfl T.len_s T.len_f (ok_Board_len T) (hr.mono (by decide)) T.b_Board_len rfl T.n_len (ca_cons (c_var 2) ca_nil)) ca_nil))))))))))
/-! ### _law_error -/
theorem sc_law_error : FnScope ["_law_work", "_law_found", "e", "_law_kinds", "_law_words"] ["_law_work"] (defScope s_law_error) := ⟨rfl, rfl, rfl, by decide +kernel, rfl, by decide +kernel, by decide +kernel⟩
def excS (st : Stmt) : List Stmt := match defBody st with | [_, .Try _ [.ExceptHandler _ _ s _] _ _ _, _] => s | _ => []
def p_errS (Γ : Gam) (i : Nat) (ad : Addr) : CS := (sSeq (sSet 3 (eLst (aCons (eCall (fIsE ad (isE i)) (aCons (eVar 2) (aCons (eC (.cls 2)) aNil))) (aCons (eCall (fIsE ad (isE i)) (aCons (eVar 2) (aCons (eC (.cls 3)) aNil))) (aCons (eCall (fIsE ad (isE i)) (aCons (eVar 2) (aCons (eC (.cls 4)) aNil))) aNil))))) (sSeq (sSet 3 (eBin fAdd (eVar 3) (eLst (aCons (eCall (fIsE ad (isE i)) (aCons (eVar 2) (aCons (eC (.cls 5)) aNil))) (aCons (eCall (fIsE ad (isE i)) (aCons (eVar 2) (aCons (eC (.cls 6)) aNil))) (aCons (eCall (fIsE ad (isE i)) (aCons (eVar 2) (aCons (eC (.cls 7)) aNil))) aNil)))))) (sSeq (sSet 3 (eBin fAdd (eVar 3) (eLst (aCons (eCall (fIsE ad (isE i)) (aCons (eVar 2) (aCons (eC (.cls 8)) aNil))) (aCons (eCall (fIsE ad (isE i)) (aCons (eVar 2) (aCons (eC (.cls 9)) aNil))) (aCons (eCall (fIsE ad (isE i)) (aCons (eVar 2) (aCons (eC (.cls 10)) aNil))) aNil)))))) (sSeq (sSet 3 (eBin fAdd (eVar 3) (eLst (aCons (eCall (fIsE ad (isE i)) (aCons (eVar 2) (aCons (eC (.cls 11)) aNil))) (aCons (eCall (fIsE ad (isE i)) (aCons (eVar 2) (aCons (eC (.cls 12)) aNil))) (aCons (eCall (fIsE ad (isE i)) (aCons (eVar 2) (aCons (eC (.cls 14)) aNil))) aNil)))))) (sSeq (sApp 3 (eCall (fIsE ad (isE i)) (aCons (eVar 2) (aCons (eC (.cls 13)) aNil)))) (sSeq (sSet 4 (eLst (aCons (eC (.str "board")) (aCons (eC (.str "cells")) (aCons (eC (.str "row")) (aCons (eC (.str "column")) (aCons (eC (.str "sign")) (aCons (eC (.str "thread")) (aCons (eC (.str "lot")) (aCons (eC (.str "closed")) (aCons (eC (.str "lifting")) aNil))))))))))) (sSeq (sSet 4 (eBin fAdd (eVar 4) (eLst (aCons (eC (.str "load")) (aCons (eC (.str "strengths")) (aCons (eC (.str "many")) (aCons (eC (.str "prices")) aNil))))))) (sSeq (sSet 1 (eC (.str "other"))) (sIf (bAnd (bB (eBin fEq (eLM fCnt (eVar 3) (eC (.bl true))) (eC (.int 1)))) (bE (eCall (fIsE ad (isE i)) (aCons (eVar 2) (aCons (eC (.ty "ValueError")) aNil))))) (sSet 1 (eBin (orF fIx (fIxR Γ)) (eVar 4) (eLM fIdx (eVar 3) (eC (.bl true))))) sNil)))))))))
theorem ok_errS (T : Tx A Γ mg w base) {i : Nat} (hA : Ask Γ i (isE i)) {k : Nat} {gd : Addr} {cdg : Value} {Ar : Around} {outer : List Env} {s : Shared} {H : Hp} (hr : Room k (Ar.deeper (envOfC "_law_error" (defScope s_law_error) s.heap.objs.size gd cdg))) (ad : Addr) (oe : Obj) (pn : List (Addr × Obj)) (hz : Zc (.ref (Γ.cls i)) none oe) (hf : ∃ vs, oe.data = .fields vs) :
    PSs ((cxOf C8.CX0 P w Γ.K mg base ["_law_work", "_law_found", "e", "_law_kinds", "_law_words"] "_law_error" (defScope s_law_error) gd cdg Ar outer s H C8.E0).nox.suite ad ((ad, oe) :: pn)) (excS s_law_error) (TSt Γ (fun _ => L2.E0) (p_errS Γ i ad)) := by
  have hu : ((cxOf C8.CX0 P w Γ.K mg base ["_law_work", "_law_found", "e", "_law_kinds", "_law_words"] "_law_error" (defScope s_law_error) gd cdg Ar outer s H C8.E0).nox.suite ad ((ad, oe) :: pn)).A.units + 65 < cLine := by have := hr.un; exact (show (Ar.deeper (envOfC "_law_error" (defScope s_law_error) s.heap.objs.size gd cdg)).units + 65 < cLine by omega)
  exact (cs_cons (cs_set (i := 3) sc_law_error.nd rfl (by first | exact Or.inl rfl | exact Or.inr rfl) (c_lst (ca_cons (g_callB (oIsE rfl hA hz hf) rfl T.n_isinstance rfl (ca_cons (c_var 2) (ca_cons (g_globC rfl T.m_BadBoard) ca_nil))) (ca_cons (g_callB (oIsE rfl hA hz hf) rfl T.n_isinstance rfl (ca_cons (c_var 2) (ca_cons (g_globC rfl T.m_BadCells) ca_nil))) (ca_cons (g_callB (oIsE rfl hA hz hf) rfl T.n_isinstance rfl (ca_cons (c_var 2) (ca_cons (g_globC rfl T.m_BadRow) ca_nil))) ca_nil))))) (cs_cons (cs_set (i := 3) sc_law_error.nd rfl (by first | exact Or.inl rfl | exact Or.inr rfl) (g_bin (xAdd rfl) (c_var 3) (c_lst (ca_cons (g_callB (oIsE rfl hA hz hf) rfl T.n_isinstance rfl (ca_cons (c_var 2) (ca_cons (g_globC rfl T.m_BadColumn) ca_nil))) (ca_cons (g_callB (oIsE rfl hA hz hf) rfl T.n_isinstance rfl (ca_cons (c_var 2) (ca_cons (g_globC rfl T.m_BadSign) ca_nil))) (ca_cons (g_callB (oIsE rfl hA hz hf) rfl T.n_isinstance rfl (ca_cons (c_var 2) (ca_cons (g_globC rfl T.m_BadThread) ca_nil))) ca_nil)))))) (cs_cons (cs_set (i := 3) sc_law_error.nd rfl (by first | exact Or.inl rfl | exact Or.inr rfl) (g_bin (xAdd rfl) (c_var 3) (c_lst (ca_cons (g_callB (oIsE rfl hA hz hf) rfl T.n_isinstance rfl (ca_cons (c_var 2) (ca_cons (g_globC rfl T.m_BadLot) ca_nil))) (ca_cons (g_callB (oIsE rfl hA hz hf) rfl T.n_isinstance rfl (ca_cons (c_var 2) (ca_cons (g_globC rfl T.m_NotClosed) ca_nil))) (ca_cons (g_callB (oIsE rfl hA hz hf) rfl T.n_isinstance rfl (ca_cons (c_var 2) (ca_cons (g_globC rfl T.m_NotLifting) ca_nil))) ca_nil)))))) (cs_cons (cs_set (i := 3) sc_law_error.nd rfl (by first | exact Or.inl rfl | exact Or.inr rfl) (g_bin (xAdd rfl) (c_var 3) (c_lst (ca_cons (g_callB (oIsE rfl hA hz hf) rfl T.n_isinstance rfl (ca_cons (c_var 2) (ca_cons (g_globC rfl T.m_BadLoad) ca_nil))) (ca_cons (g_callB (oIsE rfl hA hz hf) rfl T.n_isinstance rfl (ca_cons (c_var 2) (ca_cons (g_globC rfl T.m_BadStrengths) ca_nil))) (ca_cons (g_callB (oIsE rfl hA hz hf) rfl T.n_isinstance rfl (ca_cons (c_var 2) (ca_cons (g_globC rfl T.m_TooMany) ca_nil))) ca_nil)))))) (cs_cons (cs_app (i := 3) rfl rfl (by first | exact Or.inl rfl | exact Or.inr (Or.inl rfl) | exact Or.inr (Or.inr rfl)) (g_callB (oIsE rfl hA hz hf) rfl T.n_isinstance rfl (ca_cons (c_var 2) (ca_cons (g_globC rfl T.m_BadPrices) ca_nil)))) (cs_cons (cs_set (i := 4) sc_law_error.nd rfl (by first | exact Or.inl rfl | exact Or.inr rfl) (c_lst (ca_cons c_str (ca_cons c_str (ca_cons c_str (ca_cons c_str (ca_cons c_str (ca_cons c_str (ca_cons c_str (ca_cons c_str (ca_cons c_str ca_nil))))))))))) (cs_cons (cs_set (i := 4) sc_law_error.nd rfl (by first | exact Or.inl rfl | exact Or.inr rfl) (g_bin (xAdd rfl) (c_var 4) (c_lst (ca_cons c_str (ca_cons c_str (ca_cons c_str (ca_cons c_str ca_nil))))))) (cs_cons (cs_set (i := 1) sc_law_error.nd rfl (by first | exact Or.inl rfl | exact Or.inr rfl) c_str) (cs_one (cs_if (PW.pt (cw_and (g_tcmp (xEqU rfl hu) (c_lcnt rfl hu (c_var 3) c_bl) c_int) (cw_and1 (c_test rfl (g_callB (oIsE rfl hA hz hf) rfl T.n_isinstance rfl (ca_cons (c_var 2) (ca_cons (g_ty rfl T.n_ValueError rfl) ca_nil))))))) (cs_one (cs_set (i := 1) sc_law_error.nd rfl (by first | exact Or.inl rfl | exact Or.inr rfl) (g_ix rfl (c_var 4) (c_lidx rfl hu (c_var 3) c_bl)))) cs_nil))))))))))
theorem run_errS {ρ : WF.Row} (ad : Addr) : ∀ i wd, wordsE i = some wd → ∃ w1 d1 d2, p_errS Γ i ad (dErr ad) ρ = .nx [none, some (w1, .str wd), some (false, .ptr ad), d1, d2] ρ := by
  intro i wd h
  unfold wordsE at h
  split at h
  · cases h
    unfold p_errS
    simp [sSeq, sSet, eLst, aCons, aNil, eCall, fIsE, isE, pairsE, eVar, eC, put, imm, immAll, eBin, fAdd, orF, fAddI, sApp, sIf, bAnd, bB, bE, eLM, fCnt, fIdx, fEq, sNil, List.lookup, List.lookup_cons, pyAll, py, PyData.plainAll, PyData.plain, PyData.depthAll, PyData.depth, SeqAt.shaped, PyData.canLay0, PyData.canLayAll0, idxOf, PyData.eqv, fIx, fIxR, fIxS, atI, ixN, fI, fAddS, fAddT, fAddL, freeze, truth]
  · cases h
    unfold p_errS
    simp [sSeq, sSet, eLst, aCons, aNil, eCall, fIsE, isE, pairsE, eVar, eC, put, imm, immAll, eBin, fAdd, orF, fAddI, sApp, sIf, bAnd, bB, bE, eLM, fCnt, fIdx, fEq, sNil, List.lookup, List.lookup_cons, pyAll, py, PyData.plainAll, PyData.plain, PyData.depthAll, PyData.depth, SeqAt.shaped, PyData.canLay0, PyData.canLayAll0, idxOf, PyData.eqv, fIx, fIxR, fIxS, atI, ixN, fI, fAddS, fAddT, fAddL, freeze, truth]
  · cases h
theorem asks (T : Tx A Γ mg w base) : ∀ i wd, wordsE i = some wd → Ask Γ i (isE i) ∧ PySem.W.exmOne Γ.K (.ref (Γ.cls i)) (.ref (Γ.cls 1)) = some true := by
  intro i wd h
  unfold wordsE at h
  split at h
  · exact ⟨T.y_BadCells, T.z_BadCells⟩
  · exact ⟨T.y_BadBoard, T.z_BadBoard⟩
  · cases h
theorem ok_err (T : Tx A Γ mg w base) {X : Cx} (hK : X.K = Γ.K) (hM : X.mg = mg) (hW : X.w = w) (hB : X.base = base) {k : Nat} {gd : Addr} {cdg : Value} {qu : Str} : GivesR k X ["_law_work", "_law_found", "e", "_law_kinds", "_law_words"] "_law_error" (defScope s_law_error) gd cdg (defBody s_law_error) "_law_work" qu (TTw Γ wordsE) := by
  obtain ⟨prog, xw, K, mg', xbase, xA, xN, s0, H0, env, outer, stack, ex, fn, calm, pn, xe⟩ := X
  cases hK; cases hM; cases hW; cases hB
  refine err_gives (Γ := Γ) (words := wordsE) (cS := p_errS Γ) (CW := Γ.cls 1) (by decide) (Or.inl rfl) (Or.inl rfl) rfl rfl T.m_WovenError (by decide) (by decide) (by decide) (fun i wd h => (asks T i wd h).2) (fun s H i wd hw room ad oe pn hz hf => ?_) (fun i wd ad ρ h => run_errS ad i wd h)
  exact ok_errS T (asks T i wd hw).1 room ad oe pn hz hf
end
end K00

/-! ## N1 -/
namespace K00
open PySem PySem.Spec PyProof.Rows L2 WF
variable {A : Ad} {Γ : Gam}
theorem atI_nat' {α : Type} {xs : List α} {k : Int} (h0 : 0 ≤ k) (h : k < xs.length) : atI xs k = xs[k.toNat]? := by
  unfold atI ixN
  rw [if_pos h0, if_pos (by omega)]
  rfl
theorem atI_ok {α : Type} {xs : List α} {k : Int} (h0 : 0 ≤ k) (h : k < xs.length) : ∃ v, atI xs k = some v := by
  rw [atI_nat' h0 h]
  exact ⟨_, List.getElem?_eq_getElem (by omega)⟩
theorem taken {ρ : WF.Row} {n : Int} (hi : 0 ≤ ρ.i) (hn : 1 ≤ n) (hn2 : n < 1073741824) : ∃ v ρ1, f_law_taken Γ A [.row, .int n] ρ = .ok (.int v) true ρ1 ∧ 0 ≤ v ∧ v < n ∧ 0 ≤ ρ1.i := by
  have h0 : 0 < n := by omega
  have hm : ∀ z : Int, 0 ≤ z % n ∧ z % n < n := fun z => ⟨Int.emod_nonneg _ (by omega), Int.emod_lt_of_pos _ h0⟩
  unfold f_law_taken fnD fnOfS p_law_taken
  by_cases hq : 0 < ρ.q
  · refine ⟨ρ.q % n, ⟨ρ.i, ρ.s, ρ.q / n⟩, ?_, (hm _).1, (hm _).2, hi⟩
    simp [startD, sSeq, sIf, bB, eBin, eRow, rowAt, eC, fGt, fI, sSet, eCall, fInt, eVar, put, imm, fMod, fDiv, fIc, sRow, rowSet, sRetV, sNil, sRet, aCons, aNil, hq, h0, hn2]
  · by_cases hl : (Γ.ns.length : Int) < ρ.i + 1
    · refine ⟨((ρ.s * 48271 + 11) % 2147483647 / 7) % n, ⟨ρ.i + 1, (ρ.s * 48271 + 11) % 2147483647, ρ.q⟩, ?_, (hm _).1, (hm _).2, by show 0 ≤ ρ.i + 1; omega⟩
      simp [startD, sSeq, sIf, bB, eBin, eRow, rowAt, eC, fGt, fI, sSet, eCall, fInt, eVar, put, imm, fMod, fDiv, fIc, sRow, rowSet, sRetV, sNil, sRet, aCons, aNil, hq, h0, hn2, fAdd, orF, fAddI, eLenX, fLen, hl, fMul, fMulI]
    · obtain ⟨z, hz⟩ := atI_ok (xs := Γ.ns) (k := ρ.i) hi (by omega)
      have e1 : ρ.i + 1 - 1 = ρ.i := by omega
      by_cases hg : 1000000000000000000 ≤ z
      · refine ⟨z % n, ⟨ρ.i + 1, (ρ.s * 48271 + z + 11) % 2147483647, z / n⟩, ?_, (hm _).1, (hm _).2, by show 0 ≤ ρ.i + 1; omega⟩
        simp [startD, sSeq, sIf, bB, eBin, eRow, rowAt, eC, fGt, fI, sSet, eCall, fInt, eVar, put, imm, fMod, fDiv, fIc, sRow, rowSet, sRetV, sNil, sRet, aCons, aNil, hq, h0, hn2, fAdd, orF, fAddI, eLenX, fLen, hl, fMul, fMulI, fSub, fIx, fIxR, e1, hz, fGe, fPow, hg]
      · refine ⟨z % n, ⟨ρ.i + 1, (ρ.s * 48271 + z + 11) % 2147483647, ρ.q⟩, ?_, (hm _).1, (hm _).2, by show 0 ≤ ρ.i + 1; omega⟩
        simp [startD, sSeq, sIf, bB, eBin, eRow, rowAt, eC, fGt, fI, sSet, eCall, fInt, eVar, put, imm, fMod, fDiv, fIc, sRow, rowSet, sRetV, sNil, sRet, aCons, aNil, hq, h0, hn2, fAdd, orF, fAddI, eLenX, fLen, hl, fMul, fMulI, fSub, fIx, fIxR, e1, hz, fGe, fPow, hg]
end K00

/-! ## N2 -/
namespace K00
open PySem PySem.Spec PyProof.Rows L2 WF TL
variable {A : Ad} {Γ : Gam} {δ : List Slot} {ρ : WF.Row}
theorem seq_nx {c1 c2 : CS} {δ1 : List Slot} {ρ1 : WF.Row} (h : c1 δ ρ = .nx δ1 ρ1) : sSeq c1 c2 δ ρ = c2 δ1 ρ1 := by unfold sSeq; rw [h]
theorem set_ok {i : Nat} {c : CE} {d : D} {fr : Bool} {ρ1 : WF.Row} (h : c δ ρ = .ok d fr ρ1) : sSet i c δ ρ = .nx (put i d fr δ) ρ1 := by unfold sSet; rw [h]
theorem bin_ok {f : Op2} {ca cb : CE} {a b d : D} {f1 f2 fr : Bool} {ρ1 ρ2 : WF.Row} (h1 : ca δ ρ = .ok a f1 ρ1) (h2 : cb δ ρ1 = .ok b f2 ρ2) (h : f a b = some (d, fr)) : eBin f ca cb δ ρ = .ok d fr ρ2 := by
  unfold eBin; rw [h1]; dsimp only; rw [h2]; dsimp only; rw [h]
theorem var_ok {i : Nat} {w : Bool} {d : D} (h : δ[i]? = some (some (w, d))) : eVar i δ ρ = .ok d (imm d) ρ := by unfold eVar; rw [h]
theorem callF_ok {F : Fn} {r : CA} {ds : List D} {fr f2 : Bool} {d : D} {ρ1 ρ2 : WF.Row} (h1 : r δ ρ = .ok ds fr ρ1) (h2 : F ds ρ1 = .ok d f2 ρ2) : ∃ f3, eCallF F r δ ρ = .ok d f3 ρ2 := by
  unfold eCallF; rw [h1]; dsimp only; rw [h2]; exact ⟨_, rfl⟩
theorem cons_ok {c : CE} {r : CA} {d : D} {ds : List D} {f1 f2 : Bool} {ρ1 ρ2 : WF.Row} (h1 : c δ ρ = .ok d f1 ρ1) (h2 : r δ ρ1 = .ok ds f2 ρ2) : aCons c r δ ρ = .ok (d :: ds) (f1 && f2) ρ2 := by
  unfold aCons; rw [h1]; dsimp only; rw [h2]
theorem nil_ok : aNil δ ρ = .ok [] true ρ := rfl
/-- a draw in a program -/
theorem draw {r : CA} {n : Int} {fr : Bool} {ρ1 : WF.Row} (h : r δ ρ = .ok [.row, .int n] fr ρ1) (hi : 0 ≤ ρ1.i) (hn : 1 ≤ n) (hn2 : n < 1073741824) : ∃ v f3 ρ2, eCallF (f_law_taken Γ A) r δ ρ = .ok (.int v) f3 ρ2 ∧ 0 ≤ v ∧ v < n ∧ 0 ≤ ρ2.i := by
  obtain ⟨v, ρ2, e, h1, h2, h3⟩ := taken (A := A) (Γ := Γ) hi hn hn2
  obtain ⟨f3, e3⟩ := callF_ok h e
  exact ⟨v, f3, ρ2, e3, h1, h2, h3⟩
theorem draw_c {n : Int} {b : Bool} (h : δ[0]? = some (some (b, .row))) (hi : 0 ≤ ρ.i) (hn : 1 ≤ n) (hn2 : n < 1073741824) : ∃ v f3 ρ2, eCallF (f_law_taken Γ A) (aCons (eVar 0) (aCons (eC (.int n)) aNil)) δ ρ = .ok (.int v) f3 ρ2 ∧ 0 ≤ v ∧ v < n ∧ 0 ≤ ρ2.i :=
  draw (cons_ok (var_ok h) (cons_ok rfl nil_ok)) hi hn hn2
theorem draw_v {n : Int} {j : Nat} {b c : Bool} (h : δ[0]? = some (some (b, .row))) (h2 : δ[j]? = some (some (c, .int n))) (hi : 0 ≤ ρ.i) (hn : 1 ≤ n) (hn2 : n < 1073741824) : ∃ v f3 ρ2, eCallF (f_law_taken Γ A) (aCons (eVar 0) (aCons (eVar j) aNil)) δ ρ = .ok (.int v) f3 ρ2 ∧ 0 ≤ v ∧ v < n ∧ 0 ≤ ρ2.i :=
  draw (cons_ok (var_ok h) (cons_ok (var_ok h2) nil_ok)) hi hn hn2
theorem ixStr {z : Str} {v : Int} (hz : z.length ≤ 1000) (h0 : 0 ≤ v) (h1 : v < z.length) : ∃ k, orF fIx (fIxR Γ) (.str z) (.int v) = some (.str ⟨#[k]⟩, true) ∧ k ∈ tl z := by
  have hl : (tl z).length = z.length := (len_tl z).symm
  obtain ⟨k, hk⟩ := atI_ok (xs := tl z) (k := v) h0 (by rw [hl]; exact h1)
  have h2 := hk
  rw [atI_nat' h0 (by rw [hl]; exact h1)] at h2
  refine ⟨k, ?_, List.mem_of_getElem? h2⟩
  unfold orF fIx
  dsimp only
  rw [if_pos hz]
  rw [show atI z.cps.toList v = some k from hk]
theorem len_str {r : CA} {z : Str} {fr : Bool} {ρ1 : WF.Row} {F : Fn} (h : r δ ρ = .ok [.str z] fr ρ1) (hz : z.length ≤ 1000) : eLenX Γ 0 F r δ ρ = .ok (.int z.length) true ρ1 := by
  unfold eLenX; rw [h]; dsimp only; unfold fLen; dsimp only; rw [if_pos hz]
def cPick (Γ : Gam) (A : Ad) : CE := (eBin (orF fIx (fIxR Γ)) (eVar 2) (eCallF (f_law_taken Γ A) (aCons (eVar 0) (aCons (eLenX Γ 0 (f_Board_len Γ A) (aCons (eVar 2) aNil)) aNil))))
theorem pick {z : Str} {b0 b2 : Bool} (h0 : δ[0]? = some (some (b0, .row))) (h2 : δ[2]? = some (some (b2, .str z))) (hz : 1 ≤ z.length) (hz2 : z.length ≤ 1000) (hi : 0 ≤ ρ.i) : ∃ k ρ1, cPick Γ A δ ρ = .ok (.str ⟨#[k]⟩) true ρ1 ∧ k ∈ tl z ∧ 0 ≤ ρ1.i := by
  obtain ⟨v, f3, ρ2, e, v0, v1, hi2⟩ := draw (A := A) (Γ := Γ) (δ := δ) (ρ := ρ) (r := aCons (eVar 0) (aCons (eLenX Γ 0 (f_Board_len Γ A) (aCons (eVar 2) aNil)) aNil)) (n := z.length) (cons_ok (var_ok h0) (cons_ok (len_str (cons_ok (var_ok h2) nil_ok) hz2) nil_ok)) hi (by omega) (by omega)
  obtain ⟨k, ek, hk⟩ := ixStr (Γ := Γ) hz2 v0 v1
  exact ⟨k, ρ2, bin_ok (var_ok h2) e ek, hk, hi2⟩
def ch (k : Nat) : D := .str ⟨#[k]⟩
theorem put_get {i j : Nat} {d : D} (h : i ≠ j) : (put i d true δ)[j]? = δ[j]? := by unfold put; rw [if_pos rfl, List.getElem?_set_ne h]
theorem picks {z : Str} {b0 b2 : Bool} (h0 : δ[0]? = some (some (b0, .row))) (h2 : δ[2]? = some (some (b2, .str z))) (hz : 1 ≤ z.length) (hz2 : z.length ≤ 1000) :
    ∀ (lo : Int) {ρ : WF.Row}, 0 ≤ ρ.i → ∀ l : List Nat, ∃ (ks : List Nat) (ρ1 : WF.Row), lcL (gN 7) bYes (cPick Γ A) δ (l.map fun (k : Nat) => D.int (lo + k)) ρ = some (ks.map ch, ρ1) ∧ ks.length = l.length ∧ (∀ k ∈ ks, k ∈ tl z) ∧ 0 ≤ ρ1.i := by
  intro lo ρ hi l
  induction l generalizing ρ with
  | nil => exact ⟨[], ρ, rfl, rfl, (fun _ h => by cases h), hi⟩
  | cons a l ih =>
    obtain ⟨k, ρ1, e, hk, hi1⟩ := pick (A := A) (Γ := Γ) (δ := put 7 (.int (lo + a)) true δ) (ρ := ρ) (by rw [put_get (by decide)]; exact h0) (by rw [put_get (by decide)]; exact h2) hz hz2 hi
    obtain ⟨ks, ρ2, e2, hl, hm, hi2⟩ := ih hi1
    refine ⟨k :: ks, ρ2, ?_, by rw [List.length_cons, List.length_cons, hl], fun x hx => ?_, hi2⟩
    · rw [List.map_cons, lcL]
      show (match cPick Γ A (put 7 (.int (lo + a)) true δ) ρ with
        | .ok e true ρ2 => match lcL (gN 7) bYes (cPick Γ A) δ (l.map fun (k : Nat) => D.int (lo + k)) ρ2 with
          | some (es, ρ3) => some (e :: es, ρ3)
          | none => none
        | _ => none) = _
      rw [e]
      dsimp only
      rw [e2]
      rfl
    · rcases List.mem_cons.mp hx with rfl | hx
      · exact hk
      · exact hm x hx
/-- the text of single signs joined -/
theorem join_ch (ks : List Nat) : Txt.join (Str.ofString "") ((ks.map fun k => (⟨#[k]⟩ : Str))) = ⟨ks.toArray⟩ := by
  apply ext_tl
  rw [join_eq, tl_join]
  have h0 : tl (Str.ofString "") = [] := by decide +kernel
  rw [h0]
  have : ∀ l : List Nat, joinL [] ((l.map fun k => (⟨#[k]⟩ : Str)).map tl) = l := fun l => by
    induction l with
    | nil => rfl
    | cons a l ih =>
      cases l with
      | nil => rfl
      | cons b l =>
        show [a] ++ ([] ++ joinL [] (((b :: l).map fun k => (⟨#[k]⟩ : Str)).map tl)) = _
        rw [ih]; rfl
  rw [this]
end K00

/-! ## N3 -/
namespace K00
open PySem PySem.Spec PyProof.Rows L2 WF TL
variable {A : Ad} {Γ : Gam} {δ : List Slot} {ρ : WF.Row}
theorem range_ok {r : CA} {n : Int} {fr : Bool} {ρ1 : WF.Row} (h : r δ ρ = .ok [.int n] fr ρ1) (h1 : n ≤ 100000) (h2 : -100000 ≤ n) : iRg1 r δ ρ = .ok ((List.range n.toNat).map fun (k : Nat) => D.int (0 + (k : Int))) true ρ1 := by
  unfold iRg1; rw [h]; dsimp only; unfold iRange; dsimp only; rw [if_pos ⟨h1, h2⟩]; rfl
theorem lc_ok {ci : CI} {tg : TGt} {t : CT} {c : CE} {vs : List Nat} {ds es : List D} {fr : Bool} {ρ1 ρ2 : WF.Row} (h : ci δ ρ = .ok ds fr ρ1) (hl : ds.length ≤ 100000) (h2 : lcL tg t c (wipeD δ vs) ds ρ1 = some (es, ρ2)) : eLc ci tg t c vs δ ρ = .ok (.lst es) true ρ2 := by
  unfold eLc; rw [h]; dsimp only; rw [if_pos hl, h2]
theorem join_ok {ca cb : CE} {x : Str} {ss : List Str} {f1 f2 : Bool} {ρ1 ρ2 : WF.Row} (h1 : ca δ ρ = .ok (.str x) f1 ρ1) (h2 : cb δ ρ1 = .ok (.lst (ss.map D.str)) f2 ρ2) (hl : (ss.map (·.length)).sum + ss.length * x.length ≤ 100000) : eJoin ca cb δ ρ = .ok (.str (Txt.join x ss)) true ρ2 := by
  unfold eJoin; rw [h1]; dsimp only; rw [h2]; dsimp only; unfold fJoin; dsimp only; rw [strsOf_map]; dsimp only; rw [if_pos hl]
theorem sum_ch : ∀ ks : List Nat, ((ks.map fun k => (⟨#[k]⟩ : Str)).map (·.length)).sum = ks.length
  | [] => rfl
  | k :: ks => by
    rw [List.map_cons, List.map_cons, List.sum_cons, sum_ch ks, List.length_cons]
    show 1 + _ = _
    omega
def cLine (Γ : Gam) (A : Ad) : CE := eJoin (eC (.str "")) (eLc (iRg1 (aCons (eVar 6) aNil)) (gN 7) bYes (cPick Γ A) [7])
theorem line {z : Str} {c : Int} {b0 b2 b6 : Bool} (h0 : δ[0]? = some (some (b0, .row))) (h2 : δ[2]? = some (some (b2, .str z))) (h6 : δ[6]? = some (some (b6, .int c))) (hz : 1 ≤ z.length) (hz2 : z.length ≤ 1000) (hc : 0 ≤ c) (hc2 : c ≤ 1000) (hi : 0 ≤ ρ.i) :
    ∃ s ρ1, cLine Γ A δ ρ = .ok (.str s) true ρ1 ∧ ((tl s).length : Int) = c ∧ (∀ k ∈ tl s, k ∈ tl z) ∧ 0 ≤ ρ1.i := by
  have w0 : (wipeD δ [7])[0]? = some (some (b0, .row)) := by show (δ.set 7 none)[0]? = _; rw [List.getElem?_set_ne (by decide)]; exact h0
  have w2 : (wipeD δ [7])[2]? = some (some (b2, .str z)) := by show (δ.set 7 none)[2]? = _; rw [List.getElem?_set_ne (by decide)]; exact h2
  obtain ⟨ks, ρ1, e, hl, hm, hi1⟩ := picks (A := A) (Γ := Γ) w0 w2 hz hz2 0 hi (List.range c.toNat)
  have hl2 : ks.length = c.toNat := by rw [hl, List.length_range]
  have eL := lc_ok (δ := δ) (ρ := ρ) (range_ok (cons_ok (var_ok h6) nil_ok) (by omega) (by omega)) (by rw [List.length_map, List.length_range]; omega) e
  refine ⟨⟨ks.toArray⟩, ρ1, ?_, by show (ks.length : Int) = c; omega, hm, hi1⟩
  have eM : (ks.map ch) = (ks.map fun k => (⟨#[k]⟩ : Str)).map D.str := by rw [List.map_map]; rfl
  rw [eM] at eL
  have := join_ok (δ := δ) (ρ := ρ) (ca := eC (.str "")) (x := Str.ofString "") rfl eL (by
    rw [sum_ch, List.length_map, hl2]
    have : (Str.ofString "").length = 0 := by decide +kernel
    rw [this]; omega)
  rw [join_ch] at this
  exact this
/-- a line of a board: so many signs, all of them signs of z -/
def Line (c : Int) (z s : Str) : Prop := ((tl s).length : Int) = c ∧ ∀ k ∈ tl s, k ∈ tl z
theorem app_ok {i : Nat} {c : CE} {ds : List D} {d : D} {ρ1 : WF.Row} (h : δ[i]? = some (some (true, .lst ds))) (hc : c δ ρ = .ok d true ρ1) (hl : ds.length < 100000) : sApp i c δ ρ = .nx (δ.set i (some (true, .lst (ds ++ [d])))) ρ1 := by
  unfold sApp; rw [h]; dsimp only; rw [hc]; dsimp only; rw [if_pos hl]
theorem lines {z : Str} {c : Int} {b0 b2 b6 : Bool} (hz : 1 ≤ z.length) (hz2 : z.length ≤ 1000) (hc : 0 ≤ c) (hc2 : c ≤ 1000) :
    ∀ (l : List Int) {δ : List Slot} {ρ : WF.Row} {L : List D}, 0 ≤ ρ.i → δ[0]? = some (some (b0, .row)) → δ[2]? = some (some (b2, .str z)) → δ[6]? = some (some (b6, .int c)) → δ[3]? = some (some (true, .lst L)) → L.length + l.length < 1000 → 5 ≤ δ.length →
    ∃ (ss : List Str) (δ' : List Slot) (ρ1 : WF.Row), forL (gN 4) (sApp 3 (cLine Γ A)) (l.map D.int) δ ρ = .nx δ' ρ1 ∧ ss.length = l.length ∧ (∀ s ∈ ss, Line c z s) ∧ δ'[3]? = some (some (true, .lst (L ++ ss.map D.str))) ∧ δ'.length = δ.length ∧ (∀ j, j ≠ 3 → j ≠ 4 → δ'[j]? = δ[j]?) ∧ 0 ≤ ρ1.i := by
  intro l
  induction l with
  | nil =>
    intro δ ρ L hi h0 h2 h6 h3 hl h5
    exact ⟨[], δ, ρ, rfl, rfl, (fun _ h => by cases h), by rw [List.map_nil, List.append_nil]; exact h3, rfl, fun _ _ _ => rfl, hi⟩
  | cons a l ih =>
    intro δ ρ L hi h0 h2 h6 h3 hl h5
    have g : ∀ j, j ≠ 4 → (put 4 (.int a) true δ)[j]? = δ[j]? := fun j hj => put_get (Ne.symm hj)
    have pl : (put 4 (.int a) true δ).length = δ.length := by unfold put; rw [if_pos rfl, List.length_set]
    obtain ⟨s, ρ1, e, s1, s2, hi1⟩ := line (A := A) (Γ := Γ) (δ := put 4 (.int a) true δ) (ρ := ρ) ((g 0 (by decide)).trans h0) ((g 2 (by decide)).trans h2) ((g 6 (by decide)).trans h6) hz hz2 hc hc2 hi
    have ea := app_ok (i := 3) ((g 3 (by decide)).trans h3) e (by rw [List.length_cons] at hl; omega)
    have len3 : 3 < (put 4 (.int a) true δ).length := by rw [pl]; omega
    let δ1 := (put 4 (.int a) true δ).set 3 (some (true, .lst (L ++ [.str s])))
    have g1 : ∀ j, j ≠ 3 → j ≠ 4 → δ1[j]? = δ[j]? := fun j h3 h4 => (List.getElem?_set_ne (Ne.symm h3)).trans (g j h4)
    obtain ⟨ss, δ', ρ2, e2, l2, hm, h3', hlen, keep, hi2⟩ := ih (δ := δ1) (ρ := ρ1) (L := L ++ [.str s]) hi1 ((g1 0 (by decide) (by decide)).trans h0) ((g1 2 (by decide) (by decide)).trans h2) ((g1 6 (by decide) (by decide)).trans h6) (List.getElem?_set_self len3) (by rw [List.length_append]; rw [List.length_cons] at hl; show L.length + 1 + _ < _; omega) (by show 5 ≤ ((put 4 (.int a) true δ).set 3 _).length; rw [List.length_set, pl]; exact h5)
    refine ⟨s :: ss, δ', ρ2, ?_, by rw [List.length_cons, List.length_cons, l2], fun x hx => ?_, ?_, by rw [hlen]; show ((put 4 (.int a) true δ).set 3 _).length = _; rw [List.length_set, pl], fun j j3 j4 => (keep j j3 j4).trans (g1 j j3 j4), hi2⟩
    · show (match sApp 3 (cLine Γ A) (put 4 (.int a) true δ) ρ with
        | .nx δ2 ρ2 => forL (gN 4) (sApp 3 (cLine Γ A)) (l.map D.int) δ2 ρ2
        | .ct δ2 ρ2 => forL (gN 4) (sApp 3 (cLine Γ A)) (l.map D.int) δ2 ρ2
        | .bk δ2 ρ2 => .nx δ2 ρ2
        | .rt d fr ρ2 => .rt d fr ρ2
        | .er k ρ2 => .er k ρ2
        | .no => .no) = _
      rw [ea]
      exact e2
    · rcases List.mem_cons.mp hx with rfl | hx
      · exact ⟨s1, s2⟩
      · exact hm x hx
    · rw [h3', List.map_cons, List.append_assoc]; rfl
end K00

/-! ## N4 -/
namespace K00
open PySem PySem.Spec PyProof.Rows L2 WF TL
variable {A : Ad} {Γ : Gam} {δ : List Slot} {ρ : WF.Row}
def sg : Str := Str.ofString ".<>x"
def some10 : List D := [.str ".<>x", .str "....<>x", .str "<>", .str "<>x", .str ".x", .str ">>>>>><", .str ".....<>", .str ".", .str "x", .str ">"]
theorem some_ok {v : Int} (h0 : 0 ≤ v) (h1 : v < 10) : ∃ z, orF fIx (fIxR Γ) (.lst some10) (.int v) = some (.str z, true) ∧ 1 ≤ z.length ∧ z.length ≤ 1000 ∧ ∀ k ∈ tl z, k ∈ tl sg := by
  have : v = 0 ∨ v = 1 ∨ v = 2 ∨ v = 3 ∨ v = 4 ∨ v = 5 ∨ v = 6 ∨ v = 7 ∨ v = 8 ∨ v = 9 := by omega
  rcases this with rfl | rfl | rfl | rfl | rfl | rfl | rfl | rfl | rfl | rfl <;> exact ⟨_, rfl, by decide +kernel, by decide +kernel, by decide +kernel⟩
theorem par_ok {i j : Nat} {r : CA} {d1 d2 : D} {fr : Bool} {ρ1 : WF.Row} (h : r δ ρ = .ok [d1, d2] fr ρ1) : sPar i j r δ ρ = .nx (put j d2 (imm d2) (put i d1 (imm d1) δ)) ρ1 := by unfold sPar; rw [h]
theorem add1 {a b : Int} : fAdd (.int a) (.int b) = some (.int (a + b), true) := rfl
theorem one_plus {c : CE} {v : Int} {f : Bool} {ρ1 : WF.Row} (h : c δ ρ = .ok (.int v) f ρ1) : eBin fAdd (eC (.int 1)) c δ ρ = .ok (.int (1 + v)) true ρ1 := bin_ok rfl h add1
theorem for_ok {tg : TGt} {c : CI} {b : CS} {ds : List D} {ρ1 : WF.Row} (h : c δ ρ = .ok ds true ρ1) : sFor tg c b δ ρ = forL tg b ds δ ρ1 := by unfold sFor; rw [h]
theorem if_ok {t : CT} {c1 c2 : CS} {b : Bool} {ρ1 : WF.Row} (h : t δ ρ = .ok b ρ1) : sIf t c1 c2 δ ρ = if b then c1 δ ρ1 else c2 δ ρ1 := by unfold sIf; rw [h]; cases b <;> rfl
theorem bB_ok {c : CE} {b f : Bool} {ρ1 : WF.Row} (h : c δ ρ = .ok (.bl b) f ρ1) : bB c δ ρ = .ok b ρ1 := by unfold bB; rw [h]
theorem sl_ok {c : CE} {cl chh : CO} {s : Str} {f : Bool} {lo hi : Option Int} {ρ1 ρ2 ρ3 : WF.Row} (h : c δ ρ = .ok (.str s) f ρ1) (h1 : cl δ ρ1 = some (lo, ρ2)) (h2 : chh δ ρ2 = some (hi, ρ3)) (hs : s.length ≤ 1000) : eSl fSl c cl chh δ ρ = .ok (.str (cutS s lo hi)) true ρ3 := by
  unfold eSl; rw [h]; dsimp only; rw [h1]; dsimp only; rw [h2]; dsimp only; unfold fSl; dsimp only; rw [if_pos hs]
theorem some_co {c : CE} {i : Int} {f : Bool} {ρ1 : WF.Row} (h : c δ ρ = .ok (.int i) f ρ1) : oSome c δ ρ = some (some i, ρ1) := by unfold oSome; rw [h]
theorem tl_cut_lo {s : Str} {k : Nat} (h : k ≤ (tl s).length) : tl (cutS s none (some (k : Int))) = (tl s).take k := by
  show (List.take _ (List.drop 0 _)) = _
  rw [HT.sIx_nat, HT.sIx_none, List.drop_zero]
  have : s.length = (tl s).length := len_tl s
  rw [this, Nat.min_eq_left h, Nat.sub_zero]
theorem tl_cut_hi {s : Str} {k : Nat} (h : k ≤ (tl s).length) : tl (cutS s (some (k : Int)) none) = (tl s).drop k := by
  show (List.take _ (List.drop _ _)) = _
  rw [HT.sIx_nat, HT.sIx_none]
  have : s.length = (tl s).length := len_tl s
  rw [this, Nat.min_eq_left h]
  exact List.take_of_length_le (by rw [List.length_drop]; exact Nat.le_refl _)
theorem tl_add {s t : Str} : tl (s ++ t) = tl s ++ tl t := by
  show (s.cps ++ t.cps).toList = _
  rw [Array.toList_append]
end K00

/-! ## N5 -/
namespace K00
open PySem PySem.Spec PyProof.Rows L2 WF TL
variable {A : Ad} {Γ : Gam} {δ : List Slot} {ρ : WF.Row}
theorem add_str {x y : Str} (h : x.length + y.length ≤ 1000) : fAdd (.str x) (.str y) = some (.str (x ++ y), true) := by
  show orF fAddI (orF fAddS (orF fAddT fAddL)) (.str x) (.str y) = _
  unfold orF
  show (match (if x.length + y.length ≤ 1000 then some (D.str (x ++ y), true) else none : Option (D × Bool)) with | some p => some p | none => _) = _
  rw [if_pos h]
theorem ix_lst {xs : List D} {v : Int} {d : D} (h : atI xs v = some d) : orF fIx (fIxR Γ) (.lst xs) (.int v) = some (d, imm d) := by
  unfold orF fIx fIxS; dsimp only; rw [h]
theorem ix_tup {xs : List D} {v : Int} {d : D} (h : atI xs v = some d) : orF fIx (fIxR Γ) (.tup xs) (.int v) = some (d, imm d) := by
  unfold orF fIx fIxS; dsimp only; rw [h]
def cNew (Γ : Gam) (A : Ad) : CE := (eBin fAdd (eBin fAdd (eSl fSl (eBin (orF fIx (fIxR Γ)) (eVar 3) (eVar 4)) oNone (oSome (eVar 7))) (eBin (orF fIx (fIxR Γ)) (eC (.str ".<>x")) (eCallF (f_law_taken Γ A) (aCons (eVar 0) (aCons (eC (.int 4)) aNil))))) (eSl fSl (eBin (orF fIx (fIxR Γ)) (eVar 3) (eVar 4)) (oSome (eBin fAdd (eVar 7) (eC (.int 1)))) oNone))
theorem lput_ok {i : Nat} {ck cv : CE} {d : D} {ds : List D} {k : Int} {j : Nat} {f : Bool} {ρ1 ρ2 : WF.Row} (hv : cv δ ρ = .ok d true ρ1) (h : δ[i]? = some (some (true, .lst ds))) (hk : ck δ ρ1 = .ok (.int k) f ρ2) (hj : ixN ds.length k = some j) : sLput i ck cv δ ρ = .nx (δ.set i (some (true, .lst (ds.set j d)))) ρ2 := by
  unfold sLput; rw [hv]; dsimp only; rw [h]; dsimp only; rw [hk]; dsimp only; rw [hj]
theorem newline {ss : List Str} {at_ pl c : Int} {b0 b4 b7 : Bool} (h0 : δ[0]? = some (some (b0, .row))) (h3 : δ[3]? = some (some (true, .lst (ss.map D.str)))) (h4 : δ[4]? = some (some (b4, .int at_))) (h7 : δ[7]? = some (some (b7, .int pl)))
    (a0 : 0 ≤ at_) (a1 : at_ < ss.length) (p0 : 0 ≤ pl) (p1 : pl < c) (hc : c ≤ 100) (hl : ∀ s ∈ ss, Line c sg s) (hi : 0 ≤ ρ.i) :
    ∃ (ss' : List Str) (ρ1 : WF.Row), sLput 3 (eVar 4) (cNew Γ A) δ ρ = .nx (δ.set 3 (some (true, .lst (ss'.map D.str)))) ρ1 ∧ ss'.length = ss.length ∧ (∀ s ∈ ss', Line c sg s) ∧ 0 ≤ ρ1.i := by
  obtain ⟨s, hs⟩ := atI_ok (xs := ss) (k := at_) a0 a1
  have hs2 := hs
  rw [atI_nat' a0 a1] at hs2
  have ms : s ∈ ss := List.mem_of_getElem? hs2
  obtain ⟨l1, l2⟩ := hl s ms
  have hD : atI (ss.map D.str) at_ = some (.str s) := by
    rw [atI_nat' a0 (by rw [List.length_map]; exact a1), List.getElem?_map, hs2]; rfl
  have e0 : eBin (orF fIx (fIxR Γ)) (eVar 3) (eVar 4) δ ρ = .ok (.str s) true ρ := bin_ok (var_ok h3) (var_ok h4) (ix_lst hD)
  have hsl : s.length ≤ 1000 := by rw [len_tl]; omega
  have hp : ((pl.toNat : Nat) : Int) = pl := Int.toNat_of_nonneg p0
  have hp1 : (((pl.toNat + 1 : Nat)) : Int) = pl + 1 := by omega
  have e1 : eSl fSl (eBin (orF fIx (fIxR Γ)) (eVar 3) (eVar 4)) oNone (oSome (eVar 7)) δ ρ = .ok (.str (cutS s none (some pl))) true ρ := sl_ok e0 rfl (some_co (var_ok h7)) hsl
  obtain ⟨v, f3, ρ2, e2, v0, v1, hi2⟩ := draw_c (A := A) (Γ := Γ) (δ := δ) (ρ := ρ) (n := 4) h0 hi (by decide) (by decide)
  obtain ⟨k, ek, hk⟩ := ixStr (Γ := Γ) (z := sg) (v := v) (by decide +kernel) v0 (by have h : sg.length = 4 := (by decide +kernel); rw [h]; exact v1)
  have e3 : eBin (orF fIx (fIxR Γ)) (eC (.str ".<>x")) (eCallF (f_law_taken Γ A) (aCons (eVar 0) (aCons (eC (.int 4)) aNil))) δ ρ = .ok (.str ⟨#[k]⟩) true ρ2 := bin_ok rfl e2 ek
  have t1 : tl (cutS s none (some pl)) = (tl s).take pl.toNat := by rw [← hp]; exact tl_cut_lo (by omega)
  have t2 : tl (cutS s (some (pl + 1)) none) = (tl s).drop (pl.toNat + 1) := by rw [← hp1]; exact tl_cut_hi (by omega)
  have t3 : tl (⟨#[k]⟩ : Str) = [k] := rfl
  have e4 := bin_ok (f := fAdd) e1 e3 (add_str (by rw [len_tl, len_tl, t1, t3, List.length_take]; show _ + 1 ≤ _; omega))
  have e0' : eBin (orF fIx (fIxR Γ)) (eVar 3) (eVar 4) δ ρ2 = .ok (.str s) true ρ2 := bin_ok (var_ok h3) (var_ok h4) (ix_lst hD)
  have e5 : eSl fSl (eBin (orF fIx (fIxR Γ)) (eVar 3) (eVar 4)) (oSome (eBin fAdd (eVar 7) (eC (.int 1)))) oNone δ ρ2 = .ok (.str (cutS s (some (pl + 1)) none)) true ρ2 := sl_ok e0' (some_co (bin_ok (var_ok h7) rfl add1)) rfl hsl
  have e6 := bin_ok (f := fAdd) e4 e5 (add_str (by rw [len_tl, len_tl, tl_add, t1, t2, t3, List.length_append, List.length_take, List.length_drop]; show _ + 1 + _ ≤ _; omega))
  have hj : ixN (ss.map D.str).length at_ = some at_.toNat := by
    unfold ixN; rw [if_pos a0, if_pos (by rw [List.length_map]; omega)]
  refine ⟨ss.set at_.toNat (cutS s none (some pl) ++ ⟨#[k]⟩ ++ cutS s (some (pl + 1)) none), ρ2, ?_, by rw [List.length_set], fun x hx => ?_, hi2⟩
  · rw [lput_ok (cv := cNew Γ A) e6 h3 (var_ok h4) hj, List.map_set]
  · rcases List.mem_or_eq_of_mem_set hx with hx | rfl
    · exact hl x hx
    · refine ⟨?_, fun y hy => ?_⟩
      · rw [tl_add, tl_add, t1, t2, t3, List.length_append, List.length_append, List.length_take, List.length_drop]
        show ((_ + 1 + _ : Nat) : Int) = c
        omega
      · rw [tl_add, tl_add, t1, t2, t3] at hy
        rcases List.mem_append.mp hy with hy | hy
        · rcases List.mem_append.mp hy with hy | hy
          · exact l2 y (List.mem_of_mem_take hy)
          · rw [List.mem_singleton.mp hy]; exact hk
        · exact l2 y (List.mem_of_mem_drop hy)
/-- the cells of a board -/
structure Cells (m : Int) (ss : List Str) (c : Int) : Prop where
  r1 : 1 ≤ ss.length
  r2 : (ss.length : Int) ≤ m
  c1 : 1 ≤ c
  c2 : c ≤ m
  ln : ∀ s ∈ ss, Line c sg s
end K00

/-! ## N6 -/
namespace K00
open PySem PySem.Spec PyProof.Rows L2 WF TL
variable {A : Ad} {Γ : Gam} {δ : List Slot} {ρ : WF.Row}
theorem draw_take {e : CE} {v : Int} {f : Bool} {ρ1 : WF.Row} (h : e δ ρ = .ok (.int v) f ρ1) : ∃ b, bB (eBin fEq e (eC (.int 0))) δ ρ = .ok b ρ1 := ⟨_, bB_ok (bin_ok h rfl rfl)⟩
theorem put_int {i : Nat} {z : Int} : put i (.int z) (imm (.int z)) δ = δ.set i (some (true, .int z)) := rfl
theorem tuple_ok {r : CA} {xs : List D} {f : Bool} {ρ1 : WF.Row} (h : r δ ρ = .ok [.lst xs] f ρ1) : eCall fTuple r δ ρ = .ok (.tup xs) (immAll xs) ρ1 := by unfold eCall; rw [h]; rfl
theorem imm_strs (ss : List Str) : immAll (ss.map D.str) = true := by
  rw [immAll_eq, List.all_map]
  exact List.all_eq_true.mpr fun _ _ => rfl
theorem cells {m : Int} (hm : 1 ≤ m) (hm2 : m ≤ 100) (hi : 0 ≤ ρ.i) : ∃ (ss : List Str) (c : Int) (ρ1 : WF.Row), f_law_cells Γ A [.row, .int m] ρ = .ok (.tup (ss.map D.str)) true ρ1 ∧ Cells m ss c ∧ 0 ≤ ρ1.i := by
  -- the first rows
  let δ0 : List Slot := [some (false, .row), some (false, .int m), none, none, none, none, none, none]
  obtain ⟨v, f1, ρ1, e1, v0, v1, hi1⟩ := draw_c (A := A) (Γ := Γ) (δ := δ0) (ρ := ρ) (n := 10) rfl hi (by decide) (by decide)
  obtain ⟨z, ez, z1, z2, z3⟩ := some_ok (Γ := Γ) v0 v1
  let δ1 : List Slot := [some (false, .row), some (false, .int m), some (true, .str z), none, none, none, none, none]
  have s1 : sSet 2 (eBin (orF fIx (fIxR Γ)) (eLst (aCons (eC (.str ".<>x")) (aCons (eC (.str "....<>x")) (aCons (eC (.str "<>")) (aCons (eC (.str "<>x")) (aCons (eC (.str ".x")) (aCons (eC (.str ">>>>>><")) (aCons (eC (.str ".....<>")) (aCons (eC (.str ".")) (aCons (eC (.str "x")) (aCons (eC (.str ">")) aNil))))))))))) (eCallF (f_law_taken Γ A) (aCons (eVar 0) (aCons (eC (.int 10)) aNil)))) δ0 ρ = .nx δ1 ρ1 := set_ok (bin_ok (a := .lst some10) rfl e1 ez)
  obtain ⟨r, f2, ρ2, e2, r0, r1, hi2⟩ := draw_v (A := A) (Γ := Γ) (δ := δ1) (ρ := ρ1) (n := m) (j := 1) rfl rfl hi1 hm (by omega)
  obtain ⟨c, f3, ρ3, e3, c0, c1, hi3⟩ := draw_v (A := A) (Γ := Γ) (δ := δ1) (ρ := ρ2) (n := m) (j := 1) rfl rfl hi2 hm (by omega)
  let δ2 : List Slot := [some (false, .row), some (false, .int m), some (true, .str z), none, none, some (true, .int (1 + r)), some (true, .int (1 + c)), none]
  have s2 := par_ok (i := 5) (j := 6) (cons_ok (one_plus e2) (cons_ok (one_plus e3) nil_ok))
  let δ3 : List Slot := [some (false, .row), some (false, .int m), some (true, .str z), some (true, .lst []), none, some (true, .int (1 + r)), some (true, .int (1 + c)), none]
  have s3 : sSet 3 (eLst aNil) δ2 ρ3 = .nx δ3 ρ3 := rfl
  have e4 := range_ok (δ := δ3) (ρ := ρ3) (cons_ok (var_ok (i := 5) (w := true) (d := .int (1 + r)) rfl) nil_ok) (by omega) (by omega)
  have em : ((List.range (1 + r).toNat).map fun (k : Nat) => D.int (0 + (k : Int))) = ((List.range (1 + r).toNat).map fun (k : Nat) => 0 + (k : Int)).map D.int := by rw [List.map_map]; rfl
  rw [em] at e4
  obtain ⟨ss, δ4, ρ4, e5, l5, m5, d3, len4, keep, hi4⟩ := lines (A := A) (Γ := Γ) (z := z) (c := 1 + c) (b0 := false) (b2 := true) (b6 := true) z1 z2 (by omega) (by omega) ((List.range (1 + r).toNat).map fun (k : Nat) => 0 + (k : Int)) (δ := δ3) (ρ := ρ3) (L := []) hi3 rfl rfl rfl rfl (by rw [List.length_map, List.length_range]; show 0 + _ < _; omega) (by show 5 ≤ 8; decide)
  rw [List.length_map, List.length_range] at l5
  rw [List.nil_append] at d3
  have s4 := (for_ok (tg := gN 4) (b := sApp 3 (cLine Γ A)) e4).trans e5
  have m5' : ∀ s ∈ ss, Line (1 + c) sg s := fun s hs => ⟨(m5 s hs).1, fun k hk => z3 k ((m5 s hs).2 k hk)⟩
  -- the change of one cell
  have k0 : δ4[0]? = some (some (false, .row)) := keep 0 (by decide) (by decide)
  have k5 : δ4[5]? = some (some (true, .int (1 + r))) := keep 5 (by decide) (by decide)
  have k6 : δ4[6]? = some (some (true, .int (1 + c))) := keep 6 (by decide) (by decide)
  obtain ⟨t, f6, ρ5, e6, t0, t1, hi5⟩ := draw_c (A := A) (Γ := Γ) (δ := δ4) (ρ := ρ4) (n := 3) k0 hi4 (by decide) (by decide)
  obtain ⟨b, eb⟩ := draw_take e6
  have fin : ∀ (ss' : List Str) (δ' : List Slot) (ρ' : WF.Row), δ'[3]? = some (some (true, .lst (ss'.map D.str))) → sRet (eCall fTuple (aCons (eVar 3) aNil)) δ' ρ' = .rt (.tup (ss'.map D.str)) true ρ' := fun ss' δ' ρ' h => by
    unfold sRet
    rw [tuple_ok (cons_ok (var_ok h) nil_ok), imm_strs]
  have all : ∃ (ss' : List Str) (ρ6 : WF.Row), sSeq (sIf (bB (eBin fEq (eCallF (f_law_taken Γ A) (aCons (eVar 0) (aCons (eC (.int 3)) aNil))) (eC (.int 0)))) (sSeq (sPar 4 7 (aCons (eCallF (f_law_taken Γ A) (aCons (eVar 0) (aCons (eVar 5) aNil))) (aCons (eCallF (f_law_taken Γ A) (aCons (eVar 0) (aCons (eVar 6) aNil))) aNil))) (sLput 3 (eVar 4) (cNew Γ A))) sNil) (sRet (eCall fTuple (aCons (eVar 3) aNil))) δ4 ρ4 = .rt (.tup (ss'.map D.str)) true ρ6 ∧ ss'.length = ss.length ∧ (∀ s ∈ ss', Line (1 + c) sg s) ∧ 0 ≤ ρ6.i := by
    cases b with
    | false =>
      have : sIf (bB (eBin fEq (eCallF (f_law_taken Γ A) (aCons (eVar 0) (aCons (eC (.int 3)) aNil))) (eC (.int 0)))) (sSeq (sPar 4 7 (aCons (eCallF (f_law_taken Γ A) (aCons (eVar 0) (aCons (eVar 5) aNil))) (aCons (eCallF (f_law_taken Γ A) (aCons (eVar 0) (aCons (eVar 6) aNil))) aNil))) (sLput 3 (eVar 4) (cNew Γ A))) sNil δ4 ρ4 = .nx δ4 ρ5 := by rw [if_ok eb]; rfl
      exact ⟨ss, ρ5, by rw [seq_nx this]; exact fin ss δ4 ρ5 d3, rfl, m5', hi5⟩
    | true =>
      obtain ⟨p, f7, ρ6, e7, p0, p1, hi6⟩ := draw_v (A := A) (Γ := Γ) (δ := δ4) (ρ := ρ5) (n := 1 + r) (j := 5) k0 k5 hi5 (by omega) (by omega)
      obtain ⟨q, f8, ρ7, e8, q0, q1, hi7⟩ := draw_v (A := A) (Γ := Γ) (δ := δ4) (ρ := ρ6) (n := 1 + c) (j := 6) k0 k6 hi6 (by omega) (by omega)
      have s5 := par_ok (i := 4) (j := 7) (cons_ok e7 (cons_ok e8 nil_ok))
      rw [put_int, put_int] at s5
      let δ5 := (δ4.set 4 (some (true, .int p))).set 7 (some (true, .int q))
      have len4' : δ4.length = 8 := len4
      have n0 : δ5[0]? = some (some (false, .row)) := by show ((δ4.set 4 _).set 7 _)[0]? = _; rw [List.getElem?_set_ne (by decide), List.getElem?_set_ne (by decide)]; exact k0
      have n3 : δ5[3]? = some (some (true, .lst (ss.map D.str))) := by show ((δ4.set 4 _).set 7 _)[3]? = _; rw [List.getElem?_set_ne (by decide), List.getElem?_set_ne (by decide)]; exact d3
      have n4 : δ5[4]? = some (some (true, .int p)) := by show ((δ4.set 4 _).set 7 _)[4]? = _; rw [List.getElem?_set_ne (by decide), List.getElem?_set_self (by omega)]
      have n7 : δ5[7]? = some (some (true, .int q)) := by show ((δ4.set 4 _).set 7 _)[7]? = _; rw [List.getElem?_set_self (by rw [List.length_set]; omega)]
      obtain ⟨ss', ρ8, e9, l9, m9, hi8⟩ := newline (A := A) (Γ := Γ) (δ := δ5) (ρ := ρ7) n0 n3 n4 n7 p0 (by omega) q0 q1 (by omega) m5' hi7
      have : sIf (bB (eBin fEq (eCallF (f_law_taken Γ A) (aCons (eVar 0) (aCons (eC (.int 3)) aNil))) (eC (.int 0)))) (sSeq (sPar 4 7 (aCons (eCallF (f_law_taken Γ A) (aCons (eVar 0) (aCons (eVar 5) aNil))) (aCons (eCallF (f_law_taken Γ A) (aCons (eVar 0) (aCons (eVar 6) aNil))) aNil))) (sLput 3 (eVar 4) (cNew Γ A))) sNil δ4 ρ4 = .nx (δ5.set 3 (some (true, .lst (ss'.map D.str)))) ρ8 := by
        rw [if_ok eb, if_pos rfl, seq_nx s5]
        exact e9
      refine ⟨ss', ρ8, ?_, l9, m9, hi8⟩
      rw [seq_nx this]
      exact fin ss' _ ρ8 (List.getElem?_set_self (by show 3 < ((δ4.set 4 _).set 7 _).length; rw [List.length_set, List.length_set]; omega))
  obtain ⟨ss', ρ6, e10, l10, m10, hi10⟩ := all
  refine ⟨ss', 1 + c, ρ6, ?_, ⟨by rw [l10, l5]; omega, by rw [l10, l5]; omega, by omega, by omega, m10⟩, hi10⟩
  have whole : p_law_cells Γ A δ0 ρ = .rt (.tup (ss'.map D.str)) true ρ6 := by
    unfold p_law_cells
    rw [seq_nx s1]
    rw [seq_nx s2]
    show sSeq (sSet 3 (eLst aNil)) _ δ2 ρ3 = _
    rw [seq_nx s3]
    have s4' := s4
    unfold cLine cPick at s4'
    rw [seq_nx s4']
    unfold cNew at e10
    exact e10
  unfold f_law_cells fnD fnOfS
  rw [if_pos (show [D.row, D.int m].length = 2 from rfl)]
  show (match p_law_cells Γ A δ0 ρ with
    | .rt d fr ρ1 => RE.ok d fr ρ1
    | .nx _ ρ1 => .ok .non true ρ1
    | .er k ρ1 => .er k ρ1
    | _ => .no) = _
  rw [whole]
end K00

/-! ## N7 -/
namespace K00
open PySem PySem.Spec PyProof.Rows L2 WF TL
variable {A : Ad} {Γ : Gam} {δ : List Slot} {ρ : WF.Row}
theorem lc_pure {tg : TGt} {c : CE} (g : D → D) : ∀ {ds : List D}, (∀ d ∈ ds, ∃ δ1, tg d δ = some δ1 ∧ c δ1 ρ = .ok (g d) true ρ) → lcL tg bYes c δ ds ρ = some (ds.map g, ρ)
  | [], _ => rfl
  | d :: ds, h => by
    obtain ⟨δ1, e1, e2⟩ := h d List.mem_cons_self
    have ih := lc_pure g fun d hd => h d (List.mem_cons_of_mem _ hd)
    rw [lcL, e1]
    show (match c δ1 ρ with
      | .ok e true ρ2 => match lcL tg bYes c δ ds ρ2 with
        | some (es, ρ3) => some (e :: es, ρ3)
        | none => none
      | _ => none) = _
    rw [e2]
    dsimp only
    rw [ih]
    rfl
theorem bools_map (bs : List Bool) : bools (bs.map D.bl) = some bs := by
  induction bs with
  | nil => rfl
  | cons b bs ih => rw [List.map_cons, bools, ih]
theorem all_ok {r : CA} {bs : List Bool} {f : Bool} {ρ1 : WF.Row} (h : r δ ρ = .ok [.lst (bs.map D.bl)] f ρ1) : eCall fAll r δ ρ = .ok (.bl (bs.all id)) true ρ1 := by
  unfold eCall; rw [h]; dsimp only; unfold fAll; dsimp only; rw [bools_map]
theorem comp_all {ci : CI} {tg : TGt} {c : CE} {vs : List Nat} {ds : List D} {f : Bool} {ρ1 : WF.Row} (P : D → Bool) (h : ci δ ρ = .ok ds f ρ1) (hl : ds.length ≤ 100000) (hb : ∀ d ∈ ds, ∃ δ1, tg d (wipeD δ vs) = some δ1 ∧ c δ1 ρ1 = .ok (.bl (P d)) true ρ1) :
    eCall fAll (aCons (eLc ci tg bYes c vs) aNil) δ ρ = .ok (.bl (ds.all P)) true ρ1 := by
  have e := lc_ok (tg := tg) (t := bYes) (c := c) (vs := vs) h hl (lc_pure (fun d => .bl (P d)) hb)
  have e2 : ds.map (fun d => D.bl (P d)) = (ds.map P).map D.bl := by rw [List.map_map]; rfl
  rw [e2] at e
  rw [all_ok (cons_ok e nil_ok), List.all_map]
  rfl
theorem any_lst {c : CE} {ds : List D} {f : Bool} {ρ1 : WF.Row} (h : c δ ρ = .ok (.lst ds) f ρ1) : iAny c δ ρ = .ok ds f ρ1 := by unfold iAny; rw [h]; rfl
theorem any_tup {c : CE} {ds : List D} {f : Bool} {ρ1 : WF.Row} (h : c δ ρ = .ok (.tup ds) f ρ1) : iAny c δ ρ = .ok ds f ρ1 := by unfold iAny; rw [h]; rfl
theorem any_str {c : CE} {s : Str} {f : Bool} {ρ1 : WF.Row} (h : c δ ρ = .ok (.str s) f ρ1) : iAny c δ ρ = .ok (signs s) true ρ1 := by unfold iAny; rw [h]
theorem fn_rt {n m : Nat} {c : CS} {ds : List D} {d : D} {fr : Bool} {ρ1 : WF.Row} (hl : ds.length = m) (h : c (startD n ds) ρ = .rt d fr ρ1) : fnD n m c ds ρ = .ok d fr ρ1 := by
  unfold fnD fnOfS; rw [if_pos hl, h]
theorem fn_nx {n m : Nat} {c : CS} {ds : List D} {δ1 : List Slot} {ρ1 : WF.Row} (hl : ds.length = m) (h : c (startD n ds) ρ = .nx δ1 ρ1) : fnD n m c ds ρ = .ok .non true ρ1 := by
  unfold fnD fnOfS; rw [if_pos hl, h]
theorem ret_ok {c : CE} {d : D} {f : Bool} {ρ1 : WF.Row} (h : c δ ρ = .ok d f ρ1) : sRet c δ ρ = .rt d f ρ1 := by unfold sRet; rw [h]
theorem sign_in {k : Nat} (h : k ∈ tl sg) : fIn (.str ⟨#[k]⟩) (.ktup k_SIGNS) = some (.bl true, true) := by
  have e : tl sg = [46, 60, 62, 120] := by decide +kernel
  rw [e] at h
  simp only [List.mem_cons, List.not_mem_nil, or_false] at h
  rcases h with rfl | rfl | rfl | rfl <;> rfl
theorem signs_all {c : Int} {s : Str} {x0 x3 : Slot} (h : Line c sg s) (hc : c ≤ 1000) : eCall fAll (aCons (eLc (iAny (eVar 2)) (gN 3) bYes (eBin fIn (eVar 3) (eVar 1)) [3]) aNil) [x0, some (false, .ktup k_SIGNS), some (true, .str s), x3] ρ = .ok (.bl true) true ρ := by
  have := comp_all (δ := [x0, some (false, .ktup k_SIGNS), some (true, D.str s), x3]) (ρ := ρ) (ci := iAny (eVar 2)) (tg := gN 3) (c := eBin fIn (eVar 3) (eVar 1)) (vs := [3]) (fun _ => true) (any_str (var_ok (w := true) rfl)) (by
    rw [signs_len]; have := h.1; rw [← len_tl] at this; show s.length ≤ _; omega) (fun d hd => by
      obtain ⟨k, hk, rfl⟩ := List.mem_map.mp hd
      exact ⟨_, rfl, bin_ok (var_ok (w := true) rfl) (var_ok (w := false) rfl) (sign_in (h.2 k hk))⟩)
  have t : ((WF.signs s).all fun _ => true) = true := List.all_eq_true.mpr fun _ _ => rfl
  rw [t] at this
  exact this
end K00

/-! ## N8 -/
namespace K00
open PySem PySem.Spec PyProof.Rows L2 WF TL
variable {A : Ad} {Γ : Gam} {δ : List Slot} {ρ : WF.Row}
def bd (ss : List Str) (n : Nat) : D := .ins 0 [.tup (ss.map D.str), .tup (intsD 0 n)]
theorem len_tup {r : CA} {xs : List D} {fr : Bool} {ρ1 : WF.Row} {F : Fn} (h : r δ ρ = .ok [.tup xs] fr ρ1) : eLenX Γ 0 F r δ ρ = .ok (.int xs.length) true ρ1 := by
  unfold eLenX; rw [h]; rfl
theorem len_lst {r : CA} {xs : List D} {fr : Bool} {ρ1 : WF.Row} {F : Fn} (h : r δ ρ = .ok [.lst xs] fr ρ1) : eLenX Γ 0 F r δ ρ = .ok (.int xs.length) true ρ1 := by
  unfold eLenX; rw [h]; rfl
theorem Board_len {ss : List Str} {n : Nat} : f_Board_len Γ A [bd ss n] ρ = .ok (.int n) true ρ := by
  have : (intsD 0 n).length = n := by unfold intsD; rw [List.length_map, List.length_range]
  refine fn_rt rfl (ret_ok ?_)
  show eCall (fLen Γ) (aCons (eFld 0 1 (eVar 0)) aNil) [some (false, bd ss n)] ρ = _
  show RE.ok (.int ((intsD 0 n).length : Nat)) true ρ = _
  rw [this]
theorem len_bd {r : CA} {ss : List Str} {n : Nat} {fr : Bool} {ρ1 : WF.Row} (h : r δ ρ = .ok [bd ss n] fr ρ1) (hn : n ≤ 1000) : eLenX Γ 0 (f_Board_len Γ A) r δ ρ = .ok (.int n) true ρ1 := by
  unfold eLenX; rw [h]
  have e := Board_len (Γ := Γ) (A := A) (ρ := ρ1) (ss := ss) (n := n)
  unfold bd at e ⊢
  dsimp only
  rw [if_pos rfl, e]
  dsimp only
  rw [if_pos ⟨by omega, by omega⟩]
theorem chain_ok {f f' : Op2} {ca cb cc : CE} {a b c : D} {x y : Bool} {f1 f2 f3 f4 f5 : Bool} {ρ1 ρ2 ρ3 : WF.Row} (h1 : ca δ ρ = .ok a f1 ρ1) (h2 : cb δ ρ1 = .ok b f2 ρ2) (h : f a b = some (.bl true, f4)) (h3 : cc δ ρ2 = .ok c f3 ρ3) (h' : f' b c = some (.bl y, f5)) : eChain f f' ca cb cc δ ρ = .ok (.bl y) f5 ρ3 := by
  unfold eChain; rw [h1]; dsimp only; rw [h2]; dsimp only; rw [h]; dsimp only; rw [h3]; dsimp only; rw [h']
theorem chain_no {f f' : Op2} {ca cb cc : CE} {a b : D} {f1 f2 f4 : Bool} {ρ1 ρ2 : WF.Row} (h1 : ca δ ρ = .ok a f1 ρ1) (h2 : cb δ ρ1 = .ok b f2 ρ2) (h : f a b = some (.bl false, f4)) : eChain f f' ca cb cc δ ρ = .ok (.bl false) true ρ2 := by
  unfold eChain; rw [h1]; dsimp only; rw [h2]; dsimp only; rw [h]
theorem le_t {i j : Int} (h : i ≤ j) : fLe (.int i) (.int j) = some (.bl true, true) := by
  show some (D.bl (decide (i ≤ j)), true) = _
  rw [decide_eq_true h]
theorem le_f {i j : Int} (h : ¬ i ≤ j) : fLe (.int i) (.int j) = some (.bl false, true) := by
  show some (D.bl (decide (i ≤ j)), true) = _
  rw [decide_eq_false h]
theorem not_ok {t : CT} {b : Bool} {ρ1 : WF.Row} (h : t δ ρ = .ok b ρ1) : bNot t δ ρ = .ok (!b) ρ1 := by unfold bNot; rw [h]
theorem bE_ok {c : CE} {b f : Bool} {ρ1 : WF.Row} (h : c δ ρ = .ok (.bl b) f ρ1) : bE c δ ρ = .ok b ρ1 := by unfold bE; rw [h]; rfl
theorem or_f {t u : CT} {ρ1 : WF.Row} (h : t δ ρ = .ok false ρ1) : bOr t u δ ρ = u δ ρ1 := by unfold bOr; rw [h]
theorem or_t {t u : CT} {ρ1 : WF.Row} (h : t δ ρ = .ok true ρ1) : bOr t u δ ρ = .ok true ρ1 := by unfold bOr; rw [h]
theorem and_t {c1 c2 : CE} {f : Bool} {ρ1 : WF.Row} (h : c1 δ ρ = .ok (.bl true) f ρ1) : eAnd c1 c2 δ ρ = c2 δ ρ1 := by unfold eAnd; rw [h]
theorem eq_int {i j : Int} (h : i = j) : fEq (.int i) (.int j) = some (.bl true, true) := by
  subst h
  show (if (SeqAt.shaped (.int i) && SeqAt.shaped (.int i)) = true then some (D.bl (PyData.eqv (.int i) (.int i)), true) else none) = _
  rw [if_pos (show (SeqAt.shaped (PyData.int i) && SeqAt.shaped (PyData.int i)) = true from rfl)]
  have : PyData.eqv (.int i) (.int i) = true := by simp [PyData.eqv]
  rw [this]
/-- a board's cells: all of them fit -/
theorem is_table {m c : Int} {ss : List Str} (h : Cells m ss c) (hm : m ≤ 5) : f_is_table Γ A [.tup (ss.map D.str), .ktup k_SIGNS] ρ = .ok (.bl true) true ρ := by
  obtain ⟨s0, ss', rfl⟩ : ∃ s0 ss', ss = s0 :: ss' := by
    cases ss with
    | nil => have := h.r1; cases this
    | cons a b => exact ⟨a, b, rfl⟩
  have r1 := h.r1; have r2 := h.r2; have c1 := h.c1; have c2 := h.c2
  have l0 := (h.ln s0 List.mem_cons_self).1
  have e0 : ∀ {δ : List Slot} {b : Bool} {ρ : WF.Row}, δ[0]? = some (some (b, .tup ((s0 :: ss').map D.str))) → eBin (orF fIx (fIxR Γ)) (eVar 0) (eC (.int 0)) δ ρ = .ok (.str s0) true ρ := fun hδ => bin_ok (var_ok hδ) rfl (ix_tup (d := .str s0) (by rw [atI_nat' (by decide) (by rw [List.length_map, List.length_cons]; omega)]; rfl))
  have lz : ∀ s ∈ s0 :: ss', s.length ≤ 1000 := fun s hs => by have := (h.ln s hs).1; rw [len_tl]; omega
  have hlen : ∀ s ∈ s0 :: ss', (s.length : Int) = c := fun s hs => by rw [len_tl]; exact (h.ln s hs).1
  let δ0 : List Slot := [some (false, .tup ((s0 :: ss').map D.str)), some (false, .ktup k_SIGNS), none, none]
  have t1 : bOr (bNot (bE (eCall fIsi (aCons (eVar 0) (aCons (eC (.ty "tuple")) aNil))))) (bNot (bB (eChain fLe fLe (eC (.int 1)) (eLenX Γ 0 (f_Board_len Γ A) (aCons (eVar 0) aNil)) (eC (.int 5))))) δ0 ρ = .ok false ρ := by
    have a1 : eCall fIsi (aCons (eVar 0) (aCons (eC (.ty "tuple")) aNil)) δ0 ρ = .ok (.bl true) true ρ := rfl
    rw [or_f (not_ok (bE_ok a1))]
    have a2 : eLenX Γ 0 (f_Board_len Γ A) (aCons (eVar 0) aNil) δ0 ρ = .ok (.int ((s0 :: ss').map D.str).length) true ρ := len_tup (cons_ok (var_ok (w := false) rfl) nil_ok)
    exact not_ok (bB_ok (chain_ok (x := true) rfl a2 (le_t (by rw [List.length_map]; omega)) rfl (le_t (by rw [List.length_map]; omega))))
  have t2 : bNot (bE (eCall fAll (aCons (eLc (iAny (eVar 0)) (gN 2) bYes (eCall fIsi (aCons (eVar 2) (aCons (eC (.ty "str")) aNil))) [2]) aNil))) δ0 ρ = .ok false ρ := by
    have := comp_all (δ := δ0) (ρ := ρ) (ci := iAny (eVar 0)) (tg := gN 2) (c := eCall fIsi (aCons (eVar 2) (aCons (eC (.ty "str")) aNil))) (vs := [2]) (fun _ => true) (any_tup (var_ok (w := false) rfl)) (by rw [List.length_map]; omega) (fun d hd => by
      obtain ⟨s, hs, rfl⟩ := List.mem_map.mp hd
      exact ⟨_, rfl, rfl⟩)
    have t : (((s0 :: ss').map D.str).all fun _ => true) = true := List.all_eq_true.mpr fun _ _ => rfl
    rw [t] at this
    exact not_ok (bE_ok this)
  have t3 : bNot (bB (eChain fLe fLe (eC (.int 1)) (eLenX Γ 0 (f_Board_len Γ A) (aCons (eBin (orF fIx (fIxR Γ)) (eVar 0) (eC (.int 0))) aNil)) (eC (.int 5)))) δ0 ρ = .ok false ρ := by
    have a2 : eLenX Γ 0 (f_Board_len Γ A) (aCons (eBin (orF fIx (fIxR Γ)) (eVar 0) (eC (.int 0))) aNil) δ0 ρ = .ok (.int s0.length) true ρ := len_str (cons_ok (e0 (b := false) rfl) nil_ok) (lz s0 List.mem_cons_self)
    have := hlen s0 List.mem_cons_self
    exact not_ok (bB_ok (chain_ok (x := true) rfl a2 (le_t (by omega)) rfl (le_t (by omega))))
  have t4 := comp_all (δ := δ0) (ρ := ρ) (ci := iAny (eVar 0)) (tg := gN 2) (c := (eAnd (eBin fEq (eLenX Γ 0 (f_Board_len Γ A) (aCons (eVar 2) aNil)) (eLenX Γ 0 (f_Board_len Γ A) (aCons (eBin (orF fIx (fIxR Γ)) (eVar 0) (eC (.int 0))) aNil))) (eCall fAll (aCons (eLc (iAny (eVar 2)) (gN 3) bYes (eBin fIn (eVar 3) (eVar 1)) [3]) aNil)))) (vs := [2]) (fun _ => true) (any_tup (var_ok (w := false) rfl)) (by rw [List.length_map]; omega) (fun d hd => by
      obtain ⟨s, hs, rfl⟩ := List.mem_map.mp hd
      refine ⟨[some (false, .tup ((s0 :: ss').map D.str)), some (false, .ktup k_SIGNS), some (true, .str s), none], rfl, ?_⟩
      have b1 : eLenX Γ 0 (f_Board_len Γ A) (aCons (eVar 2) aNil) [some (false, .tup ((s0 :: ss').map D.str)), some (false, .ktup k_SIGNS), some (true, .str s), none] ρ = .ok (.int s.length) true ρ := len_str (cons_ok (var_ok (w := true) rfl) nil_ok) (lz s hs)
      have b2 : eLenX Γ 0 (f_Board_len Γ A) (aCons (eBin (orF fIx (fIxR Γ)) (eVar 0) (eC (.int 0))) aNil) [some (false, .tup ((s0 :: ss').map D.str)), some (false, .ktup k_SIGNS), some (true, .str s), none] ρ = .ok (.int s0.length) true ρ := len_str (cons_ok (e0 (b := false) rfl) nil_ok) (lz s0 List.mem_cons_self)
      rw [and_t (bin_ok b1 b2 (eq_int (by rw [hlen s hs, hlen s0 List.mem_cons_self])))]
      exact signs_all (h.ln s hs) (by omega))
  have t : (((s0 :: ss').map D.str).all fun _ => true) = true := List.all_eq_true.mpr fun _ _ => rfl
  rw [t] at t4
  have g1 : ∀ {t : CT} {c : CS}, t δ0 ρ = .ok false ρ → sIf t c sNil δ0 ρ = .nx δ0 ρ := fun h => by rw [if_ok h]; rfl
  have g : p_is_table Γ A δ0 ρ = .rt (.bl true) true ρ := by
    unfold p_is_table
    rw [seq_nx (g1 t1), seq_nx (g1 t2), seq_nx (g1 t3)]
    exact ret_ok t4
  exact fn_rt rfl g
theorem is_cells {m c : Int} {ss : List Str} (h : Cells m ss c) (hm : m ≤ 5) : f_is_cells Γ A [.tup (ss.map D.str)] ρ = .ok (.bl true) true ρ := by
  have e := is_table (Γ := Γ) (A := A) (ρ := ρ) h hm
  have g : p_is_cells Γ A [some (false, .tup (ss.map D.str))] ρ = .rt (.bl true) true ρ := by
    unfold p_is_cells
    refine ret_ok ?_
    unfold eCallF
    rw [cons_ok (var_ok (w := false) (d := .tup (ss.map D.str)) rfl) (cons_ok (d := .ktup k_SIGNS) (f1 := true) rfl nil_ok)]
    dsimp only
    exact e
  exact fn_rt rfl g
theorem board {m c : Int} {ss : List Str} (h : Cells m ss c) (hm : m ≤ 5) : i_Board Γ A [.tup (ss.map D.str)] ρ = .ok [.tup (ss.map D.str), .tup (intsD 0 (ss.length + c.toNat))] ρ := by
  obtain ⟨s0, ss', rfl⟩ : ∃ s0 ss', ss = s0 :: ss' := by
    cases ss with
    | nil => have := h.r1; cases this
    | cons a b => exact ⟨a, b, rfl⟩
  have r1 := h.r1; have r2 := h.r2; have c1 := h.c1; have c2 := h.c2
  have l0 := (h.ln s0 List.mem_cons_self).1
  let δ0 : List Slot := [none, some (false, .tup ((s0 :: ss').map D.str))]
  have a1 : eCallF (f_is_cells Γ A) (aCons (eVar 1) aNil) δ0 ρ = .ok (.bl true) true ρ := by
    unfold eCallF
    rw [cons_ok (var_ok (w := false) (d := .tup ((s0 :: ss').map D.str)) rfl) nil_ok]
    dsimp only
    rw [is_cells h hm]
  have a2 : bNot (bE (eCallF (f_is_cells Γ A) (aCons (eVar 1) aNil))) δ0 ρ = .ok false ρ := not_ok (bE_ok a1)
  have a3 : eBin (orF fIx (fIxR Γ)) (eVar 1) (eC (.int 0)) δ0 ρ = .ok (.str s0) true ρ := bin_ok (var_ok (w := false) rfl) rfl (ix_tup (d := .str s0) (by rw [atI_nat' (by decide) (by rw [List.length_map, List.length_cons]; omega)]; rfl))
  have a4 : eCall (fLen Γ) (aCons (eBin (orF fIx (fIxR Γ)) (eVar 1) (eC (.int 0))) aNil) δ0 ρ = .ok (.int s0.length) true ρ := by
    unfold eCall
    rw [cons_ok a3 nil_ok]
    dsimp only
    unfold fLen
    dsimp only
    rw [if_pos (by rw [len_tl]; omega)]
  have a5 : eBin fAdd (eCall (fLen Γ) (aCons (eVar 1) aNil)) (eCall (fLen Γ) (aCons (eBin (orF fIx (fIxR Γ)) (eVar 1) (eC (.int 0))) aNil)) δ0 ρ = .ok (.int ((((s0 :: ss').map D.str).length : Int) + s0.length)) true ρ := bin_ok (a := .int ((s0 :: ss').map D.str).length) rfl a4 add1
  have hn : ((((s0 :: ss').map D.str).length : Int) + (s0.length : Int)).toNat = (s0 :: ss').length + c.toNat := by rw [List.length_map, len_tl]; omega
  have a6 : eRg true (eBin fAdd (eCall (fLen Γ) (aCons (eVar 1) aNil)) (eCall (fLen Γ) (aCons (eBin (orF fIx (fIxR Γ)) (eVar 1) (eC (.int 0))) aNil))) δ0 ρ = .ok (.tup (intsD 0 ((s0 :: ss').length + c.toNat))) true ρ := by
    unfold eRg
    rw [a5]
    dsimp only
    rw [if_pos (by rw [List.length_map, len_tl]; constructor <;> omega), hn]
    rfl
  unfold i_Board
  rw [if_pos (show [D.tup ((s0 :: ss').map D.str)].length = 1 from rfl)]
  show iniRun δ0 (steps_Board Γ A) [] ρ = _
  unfold steps_Board
  rw [iniRun, a2]
  dsimp only
  rw [iniRun, var_ok (w := false) (d := .tup ((s0 :: ss').map D.str)) rfl]
  dsimp only
  rw [iniRun, a6]
  rfl
end K00

/-! ## N9 -/
namespace K00
open PySem PySem.Spec PyProof.Rows L2 WF TL
variable {A : Ad} {Γ : Gam} {δ : List Slot} {ρ : WF.Row}
theorem prop_cells {ss : List Str} {n : Nat} {b : Bool} {i : Nat} (h : δ[i]? = some (some (b, bd ss n))) : eProp 0 (f_Board_cells Γ A) (eVar i) δ ρ = .ok (.tup (ss.map D.str)) true ρ := by
  have e : f_Board_cells Γ A [bd ss n] ρ = .ok (.tup (ss.map D.str)) true ρ := fn_rt rfl (ret_ok (by
    show RE.ok (.tup (ss.map D.str)) (imm (.tup (ss.map D.str))) ρ = _
    rw [imm, imm_strs]))
  unfold eProp
  rw [var_ok h]
  unfold bd at e ⊢
  dsimp only
  rw [if_pos rfl, e]
  rfl
theorem prop_rows {ss : List Str} {n : Nat} {b : Bool} {i : Nat} (h : δ[i]? = some (some (b, bd ss n))) : eProp 0 (f_Board_rows Γ A) (eVar i) δ ρ = .ok (.int ss.length) true ρ := by
  have e : f_Board_rows Γ A [bd ss n] ρ = .ok (.int ss.length) true ρ := fn_rt rfl (ret_ok (by
    show RE.ok (.int ((ss.map D.str).length : Nat)) true ρ = _
    rw [List.length_map]))
  unfold eProp
  rw [var_ok h]
  unfold bd at e ⊢
  dsimp only
  rw [if_pos rfl, e]
  rfl
theorem check_board {ss : List Str} {n : Nat} : f_check_board Γ A [bd ss n] ρ = .ok .non true ρ := fn_nx rfl (by
  show p_check_board Γ A [some (false, bd ss n)] ρ = .nx [some (false, bd ss n)] ρ
  rfl)
theorem drop_ok {c : CE} {d : D} {f : Bool} {ρ1 : WF.Row} (h : c δ ρ = .ok d f ρ1) : sDrop c δ ρ = .nx δ ρ1 := by unfold sDrop; rw [h]
theorem call1 {F : Fn} {i : Nat} {b : Bool} {d r : D} {f : Bool} {ρ1 : WF.Row} (h : δ[i]? = some (some (b, d))) (e : F [d] ρ = .ok r f ρ1) : ∃ f3, eCallF F (aCons (eVar i) aNil) δ ρ = .ok r f3 ρ1 := callF_ok (cons_ok (var_ok h) nil_ok) e
theorem drop_board {ss : List Str} {n : Nat} {i : Nat} {b : Bool} (h : δ[i]? = some (some (b, bd ss n))) : sDrop (eCallF (f_check_board Γ A) (aCons (eVar i) aNil)) δ ρ = .nx δ ρ := by
  obtain ⟨f, e⟩ := call1 (F := f_check_board Γ A) h (check_board (ρ := ρ))
  exact drop_ok e
/-! ### steps -/
def gx (k : Nat) : Bool := k == 62 || k == 120
def lx (k : Nat) : Bool := k == 60 || k == 120
theorem in_gx {k : Nat} (h : k ∈ tl sg) : fIn (ch k) (.tup [.str ">", .str "x"]) = some (.bl (gx k), true) := by
  have e : tl sg = [46, 60, 62, 120] := by decide +kernel
  rw [e] at h
  simp only [List.mem_cons, List.not_mem_nil, or_false] at h
  rcases h with rfl | rfl | rfl | rfl <;> rfl
theorem in_lx {k : Nat} (h : k ∈ tl sg) : fIn (ch k) (.tup [.str "<", .str "x"]) = some (.bl (lx k), true) := by
  have e : tl sg = [46, 60, 62, 120] := by decide +kernel
  rw [e] at h
  simp only [List.mem_cons, List.not_mem_nil, or_false] at h
  rcases h with rfl | rfl | rfl | rfl <;> rfl
/-- the steps of one cell -/
def stp (i a : Int) (k : Nat) : List (Int × Int) := (if gx k then [(i, a)] else []) ++ (if lx k then [(a, i)] else [])
/-- the steps of a row from column n on -/
def rowS (R i : Int) : Nat → List Nat → List (Int × Int)
  | _, [] => []
  | n, k :: ks => stp i (R + n) k ++ rowS R i (n + 1) ks
def rawS (R : Int) : Nat → List Str → List (Int × Int)
  | _, [] => []
  | n, s :: ss => rowS R n 0 (tl s) ++ rawS R (n + 1) ss
def stepsOf (ss : List Str) : List (Int × Int) := sortP (rawS ss.length 0 ss)
def bCell (Γ : Gam) (A : Ad) : CS := (sSeq (sSet 6 (eBin fAdd (eProp 0 (f_Board_rows Γ A) (eVar 0)) (eVar 4))) (sSeq (sIf (bB (eBin fIn (eVar 5) (eTup (aCons (eC (.str ">")) (aCons (eC (.str "x")) aNil))))) (sApp 1 (eTup (aCons (eVar 2) (aCons (eVar 6) aNil)))) sNil) (sIf (bB (eBin fIn (eVar 5) (eTup (aCons (eC (.str "<")) (aCons (eC (.str "x")) aNil))))) (sApp 1 (eTup (aCons (eVar 6) (aCons (eVar 2) aNil)))) sNil)))
/-- the slots of steps: board, found, row, signs, column, sign, across -/
def sS (b : D) (L : List (Int × Int)) (i : Int) (s : D) (x y z : Slot) : List Slot := [some (false, b), some (true, .lst (L.map prD)), some (true, .int i), some (true, s), x, y, z]
theorem app_pr {L : List (Int × Int)} {c : CE} {p : Int × Int} {δ : List Slot} (h : δ[1]? = some (some (true, .lst (L.map prD)))) (hc : c δ ρ = .ok (prD p) true ρ) (hl : L.length < 1000) : sApp 1 c δ ρ = .nx (δ.set 1 (some (true, .lst ((L ++ [p]).map prD)))) ρ := by
  rw [app_ok h hc (by rw [List.length_map]; omega), List.map_append]; rfl
theorem cell {ss : List Str} {n : Nat} {L : List (Int × Int)} {i j : Int} {s : D} {k : Nat} {z : Slot} (hk : k ∈ tl sg) (hl : L.length + 2 < 1000) : bCell Γ A (sS (bd ss n) L i s (some (true, .int j)) (some (true, ch k)) z) ρ = .nx (sS (bd ss n) (L ++ stp i (ss.length + j) k) i s (some (true, .int j)) (some (true, ch k)) (some (true, .int (ss.length + j)))) ρ := by
  unfold bCell
  have e1 : sSet 6 (eBin fAdd (eProp 0 (f_Board_rows Γ A) (eVar 0)) (eVar 4)) (sS (bd ss n) L i s (some (true, .int j)) (some (true, ch k)) z) ρ = .nx (sS (bd ss n) L i s (some (true, .int j)) (some (true, ch k)) (some (true, .int (ss.length + j)))) ρ := set_ok (bin_ok (prop_rows (b := false) rfl) (var_ok (w := true) rfl) add1)
  rw [seq_nx e1]
  have t1 : bB (eBin fIn (eVar 5) (eTup (aCons (eC (.str ">")) (aCons (eC (.str "x")) aNil)))) (sS (bd ss n) L i s (some (true, .int j)) (some (true, ch k)) (some (true, .int (ss.length + j)))) ρ = .ok (gx k) ρ := bB_ok (bin_ok (var_ok (w := true) rfl) rfl (in_gx hk))
  have e2 : sIf (bB (eBin fIn (eVar 5) (eTup (aCons (eC (.str ">")) (aCons (eC (.str "x")) aNil))))) (sApp 1 (eTup (aCons (eVar 2) (aCons (eVar 6) aNil)))) sNil (sS (bd ss n) L i s (some (true, .int j)) (some (true, ch k)) (some (true, .int (ss.length + j)))) ρ = .nx (sS (bd ss n) (L ++ (if gx k then [(i, (ss.length : Int) + j)] else [])) i s (some (true, .int j)) (some (true, ch k)) (some (true, .int (ss.length + j)))) ρ := by
    rw [if_ok t1]
    by_cases g : gx k = true
    · rw [if_pos g, if_pos g, app_pr (L := L) (p := (i, (ss.length : Int) + j)) rfl rfl (by omega)]; rfl
    · rw [if_neg g, if_neg g, List.append_nil]; rfl
  rw [seq_nx e2]
  have t2 : bB (eBin fIn (eVar 5) (eTup (aCons (eC (.str "<")) (aCons (eC (.str "x")) aNil)))) (sS (bd ss n) (L ++ (if gx k then [(i, (ss.length : Int) + j)] else [])) i s (some (true, .int j)) (some (true, ch k)) (some (true, .int (ss.length + j)))) ρ = .ok (lx k) ρ := bB_ok (bin_ok (var_ok (w := true) rfl) rfl (in_lx hk))
  rw [if_ok t2]
  have len : (L ++ (if gx k then [(i, (ss.length : Int) + j)] else [])).length < 1000 := by
    rw [List.length_append]
    split
    · show L.length + 1 < 1000; omega
    · show L.length + 0 < 1000; omega
  by_cases g : lx k = true
  · rw [if_pos g, app_pr (L := L ++ (if gx k then [(i, (ss.length : Int) + j)] else [])) (p := ((ss.length : Int) + j, i)) rfl rfl len]
    unfold stp
    rw [if_pos g, List.append_assoc]
    rfl
  · rw [if_neg g]
    unfold stp
    rw [if_neg g, List.append_nil]
    rfl
end K00

/-! ## NA -/
namespace K00
open PySem PySem.Spec PyProof.Rows L2 WF TL
variable {A : Ad} {Γ : Gam} {δ : List Slot} {ρ : WF.Row}
theorem stp_len (i a : Int) (k : Nat) : (stp i a k).length ≤ 2 := by
  unfold stp
  rw [List.length_append]
  split <;> split <;> simp
theorem rowS_len (R i : Int) : ∀ (n : Nat) (ks : List Nat), (rowS R i n ks).length ≤ 2 * ks.length
  | _, [] => Nat.le_refl _
  | n, k :: ks => by
    have h1 := stp_len i (R + n) k
    have h2 := rowS_len R i (n + 1) ks
    rw [rowS, List.length_append, List.length_cons]
    omega
theorem row_loop {ss : List Str} {n : Nat} {i : Int} {s : D} : ∀ (ks : List Nat) (j : Nat) (L : List (Int × Int)) (x y z : Slot), (∀ k ∈ ks, k ∈ tl sg) → L.length + 2 * ks.length + 2 < 1000 →
    ∃ x' y' z', forL (gTu ((gN 4) :: ((gN 5) :: []))) (bCell Γ A) (pairs j (ks.map ch)) (sS (bd ss n) L i s x y z) ρ = .nx (sS (bd ss n) (L ++ rowS ss.length i j ks) i s x' y' z') ρ
  | [], j, L, x, y, z, _, _ => ⟨x, y, z, by rw [rowS, List.append_nil]; rfl⟩
  | k :: ks, j, L, x, y, z, hk, hl => by
    rw [List.length_cons] at hl
    have hs := stp_len i (ss.length + (j : Int)) k
    obtain ⟨x', y', z', e⟩ := row_loop (ss := ss) (n := n) (i := i) (s := s) ks (j + 1) (L ++ stp i (ss.length + (j : Int)) k) (some (true, .int j)) (some (true, ch k)) (some (true, .int (ss.length + j))) (fun q hq => hk q (List.mem_cons_of_mem _ hq)) (by rw [List.length_append]; omega)
    refine ⟨x', y', z', ?_⟩
    have ec := cell (A := A) (Γ := Γ) (ρ := ρ) (ss := ss) (n := n) (L := L) (i := i) (j := (j : Int)) (s := s) (k := k) (z := z) (hk k List.mem_cons_self) (by omega)
    show (match bCell Γ A (sS (bd ss n) L i s (some (true, .int j)) (some (true, ch k)) z) ρ with
      | .nx δ2 ρ2 => forL (gTu ((gN 4) :: ((gN 5) :: []))) (bCell Γ A) (pairs (j + 1) (ks.map ch)) δ2 ρ2
      | .ct δ2 ρ2 => forL (gTu ((gN 4) :: ((gN 5) :: []))) (bCell Γ A) (pairs (j + 1) (ks.map ch)) δ2 ρ2
      | .bk δ2 ρ2 => .nx δ2 ρ2
      | .rt d fr ρ2 => .rt d fr ρ2
      | .er k ρ2 => .er k ρ2
      | .no => .no) = _
    rw [ec]
    dsimp only
    rw [e, rowS, List.append_assoc]
def bRow (Γ : Gam) (A : Ad) : CS := sFor (gTu ((gN 4) :: ((gN 5) :: []))) (iEnum (aCons (eVar 3) aNil)) (bCell Γ A)
theorem rows_loop {all : List Str} {n : Nat} : ∀ (ss : List Str) (j : Nat) (L : List (Int × Int)) (a b x y z : Slot), (∀ s ∈ ss, (tl s).length ≤ 5 ∧ ∀ k ∈ tl s, k ∈ tl sg) → L.length + 10 * ss.length + 2 < 1000 →
    ∃ a' b' x' y' z', forL (gTu ((gN 2) :: ((gN 3) :: []))) (bRow Γ A) (pairs j (ss.map D.str)) [some (false, bd all n), some (true, .lst (L.map prD)), a, b, x, y, z] ρ = .nx [some (false, bd all n), some (true, .lst ((L ++ rawS all.length j ss).map prD)), a', b', x', y', z'] ρ
  | [], j, L, a, b, x, y, z, _, _ => ⟨a, b, x, y, z, by rw [rawS, List.append_nil]; rfl⟩
  | s :: ss, j, L, a, b, x, y, z, hk, hl => by
    obtain ⟨k1, k2⟩ := hk s List.mem_cons_self
    rw [List.length_cons] at hl
    obtain ⟨x', y', z', e⟩ := row_loop (A := A) (Γ := Γ) (ρ := ρ) (ss := all) (n := n) (i := (j : Int)) (s := .str s) (tl s) 0 L x y z k2 (by omega)
    have hr := rowS_len all.length (j : Int) 0 (tl s)
    obtain ⟨a2, b2, x2, y2, z2, e2⟩ := rows_loop (all := all) (n := n) ss (j + 1) (L ++ rowS all.length j 0 (tl s)) (some (true, .int j)) (some (true, .str s)) x' y' z' (fun q hq => hk q (List.mem_cons_of_mem _ hq)) (by rw [List.length_append]; omega)
    refine ⟨a2, b2, x2, y2, z2, ?_⟩
    have eb : bRow Γ A (sS (bd all n) L j (.str s) x y z) ρ = .nx (sS (bd all n) (L ++ rowS all.length j 0 (tl s)) j (.str s) x' y' z') ρ := by
      unfold bRow
      rw [for_ok (ds := pairs 0 (WF.signs s)) (ρ1 := ρ) (by unfold WF.iEnum; rfl)]
      exact e
    show (match bRow Γ A (sS (bd all n) L j (.str s) x y z) ρ with
      | .nx δ2 ρ2 => forL (gTu ((gN 2) :: ((gN 3) :: []))) (bRow Γ A) (pairs (j + 1) (ss.map D.str)) δ2 ρ2
      | .ct δ2 ρ2 => forL (gTu ((gN 2) :: ((gN 3) :: []))) (bRow Γ A) (pairs (j + 1) (ss.map D.str)) δ2 ρ2
      | .bk δ2 ρ2 => .nx δ2 ρ2
      | .rt d fr ρ2 => .rt d fr ρ2
      | .er k ρ2 => .er k ρ2
      | .no => .no) = _
    rw [eb]
    dsimp only
    unfold sS
    rw [e2, rawS, List.append_assoc]
theorem sort_pr {r : CA} {ps : List (Int × Int)} {f : Bool} {ρ1 : WF.Row} (h : r δ ρ = .ok [.lst (ps.map prD)] f ρ1) : eCall fSort r δ ρ = .ok (.lst ((sortP ps).map prD)) true ρ1 := by
  unfold eCall
  rw [h]
  dsimp only
  unfold fSort fSortP
  have e : fSortI [.lst (ps.map prD)] = if ps = [] then some (.lst [], true) else none := by
    cases ps with
    | nil => rfl
    | cons p ps => rfl
  rw [e]
  cases ps with
  | nil => rfl
  | cons p ps =>
    rw [if_neg (by simp)]
    dsimp only
    rw [prsOf_map]
theorem steps {m c : Int} {ss : List Str} {n : Nat} (h : Cells m ss c) (hm : m ≤ 5) : f_steps Γ A [bd ss n] ρ = .ok (.lst ((stepsOf ss).map prD)) true ρ := by
  have r2 := h.r2; have c2 := h.c2
  refine fn_rt rfl ?_
  show p_steps Γ A [some (false, bd ss n), none, none, none, none, none, none] ρ = _
  unfold p_steps
  rw [seq_nx (drop_board (b := false) rfl)]
  have e1 : sSet 1 (eLst aNil) [some (false, bd ss n), none, none, none, none, none, none] ρ = .nx [some (false, bd ss n), some (true, .lst (([] : List (Int × Int)).map prD)), none, none, none, none, none] ρ := rfl
  rw [seq_nx e1]
  obtain ⟨a, b, x, y, z, e2⟩ := rows_loop (A := A) (Γ := Γ) (ρ := ρ) (all := ss) (n := n) ss 0 [] none none none none none (fun s hs => ⟨by have := (h.ln s hs).1; omega, (h.ln s hs).2⟩) (by show 0 + _ + 2 < 1000; omega)
  have e3 : sFor (gTu ((gN 2) :: ((gN 3) :: []))) (iEnum (aCons (eProp 0 (f_Board_cells Γ A) (eVar 0)) aNil)) (bRow Γ A) [some (false, bd ss n), some (true, .lst (([] : List (Int × Int)).map prD)), none, none, none, none, none] ρ = .nx [some (false, bd ss n), some (true, .lst (([] ++ rawS ss.length 0 ss).map prD)), a, b, x, y, z] ρ := by
    rw [for_ok (ds := pairs 0 (ss.map D.str)) (ρ1 := ρ) (by unfold WF.iEnum; rw [cons_ok (prop_cells (A := A) (Γ := Γ) (ss := ss) (n := n) (b := false) rfl) nil_ok]; rfl)]
    exact e2
  unfold bRow bCell at e3
  rw [seq_nx e3]
  exact ret_ok (sort_pr (cons_ok (var_ok (w := true) rfl) nil_ok))
end K00

/-! ## NB -/
namespace K00
open PySem PySem.Spec PyProof.Rows L2 WF TL
variable {A : Ad} {Γ : Gam} {δ : List Slot} {ρ : WF.Row}
theorem mem_stp {i a : Int} {k : Nat} {p : Int × Int} : p ∈ stp i a k ↔ (gx k = true ∧ p = (i, a)) ∨ (lx k = true ∧ p = (a, i)) := by
  unfold stp
  rw [List.mem_append]
  constructor
  · rintro (h | h)
    · split at h
      · rename_i g; exact .inl ⟨g, List.mem_singleton.mp h⟩
      · cases h
    · split at h
      · rename_i g; exact .inr ⟨g, List.mem_singleton.mp h⟩
      · cases h
  · rintro (⟨g, rfl⟩ | ⟨g, rfl⟩)
    · exact .inl (by rw [if_pos g]; exact List.mem_singleton.mpr rfl)
    · exact .inr (by rw [if_pos g]; exact List.mem_singleton.mpr rfl)
theorem mem_rowS {R i : Int} {p : Int × Int} : ∀ {n : Nat} {ks : List Nat}, p ∈ rowS R i n ks ↔ ∃ (j k : Nat), ks[j]? = some k ∧ ((gx k = true ∧ p = (i, R + ((n + j : Nat) : Int))) ∨ (lx k = true ∧ p = (R + ((n + j : Nat) : Int), i)))
  | n, [] => by
    rw [rowS]
    exact ⟨(fun h => by cases h), (fun ⟨j, k, h, _⟩ => by simp at h)⟩
  | n, q :: ks => by
    rw [rowS, List.mem_append, mem_stp, mem_rowS]
    constructor
    · rintro (h | ⟨j, k, h, hp⟩)
      · exact ⟨0, q, rfl, h⟩
      · exact ⟨j + 1, k, h, by rw [show n + (j + 1) = n + 1 + j by omega]; exact hp⟩
    · rintro ⟨j, k, h, hp⟩
      cases j with
      | zero => cases h; exact .inl hp
      | succ j => exact .inr ⟨j, k, h, by rw [show n + 1 + j = n + (j + 1) by omega]; exact hp⟩
theorem mem_rawS {R : Int} {p : Int × Int} : ∀ {n : Nat} {ss : List Str}, p ∈ rawS R n ss ↔ ∃ (i j : Nat) (s : Str) (k : Nat), ss[i]? = some s ∧ (tl s)[j]? = some k ∧ ((gx k = true ∧ p = (((n + i : Nat) : Int), R + (j : Int))) ∨ (lx k = true ∧ p = (R + (j : Int), ((n + i : Nat) : Int))))
  | n, [] => by
    rw [rawS]
    exact ⟨(fun h => by cases h), (fun ⟨i, j, s, k, h, _⟩ => by simp at h)⟩
  | n, s0 :: ss => by
    rw [rawS, List.mem_append, mem_rowS, mem_rawS]
    constructor
    · rintro (⟨j, k, h, hp⟩ | ⟨i, j, s, k, h, h2, hp⟩)
      · exact ⟨0, j, s0, k, rfl, h, by rw [Nat.zero_add] at hp; exact hp⟩
      · exact ⟨i + 1, j, s, k, h, h2, by rw [show n + (i + 1) = n + 1 + i by omega]; exact hp⟩
    · rintro ⟨i, j, s, k, h, h2, hp⟩
      cases i with
      | zero => cases h; exact .inl ⟨j, k, h2, by rw [Nat.zero_add]; exact hp⟩
      | succ i => exact .inr ⟨i, j, s, k, h, h2, by rw [show n + 1 + i = n + (i + 1) by omega]; exact hp⟩
theorem mem_steps {ss : List Str} {p : Int × Int} : p ∈ stepsOf ss ↔ ∃ (i j : Nat) (s : Str) (k : Nat), ss[i]? = some s ∧ (tl s)[j]? = some k ∧ ((gx k = true ∧ p = ((i : Int), (ss.length : Int) + (j : Int))) ∨ (lx k = true ∧ p = ((ss.length : Int) + (j : Int), (i : Int)))) := by
  unfold stepsOf
  rw [(sortP_perm _).mem_iff, mem_rawS]
  constructor
  · rintro ⟨i, j, s, k, h⟩; exact ⟨i, j, s, k, by rw [Nat.zero_add] at h; exact h⟩
  · rintro ⟨i, j, s, k, h⟩; exact ⟨i, j, s, k, by rw [Nat.zero_add]; exact h⟩
/-- how many threads -/
def many (ss : List Str) (c : Int) : Nat := ss.length + c.toNat
theorem steps_rng {m c : Int} {ss : List Str} (h : Cells m ss c) {p : Int × Int} (hp : p ∈ stepsOf ss) : (0 ≤ p.1 ∧ p.1 < many ss c) ∧ 0 ≤ p.2 ∧ p.2 < many ss c := by
  obtain ⟨i, j, s, k, h1, h2, h3⟩ := mem_steps.mp hp
  have hi : i < ss.length := (List.getElem?_eq_some_iff.mp h1).1
  have hj : j < (tl s).length := (List.getElem?_eq_some_iff.mp h2).1
  have hl := (h.ln s (List.mem_of_getElem? h1)).1
  unfold many
  rcases h3 with ⟨_, rfl⟩ | ⟨_, rfl⟩ <;> dsimp only <;> omega
/-! ### is_motion -/
def wh (d : D) (lo hi : Int) : Bool := match d with
  | .int i => decide (lo ≤ i) && decide (i ≤ hi)
  | _ => false
/-- what the law hands over as an angle: a value of a kind with a plain type -/
def Plain (d : D) : Prop := (∃ i, d = .int i) ∨ fIsi [d, .ty "int"] = some (.bl false, true) ∨ ∃ b, d = .bl b
theorem callF_d {F : Fn} {r : CA} {ds : List D} {fr f2 : Bool} {d : D} {ρ1 ρ2 : WF.Row} (h1 : r δ ρ = .ok ds fr ρ1) (h2 : F ds ρ1 = .ok d f2 ρ2) : eCallF F r δ ρ = .ok d f2 ρ2 := by
  unfold eCallF; rw [h1]; dsimp only; rw [h2]
theorem call1d {F : Fn} {i : Nat} {b : Bool} {d r : D} {f : Bool} {ρ1 : WF.Row} (h : δ[i]? = some (some (b, d))) (e : F [d] ρ = .ok r f ρ1) : eCallF F (aCons (eVar i) aNil) δ ρ = .ok r f ρ1 := callF_d (cons_ok (var_ok h) nil_ok) e
theorem and_f {c1 c2 : CE} {f : Bool} {ρ1 : WF.Row} (h : c1 δ ρ = .ok (.bl false) f ρ1) : eAnd c1 c2 δ ρ = .ok (.bl false) true ρ1 := by unfold eAnd; rw [h]
theorem isi_e {i : Nat} {b r : Bool} {v : D} {t : String} (h : δ[i]? = some (some (b, v))) (e : fIsi [v, .ty t] = some (.bl r, true)) : eCall fIsi (aCons (eVar i) (aCons (eC (.ty t)) aNil)) δ ρ = .ok (.bl r) true ρ := by
  unfold eCall
  rw [cons_ok (var_ok h) (cons_ok rfl nil_ok)]
  dsimp only
  rw [e]
def isN (d : D) : Bool := match d with
  | .int _ => true
  | _ => false
theorem number {d : D} (h : Plain d) : f_is_number Γ A [d] ρ = .ok (.bl (isN d)) true ρ := by
  refine fn_rt rfl ?_
  rcases h with ⟨i, rfl⟩ | h | ⟨b, rfl⟩
  · exact ret_ok rfl
  · have hw : isN d = false := by
      cases d with
      | int i => cases h
      | _ => rfl
    rw [hw]
    exact ret_ok (and_f (isi_e (b := false) rfl h))
  · exact ret_ok rfl
theorem chain_int {ca cb cc : CE} {a b c : Int} {f1 f2 f3 : Bool} {ρ1 ρ2 : WF.Row} (h1 : ca δ ρ = .ok (.int a) f1 ρ1) (h2 : cb δ ρ1 = .ok (.int b) f2 ρ2) (h3 : cc δ ρ2 = .ok (.int c) f3 ρ2) : eChain fLe fLe ca cb cc δ ρ = .ok (.bl (decide (a ≤ b) && decide (b ≤ c))) true ρ2 := by
  by_cases e1 : a ≤ b
  · by_cases e2 : b ≤ c
    · rw [chain_ok (x := true) h1 h2 (le_t e1) h3 (le_t e2), decide_eq_true e1, decide_eq_true e2]; rfl
    · rw [chain_ok (x := true) h1 h2 (le_t e1) h3 (le_f e2), decide_eq_true e1, decide_eq_false e2]; rfl
  · rw [chain_no h1 h2 (le_f e1), decide_eq_false e1]; rfl
theorem whole {d : D} {lo hi : Int} (h : Plain d) : f_is_whole Γ A [d, .int lo, .int hi] ρ = .ok (.bl (wh d lo hi)) true ρ := by
  have e1 : eCallF (f_is_number Γ A) (aCons (eVar 0) aNil) [some (false, d), some (false, .int lo), some (false, .int hi)] ρ = .ok (.bl (isN d)) true ρ := call1d (b := false) rfl (number h)
  refine fn_rt rfl (ret_ok ?_)
  by_cases hi' : ∃ i, d = .int i
  · obtain ⟨i, rfl⟩ := hi'
    exact (and_t e1).trans (chain_int (var_ok (w := false) rfl) (var_ok (w := false) rfl) (var_ok (w := false) rfl))
  · have h1 : isN d = false ∧ wh d lo hi = false := by
      cases d with
      | int i => exact absurd ⟨i, rfl⟩ hi'
      | _ => exact ⟨rfl, rfl⟩
    rw [h1.1] at e1
    rw [h1.2]
    exact and_f e1
theorem seq_rt {c1 c2 : CS} {d : D} {f : Bool} {ρ1 : WF.Row} (h : c1 δ ρ = .rt d f ρ1) : sSeq c1 c2 δ ρ = .rt d f ρ1 := by unfold sSeq; rw [h]
theorem if_no {t : CT} {ρ1 : WF.Row} (h : t δ ρ = .ok true ρ1) : sIf t (sRet (eC (.bl false))) sNil δ ρ = .rt (.bl false) true ρ1 := by rw [if_ok h, if_pos rfl]; rfl
theorem if_go {t : CT} {c : CS} {ρ1 : WF.Row} (h : t δ ρ = .ok false ρ1) : sIf t c sNil δ ρ = .nx δ ρ1 := by rw [if_ok h]; rfl
theorem rawS_len {R : Int} : ∀ (n : Nat) (ss : List Str), (∀ s ∈ ss, (tl s).length ≤ 5) → (rawS R n ss).length ≤ 10 * ss.length
  | _, [], _ => Nat.le_refl _
  | n, s :: ss, h => by
    have h1 := rowS_len R n 0 (tl s)
    have h2 := rawS_len (R := R) (n + 1) ss fun q hq => h q (List.mem_cons_of_mem _ hq)
    have h3 := h s List.mem_cons_self
    rw [rawS, List.length_append, List.length_cons]
    omega
theorem steps_len {m c : Int} {ss : List Str} (h : Cells m ss c) (hm : m ≤ 5) : (stepsOf ss).length ≤ 50 := by
  unfold stepsOf
  rw [(sortP_perm _).length_eq]
  have h1 := rawS_len (R := ss.length) 0 ss fun s hs => by have := (h.ln s hs).1; have := h.c2; omega
  have := h.r2
  omega
end K00

/-! ## ND -/
namespace K00
open PySem PySem.Spec PyProof.Rows L2 WF TL
variable {A : Ad} {Γ : Gam} {δ : List Slot} {ρ : WF.Row}
def tk (k : Nat) : Nat := if k = 60 then 62 else if k = 62 then 60 else k
def turnS (s : Str) : Str := ⟨((tl s).map tk).toArray⟩
theorem tk_sg {k : Nat} (h : k ∈ tl sg) : tk k ∈ tl sg ∧ gx (tk k) = lx k ∧ lx (tk k) = gx k ∧ t_OTHER_WAY.lookup ⟨#[k]⟩ = some ⟨#[tk k]⟩ := by
  have e : tl sg = [46, 60, 62, 120] := by decide +kernel
  rw [e] at h ⊢
  simp only [List.mem_cons, List.not_mem_nil, or_false] at h
  rcases h with rfl | rfl | rfl | rfl <;> exact ⟨by decide, rfl, rfl, by decide +kernel⟩
theorem tl_turn {s : Str} : tl (turnS s) = (tl s).map tk := by unfold turnS; rfl
theorem turn_cells {m c : Int} {ss : List Str} (h : Cells m ss c) : Cells m (ss.map turnS) c := by
  refine ⟨by rw [List.length_map]; exact h.r1, by rw [List.length_map]; exact h.r2, h.c1, h.c2, fun s hs => ?_⟩
  obtain ⟨q, hq, rfl⟩ := List.mem_map.mp hs
  obtain ⟨l1, l2⟩ := h.ln q hq
  refine ⟨by rw [tl_turn, List.length_map]; exact l1, fun k hk => ?_⟩
  rw [tl_turn] at hk
  obtain ⟨x, hx, rfl⟩ := List.mem_map.mp hk
  exact (tk_sg (l2 x hx)).1
theorem turn_line {s : Str} {c : Int} {b : D} (h : Line c sg s) (hc : c ≤ 5) : eJoin (eC (.str "")) (eLc (iAny (eVar 1)) (gN 2) bYes (eBin (fKd A.a_OTHER_WAY t_OTHER_WAY) (eC (.ptr A.a_OTHER_WAY)) (eVar 2)) [2]) [some (false, b), some (true, .str s), none] ρ = .ok (.str (turnS s)) true ρ := by
  have l1 := h.1
  have e := lc_ok (δ := [some (false, b), some (true, .str s), none]) (ρ := ρ) (ci := iAny (eVar 1)) (tg := gN 2) (t := bYes) (c := eBin (fKd A.a_OTHER_WAY t_OTHER_WAY) (eC (.ptr A.a_OTHER_WAY)) (eVar 2)) (vs := [2]) (any_str (var_ok (w := true) rfl)) (by rw [signs_len, ← Array.length_toList]; show (tl s).length ≤ _; omega) (lc_pure (fun d => match d with | .str z => .str ⟨#[tk (z.cps.toList.headD 0)]⟩ | _ => .non) fun d hd => by
    obtain ⟨k, hk, rfl⟩ := List.mem_map.mp hd
    refine ⟨[some (false, b), some (true, .str s), some (true, ch k)], rfl, ?_⟩
    refine bin_ok rfl (var_ok (w := true) rfl) ?_
    show (if A.a_OTHER_WAY = A.a_OTHER_WAY then (t_OTHER_WAY.lookup ⟨#[k]⟩).map fun w => (D.str w, true) else none) = _
    rw [if_pos rfl, (tk_sg (h.2 k hk)).2.2.2]
    rfl)
  have em : (WF.signs s).map (fun d => match d with | .str z => D.str ⟨#[tk (z.cps.toList.headD 0)]⟩ | _ => .non) = (((tl s).map tk).map fun k => (⟨#[k]⟩ : Str)).map D.str := by
    unfold WF.signs
    rw [List.map_map, List.map_map, List.map_map]
    rfl
  rw [em] at e
  have e0 : (Str.ofString "").length = 0 := by decide +kernel
  have := join_ok (ca := eC (.str "")) (x := Str.ofString "") rfl e (by rw [sum_ch, List.length_map, List.length_map, List.length_map, e0]; omega)
  rw [join_ch] at this
  exact this
theorem turned {m c : Int} {ss : List Str} (h : Cells m ss c) (hm : m ≤ 5) : f_turned Γ A [bd ss (many ss c)] ρ = .ok (bd (ss.map turnS) (many ss c)) true ρ := by
  have r2 := h.r2; have c2 := h.c2
  have e := lc_ok (δ := [some (false, bd ss (many ss c)), none, none]) (ρ := ρ) (ci := iAny (eProp 0 (f_Board_cells Γ A) (eVar 0))) (tg := gN 1) (t := bYes) (c := eJoin (eC (.str "")) (eLc (iAny (eVar 1)) (gN 2) bYes (eBin (fKd A.a_OTHER_WAY t_OTHER_WAY) (eC (.ptr A.a_OTHER_WAY)) (eVar 2)) [2])) (vs := [1]) (any_tup (prop_cells (b := false) rfl)) (by rw [List.length_map]; omega) (lc_pure (fun d => match d with | .str z => .str (turnS z) | _ => .non) fun d hd => by
    obtain ⟨s, hs, rfl⟩ := List.mem_map.mp hd
    exact ⟨[some (false, bd ss (many ss c)), some (true, .str s), none], rfl, turn_line (h.ln s hs) (by omega)⟩)
  have em : (ss.map D.str).map (fun d => match d with | .str z => D.str (turnS z) | _ => .non) = (ss.map turnS).map D.str := by
    rw [List.map_map, List.map_map]; rfl
  rw [em] at e
  refine fn_rt rfl ?_
  show p_turned Γ A [some (false, bd ss (many ss c)), none, none] ρ = _
  unfold p_turned
  rw [seq_nx (drop_board (b := false) rfl)]
  refine ret_ok ?_
  unfold eMake
  rw [cons_ok (tuple_ok (cons_ok e nil_ok)) nil_ok]
  dsimp only
  rw [board (turn_cells h) hm]
  have hn : (ss.map turnS).length + c.toNat = many ss c := by rw [List.length_map]; rfl
  dsimp only
  rw [hn]
  have hi : immAll [D.tup ((ss.map turnS).map D.str), D.tup (intsD 0 (many ss c))] = true := by
    rw [immAll, immAll, immAll, imm, imm, imm_strs, intsD_imm]; rfl
  rw [hi]
  rfl
theorem steps_turn {m c : Int} {ss : List Str} (h : Cells m ss c) {a b : Int} : (a, b) ∈ stepsOf (ss.map turnS) ↔ (b, a) ∈ stepsOf ss := by
  rw [mem_steps, mem_steps]
  constructor
  · rintro ⟨i, j, s, k, h1, h2, h3⟩
    rw [List.getElem?_map] at h1
    cases e : ss[i]? with
    | none => rw [e] at h1; cases h1
    | some q =>
      rw [e] at h1
      cases h1
      rw [tl_turn, List.getElem?_map] at h2
      cases e2 : (tl q)[j]? with
      | none => rw [e2] at h2; cases h2
      | some x =>
        rw [e2] at h2
        cases h2
        obtain ⟨_, g1, g2, _⟩ := tk_sg ((h.ln q (List.mem_of_getElem? e)).2 x (List.mem_of_getElem? e2))
        rw [g1, g2, List.length_map] at h3
        refine ⟨i, j, q, x, e, e2, ?_⟩
        rcases h3 with ⟨g, z⟩ | ⟨g, z⟩
        · cases z; exact .inr ⟨g, rfl⟩
        · cases z; exact .inl ⟨g, rfl⟩
  · rintro ⟨i, j, q, x, e, e2, h3⟩
    obtain ⟨_, g1, g2, _⟩ := tk_sg ((h.ln q (List.mem_of_getElem? e)).2 x (List.mem_of_getElem? e2))
    refine ⟨i, j, turnS q, tk x, by rw [List.getElem?_map, e]; rfl, by rw [tl_turn, List.getElem?_map, e2]; rfl, ?_⟩
    rw [g1, g2, List.length_map]
    rcases h3 with ⟨g, z⟩ | ⟨g, z⟩
    · cases z; exact .inr ⟨g, rfl⟩
    · cases z; exact .inl ⟨g, rfl⟩
end K00

/-! ## NE -/
namespace K00
open PySem PySem.Spec PyProof.Rows L2 WF TL PM
variable {A : Ad} {Γ : Gam} {δ : List Slot} {ρ : WF.Row}
def iD (xs : List Int) : List D := xs.map D.int
theorem pyAll_ints : ∀ xs : List Int, pyAll (iD xs) = some (xs.map PyData.int)
  | [] => rfl
  | x :: xs => by
    show pyAll (.int x :: iD xs) = _
    rw [pyAll, pyAll_ints xs]; rfl
theorem shaped_ints (xs : List Int) : SeqAt.shaped (.list (xs.map PyData.int)) = true := by
  have h1 : ∀ xs : List Int, PyData.canLayAll0 (xs.map PyData.int) = true := fun xs => by
    induction xs with
    | nil => rfl
    | cons x xs ih => rw [List.map_cons, PyData.canLayAll0, ih]; rfl
  have h2 : ∀ xs : List Int, PyData.depthAll (xs.map PyData.int) = 0 ∨ PyData.depthAll (xs.map PyData.int) ≤ 1 := fun xs => by
    induction xs with
    | nil => exact .inl rfl
    | cons x xs ih =>
      right
      rw [List.map_cons, PyData.depthAll]
      have : PyData.depth (.int x) ≤ 1 := by rw [PyData.depth] <;> first | omega | (intros; intro z; cases z)
      omega
  unfold SeqAt.shaped
  rw [PyData.canLay0, h1, PyData.depth]
  have := h2 xs
  simp only [Bool.true_and, decide_eq_true_eq]
  omega
theorem any_int (a : Int) (xs : List Int) : ((xs.map PyData.int).any fun z => PyData.eqv z (.int a)) = decide (a ∈ xs) := by
  rw [List.any_map]
  induction xs with
  | nil => simp
  | cons x xs ih =>
    rw [List.any_cons, ih]
    have : PyData.eqv (.int x) (.int a) = decide (x = a) := by
      by_cases h : x = a
      · subst h; simp [PyData.eqv]
      · simp [PyData.eqv, h]
    show (PyData.eqv (.int x) (.int a) || _) = _
    rw [this]
    by_cases h : x = a
    · subst h; simp
    · have h' : ¬ a = x := fun z => h z.symm
      simp [h, h']
theorem in_list {a : Int} {xs : List Int} : fIn (.int a) (.lst (iD xs)) = some (.bl (decide (a ∈ xs)), true) := by
  have h : fInL false (.int a) (.lst (iD xs)) = some (.bl (decide (a ∈ xs)), true) := by
    unfold fInL
    dsimp only
    rw [show py (.int a) = some (.int a) by rw [py], pyAll_ints]
    dsimp only
    rw [shaped_ints, if_pos (show (SeqAt.shaped (PyData.int a) && true) = true from rfl), if_neg Bool.false_ne_true, any_int]
  unfold fIn orF
  rw [show fInT false (.int a) (.lst (iD xs)) = none from rfl]
  dsimp only
  rw [show fInK false (.int a) (.lst (iD xs)) = none from rfl]
  exact h
/-! ### dicts of numbers -/
theorem getD_ints {a : Int} : ∀ {K V : List Int}, getD false (iD K) (iD V) (.inl (.inl a)) = (getI K V a).map D.int
  | [], _ => by unfold iD; rw [List.map_nil]; unfold getD getI; rfl
  | k :: K, [] => rfl
  | k :: K, v :: V => by
    show getD false (.int k :: iD K) (.int v :: iD V) _ = _
    rw [getD, getI, getD_ints]
    by_cases h : k = a
    · subst h; rw [if_pos (show anyKey false (.int k) = some (.inl (.inl k)) from rfl), if_pos rfl]; rfl
    · rw [if_neg h, if_neg]
      intro z
      have : some (Sum.inl (Sum.inl k) : Key ⊕ List Key) = some (.inl (.inl a)) := z
      cases this
      exact h rfl
theorem getI_some {a : Int} : ∀ {K V : List Int}, K.length = V.length → ((getI K V a).isSome = decide (a ∈ K))
  | [], [], _ => by simp [getI]
  | [], _ :: _, h => by cases h
  | _ :: _, [], h => by cases h
  | k :: K, v :: V, h => by
    rw [getI]
    have ih := getI_some (a := a) (K := K) (V := V) (by simpa using h)
    by_cases e : k = a
    · subst e; rw [if_pos rfl]; simp
    · rw [if_neg e, ih]
      have e' : ¬ a = k := fun z => e z.symm
      simp [e']
theorem has_ints {a : Int} : ∀ {K : List Int}, hasD false (iD K) (.inl (.inl a)) = decide (a ∈ K)
  | [] => by simp [hasD, iD]
  | k :: K => by
    unfold hasD
    show ((decide (anyKey false (.int k) = some (.inl (.inl a)))) || (iD K).any _) = _
    have ih := has_ints (a := a) (K := K)
    unfold hasD at ih
    rw [ih]
    have : (decide (anyKey false (.int k) = some (.inl (.inl a)))) = decide (k = a) := by
      by_cases e : k = a
      · subst e; rw [decide_eq_true rfl]; exact decide_eq_true rfl
      · rw [decide_eq_false e]
        refine decide_eq_false fun z => ?_
        have : some (Sum.inl (Sum.inl k) : Key ⊕ List Key) = some (.inl (.inl a)) := z
        cases this
        exact e rfl
    rw [this]
    by_cases e : k = a
    · subst e; simp
    · have e' : ¬ a = k := fun z => e z.symm
      simp [e, e']
end K00

/-! ## NF -/
namespace K00
open PySem PySem.Spec PyProof.Rows L2 WF TL PM
variable {A : Ad} {Γ : Gam} {δ : List Slot} {ρ : WF.Row}
/-! ### loops -/
theorem forL_nx {tg : TGt} {body : CS} {d : D} {ds : List D} {δ1 δ2 : List Slot} {ρ2 : WF.Row} (h1 : tg d δ = some δ1) (h2 : body δ1 ρ = .nx δ2 ρ2) : forL tg body (d :: ds) δ ρ = forL tg body ds δ2 ρ2 := by
  simp only [forL, h1, h2]
theorem forL_ind {α : Type} {enc : α → D} {tg : TGt} {body : CS} {l : List α} (P : List α → List Slot → Prop) (h : ∀ pre a post δ, l = pre ++ a :: post → P pre δ → ∃ δ1 δ2, tg (enc a) δ = some δ1 ∧ body δ1 ρ = .nx δ2 ρ ∧ P (pre ++ [a]) δ2) (h0 : P [] δ) :
    ∃ δ', forL tg body (l.map enc) δ ρ = .nx δ' ρ ∧ P l δ' := by
  have go : ∀ (post pre : List α) (δ : List Slot), l = pre ++ post → P pre δ → ∃ δ', forL tg body (post.map enc) δ ρ = .nx δ' ρ ∧ P l δ' := fun post => by
    induction post with
    | nil => intro pre δ e hp; rw [List.append_nil] at e; subst e; exact ⟨δ, rfl, hp⟩
    | cons a post ih =>
      intro pre δ e hp
      obtain ⟨δ1, δ2, h1, h2, h3⟩ := h pre a post δ e hp
      obtain ⟨δ', e1, e2⟩ := ih (pre ++ [a]) δ2 (by rw [List.append_assoc]; exact e) h3
      exact ⟨δ', by rw [List.map_cons, forL_nx h1 h2]; exact e1, e2⟩
  exact go l [] δ rfl h0
theorem whL_nx {t : CT} {body : CS} {n : Nat} {δ2 : List Slot} {ρ1 ρ2 : WF.Row} (h1 : t δ ρ = .ok true ρ1) (h2 : body δ ρ1 = .nx δ2 ρ2) : whL t body (n + 1) δ ρ = whL t body n δ2 ρ2 := by
  simp only [whL, h1, h2]
theorem whL_no {t : CT} {body : CS} {n : Nat} {ρ1 : WF.Row} (h1 : t δ ρ = .ok false ρ1) : whL t body (n + 1) δ ρ = .nx δ ρ1 := by
  unfold whL; rw [h1]
theorem whL_rt {t : CT} {body : CS} {n : Nat} {d : D} {f : Bool} {ρ1 ρ2 : WF.Row} (h1 : t δ ρ = .ok true ρ1) (h2 : body δ ρ1 = .rt d f ρ2) : whL t body (n + 1) δ ρ = .rt d f ρ2 := by
  simp only [whL, h1, h2]
theorem fold_snoc {α β : Type} (f : β → α → β) (s : β) (pre : List α) (a : α) : (pre ++ [a]).foldl f s = f (pre.foldl f s) a := by
  rw [List.foldl_append]; rfl
/-- the slots of distances -/
def dS (ps : List (Int × Int)) (t : Int) (K V E F : List Int) (x y : Slot) : List Slot := [some (false, .lst (ps.map prD)), some (false, .int t), some (true, .dct false (iD K) (iD V)), some (true, .lst (iD E)), some (true, .lst (iD F)), x, y]
def bPair : CS := sIf (bAnd (bB (eBin fIn (eVar 5) (eVar 3))) (bB (eBin (fDIn true) (eVar 6) (eVar 2)))) (sSeq (sDPut' 2 (eVar 6) (eBin fAdd (eBin fDGet (eVar 2) (eVar 5)) (eC (.int 1)))) (sApp 4 (eVar 6))) sNil
theorem and_bt {t u : CT} {ρ1 : WF.Row} (h : t δ ρ = .ok true ρ1) : bAnd t u δ ρ = u δ ρ1 := by unfold bAnd; rw [h]
theorem and_bf {t u : CT} {ρ1 : WF.Row} (h : t δ ρ = .ok false ρ1) : bAnd t u δ ρ = .ok false ρ1 := by unfold bAnd; rw [h]
theorem dput_ok {i : Nat} {ck cv : CE} {d kd : D} {t : Bool} {ks vs : List D} {k : Key ⊕ List Key} {f : Bool} {ρ1 ρ2 : WF.Row} (hv : cv δ ρ = .ok d true ρ1) (h : δ[i]? = some (some (true, .dct t ks vs))) (hk : ck δ ρ1 = .ok kd f ρ2) (ha : anyKey t kd = some k) (hl : vs.length < 100000) :
    sDPut' i ck cv δ ρ = .nx (δ.set i (some (true, .dct t (putD t ks vs kd k d).1 (putD t ks vs kd k d).2))) ρ2 := by
  unfold sDPut'; rw [hv]; dsimp only; rw [h]; dsimp only; rw [hk]; dsimp only; rw [ha]; dsimp only; rw [if_pos hl]
/-- one pair -/
theorem pair_ok {ps : List (Int × Int)} {t : Int} {K V E F : List Int} {a b : Int} (hl : K.length = V.length) (hE : ∀ e ∈ E, e ∈ K) (hK : K.length < 1000) (hF : F.length < 1000) :
    bPair (dS ps t K V E F (some (true, .int a)) (some (true, .int b))) ρ = .nx (dS ps t (pstep E (K, V, F) (a, b)).1 (pstep E (K, V, F) (a, b)).2.1 E (pstep E (K, V, F) (a, b)).2.2 (some (true, .int a)) (some (true, .int b))) ρ := by
  have t1 : bB (eBin fIn (eVar 5) (eVar 3)) (dS ps t K V E F (some (true, .int a)) (some (true, .int b))) ρ = .ok (decide (a ∈ E)) ρ := bB_ok (bin_ok (var_ok (w := true) rfl) (var_ok (w := true) rfl) in_list)
  by_cases h1 : a ∈ E
  · rw [decide_eq_true h1] at t1
    have e2 : fDIn true (.int b) (.dct false (iD K) (iD V)) = some (.bl (!decide (b ∈ K)), true) := by
      show some (D.bl ((getD false (iD K) (iD V) (.inl (.inl b))).isSome != true), true) = _
      rw [getD_ints, Option.isSome_map, getI_some hl, Bool.bne_true]
    have t2 : bB (eBin (fDIn true) (eVar 6) (eVar 2)) (dS ps t K V E F (some (true, .int a)) (some (true, .int b))) ρ = .ok (!decide (b ∈ K)) ρ := bB_ok (bin_ok (var_ok (w := true) rfl) (var_ok (w := true) rfl) e2)
    have tt := and_bt (u := bB (eBin (fDIn true) (eVar 6) (eVar 2))) t1
    rw [t2] at tt
    by_cases h2 : b ∈ K
    · rw [decide_eq_true h2] at tt
      unfold bPair pstep
      rw [if_go tt, if_neg (fun z => z.2 h2)]
    · rw [decide_eq_false h2] at tt
      have hs : (getI K V a).isSome = true := by rw [getI_some hl]; exact decide_eq_true (hE a h1)
      obtain ⟨v, hv⟩ := Option.isSome_iff_exists.mp hs
      unfold bPair pstep
      rw [if_ok tt, if_pos (show (!false) = true from rfl), if_pos ⟨h1, h2⟩]
      dsimp only
      rw [hv]
      have e3 : fDGet (.dct false (iD K) (iD V)) (.int a) = some (.int v, true) := by
        show (getD false (iD K) (iD V) (.inl (.inl a))).map (fun d => (d, imm d)) = _
        rw [getD_ints, hv]; rfl
      have e4 := dput_ok (δ := dS ps t K V E F (some (true, .int a)) (some (true, .int b))) (ρ := ρ) (i := 2) (ck := eVar 6) (cv := eBin fAdd (eBin fDGet (eVar 2) (eVar 5)) (eC (.int 1))) (kd := .int b) (k := .inl (.inl b)) (bin_ok (bin_ok (var_ok (w := true) rfl) (var_ok (w := true) rfl) e3) rfl add1) rfl (var_ok (w := true) rfl) rfl (by unfold iD; rw [List.length_map]; omega)
      have e5 : putD false (iD K) (iD V) (.int b) (.inl (.inl b)) (.int (v + 1)) = (iD (K ++ [b]), iD (V ++ [v + 1])) := by
        unfold putD
        rw [has_ints, if_neg (by rw [decide_eq_true_eq]; exact h2)]
        unfold iD
        rw [List.map_append, List.map_append]
        rfl
      rw [e5] at e4
      rw [seq_nx e4]
      have e6 := app_ok (δ := dS ps t (K ++ [b]) (V ++ [v + 1]) E F (some (true, .int a)) (some (true, .int b))) (ρ := ρ) (i := 4) (c := eVar 6) (ds := iD F) (d := .int b) rfl rfl (by unfold iD; rw [List.length_map]; omega)
      have e7 : iD F ++ [D.int b] = iD (F ++ [b]) := by unfold iD; rw [List.map_append]; rfl
      rw [e7] at e6
      exact e6
  · rw [decide_eq_false h1] at t1
    unfold bPair pstep
    rw [if_go (and_bf t1), if_neg (fun z => h1 z.1)]
/-- what holds of a turn all along -/
structure PI (E K0 V0 : List Int) (n : Nat) (s : List Int × List Int × List Int) : Prop where
  ln : s.1.length = s.2.1.length
  sb : ∀ e ∈ E, e ∈ s.1
  k : s.1.length ≤ K0.length + n
  f : s.2.2.length ≤ n
theorem PI.step {E K0 V0 : List Int} {n : Nat} {s : List Int × List Int × List Int} {p : Int × Int} (h : PI E K0 V0 n s) : PI E K0 V0 (n + 1) (pstep E s p) := by
  unfold pstep
  split
  · refine ⟨by show (s.1 ++ [_]).length = (s.2.1 ++ [_]).length; rw [List.length_append, List.length_append, h.ln]; rfl, fun e he => List.mem_append_left _ (h.sb e he), ?_, ?_⟩
    · show (s.1 ++ [_]).length ≤ _; rw [List.length_append]; have := h.k; show _ + 1 ≤ _; omega
    · show (s.2.2 ++ [_]).length ≤ _; rw [List.length_append]; have := h.f; show _ + 1 ≤ _; omega
  · exact ⟨h.ln, h.sb, Nat.le_trans h.k (by omega), Nat.le_trans h.f (by omega)⟩
theorem PI.run {E K0 V0 : List Int} : ∀ (qs : List (Int × Int)) {n : Nat} {s : List Int × List Int × List Int}, PI E K0 V0 n s → PI E K0 V0 (n + qs.length) (qs.foldl (pstep E) s)
  | [], _, _, h => h
  | p :: qs, n, s, h => by
    have := PI.run qs (h.step (p := p))
    rw [List.length_cons, show n + (qs.length + 1) = n + 1 + qs.length by omega]
    exact this
/-- all pairs, once -/
theorem pairs_loop {ps qs : List (Int × Int)} {t : Int} {E K V : List Int} {x y : Slot} (hl : K.length = V.length) (hE : ∀ e ∈ E, e ∈ K) (hK : K.length + qs.length < 1000) :
    ∃ (x' y' : Slot), forL (gTu ((gN 5) :: ((gN 6) :: []))) bPair (qs.map prD) (dS ps t K V E [] x y) ρ = .nx (dS ps t (qs.foldl (pstep E) (K, V, [])).1 (qs.foldl (pstep E) (K, V, [])).2.1 E (qs.foldl (pstep E) (K, V, [])).2.2 x' y') ρ := by
  obtain ⟨δ', h1, x', y', rfl⟩ := forL_ind (ρ := ρ) (enc := prD) (tg := gTu ((gN 5) :: ((gN 6) :: []))) (body := bPair) (l := qs) (δ := dS ps t K V E [] x y)
    (fun pre δ => ∃ x' y', δ = dS ps t (pre.foldl (pstep E) (K, V, [])).1 (pre.foldl (pstep E) (K, V, [])).2.1 E (pre.foldl (pstep E) (K, V, [])).2.2 x' y') (fun pre a post δ e ⟨x', y', hd⟩ => by
      subst hd
      have hi : PI E K V (0 + pre.length) (pre.foldl (pstep E) (K, V, [])) := PI.run pre ⟨hl, hE, by show K.length ≤ _; omega, by show 0 ≤ _; omega⟩
      have hlen : pre.length < qs.length := by rw [e, List.length_append, List.length_cons]; omega
      have hk := hi.k; have hf := hi.f
      refine ⟨_, _, rfl, pair_ok hi.ln hi.sb (by omega) (by omega), some (true, .int a.1), some (true, .int a.2), ?_⟩
      rw [fold_snoc])
    ⟨x, y, rfl⟩
  exact ⟨x', y', h1⟩
end K00

/-! ## NG -/
namespace K00
open PySem PySem.Spec PyProof.Rows L2 WF TL PM
variable {A : Ad} {Γ : Gam} {δ : List Slot} {ρ : WF.Row}
theorem nodup_rng : ∀ (n : Nat) {K : List Int}, K.Nodup → (∀ k ∈ K, 0 ≤ k ∧ k < (n : Int)) → K.length ≤ n
  | 0, K, _, h => by
    cases K with
    | nil => exact Nat.le_refl _
    | cons k K => have := h k List.mem_cons_self; omega
  | n + 1, K, nd, h => by
    by_cases hn : (n : Int) ∈ K
    · have h1 := nodup_rng n (nd.erase (n : Int)) fun k hk => by
        have h2 := h k (List.mem_of_mem_erase hk)
        have h3 : k ≠ (n : Int) := fun z => by
          subst z
          exact absurd hk (List.Nodup.not_mem_erase nd)
        omega
      rw [List.length_erase_of_mem hn] at h1
      omega
    · have h1 := nodup_rng n nd fun k hk => by
        have h2 := h k hk
        have h3 : k ≠ (n : Int) := fun z => by subst z; exact hn hk
        omega
      omega
def dW (ps : List (Int × Int)) (t : Int) (K V E : List Int) (z x y : Slot) : List Slot := [some (false, .lst (ps.map prD)), some (false, .int t), some (true, .dct false (iD K) (iD V)), some (true, .lst (iD E)), z, x, y]
def bTurn : CS := (sSeq (sSet 4 (eLst aNil)) (sSeq (sForV (gTu ((gN 5) :: ((gN 6) :: []))) 0 bPair) (sMove 3 4)))
theorem turn_ok {ps : List (Int × Int)} {t : Int} {K V E : List Int} {z x y : Slot} (hl : K.length = V.length) (hE : ∀ e ∈ E, e ∈ K) (hK : K.length + ps.length < 1000) :
    ∃ (z' x' y' : Slot), bTurn (dW ps t K V E z x y) ρ = .nx (dW ps t (ps.foldl (pstep E) (K, V, [])).1 (ps.foldl (pstep E) (K, V, [])).2.1 (ps.foldl (pstep E) (K, V, [])).2.2 z' x' y') ρ := by
  obtain ⟨x', y', e⟩ := pairs_loop (ρ := ρ) (ps := ps) (qs := ps) (t := t) (E := E) (K := K) (V := V) (x := x) (y := y) hl hE hK
  refine ⟨none, x', y', ?_⟩
  unfold bTurn
  have e1 : sSet 4 (eLst aNil) (dW ps t K V E z x y) ρ = .nx (dS ps t K V E [] x y) ρ := rfl
  rw [seq_nx e1]
  have e2 : sForV (gTu ((gN 5) :: ((gN 6) :: []))) 0 bPair (dS ps t K V E [] x y) ρ = .nx (dS ps t (ps.foldl (pstep E) (K, V, [])).1 (ps.foldl (pstep E) (K, V, [])).2.1 E (ps.foldl (pstep E) (K, V, [])).2.2 x' y') ρ := e
  rw [seq_nx e2]
  rfl
theorem while_ok {ps : List (Int × Int)} {t : Int} {n : Nat} (hn : n ≤ 100) (hps : ps.length ≤ 100) (hr : ∀ p ∈ ps, (0 ≤ p.1 ∧ p.1 < (n : Int)) ∧ 0 ≤ p.2 ∧ p.2 < (n : Int)) (ht : 0 ≤ t ∧ t < (n : Int)) : ∀ (fuel d : Nat) (K V E : List Int) (z x y : Slot),
    Lv ps t d K E → Vs ps t K V → ((E = [] ∧ 1 ≤ fuel) ∨ n + 2 ≤ fuel + K.length) →
    ∃ (d' : Nat) (K' V' : List Int) (z' x' y' : Slot), whL (bE (eVar 3)) bTurn fuel (dW ps t K V E z x y) ρ = .nx (dW ps t K' V' [] z' x' y') ρ ∧ Lv ps t d' K' [] ∧ Vs ps t K' V' := fun fuel => by
  have rng : ∀ {d : Nat} {K E : List Int}, Lv ps t d K E → ∀ k ∈ K, 0 ≤ k ∧ k < (n : Int) := fun lv k hk => by
    obtain ⟨j, _, w⟩ := (lv.kn k).mp hk
    cases w with
    | nil => exact ht
    | snoc _ e => exact (hr _ e).2
  induction fuel with
  | zero =>
    intro d K V E z x y lv vs hf
    have := nodup_rng n lv.nd (rng lv)
    rcases hf with ⟨_, h⟩ | h <;> omega
  | succ fuel ih =>
    intro d K V E z x y lv vs hf
    cases E with
    | nil => exact ⟨d, K, V, z, x, y, whL_no rfl, lv, vs⟩
    | cons e0 E =>
      have hKn := nodup_rng n lv.nd (rng lv)
      obtain ⟨z1, x1, y1, e1⟩ := turn_ok (ρ := ρ) (ps := ps) (t := t) (K := K) (V := V) (E := e0 :: E) (z := z) (x := x) (y := y) vs.1 lv.sub (by omega)
      obtain ⟨F, W, ef, lv2, vs2⟩ := level_turn lv vs
      rw [ef] at e1
      obtain ⟨d', K', V', z', x', y', e2, r⟩ := ih (d + 1) (K ++ F) W F z1 x1 y1 lv2 vs2 (by
        rcases hf with ⟨h, _⟩ | h
        · cases h
        · cases F with
          | nil => left; exact ⟨rfl, by omega⟩
          | cons g G => right; rw [List.length_append, List.length_cons]; omega)
      refine ⟨d', K', V', z', x', y', ?_, r⟩
      have tt : bE (eVar 3) (dW ps t K V (e0 :: E) z x y) ρ = .ok true ρ := rfl
      rw [whL_nx tt e1]
      exact e2
/-- what distances tells -/
theorem distances {ps : List (Int × Int)} {t : Int} {n : Nat} (hn : n ≤ 10) (hps : ps.length ≤ 100) (hr : ∀ p ∈ ps, (0 ≤ p.1 ∧ p.1 < (n : Int)) ∧ 0 ≤ p.2 ∧ p.2 < (n : Int)) (h0 : 0 ≤ t) (h1 : t < n) :
    ∃ (K V : List Int), f_distances Γ A [.lst (ps.map prD), .int t] ρ = .ok (.dct false (iD K) (iD V)) true ρ ∧ K.Nodup ∧ (∀ k ∈ K, 0 ≤ k ∧ k < (n : Int)) ∧ (∀ x, x ∈ K ↔ ∃ j, Wk ps t j x) ∧ Vs ps t K V := by
  obtain ⟨d, K, V, z, x, y, e, lv, vs⟩ := while_ok (ρ := ρ) (ps := ps) (t := t) (n := n) (by omega) hps hr ⟨h0, h1⟩ 12 0 [t] [0] [t] none none none Lv.start ⟨rfl, fun x hx => by
    rw [List.mem_singleton.mp hx]
    exact ⟨0, by simp [PM.getI], Ds.zero.mpr rfl⟩⟩ (.inr (by show n + 2 ≤ 12 + 1; omega))
  have al := lv.all
  refine ⟨K, V, ?_, lv.nd, fun k hk => ?_, al, vs⟩
  · refine fn_rt (c := p_distances Γ A) rfl ?_
    show p_distances Γ A [some (false, .lst (ps.map prD)), some (false, .int t), none, none, none, none, none] ρ = _
    unfold p_distances
    have e1 : sSet 2 (eDone (eVar 1) (eC (.int 0))) [some (false, .lst (ps.map prD)), some (false, .int t), none, none, none, none, none] ρ = .nx [some (false, .lst (ps.map prD)), some (false, .int t), some (true, .dct false (iD [t]) (iD [0])), none, none, none, none] ρ := rfl
    rw [seq_nx e1]
    have e2 : sSet 3 (eLst (aCons (eVar 1) aNil)) [some (false, .lst (ps.map prD)), some (false, .int t), some (true, .dct false (iD [t]) (iD [0])), none, none, none, none] ρ = .nx (dW ps t [t] [0] [t] none none none) ρ := rfl
    rw [seq_nx e2]
    have e3 : sWhile 12 (bE (eVar 3)) bTurn (dW ps t [t] [0] [t] none none none) ρ = .nx (dW ps t K V [] z x y) ρ := e
    unfold bTurn bPair at e3
    rw [seq_nx e3]
    rfl
  · obtain ⟨j, w⟩ := (al k).mp hk
    cases w with
    | nil => exact ⟨h0, h1⟩
    | snoc _ e => exact (hr _ e).2
end K00

/-! ## NH -/
namespace K00
open PySem PySem.Spec PyProof.Rows L2 WF TL PM
variable {A : Ad} {Γ : Gam} {δ : List Slot} {ρ : WF.Row}
theorem call2 {F : Fn} {i j : Nat} {b b' : Bool} {d d' r : D} {f : Bool} {ρ1 : WF.Row} (h : δ[i]? = some (some (b, d))) (h' : δ[j]? = some (some (b', d'))) (e : F [d, d'] ρ = .ok r f ρ1) : ∃ f3, eCallF F (aCons (eVar i) (aCons (eVar j) aNil)) δ ρ = .ok r f3 ρ1 := callF_ok (cons_ok (var_ok h) (cons_ok (var_ok h') nil_ok)) e
theorem is_thread {ss : List Str} {n : Nat} {t : Int} (hn : n ≤ 1000) (h0 : 0 ≤ t) (h1 : t < n) : f_is_thread Γ A [bd ss n, .int t] ρ = .ok (.bl true) true ρ := by
  have e : eBin fSub (eLenX Γ 0 (f_Board_len Γ A) (aCons (eVar 0) aNil)) (eC (.int 1)) [some (false, bd ss n), some (false, .int t)] ρ = .ok (.int ((n : Int) - 1)) true ρ := bin_ok (len_bd (cons_ok (var_ok (w := false) rfl) nil_ok) hn) rfl rfl
  have w : f_is_whole Γ A [.int t, .int 0, .int ((n : Int) - 1)] ρ = .ok (.bl true) true ρ := by
    rw [whole (.inl ⟨t, rfl⟩)]
    unfold wh
    dsimp only
    rw [decide_eq_true h0, decide_eq_true (show t ≤ (n : Int) - 1 by omega)]; rfl
  have e2 : eCallF (f_is_whole Γ A) (aCons (eVar 1) (aCons (eC (.int 0)) (aCons (eBin fSub (eLenX Γ 0 (f_Board_len Γ A) (aCons (eVar 0) aNil)) (eC (.int 1))) aNil))) [some (false, bd ss n), some (false, .int t)] ρ = .ok (.bl true) true ρ := by
    have v1 : eVar 1 [some (false, bd ss n), some (false, .int t)] ρ = .ok (.int t) (imm (.int t)) ρ := var_ok (w := false) rfl
    have v2 : eC (.int 0) [some (false, bd ss n), some (false, .int t)] ρ = .ok (.int 0) true ρ := rfl
    exact callF_d (cons_ok v1 (cons_ok v2 (cons_ok e nil_ok))) w
  have g : p_is_thread Γ A [some (false, bd ss n), some (false, .int t)] ρ = .rt (.bl true) true ρ := by
    unfold p_is_thread
    exact ret_ok e2
  exact fn_rt rfl g
theorem check_thread {ss : List Str} {n : Nat} {t : Int} (hn : n ≤ 1000) (h0 : 0 ≤ t) (h1 : t < n) : f_check_thread Γ A [bd ss n, .int t] ρ = .ok .non true ρ := by
  obtain ⟨f, e⟩ := call2 (F := f_is_thread Γ A) (δ := [some (false, bd ss n), some (false, .int t)]) (i := 0) (j := 1) (b := false) (b' := false) rfl rfl (is_thread (A := A) (Γ := Γ) (ρ := ρ) hn h0 h1)
  exact fn_nx rfl (if_go (not_ok (bE_ok e)))
theorem sort_ints {r : CA} {xs : List Int} {f : Bool} {ρ1 : WF.Row} (h : r δ ρ = .ok [.lst (iD xs)] f ρ1) : eCall fSort r δ ρ = .ok (.lst (iD (sortI xs))) true ρ1 := by
  unfold eCall
  rw [h]
  dsimp only
  unfold fSort fSortI
  dsimp only
  rw [show intsOf (iD xs) = some xs from intsOf_map xs]
  rfl
theorem imm_ints' (xs : List Int) : immAll (iD xs) = true := immAll_ints xs
theorem many_turn {ss : List Str} {c : Int} : many (ss.map turnS) c = many ss c := by unfold many; rw [List.length_map]
theorem many_le {m c : Int} {ss : List Str} (h : Cells m ss c) (hm : m ≤ 5) : 2 ≤ many ss c ∧ many ss c ≤ 10 := by
  have := h.r1; have := h.r2; have := h.c1; have := h.c2; unfold many; omega
theorem turn_rng {m c : Int} {ss : List Str} (h : Cells m ss c) : ∀ p ∈ stepsOf (ss.map turnS), (0 ≤ p.1 ∧ p.1 < (many ss c : Int)) ∧ 0 ≤ p.2 ∧ p.2 < (many ss c : Int) := fun p hp => by
  have := steps_rng (turn_cells h) hp
  rw [many_turn] at this
  exact this
theorem sort_strict {K : List Int} (nd : K.Nodup) : (sortI K).Pairwise (· < ·) := by
  have h1 := sortI_sorted K
  have h2 : (sortI K).Nodup := (sortI_perm K).nodup_iff.mpr nd
  exact (List.Pairwise.and h1 h2).imp fun ⟨a, b⟩ => by omega
theorem args2 {b t : D} : aCons (eVar 0) (aCons (eVar 1) aNil) [some (false, b), some (false, t)] ρ = .ok [b, t] (imm b && (imm t && true)) ρ := cons_ok (var_ok (w := false) rfl) (cons_ok (var_ok (w := false) rfl) nil_ok)
theorem drop_thread {ss : List Str} {n : Nat} {t : Int} {i j : Nat} {b b' : Bool} (hn : n ≤ 1000) (hi : δ[i]? = some (some (b, bd ss n))) (hj : δ[j]? = some (some (b', .int t))) (h0 : 0 ≤ t) (h1 : t < n) : sDrop (eCallF (f_check_thread Γ A) (aCons (eVar i) (aCons (eVar j) aNil))) δ ρ = .nx δ ρ :=
  drop_ok (callF_d (cons_ok (var_ok hi) (cons_ok (var_ok hj) nil_ok)) (check_thread (A := A) (Γ := Γ) (ρ := ρ) hn h0 h1))
/-- the threads to which a thread leads -/
theorem reached {m c : Int} {ss : List Str} {t : Int} (h : Cells m ss c) (hm : m ≤ 5) (h0 : 0 ≤ t) (h1 : t < many ss c) : ∃ (R : List Int), f_reached Γ A [bd ss (many ss c), .int t] ρ = .ok (.lst (iD R)) true ρ ∧ R.Pairwise (· < ·) ∧ ∀ x, x ∈ R ↔ ∃ j, Wk (stepsOf ss) t j x := by
  have hn := (many_le h hm).2
  let δ0 : List Slot := [some (false, bd ss (many ss c)), some (false, .int t)]
  have v0 : eVar 0 δ0 ρ = .ok (bd ss (many ss c)) (imm (bd ss (many ss c))) ρ := var_ok (w := false) rfl
  have v1 : eVar 1 δ0 ρ = .ok (.int t) (imm (.int t)) ρ := var_ok (w := false) rfl
  have e3 := callF_d (F := f_steps Γ A) (cons_ok v0 nil_ok) (steps (A := A) (Γ := Γ) (ρ := ρ) (n := many ss c) h hm)
  obtain ⟨K, V, e4, nd, rg, al, vs⟩ := distances (A := A) (Γ := Γ) (ρ := ρ) hn (Nat.le_trans (steps_len h hm) (by decide)) (fun p hp => steps_rng h hp) h0 h1
  have e5 := callF_d (F := f_distances Γ A) (cons_ok e3 (cons_ok v1 nil_ok)) e4
  have e6 : eCall fLists (aCons (eCallF (f_distances Γ A) (aCons (eCallF (f_steps Γ A) (aCons (eVar 0) aNil)) (aCons (eVar 1) aNil))) aNil) δ0 ρ = .ok (.lst (iD K)) true ρ := by
    unfold eCall
    rw [cons_ok e5 nil_ok]
    rfl
  refine ⟨sortI K, ?_, sort_strict nd, fun x => (sortI_perm K).mem_iff.trans (al x)⟩
  have g : p_reached Γ A δ0 ρ = .rt (.lst (iD (sortI K))) true ρ := by
    unfold p_reached
    rw [seq_nx (drop_board (b := false) rfl), seq_nx (drop_thread (b := false) (b' := false) (by omega) rfl rfl h0 h1)]
    exact ret_ok (sort_ints (cons_ok e6 nil_ok))
  exact fn_rt rfl g
theorem turned_steps {m c : Int} {ss : List Str} (h : Cells m ss c) (hm : m ≤ 5) {b : Bool} {i : Nat} (hi : δ[i]? = some (some (b, bd ss (many ss c)))) : eCallF (f_steps Γ A) (aCons (eCallF (f_turned Γ A) (aCons (eVar i) aNil)) aNil) δ ρ = .ok (.lst ((stepsOf (ss.map turnS)).map prD)) true ρ :=
  callF_d (cons_ok (callF_d (cons_ok (var_ok hi) nil_ok) (turned (A := A) (Γ := Γ) (ρ := ρ) h hm)) nil_ok) (steps (A := A) (Γ := Γ) (ρ := ρ) (n := many ss c) (turn_cells h) hm)
theorem tur {m c : Int} {ss : List Str} (h : Cells m ss c) : Tur (stepsOf ss) (stepsOf (ss.map turnS)) := fun _ _ => steps_turn h
/-- the threads that lead to a thread -/
theorem reaching {m c : Int} {ss : List Str} {t : Int} (h : Cells m ss c) (hm : m ≤ 5) (h0 : 0 ≤ t) (h1 : t < many ss c) : ∃ (R : List Int), f_reaching Γ A [bd ss (many ss c), .int t] ρ = .ok (.lst (iD R)) true ρ ∧ R.Pairwise (· < ·) ∧ ∀ x, x ∈ R ↔ ∃ j, Wk (stepsOf ss) x j t := by
  have hn := (many_le h hm).2
  let δ0 : List Slot := [some (false, bd ss (many ss c)), some (false, .int t)]
  have v1 : eVar 1 δ0 ρ = .ok (.int t) (imm (.int t)) ρ := var_ok (w := false) rfl
  have e3 := turned_steps (A := A) (Γ := Γ) (δ := δ0) (ρ := ρ) (i := 0) (b := false) h hm rfl
  obtain ⟨K, V, e4, nd, rg, al, vs⟩ := distances (A := A) (Γ := Γ) (ρ := ρ) hn (Nat.le_trans (steps_len (turn_cells h) hm) (by decide)) (turn_rng h) h0 h1
  have e5 := callF_d (F := f_distances Γ A) (cons_ok e3 (cons_ok v1 nil_ok)) e4
  have e6 : eCall fLists (aCons (eCallF (f_distances Γ A) (aCons (eCallF (f_steps Γ A) (aCons (eCallF (f_turned Γ A) (aCons (eVar 0) aNil)) aNil)) (aCons (eVar 1) aNil))) aNil) δ0 ρ = .ok (.lst (iD K)) true ρ := by
    unfold eCall
    rw [cons_ok e5 nil_ok]
    rfl
  refine ⟨sortI K, ?_, sort_strict nd, fun x => (sortI_perm K).mem_iff.trans ((al x).trans ⟨fun ⟨j, w⟩ => ⟨j, (tur h).wk.mp w⟩, fun ⟨j, w⟩ => ⟨j, (tur h).wk.mpr w⟩⟩)⟩
  have g : p_reaching Γ A δ0 ρ = .rt (.lst (iD (sortI K))) true ρ := by
    unfold p_reaching
    rw [seq_nx (drop_board (b := false) rfl), seq_nx (drop_thread (b := false) (b' := false) (by omega) rfl rfl h0 h1)]
    exact ret_ok (sort_ints (cons_ok e6 nil_ok))
  exact fn_rt rfl g
end K00

/-! ## NI -/
namespace K00
open PySem PySem.Spec PyProof.Rows L2 WF TL PM
variable {A : Ad} {Γ : Gam} {δ : List Slot} {ρ : WF.Row}
/-! ### the law's own steps -/
theorem for_ok' {tg : TGt} {ci : CI} {body : CS} {ds : List D} {ρ1 : WF.Row} (h : ci δ ρ = .ok ds true ρ1) : sFor tg ci body δ ρ = forL tg body ds δ ρ1 := by unfold sFor; rw [h]
/-- a cell's sign, as the law reads it -/
theorem cell_ok {ss : List Str} {s : Str} {k : Nat} {i j : Nat} {b0 : Bool} {x y : Bool} (h0 : δ[0]? = some (some (b0, .tup (ss.map D.str)))) (h2 : δ[2]? = some (some (x, .int i))) (h3 : δ[3]? = some (some (y, .int j))) (hs : ss[i]? = some s) (hk : (tl s)[j]? = some k) (hl : s.length ≤ 1000) :
    eBin (orF fIx (fIxR Γ)) (eBin (orF fIx (fIxR Γ)) (eVar 0) (eVar 2)) (eVar 3) δ ρ = .ok (ch k) true ρ := by
  have hi : i < ss.length := (List.getElem?_eq_some_iff.mp hs).1
  have hj : j < (tl s).length := (List.getElem?_eq_some_iff.mp hk).1
  have e1 : eBin (orF fIx (fIxR Γ)) (eVar 0) (eVar 2) δ ρ = .ok (.str s) true ρ := bin_ok (var_ok h0) (var_ok h2) (ix_tup (d := .str s) (by
    rw [atI_nat' (by omega) (by rw [List.length_map]; omega), List.getElem?_map, Int.toNat_natCast, hs]; rfl))
  refine bin_ok e1 (var_ok h3) ?_
  unfold orF fIx
  dsimp only
  rw [if_pos hl]
  have : atI s.cps.toList (j : Int) = some k := by
    show atI (tl s) (j : Int) = some k
    rw [atI_nat' (by omega) (by omega), Int.toNat_natCast]; exact hk
  rw [this]
  rfl
theorem pyAll_strs : ∀ xs : List Str, pyAll (xs.map D.str) = some (xs.map PyData.str)
  | [] => rfl
  | x :: xs => by
    show pyAll (.str x :: xs.map D.str) = _
    rw [pyAll, pyAll_strs xs]; rfl
theorem shaped_strs (xs : List Str) (hx : ∀ x ∈ xs, (PyData.str x).canLay0 = true) : SeqAt.shaped (.list (xs.map PyData.str)) = true := by
  have h1 : ∀ xs : List Str, (∀ x ∈ xs, (PyData.str x).canLay0 = true) → PyData.canLayAll0 (xs.map PyData.str) = true := fun xs => by
    induction xs with
    | nil => intro _; rfl
    | cons x xs ih => intro h; rw [List.map_cons, PyData.canLayAll0, ih fun y hy => h y (List.mem_cons_of_mem _ hy), h x List.mem_cons_self]; rfl
  have h2 : ∀ xs : List Str, PyData.depthAll (xs.map PyData.str) ≤ 1 := fun xs => by
    induction xs with
    | nil => rw [List.map_nil, PyData.depthAll]; omega
    | cons x xs ih =>
      rw [List.map_cons, PyData.depthAll]
      have : PyData.depth (.str x) ≤ 1 := by rw [PyData.depth] <;> first | omega | (intros; intro z; cases z)
      omega
  unfold SeqAt.shaped
  rw [PyData.canLay0, h1 xs hx, PyData.depth]
  have := h2 xs
  simp only [Bool.true_and, decide_eq_true_eq]
  omega
theorem any_strs (a : Str) (xs : List Str) : ((xs.map PyData.str).any fun z => PyData.eqv z (.str a)) = decide (a ∈ xs) := by
  rw [List.any_map]
  induction xs with
  | nil => simp
  | cons x xs ih =>
    rw [List.any_cons, ih]
    have : PyData.eqv (.str x) (.str a) = decide (x = a) := by
      by_cases h : x = a
      · subst h; simp [PyData.eqv]
      · simp [PyData.eqv, h]
    show (PyData.eqv (.str x) (.str a) || _) = _
    rw [this]
    by_cases h : x = a
    · subst h; simp
    · have h' : ¬ a = x := fun z => h z.symm
      simp [h, h']
theorem in_strs {a : Str} {xs : List Str} (ha : SeqAt.shaped (PyData.str a) = true) (hx : ∀ x ∈ xs, (PyData.str x).canLay0 = true) : fIn (.str a) (.lst (xs.map D.str)) = some (.bl (decide (a ∈ xs)), true) := by
  have h : fInL false (.str a) (.lst (xs.map D.str)) = some (.bl (decide (a ∈ xs)), true) := by
    unfold fInL
    dsimp only
    rw [show py (.str a) = some (.str a) by rw [py], pyAll_strs]
    dsimp only
    rw [shaped_strs _ hx, ha, if_pos (show (true && true) = true from rfl), if_neg Bool.false_ne_true, any_strs]
  unfold fIn orF
  rw [show fInT false (.str a) (.lst (xs.map D.str)) = none from rfl]
  dsimp only
  rw [show fInK false (.str a) (.lst (xs.map D.str)) = none from rfl]
  exact h
theorem in_gl {k : Nat} (h : k ∈ tl sg) : fIn (ch k) (.lst [.str ">", .str "x"]) = some (.bl (gx k), true) := by
  have e0 : tl sg = [46, 60, 62, 120] := by decide +kernel
  rw [e0] at h
  simp only [List.mem_cons, List.not_mem_nil, or_false] at h
  have hx : ∀ x ∈ ([">", "x"] : List Str), (PyData.str x).canLay0 = true := by
    intro x hx
    simp only [List.mem_cons, List.not_mem_nil, or_false] at hx
    rcases hx with rfl | rfl <;> decide +kernel
  have e := in_strs (a := ⟨#[k]⟩) (xs := [">", "x"]) (by rcases h with rfl | rfl | rfl | rfl <;> decide +kernel) hx
  refine Eq.trans e ?_
  congr 3
  rcases h with rfl | rfl | rfl | rfl <;> decide +kernel
theorem in_ll {k : Nat} (h : k ∈ tl sg) : fIn (ch k) (.lst [.str "<", .str "x"]) = some (.bl (lx k), true) := by
  have e0 : tl sg = [46, 60, 62, 120] := by decide +kernel
  rw [e0] at h
  simp only [List.mem_cons, List.not_mem_nil, or_false] at h
  have hx : ∀ x ∈ (["<", "x"] : List Str), (PyData.str x).canLay0 = true := by
    intro x hx
    simp only [List.mem_cons, List.not_mem_nil, or_false] at hx
    rcases hx with rfl | rfl <;> decide +kernel
  have e := in_strs (a := ⟨#[k]⟩) (xs := ["<", "x"]) (by rcases h with rfl | rfl | rfl | rfl <;> decide +kernel) hx
  refine Eq.trans e ?_
  congr 3
  rcases h with rfl | rfl | rfl | rfl <;> decide +kernel
theorem range_split {n : Nat} {pre post : List Nat} {a : Nat} (h : List.range n = pre ++ a :: post) : a = pre.length ∧ a < n := by
  have h1 : (List.range n)[pre.length]? = some a := by rw [h]; simp
  rw [List.getElem?_range] at h1
  · have : pre.length < n := by
      have := congrArg List.length h
      rw [List.length_range, List.length_append, List.length_cons] at this
      omega
    cases h1
    exact ⟨rfl, this⟩
  · have := congrArg List.length h
    rw [List.length_range, List.length_append, List.length_cons] at this
    omega
theorem rowS_snoc (R i : Int) : ∀ (n : Nat) (ks : List Nat) (k : Nat), rowS R i n (ks ++ [k]) = rowS R i n ks ++ stp i (R + ((n + ks.length : Nat) : Int)) k
  | n, [], k => by simp [rowS]
  | n, q :: ks, k => by
    show stp i (R + n) q ++ rowS R i (n + 1) (ks ++ [k]) = (stp i (R + n) q ++ rowS R i (n + 1) ks) ++ _
    rw [rowS_snoc R i (n + 1) ks k, List.append_assoc, List.length_cons, show n + 1 + ks.length = n + (ks.length + 1) by omega]
theorem rawS_snoc (R : Int) : ∀ (n : Nat) (ss : List Str) (s : Str), rawS R n (ss ++ [s]) = rawS R n ss ++ rowS R ((n + ss.length : Nat) : Int) 0 (tl s)
  | n, [], s => by simp [rawS]
  | n, q :: ss, s => by
    show rowS R n 0 (tl q) ++ rawS R (n + 1) (ss ++ [s]) = (rowS R n 0 (tl q) ++ rawS R (n + 1) ss) ++ _
    rw [rawS_snoc R (n + 1) ss s, List.append_assoc, List.length_cons, show n + 1 + ss.length = n + (ss.length + 1) by omega]
theorem take_snoc {α : Type} {l : List α} {i : Nat} {x : α} (h : l[i]? = some x) : l.take (i + 1) = l.take i ++ [x] := by
  rw [List.take_add_one, h]; rfl
/-- slots of the law's steps -/
def sL (ss : List Str) (F : List (Int × Int)) (x y : Slot) : List Slot := [some (false, .tup (ss.map D.str)), some (true, .lst (F.map prD)), x, y]
abbrev cCell (Γ : Gam) : CE := (eBin (orF fIx (fIxR Γ)) (eBin (orF fIx (fIxR Γ)) (eVar 0) (eVar 2)) (eVar 3))
abbrev cAcr (Γ : Gam) (A : Ad) : CE := (eBin fAdd (eLenX Γ 0 (f_Board_len Γ A) (aCons (eVar 0) aNil)) (eVar 3))
abbrev bLC (Γ : Gam) (A : Ad) : CS := (sSeq (sIf (bB (eBin fIn (cCell Γ) (eLst (aCons (eC (.str ">")) (aCons (eC (.str "x")) aNil))))) (sApp 1 (eTup (aCons (eVar 2) (aCons (cAcr Γ A) aNil)))) sNil) (sIf (bB (eBin fIn (cCell Γ) (eLst (aCons (eC (.str "<")) (aCons (eC (.str "x")) aNil))))) (sApp 1 (eTup (aCons (cAcr Γ A) (aCons (eVar 2) aNil)))) sNil))
theorem app_prL {F : List (Int × Int)} {ss : List Str} {x y : Slot} {p : Int × Int} {c : CE} {f : Bool} (hc : c (sL ss F x y) ρ = .ok (prD p) true ρ) (hl : F.length < 1000) : sApp 1 c (sL ss F x y) ρ = .nx (sL ss (F ++ [p]) x y) ρ := by
  rw [app_ok (ds := F.map prD) rfl hc (by rw [List.length_map]; omega)]
  unfold sL
  rw [List.map_append]
  rfl
theorem lcell_ok {ss : List Str} {F : List (Int × Int)} {s : Str} {i j k : Nat} (hs : ss[i]? = some s) (hk : (tl s)[j]? = some k) (hg : k ∈ tl sg) (hl : s.length ≤ 1000) (hF : F.length + 2 < 1000) :
    bLC Γ A (sL ss F (some (true, .int i)) (some (true, .int j))) ρ = .nx (sL ss (F ++ stp i ((ss.length : Int) + j) k) (some (true, .int i)) (some (true, .int j))) ρ := by
  have acr : ∀ {F : List (Int × Int)}, cAcr Γ A (sL ss F (some (true, .int i)) (some (true, .int j))) ρ = .ok (.int ((ss.length : Int) + j)) true ρ := by
    intro F
    have e1 : eLenX Γ 0 (f_Board_len Γ A) (aCons (eVar 0) aNil) (sL ss F (some (true, .int i)) (some (true, .int j))) ρ = .ok (.int (ss.map D.str).length) true ρ := len_tup (cons_ok (var_ok (w := false) rfl) nil_ok)
    rw [List.length_map] at e1
    exact bin_ok e1 (var_ok (w := true) rfl) add1
  have cel : ∀ {F : List (Int × Int)}, cCell Γ (sL ss F (some (true, .int i)) (some (true, .int j))) ρ = .ok (ch k) true ρ := by
    intro F
    exact cell_ok (b0 := false) (x := true) (y := true) rfl rfl rfl hs hk hl
  have l1 : ∀ {F : List (Int × Int)}, eLst (aCons (eC (.str ">")) (aCons (eC (.str "x")) aNil)) (sL ss F (some (true, .int i)) (some (true, .int j))) ρ = .ok (.lst [.str ">", .str "x"]) true ρ := rfl
  have l2 : ∀ {F : List (Int × Int)}, eLst (aCons (eC (.str "<")) (aCons (eC (.str "x")) aNil)) (sL ss F (some (true, .int i)) (some (true, .int j))) ρ = .ok (.lst [.str "<", .str "x"]) true ρ := rfl
  have t1 : ∀ {F : List (Int × Int)}, eTup (aCons (eVar 2) (aCons (cAcr Γ A) aNil)) (sL ss F (some (true, .int i)) (some (true, .int j))) ρ = .ok (prD ((i : Int), (ss.length : Int) + j)) true ρ := by
    intro F
    unfold eTup
    rw [cons_ok (var_ok (w := true) rfl) (cons_ok acr nil_ok)]
    rfl
  have t2 : ∀ {F : List (Int × Int)}, eTup (aCons (cAcr Γ A) (aCons (eVar 2) aNil)) (sL ss F (some (true, .int i)) (some (true, .int j))) ρ = .ok (prD ((ss.length : Int) + j, (i : Int))) true ρ := by
    intro F
    unfold eTup
    rw [cons_ok acr (cons_ok (var_ok (w := true) rfl) nil_ok)]
    rfl
  have s1 : sIf (bB (eBin fIn (cCell Γ) (eLst (aCons (eC (.str ">")) (aCons (eC (.str "x")) aNil))))) (sApp 1 (eTup (aCons (eVar 2) (aCons (cAcr Γ A) aNil)))) sNil (sL ss F (some (true, .int i)) (some (true, .int j))) ρ = .nx (sL ss (F ++ if gx k then [((i : Int), (ss.length : Int) + j)] else []) (some (true, .int i)) (some (true, .int j))) ρ := by
    have tt := bB_ok (bin_ok (f := fIn) (cel (F := F)) l1 (in_gl hg))
    rw [if_ok tt]
    cases gx k with
    | true => rw [if_pos rfl, if_pos rfl]; exact app_prL (f := true) t1 (by omega)
    | false => rw [if_neg Bool.false_ne_true, if_neg Bool.false_ne_true, List.append_nil]; rfl
  have hF2 : (F ++ if gx k then [((i : Int), (ss.length : Int) + j)] else []).length < 1000 := by
    rw [List.length_append]; split
    · show _ + 1 < _; omega
    · show _ + 0 < _; omega
  rw [show bLC Γ A = sSeq _ _ from rfl, seq_nx s1]
  have tt := bB_ok (bin_ok (f := fIn) (cel (F := (F ++ if gx k then [((i : Int), (ss.length : Int) + j)] else []))) l2 (in_ll hg))
  rw [if_ok tt]
  unfold stp
  cases lx k with
  | true =>
    rw [if_pos rfl, if_pos rfl, ← List.append_assoc]
    exact app_prL (f := true) t2 hF2
  | false => rw [if_neg Bool.false_ne_true, if_neg Bool.false_ne_true, List.append_nil]; rfl
end K00

/-! ## NJ -/
namespace K00
open PySem PySem.Spec PyProof.Rows L2 WF TL PM
variable {A : Ad} {Γ : Gam} {δ : List Slot} {ρ : WF.Row}
theorem sL_get {m c : Int} {ss : List Str} (h : Cells m ss c) (hm : m ≤ 5) {s : Str} (hs : s ∈ ss) : s.length = (tl s).length ∧ ((tl s).length : Int) = c ∧ s.length ≤ 1000 ∧ ∀ k ∈ tl s, k ∈ tl sg := by
  obtain ⟨l1, l2⟩ := h.ln s hs
  have := h.c2
  have e : s.length = (tl s).length := len_tl s
  exact ⟨e, l1, by omega, l2⟩
/-- one row of the law's steps -/
theorem lrow_ok {m c : Int} {ss : List Str} (h : Cells m ss c) (hm : m ≤ 5) {s : Str} {i : Nat} (hs : ss[i]? = some s) {F : List (Int × Int)} (hF : F.length + 20 < 1000) {y : Slot} :
    ∃ y', sFor (gN 3) (iRg1 (aCons (eLenX Γ 0 (f_Board_len Γ A) (aCons (eBin (orF fIx (fIxR Γ)) (eVar 0) (eC (.int 0))) aNil)) aNil)) (bLC Γ A) (sL ss F (some (true, .int i)) y) ρ = .nx (sL ss (F ++ rowS ss.length i 0 (tl s)) (some (true, .int i)) y') ρ := by
  have ms : s ∈ ss := List.mem_of_getElem? hs
  obtain ⟨s1, s2, s3, s4⟩ := sL_get h hm ms
  obtain ⟨s0, ss', rfl⟩ : ∃ s0 ss', ss = s0 :: ss' := by
    cases ss with
    | nil => cases ms
    | cons a b => exact ⟨a, b, rfl⟩
  obtain ⟨z1, z2, z3, z4⟩ := sL_get h hm (s := s0) List.mem_cons_self
  have c2 := h.c2
  have e0 : eBin (orF fIx (fIxR Γ)) (eVar 0) (eC (.int 0)) (sL (s0 :: ss') F (some (true, .int i)) y) ρ = .ok (.str s0) true ρ := bin_ok (var_ok (w := false) rfl) rfl (ix_tup (d := .str s0) (by rw [atI_nat' (by decide) (by rw [List.length_map, List.length_cons]; omega)]; rfl))
  have e1 : eLenX Γ 0 (f_Board_len Γ A) (aCons (eBin (orF fIx (fIxR Γ)) (eVar 0) (eC (.int 0))) aNil) (sL (s0 :: ss') F (some (true, .int i)) y) ρ = .ok (.int s0.length) true ρ := len_str (cons_ok e0 nil_ok) z3
  have e2 := range_ok (cons_ok e1 nil_ok) (by omega) (by omega)
  have en : ((s0.length : Int)).toNat = (tl s).length := by rw [Int.toNat_natCast]; omega
  rw [en] at e2
  obtain ⟨δ', f1, y', rfl⟩ := forL_ind (ρ := ρ) (enc := fun (k : Nat) => D.int (0 + (k : Int))) (tg := gN 3) (body := bLC Γ A) (l := List.range (tl s).length) (δ := sL (s0 :: ss') F (some (true, .int i)) y)
    (fun pre δ => ∃ y', δ = sL (s0 :: ss') (F ++ rowS (s0 :: ss').length i 0 ((tl s).take pre.length)) (some (true, .int i)) y') (fun pre a post δ e ⟨y', hd⟩ => by
      subst hd
      obtain ⟨ea, al⟩ := range_split e
      obtain ⟨k, hk⟩ : ∃ k, (tl s)[a]? = some k := ⟨_, List.getElem?_eq_getElem al⟩
      have hlen : (rowS ((s0 :: ss').length : Int) i 0 ((tl s).take pre.length)).length ≤ 2 * 5 := by
        have := rowS_len ((s0 :: ss').length : Int) i 0 ((tl s).take pre.length)
        rw [List.length_take] at this
        omega
      have step := lcell_ok (A := A) (Γ := Γ) (ρ := ρ) (ss := s0 :: ss') (F := F ++ rowS (s0 :: ss').length i 0 ((tl s).take pre.length)) (i := i) (j := a) hs hk (s4 k (List.mem_of_getElem? hk)) s3 (by rw [List.length_append]; omega)
      refine ⟨sL (s0 :: ss') (F ++ rowS (s0 :: ss').length i 0 ((tl s).take pre.length)) (some (true, .int i)) (some (true, .int a)), _, ?_, step, some (true, .int a), ?_⟩
      · show some (put 3 (.int (0 + (a : Int))) (imm (.int (0 + (a : Int)))) _) = _
        rw [Int.zero_add]
        rfl
      · rw [List.length_append, List.length_singleton, take_snoc (i := pre.length) (x := k) (by rw [← ea]; exact hk), rowS_snoc, List.append_assoc, List.length_take, Nat.min_eq_left (by omega), Nat.zero_add, ea])
    ⟨y, by simp [rowS]⟩
  refine ⟨y', ?_⟩
  rw [for_ok' e2, f1, List.length_range, List.take_length]
end K00

/-! ## NK -/
namespace K00
open PySem PySem.Spec PyProof.Rows L2 WF TL PM
variable {A : Ad} {Γ : Gam} {δ : List Slot} {ρ : WF.Row}
/-! ### plain data compared -/
theorem eqv_ints : ∀ xs ys : List Int, PyData.eqvAll (xs.map PyData.int) (ys.map PyData.int) = decide (xs = ys)
  | [], [] => rfl
  | [], _ :: _ => rfl
  | _ :: _, [] => rfl
  | x :: xs, y :: ys => by
    show (PyData.eqv (.int x) (.int y) && PyData.eqvAll (xs.map PyData.int) (ys.map PyData.int)) = _
    rw [eqv_ints xs ys]
    have : PyData.eqv (.int x) (.int y) = decide (x = y) := by
      by_cases h : x = y
      · subst h; simp [PyData.eqv]
      · simp [PyData.eqv, h]
    rw [this]
    by_cases h : x = y <;> by_cases h2 : xs = ys <;> simp [h, h2]
theorem lay_ints : ∀ xs : List Int, PyData.canLayAll0 (xs.map PyData.int) = true
  | [] => rfl
  | x :: xs => by rw [List.map_cons, PyData.canLayAll0, lay_ints xs]; rfl
theorem dep_ints : ∀ xs : List Int, PyData.depthAll (xs.map PyData.int) ≤ 1
  | [] => by rw [List.map_nil, PyData.depthAll]; omega
  | x :: xs => by
    rw [List.map_cons, PyData.depthAll]
    have : PyData.depth (.int x) ≤ 1 := by rw [PyData.depth] <;> first | omega | (intros; intro z; cases z)
    have := dep_ints xs
    omega
theorem shaped_tup (xs : List Int) : SeqAt.shaped (.tuple (xs.map PyData.int)) = true := by
  unfold SeqAt.shaped
  rw [PyData.canLay0, lay_ints, PyData.depth]
  have := dep_ints xs
  simp only [Bool.true_and, decide_eq_true_eq]
  omega
theorem py_ints (xs : List Int) : py (.lst (iD xs)) = some (.list (xs.map PyData.int)) := by rw [py, pyAll_ints]
theorem py_tup (xs : List Int) : py (.tup (iD xs)) = some (.tuple (xs.map PyData.int)) := by rw [py, pyAll_ints]
theorem ne_ints {xs ys : List Int} : fNe (.lst (iD xs)) (.lst (iD ys)) = some (.bl (!decide (xs = ys)), true) := by
  unfold fNe
  rw [py_ints, py_ints]
  dsimp only
  rw [shaped_ints, shaped_ints, if_pos (show (true && true) = true from rfl), PyData.eqv, eqv_ints]
theorem ne_ints_nil {xs : List Int} : fNe (.lst (iD xs)) (.lst []) = some (.bl (!decide (xs = [])), true) := ne_ints (ys := [])
theorem ni_list {a : Int} {xs : List Int} : fNi (.int a) (.lst (iD xs)) = some (.bl (!decide (a ∈ xs)), true) := by
  have h : fInL true (.int a) (.lst (iD xs)) = some (.bl (!decide (a ∈ xs)), true) := by
    unfold fInL
    dsimp only
    rw [show py (.int a) = some (.int a) by rw [py], pyAll_ints]
    dsimp only
    rw [shaped_ints, if_pos (show (SeqAt.shaped (PyData.int a) && true) = true from rfl), if_pos rfl, any_int]
  unfold fNi orF
  rw [show fInT true (.int a) (.lst (iD xs)) = none from rfl]
  dsimp only
  rw [show fInK true (.int a) (.lst (iD xs)) = none from rfl]
  exact h
theorem eq_ints {i j : Int} : fEq (.int i) (.int j) = some (.bl (decide (i = j)), true) := by
  show (if (SeqAt.shaped (.int i) && SeqAt.shaped (.int j)) = true then some (D.bl (PyData.eqv (.int i) (.int j)), true) else none) = _
  rw [if_pos (show (SeqAt.shaped (PyData.int i) && SeqAt.shaped (PyData.int j)) = true from rfl)]
  have : PyData.eqv (.int i) (.int j) = decide (i = j) := by
    by_cases h : i = j
    · subst h; simp [PyData.eqv]
    · simp [PyData.eqv, h]
  rw [this]
theorem par2_ok {i j : Nat} {ca cb : CE} {d1 d2 : D} {f1 f2 : Bool} {ρ1 ρ2 : WF.Row} (h1 : ca δ ρ = .ok d1 f1 ρ1) (h2 : cb δ ρ1 = .ok d2 f2 ρ2) : sPar2 i j ca cb δ ρ = .nx (put j d2 f2 (put i d1 f1 δ)) ρ2 := by
  unfold sPar2; rw [h1]; dsimp only; rw [h2]
theorem par3_ok {i j l : Nat} {ca cb cc : CE} {d1 d2 d3 : D} {f1 f2 f3 : Bool} {ρ1 ρ2 ρ3 : WF.Row} (h1 : ca δ ρ = .ok d1 f1 ρ1) (h2 : cb δ ρ1 = .ok d2 f2 ρ2) (h3 : cc δ ρ2 = .ok d3 f3 ρ3) : sPar3 i j l ca cb cc δ ρ = .nx (put l d3 f3 (put j d2 f2 (put i d1 f1 δ))) ρ3 := by
  unfold sPar3; rw [h1]; dsimp only; rw [h2]; dsimp only; rw [h3]
theorem app_i {i : Nat} {c : CE} {K : List Int} {b : Int} {f : Bool} (h : δ[i]? = some (some (true, .lst (iD K)))) (hc : c δ ρ = .ok (.int b) true ρ) (hl : K.length < 1000) : sApp i c δ ρ = .nx (δ.set i (some (true, .lst (iD (K ++ [b]))))) ρ := by
  rw [app_ok h hc (by unfold iD; rw [List.length_map]; omega)]
  unfold iD
  rw [List.map_append]
  rfl
/-! ### the law's search by a pile -/
def kS (w : Bool) (ss : List Str) (t : Int) (ps : List (Int × Int)) (F : List D) (K L : List Int) (x y z : Slot) : List Slot := [some (false, .tup (ss.map D.str)), some (true, .int t), some (w, .lst (ps.map prD)), some (true, .lst F), some (true, .lst (iD K)), some (true, .lst (iD L)), x, y, z]
abbrev bKnow : CS := (sIf (bAnd (bB (eBin fEq (eVar 7) (eVar 6))) (bB (eBin fNi (eVar 8) (eVar 4)))) (sSeq (sApp 4 (eVar 8)) (sApp 5 (eVar 8))) sNil)
theorem know_ok {w : Bool} {ss : List Str} {t u a b : Int} {ps : List (Int × Int)} {F : List D} {K L : List Int} (hK : K.length < 1000) (hL : L.length < 1000) :
    bKnow (kS w ss t ps F K L (some (true, .int u)) (some (true, .int a)) (some (true, .int b))) ρ = .nx (kS w ss t ps F (kstep u (K, L) (a, b)).1 (kstep u (K, L) (a, b)).2 (some (true, .int u)) (some (true, .int a)) (some (true, .int b))) ρ := by
  have t1 : bB (eBin fEq (eVar 7) (eVar 6)) (kS w ss t ps F K L (some (true, .int u)) (some (true, .int a)) (some (true, .int b))) ρ = .ok (decide (a = u)) ρ := bB_ok (bin_ok (var_ok (w := true) rfl) (var_ok (w := true) rfl) eq_ints)
  have t2 : bB (eBin fNi (eVar 8) (eVar 4)) (kS w ss t ps F K L (some (true, .int u)) (some (true, .int a)) (some (true, .int b))) ρ = .ok (!decide (b ∈ K)) ρ := bB_ok (bin_ok (var_ok (w := true) rfl) (var_ok (w := true) rfl) ni_list)
  unfold kstep
  by_cases h1 : a = u
  · rw [decide_eq_true h1] at t1
    have tt := and_bt (u := bB (eBin fNi (eVar 8) (eVar 4))) t1
    rw [t2] at tt
    by_cases h2 : b ∈ K
    · rw [decide_eq_true h2] at tt
      rw [show bKnow = sIf _ _ _ from rfl, if_go tt, if_neg (fun z => z.2 h2)]
    · rw [decide_eq_false h2] at tt
      rw [show bKnow = sIf _ _ _ from rfl, if_ok tt, if_pos (show (!false) = true from rfl), if_pos ⟨h1, h2⟩]
      have e1 := app_i (i := 4) (c := eVar 8) (K := K) (b := b) (f := true) (δ := kS w ss t ps F K L (some (true, .int u)) (some (true, .int a)) (some (true, .int b))) (ρ := ρ) rfl rfl hK
      rw [seq_nx e1]
      have e2 := app_i (i := 5) (c := eVar 8) (K := L) (b := b) (f := true) (δ := kS w ss t ps F (K ++ [b]) L (some (true, .int u)) (some (true, .int a)) (some (true, .int b))) (ρ := ρ) rfl rfl hL
      exact e2
  · rw [decide_eq_false h1] at t1
    rw [show bKnow = sIf _ _ _ from rfl, if_go (and_bf t1), if_neg (fun z => h1 z.1)]
theorem krun_le {u : Int} : ∀ (qs : List (Int × Int)) (K L : List Int), (qs.foldl (kstep u) (K, L)).1.length ≤ K.length + qs.length ∧ (qs.foldl (kstep u) (K, L)).2.length ≤ L.length + qs.length
  | [], K, L => ⟨Nat.le_refl _, Nat.le_refl _⟩
  | p :: qs, K, L => by
    have h := krun_le (u := u) qs (kstep u (K, L) p).1 (kstep u (K, L) p).2
    have h2 : (kstep u (K, L) p).1.length ≤ K.length + 1 ∧ (kstep u (K, L) p).2.length ≤ L.length + 1 := by
      unfold kstep
      split
      · exact ⟨by show (K ++ [p.2]).length ≤ _; rw [List.length_append]; exact Nat.le_refl _, by show (L ++ [p.2]).length ≤ _; rw [List.length_append]; exact Nat.le_refl _⟩
      · exact ⟨Nat.le_succ _, Nat.le_succ _⟩
    rw [List.length_cons]
    show (qs.foldl (kstep u) (kstep u (K, L) p)).1.length ≤ _ ∧ (qs.foldl (kstep u) (kstep u (K, L) p)).2.length ≤ _
    rw [show ((kstep u (K, L) p).1, (kstep u (K, L) p).2) = kstep u (K, L) p from rfl] at h
    omega
abbrev bPile : CS := (sSeq (sPop 6 5) (sForV (gTu ((gN 7) :: ((gN 8) :: []))) 2 bKnow))
theorem pileturn_ok {w : Bool} {ss : List Str} {t u : Int} {ps : List (Int × Int)} {F : List D} {K L : List Int} {x y z : Slot} (hK : K.length + ps.length < 1000) (hL : L.length + ps.length < 1000) :
    ∃ (x' y' z' : Slot), bPile (kS w ss t ps F K (L ++ [u]) x y z) ρ = .nx (kS false ss t ps F (ps.foldl (kstep u) (K, L)).1 (ps.foldl (kstep u) (K, L)).2 x' y' z') ρ := by
  have e1 : sPop 6 5 (kS w ss t ps F K (L ++ [u]) x y z) ρ = .nx (kS w ss t ps F K L (some (true, .int u)) y z) ρ := by
    unfold sPop
    have hg : (kS w ss t ps F K (L ++ [u]) x y z)[5]? = some (some (true, .lst (iD (L ++ [u])))) := rfl
    rw [hg]
    dsimp only
    have hl : (iD (L ++ [u]))[(iD (L ++ [u])).length - 1]? = some (.int u) := by
      unfold iD
      rw [List.map_append, List.length_append, List.length_map]
      show (L.map D.int ++ [D.int u])[L.length + 1 - 1]? = _
      rw [Nat.add_sub_cancel, List.getElem?_append_right (by rw [List.length_map]; exact Nat.le_refl _), List.length_map, Nat.sub_self]
      rfl
    rw [hl]
    dsimp only
    rw [if_pos (show imm (.int u) = true from rfl)]
    have hd : (iD (L ++ [u])).dropLast = iD L := by
      unfold iD
      rw [List.map_append]
      exact List.dropLast_concat
    rw [hd]
    rfl
  obtain ⟨δ', f1, y', z', rfl⟩ := forL_ind (ρ := ρ) (enc := prD) (tg := gTu ((gN 7) :: ((gN 8) :: []))) (body := bKnow) (l := ps) (δ := kS false ss t ps F K L (some (true, .int u)) y z)
    (fun pre δ => ∃ y' z', δ = kS false ss t ps F (pre.foldl (kstep u) (K, L)).1 (pre.foldl (kstep u) (K, L)).2 (some (true, .int u)) y' z') (fun pre a post δ e ⟨y', z', hd⟩ => by
      subst hd
      have hlen : pre.length ≤ ps.length := by rw [e, List.length_append]; omega
      have hb := krun_le (u := u) pre K L
      refine ⟨_, _, rfl, know_ok (by omega) (by omega), some (true, .int a.1), some (true, .int a.2), ?_⟩
      rw [fold_snoc])
    ⟨y, z, rfl⟩
  refine ⟨some (true, .int u), y', z', ?_⟩
  rw [show bPile = sSeq _ _ from rfl, seq_nx e1]
  exact f1
theorem pile_while {ss : List Str} {t : Int} {ps : List (Int × Int)} {F : List D} {n : Nat} (hn : n ≤ 100) (hps : ps.length ≤ 100) (hr : ∀ p ∈ ps, (0 ≤ p.1 ∧ p.1 < (n : Int)) ∧ 0 ≤ p.2 ∧ p.2 < (n : Int)) (ht : 0 ≤ t ∧ t < (n : Int)) : ∀ (fuel : Nat) (w : Bool) (K L : List Int) (x y z : Slot), Pile ps t K L → L.length + n < fuel + K.length → fuel ≤ 100 →
    ∃ (w' : Bool) (K' : List Int) (x' y' z' : Slot), whL (bB (eBin fNe (eVar 5) (eLst aNil))) bPile fuel (kS w ss t ps F K L x y z) ρ = .nx (kS w' ss t ps F K' [] x' y' z') ρ ∧ Pile ps t K' [] := fun fuel => by
  have rng : ∀ {K L : List Int}, Pile ps t K L → ∀ k ∈ K, 0 ≤ k ∧ k < (n : Int) := fun h k hk => by
    obtain ⟨j, w⟩ := h.wk k hk
    cases w with
    | nil => exact ht
    | snoc _ e => exact (hr _ e).2
  induction fuel with
  | zero =>
    intro w K L x y z h hf hfu
    have := nodup_rng n h.nd (rng h)
    omega
  | succ fuel ih =>
    intro w K L x y z h hf hfu
    have hKn := nodup_rng n h.nd (rng h)
    have tt : bB (eBin fNe (eVar 5) (eLst aNil)) (kS w ss t ps F K L x y z) ρ = .ok (!decide (L = [])) ρ := bB_ok (bin_ok (b := .lst []) (var_ok (w := true) rfl) rfl ne_ints_nil)
    rcases List.eq_nil_or_concat L with rfl | ⟨L0, u, rfl⟩
    · exact ⟨w, K, x, y, z, whL_no tt, h⟩
    · rw [List.concat_eq_append] at h hf tt ⊢
      have hne : ¬ (L0 ++ [u] = []) := by simp
      rw [decide_eq_false hne] at tt
      rw [List.length_append] at hf
      obtain ⟨x1, y1, z1, e1⟩ := pileturn_ok (ρ := ρ) (w := w) (ss := ss) (t := t) (u := u) (ps := ps) (F := F) (K := K) (L := L0) (x := x) (y := y) (z := z) (by omega) (by
        have : L0.length + 1 + n < fuel + 1 + K.length := hf
        omega)
      have hlen := krun_len (u := u) ps (K := K) (L := L0)
      obtain ⟨w', K', x', y', z', e2, r⟩ := ih false _ _ x1 y1 z1 (pile_turn h) (by
        have : L0.length + 1 + n < fuel + 1 + K.length := hf
        omega) (by omega)
      refine ⟨w', K', x', y', z', ?_, r⟩
      rw [whL_nx tt e1]
      exact e2
end K00

/-! ## NL -/
namespace K00
open PySem PySem.Spec PyProof.Rows L2 WF TL PM
variable {A : Ad} {Γ : Gam} {δ : List Slot} {ρ : WF.Row}
theorem many_ok {m c : Int} {ss : List Str} (h : Cells m ss c) (hm : m ≤ 5) : f_law_many Γ A [.tup (ss.map D.str)] ρ = .ok (.int (many ss c)) true ρ := by
  obtain ⟨s0, ss', rfl⟩ : ∃ s0 ss', ss = s0 :: ss' := by
    cases ss with
    | nil => have := h.r1; cases this
    | cons a b => exact ⟨a, b, rfl⟩
  have r2 := h.r2; have c1 := h.c1; have c2 := h.c2
  have l0 := (h.ln s0 List.mem_cons_self).1
  let δ0 : List Slot := [some (false, .tup ((s0 :: ss').map D.str))]
  have v0 : eVar 0 δ0 ρ = .ok (.tup ((s0 :: ss').map D.str)) (imm (.tup ((s0 :: ss').map D.str))) ρ := var_ok (w := false) rfl
  have a1 := len_tup (Γ := Γ) (F := f_Board_len Γ A) (cons_ok v0 nil_ok)
  have a2 : eBin (orF fIx (fIxR Γ)) (eVar 0) (eC (.int 0)) δ0 ρ = .ok (.str s0) true ρ := bin_ok v0 rfl (ix_tup (d := .str s0) (by rw [atI_nat' (by decide) (by rw [List.length_map, List.length_cons]; omega)]; rfl))
  have a3 := len_str (Γ := Γ) (F := f_Board_len Γ A) (cons_ok a2 nil_ok) (by rw [len_tl]; omega)
  have a4 := bin_ok (f := fAdd) a1 a3 add1
  have hn : ((((s0 :: ss').map D.str).length : Int) + (s0.length : Int)) = (many (s0 :: ss') c : Int) := by unfold many; rw [List.length_map, len_tl]; omega
  rw [hn] at a4
  have g : p_law_many Γ A δ0 ρ = .rt (.int (many (s0 :: ss') c)) true ρ := by
    unfold p_law_many
    exact ret_ok a4
  exact fn_rt rfl g
def lD (R : List Int) : D := .lst (iD R)
/-- the threads to which one leads, ascending -/
def Goal (ps : List (Int × Int)) (i : Int) (R : List Int) : Prop := R.Pairwise (· < ·) ∧ ∀ x, x ∈ R ↔ ∃ j, Wk ps i j x
theorem Goal.uniq {ps : List (Int × Int)} {i : Int} {R S : List Int} (h : Goal ps i R) (h2 : Goal ps i S) : R = S := strict_uniq h.1 h2.1 fun z => (h.2 z).trans (h2.2 z).symm
def gS (w : Bool) (ss : List Str) (x1 : Slot) (ps : List (Int × Int)) (G : List (List Int)) (a b c d e : Slot) : List Slot := [some (false, .tup (ss.map D.str)), x1, some (w, .lst (ps.map prD)), some (true, .lst (G.map lD)), a, b, c, d, e]
abbrev bLead : CS := (sSeq (sPar2 4 5 (eLst (aCons (eVar 1) aNil)) (eLst (aCons (eVar 1) aNil))) (sSeq (sWhile 12 (bB (eBin fNe (eVar 5) (eLst aNil))) bPile) (sApp 3 (eCall fSort (aCons (eVar 4) aNil)))))
theorem lead_ok {w : Bool} {ss : List Str} {t : Int} {ps : List (Int × Int)} {G : List (List Int)} {n : Nat} {a b c d e : Slot} (hn : n ≤ 10) (hps : ps.length ≤ 100) (hr : ∀ p ∈ ps, (0 ≤ p.1 ∧ p.1 < (n : Int)) ∧ 0 ≤ p.2 ∧ p.2 < (n : Int)) (ht : 0 ≤ t ∧ t < (n : Int)) (hG : G.length < 1000) :
    ∃ (w' : Bool) (R : List Int) (a' b' c' d' e' : Slot), bLead (gS w ss (some (true, .int t)) ps G a b c d e) ρ = .nx (gS w' ss (some (true, .int t)) ps (G ++ [R]) a' b' c' d' e') ρ ∧ Goal ps t R := by
  have v1 : eLst (aCons (eVar 1) aNil) (gS w ss (some (true, .int t)) ps G a b c d e) ρ = .ok (.lst (iD [t])) true ρ := rfl
  have e1 := par2_ok (i := 4) (j := 5) v1 v1
  have e1' : sPar2 4 5 (eLst (aCons (eVar 1) aNil)) (eLst (aCons (eVar 1) aNil)) (gS w ss (some (true, .int t)) ps G a b c d e) ρ = .nx (kS w ss t ps (G.map lD) [t] [t] c d e) ρ := e1
  obtain ⟨w', K, x, y, z, e2, hp⟩ := pile_while (ρ := ρ) (ss := ss) (t := t) (ps := ps) (F := G.map lD) (n := n) (by omega) hps hr ht 12 w [t] [t] c d e Pile.start (by show 1 + n < 12 + 1; omega) (by decide)
  have e3 : eCall fSort (aCons (eVar 4) aNil) (kS w' ss t ps (G.map lD) K [] x y z) ρ = .ok (lD (sortI K)) true ρ := sort_ints (cons_ok (var_ok (w := true) rfl) nil_ok)
  have e4 := app_ok (i := 3) (δ := kS w' ss t ps (G.map lD) K [] x y z) (ρ := ρ) (ds := G.map lD) rfl e3 (by rw [List.length_map]; omega)
  refine ⟨w', sortI K, some (true, .lst (iD K)), some (true, .lst (iD [])), x, y, z, ?_, sort_strict hp.nd, fun q => (sortI_perm K).mem_iff.trans (hp.all q)⟩
  rw [show bLead = sSeq _ (sSeq _ _) from rfl, seq_nx e1']
  have e2' : sWhile 12 (bB (eBin fNe (eVar 5) (eLst aNil))) bPile (kS w ss t ps (G.map lD) [t] [t] c d e) ρ = .nx (kS w' ss t ps (G.map lD) K [] x y z) ρ := e2
  rw [seq_nx e2', e4]
  unfold gS
  rw [List.map_append]
  rfl
end K00

/-! ## NM -/
namespace K00
open PySem PySem.Spec PyProof.Rows L2 WF TL PM
variable {A : Ad} {Γ : Gam} {δ : List Slot} {ρ : WF.Row}
/-! ### lists of tuples of numbers -/
def tD (c : List Int) : D := .tup (iD c)
def tP (c : List Int) : PyData := .tuple (c.map PyData.int)
theorem py_tD (c : List Int) : py (tD c) = some (tP c) := py_tup c
theorem pyAll_tD : ∀ L : List (List Int), pyAll (L.map tD) = some (L.map tP)
  | [] => rfl
  | c :: L => by rw [List.map_cons, pyAll, py_tD, pyAll_tD L]; rfl
theorem lay_tP : ∀ L : List (List Int), PyData.canLayAll0 (L.map tP) = true
  | [] => rfl
  | c :: L => by
    rw [List.map_cons, PyData.canLayAll0, lay_tP L]
    unfold tP
    rw [PyData.canLay0, lay_ints]; rfl
theorem dep_tP (c : List Int) : (tP c).depth ≤ 3 := by
  unfold tP
  rw [PyData.depth]
  have := dep_ints c
  omega
theorem depA_tP : ∀ L : List (List Int), PyData.depthAll (L.map tP) ≤ 3
  | [] => by rw [List.map_nil, PyData.depthAll]; omega
  | c :: L => by
    rw [List.map_cons, PyData.depthAll]
    have := dep_tP c
    have := depA_tP L
    omega
theorem shaped_tups (L : List (List Int)) : SeqAt.shaped (.list (L.map tP)) = true := by
  unfold SeqAt.shaped
  rw [PyData.canLay0, lay_tP, PyData.depth]
  have := depA_tP L
  simp only [Bool.true_and, decide_eq_true_eq]
  omega
theorem ne_tups_nil {L : List (List Int)} : fNe (.lst (L.map tD)) (.lst []) = some (.bl (!decide (L = [])), true) := by
  unfold fNe
  rw [show py (.lst (L.map tD)) = some (.list (L.map tP)) by rw [py, pyAll_tD], show py (.lst []) = some (.list (([] : List (List Int)).map tP)) from rfl]
  dsimp only
  rw [shaped_tups, shaped_tups, if_pos (show (true && true) = true from rfl), PyData.eqv]
  cases L <;> rfl
theorem last_ix {c : List Int} (h : c ≠ []) : orF fIx (fIxR Γ) (tD c) (.int (-1)) = some (.int (PM.lst c), true) := by
  refine ix_tup (d := .int (PM.lst c)) ?_
  have hl : 0 < c.length := List.length_pos_iff.mpr h
  unfold atI ixN
  have e1 : ¬ ((0 : Int) ≤ -1) := by decide
  have hl2 : (iD c).length = c.length := by unfold iD; rw [List.length_map]
  rw [if_neg e1, hl2, if_pos (by omega)]
  show (iD c)[((-1 : Int) + (c.length : Int)).toNat]? = _
  rw [show ((-1 : Int) + (c.length : Int)).toNat = c.length - 1 by omega]
  unfold iD PM.lst
  rw [List.getElem?_map, List.getLast?_eq_getElem?]
  cases z : c[c.length - 1]? with
  | none => rw [List.getElem?_eq_none_iff] at z; omega
  | some v => rfl
theorem ix_last {c : List Int} {i : Nat} {b : Bool} (h : c ≠ []) (hi : δ[i]? = some (some (b, tD c))) : eBin (orF fIx (fIxR Γ)) (eVar i) (eUn fNeg (eC (.int 1))) δ ρ = .ok (.int (PM.lst c)) true ρ :=
  bin_ok (b := .int (-1)) (var_ok hi) rfl (last_ix h)
theorem imm_tD (c : List Int) : imm (tD c) = true := by unfold tD; rw [imm]; exact immAll_ints c
theorem immAll_tD (L : List (List Int)) : immAll (L.map tD) = true := by
  rw [immAll_eq, List.all_map]
  exact List.all_eq_true.mpr fun c _ => imm_tD c
theorem lc_filter {α : Type} {enc : α → D} {tg : TGt} {t : CT} {c : CE} (P : α → Bool) (g : α → D) : ∀ {L : List α}, (∀ a ∈ L, ∃ δ1, tg (enc a) δ = some δ1 ∧ t δ1 ρ = .ok (P a) ρ ∧ (P a = true → c δ1 ρ = .ok (g a) true ρ)) → lcL tg t c δ (L.map enc) ρ = some ((L.filter P).map g, ρ)
  | [], _ => rfl
  | a :: L, h => by
    obtain ⟨δ1, e1, e2, e3⟩ := h a List.mem_cons_self
    have ih := lc_filter (t := t) (c := c) P g (L := L) fun b hb => h b (List.mem_cons_of_mem _ hb)
    rw [List.map_cons, lcL, e1]
    dsimp only
    rw [e2]
    cases hp : P a with
    | false =>
      dsimp only
      rw [List.filter_cons_of_neg (by rw [hp]; exact Bool.false_ne_true)]
      exact ih
    | true =>
      dsimp only
      rw [e3 hp]
      dsimp only
      rw [ih, List.filter_cons_of_pos hp]
      rfl
theorem min_one {c : List Int} {r : CA} {f : Bool} {ρ1 : WF.Row} (h : r δ ρ = .ok [.lst [tD c]] f ρ1) : eCall fMin1 r δ ρ = .ok (tD c) true ρ1 := by
  unfold eCall
  rw [h]
  dsimp only
  unfold fMin1
  dsimp only
  rw [py_tD]
  dsimp only
  have h1 : PySem.W.alike (tP c) (tP c) = true := by unfold tP; rw [PySem.W.alike]; exact PySem.W.alike_ints c c
  have h2 : (tP c).depth ≤ 50 := Nat.le_trans (dep_tP c) (by decide)
  rw [h1, show fMin1.notN (tP c) = true from rfl, decide_eq_true h2, if_pos (show (true && true && true) = true from rfl), imm_tD]
theorem prs_tD : ∀ {L : List (List Int)} {ps : List (Int × Int)}, prsOf (L.map tD) = some ps → L = ps.map fun p => [p.1, p.2]
  | [], _, h => by cases h; rfl
  | c :: L, ps, h => by
    rw [List.map_cons, prsOf] at h
    split at h
    · rename_i p ps' h1 h2
      cases h
      have h3 := prOf_eq h1
      have e : c = [p.1, p.2] := by
        unfold tD WF.prD at h3
        injection h3 with h3
        match c, h3 with
        | [x, y], h3 =>
          have h4 : [D.int x, D.int y] = [D.int p.1, D.int p.2] := h3
          injection h4 with h5 h6
          injection h6 with h7 h8
          injection h5 with h5
          injection h7 with h7
          rw [h5, h7]
        | [], h3 => cases h3
        | [x], h3 => injection h3 with h4 h5; cases h5
        | x :: y :: z :: w, h3 => injection h3 with h4 h5; injection h5 with h6 h7; cases h7
      rw [e, prs_tD h2]
      rfl
    · cases h
theorem sortX_ok {L : List (List Int)} {k : Nat} {r : CA} {f : Bool} {ρ1 : WF.Row} (h : r δ ρ = .ok [.lst (L.map tD)] f ρ1) (h0 : L ≠ []) (hk : ∀ c ∈ L, c.length = k + 1) : ∃ S : List (List Int), eCall fSortX r δ ρ = .ok (.lst (S.map tD)) true ρ1 ∧ S.Perm L ∧ S.Pairwise lexle := by
  have e0 : fSortI [.lst (L.map tD)] = none := by
    unfold fSortI
    dsimp only
    cases L with
    | nil => exact absurd rfl h0
    | cons c L => rfl
  unfold eCall
  rw [h]
  dsimp only
  unfold fSortX fSort
  rw [e0]
  dsimp only
  unfold fSortP
  dsimp only
  cases hp : prsOf (L.map tD) with
  | some ps =>
    dsimp only
    have el := prs_tD hp
    refine ⟨(sortP ps).map fun p => [p.1, p.2], ?_, ?_, ?_⟩
    · rw [List.map_map]; rfl
    · rw [el]; exact (sortP_perm ps).map _
    · rw [List.pairwise_map]
      refine (sortP_sorted ps).imp fun {p q} h => ?_
      rcases h with h | ⟨h1, h2⟩
      · exact .inl h
      · refine .inr ⟨h1, ?_⟩
        by_cases h3 : p.2 < q.2
        · exact .inl h3
        · exact .inr ⟨by omega, True.intro⟩
  | none =>
    dsimp only
    unfold fSortD
    dsimp only
    rw [pyAll_tD]
    dsimp only
    have ho : okSort (L.map tP) = true := by
      unfold okSort
      rw [Bool.and_eq_true, Bool.and_eq_true]
      refine ⟨⟨?_, ?_⟩, ?_⟩
      · refine List.all_eq_true.mpr fun p hp => List.all_eq_true.mpr fun q hq => ?_
        obtain ⟨a, _, rfl⟩ := List.mem_map.mp hp
        obtain ⟨b, _, rfl⟩ := List.mem_map.mp hq
        unfold tP; rw [PySem.W.alike]; exact PySem.W.alike_ints a b
      · refine Bool.or_eq_true_iff.mpr (.inl (List.all_eq_true.mpr fun p hp => ?_))
        obtain ⟨a, ha, rfl⟩ := List.mem_map.mp hp
        have := hk a ha
        cases a with
        | nil => simp at this
        | cons x a => rfl
      · refine List.all_eq_true.mpr fun p hp => decide_eq_true ?_
        obtain ⟨a, _, rfl⟩ := List.mem_map.mp hp
        exact Nat.le_trans (dep_tP a) (by decide)
    rw [ho, immAll_tD, if_pos (show (true && true) = true from rfl)]
    have em := List.map_mergeSort (r := fun a b => PySem.W.dataLe false WF.encD (tD a) (tD b)) (s := PySem.W.dataLe false WF.encD) (f := tD) (l := L) (fun _ _ _ _ => rfl)
    refine ⟨L.mergeSort fun a b => PySem.W.dataLe false WF.encD (tD a) (tD b), by unfold sortD; rw [em], List.mergeSort_perm _ _, ?_⟩
    have enc : ∀ c, WF.encD (tD c) = tP c := fun c => by unfold WF.encD; rw [py_tD]; rfl
    have hle : ∀ a b : List Int, PySem.W.dataLe false WF.encD (tD a) (tD b) = !decide (b < a) := fun a b => by
      rw [PySem.W.dataLe_eq]
      show (!PySem.W.dataLt (WF.encD (tD b)) (WF.encD (tD a))) = _
      rw [enc, enc]
      congr 1
      have := PySem.W.dataLt_ints b a
      rw [← this]
      unfold PySem.W.dataLt PySem.W.rowLt tP
      rw [PySem.W.keyToks, PySem.W.keyToks]
    have pw : (L.mergeSort fun a b => PySem.W.dataLe false WF.encD (tD a) (tD b)).Pairwise fun a b => PySem.W.dataLe false WF.encD (tD a) (tD b) = true := by
      refine List.pairwise_mergeSort (fun a b c h1 h2 => ?_) (fun a b => ?_) L
      · exact (PySem.W.sortLe_total _ false _).trans _ _ _ h1 h2
      · exact Bool.or_eq_true_iff.mpr ((PySem.W.sortLe_total _ false _).total _ _)
    have pw2 := List.Pairwise.and_mem.mp pw
    refine pw2.imp fun {a b} ⟨ha, hb, h⟩ => ?_
    rw [hle] at h
    have h1 : ¬ b < a := by simpa using h
    exact lexle_of (by rw [hk a (List.mem_mergeSort.mp ha), hk b (List.mem_mergeSort.mp hb)]) h1
end K00

/-! ## P1 -/
namespace K00
open PySem PySem.Spec PyProof.Rows L2 WF TL
variable {A : Ad} {Γ : Gam} {δ : List Slot} {ρ : WF.Row}
/-! ### are_numbers, are_whole -/
theorem numbers_not {v n : D} (h : fIsi [v, .ty "tuple"] = some (.bl false, true)) : f_are_numbers Γ A [v, n] ρ = .ok (.bl false) true ρ :=
  fn_rt rfl (ret_ok (and_f (isi_e (b := false) rfl h)))
theorem numbers_len {xs : List D} {n : Int} (h : (xs.length : Int) ≠ n) : f_are_numbers Γ A [.tup xs, .int n] ρ = .ok (.bl false) true ρ := by
  let δ0 : List Slot := [some (false, .tup xs), some (false, .int n), none]
  have e1 : eCall fIsi (aCons (eVar 0) (aCons (eC (.ty "tuple")) aNil)) δ0 ρ = .ok (.bl true) true ρ := rfl
  have e2 : eBin fEq (eLenX Γ 0 (f_Board_len Γ A) (aCons (eVar 0) aNil)) (eVar 1) δ0 ρ = .ok (.bl false) true ρ := by
    have := bin_ok (f := fEq) (len_tup (Γ := Γ) (F := f_Board_len Γ A) (δ := δ0) (ρ := ρ) (cons_ok (var_ok (i := 0) (w := false) rfl) nil_ok)) (var_ok (i := 1) (w := false) rfl) eq_ints
    rw [decide_eq_false h] at this
    exact this
  exact fn_rt rfl (ret_ok ((and_t e1).trans (and_f e2)))
theorem numbers_all {xs : List D} (hx : xs.length ≤ 1000) (hp : ∀ d ∈ xs, Plain d) : f_are_numbers Γ A [.tup xs, .int xs.length] ρ = .ok (.bl (xs.all isN)) true ρ := by
  let δ0 : List Slot := [some (false, .tup xs), some (false, .int xs.length), none]
  have e1 : eCall fIsi (aCons (eVar 0) (aCons (eC (.ty "tuple")) aNil)) δ0 ρ = .ok (.bl true) true ρ := rfl
  have e2 : eBin fEq (eLenX Γ 0 (f_Board_len Γ A) (aCons (eVar 0) aNil)) (eVar 1) δ0 ρ = .ok (.bl true) true ρ := by
    have := bin_ok (f := fEq) (len_tup (Γ := Γ) (F := f_Board_len Γ A) (δ := δ0) (ρ := ρ) (cons_ok (var_ok (i := 0) (w := false) rfl) nil_ok)) (var_ok (i := 1) (w := false) rfl) eq_ints
    rw [decide_eq_true rfl] at this
    exact this
  have e3 := comp_all (δ := δ0) (ρ := ρ) (ci := iAny (eVar 0)) (tg := gN 2) (c := eCallF (f_is_number Γ A) (aCons (eVar 2) aNil)) (vs := [2]) isN (any_tup (var_ok (w := false) rfl)) (by omega) (fun d hd => by
    refine ⟨_, rfl, ?_⟩
    have e0 : (put 2 d (imm d) (wipeD δ0 [2]))[2]? = some (some (imm d, d)) := by
      unfold put
      cases imm d <;> rfl
    exact call1d e0 (number (hp d hd)))
  exact fn_rt rfl (ret_ok ((and_t e1).trans ((and_t e2).trans e3)))
theorem are_whole_no {v : D} {n lo hi : D} (h : f_are_numbers Γ A [v, n] ρ = .ok (.bl false) true ρ) : f_are_whole Γ A [v, n, lo, hi] ρ = .ok (.bl false) true ρ :=
  fn_rt rfl (ret_ok (and_f (callF_d (cons_ok (var_ok (w := false) rfl) (cons_ok (var_ok (w := false) rfl) nil_ok)) h)))
theorem are_whole_all {xs : List D} {lo hi : Int} (hx : xs.length ≤ 1000) (hp : ∀ d ∈ xs, Plain d) : f_are_whole Γ A [.tup xs, .int xs.length, .int lo, .int hi] ρ = .ok (.bl (xs.all fun d => wh d lo hi)) true ρ := by
  let δ0 : List Slot := [some (false, .tup xs), some (false, .int xs.length), some (false, .int lo), some (false, .int hi), none]
  have e1 : eCallF (f_are_numbers Γ A) (aCons (eVar 0) (aCons (eVar 1) aNil)) δ0 ρ = .ok (.bl (xs.all isN)) true ρ := callF_d (cons_ok (var_ok (w := false) rfl) (cons_ok (var_ok (w := false) rfl) nil_ok)) (numbers_all hx hp)
  cases ha : xs.all isN with
  | false =>
    rw [ha] at e1
    have hw : (xs.all fun d => wh d lo hi) = false := by
      cases z : (xs.all fun d => wh d lo hi) with
      | false => rfl
      | true =>
        have h1 := List.all_eq_true.mp z
        have h2 : xs.all isN = true := List.all_eq_true.mpr fun d hd => by
          have := h1 d hd
          cases d with
          | int i => rfl
          | _ => cases this
        rw [ha] at h2; cases h2
    rw [hw]
    exact fn_rt rfl (ret_ok (and_f e1))
  | true =>
    rw [ha] at e1
    have hn := List.all_eq_true.mp ha
    have e3 := comp_all (δ := δ0) (ρ := ρ) (ci := iAny (eVar 0)) (tg := gN 4) (c := eChain fLe fLe (eVar 2) (eVar 4) (eVar 3)) (vs := [4]) (fun d => wh d lo hi) (any_tup (var_ok (w := false) rfl)) (by omega) (fun d hd => by
      have := hn d hd
      cases d with
      | int i => exact ⟨_, rfl, chain_int (var_ok (w := false) rfl) (var_ok (w := true) rfl) (var_ok (w := false) rfl)⟩
      | _ => cases this)
    exact fn_rt rfl (ret_ok ((and_t e1).trans e3))
end K00

/-! ## P2 -/
namespace K00
open PySem PySem.Spec PyProof.Rows L2 WF TL
variable {A : Ad} {Γ : Gam} {δ : List Slot} {ρ : WF.Row}
def mot0 (b v : D) : List Slot := [some (false, b), some (false, v), none, none]
abbrev cWh (Γ : Gam) (A : Ad) : CE := (eCallF (f_are_whole Γ A) (aCons (eVar 1) (aCons (eLenX Γ 0 (f_Board_len Γ A) (aCons (eVar 0) aNil)) (aCons (eUn fNeg (eC (.int 1000000))) (aCons (eC (.int 1000000)) aNil)))))
abbrev cSt (Γ : Gam) (A : Ad) : CE := eCall fAll (aCons (eLc (iAny (eCallF (f_steps Γ A) (aCons (eVar 0) aNil))) (gTu ((gN 2) :: ((gN 3) :: []))) bYes (eBin fLe (eBin (orF fIx (fIxR Γ)) (eVar 1) (eVar 3)) (eBin (orF fIx (fIxR Γ)) (eVar 1) (eVar 2))) [2, 3]) aNil)
theorem p_motion : p_is_motion Γ A = sSeq (sDrop (eCallF (f_check_board Γ A) (aCons (eVar 0) aNil))) (sSeq (sIf (bNot (bE (cWh Γ A))) (sRet (eC (.bl false))) sNil) (sRet (cSt Γ A))) := rfl
theorem wh_call {ss : List Str} {n : Nat} {v : D} {b : Bool} (hn : n ≤ 1000) (h : f_are_whole Γ A [v, .int n, .int (-1000000), .int 1000000] ρ = .ok (.bl b) true ρ) : cWh Γ A (mot0 (bd ss n) v) ρ = .ok (.bl b) true ρ := by
  have v1 : eVar 1 (mot0 (bd ss n) v) ρ = .ok v (imm v) ρ := var_ok (w := false) rfl
  have v2 := len_bd (Γ := Γ) (A := A) (δ := mot0 (bd ss n) v) (ρ := ρ) (ss := ss) (n := n) (cons_ok (var_ok (i := 0) (w := false) rfl) nil_ok) hn
  have v3 : eUn fNeg (eC (.int 1000000)) (mot0 (bd ss n) v) ρ = .ok (.int (-1000000)) true ρ := rfl
  have v4 : eC (.int 1000000) (mot0 (bd ss n) v) ρ = .ok (.int 1000000) true ρ := rfl
  exact callF_d (cons_ok v1 (cons_ok v2 (cons_ok v3 (cons_ok v4 nil_ok)))) h
theorem motion_no {ss : List Str} {n : Nat} {v : D} (hn : n ≤ 1000) (h : f_are_whole Γ A [v, .int n, .int (-1000000), .int 1000000] ρ = .ok (.bl false) true ρ) : f_is_motion Γ A [bd ss n, v] ρ = .ok (.bl false) true ρ := by
  have e := wh_call (ss := ss) hn h
  have g : p_is_motion Γ A (mot0 (bd ss n) v) ρ = .rt (.bl false) true ρ := by
    rw [p_motion, seq_nx (drop_board (b := false) rfl)]
    exact seq_rt (if_no (not_ok (bE_ok e)))
  exact fn_rt rfl g
theorem motion_not {ss : List Str} {n : Nat} {v : D} (hn : n ≤ 1000) (h : fIsi [v, .ty "tuple"] = some (.bl false, true)) : f_is_motion Γ A [bd ss n, v] ρ = .ok (.bl false) true ρ := motion_no hn (are_whole_no (numbers_not h))
theorem motion_len {ss : List Str} {n : Nat} {xs : List D} (hn : n ≤ 1000) (h : xs.length ≠ n) : f_is_motion Γ A [bd ss n, .tup xs] ρ = .ok (.bl false) true ρ := motion_no hn (are_whole_no (numbers_len fun z => h (Int.ofNat.inj z)))
theorem motion_whole {ss : List Str} {n : Nat} {xs : List D} (hn : n ≤ 1000) (h : xs.length = n) (hp : ∀ d ∈ xs, Plain d) (hw : (xs.all fun d => wh d (-1000000) 1000000) = false) : f_is_motion Γ A [bd ss n, .tup xs] ρ = .ok (.bl false) true ρ := by
  subst h
  have e := are_whole_all (A := A) (Γ := Γ) (ρ := ρ) (lo := -1000000) (hi := 1000000) hn hp
  rw [hw] at e
  exact motion_no hn e
/-- the number at a place -/
def at0 (is : List Int) (k : Int) : Int := (is[k.toNat]?).getD 0
theorem ix_ints {is : List Int} {k : Int} (h0 : 0 ≤ k) (h1 : k < is.length) : orF fIx (fIxR Γ) (.tup (is.map D.int)) (.int k) = some (.int (at0 is k), true) := by
  refine ix_tup (d := .int (at0 is k)) ?_
  rw [atI_nat' h0 (by rw [List.length_map]; exact h1), List.getElem?_map]
  unfold at0
  rw [List.getElem?_eq_getElem (by omega)]
  rfl
theorem le_int {i j : Int} : fLe (.int i) (.int j) = some (.bl (decide (i ≤ j)), true) := rfl
def goes (ss : List Str) (is : List Int) : Bool := (stepsOf ss).all fun p => decide (at0 is p.2 ≤ at0 is p.1)
theorem motion {m c : Int} {ss : List Str} {is : List Int} (h : Cells m ss c) (hm : m ≤ 5) (hl : is.length = many ss c) (hw : ∀ i ∈ is, -1000000 ≤ i ∧ i ≤ 1000000) : f_is_motion Γ A [bd ss (many ss c), .tup (is.map D.int)] ρ = .ok (.bl (goes ss is)) true ρ := by
  have hn : many ss c ≤ 1000 := by have := h.r2; have := h.c2; unfold many; omega
  have hall : ((is.map D.int).all fun d => wh d (-1000000) 1000000) = true := List.all_eq_true.mpr fun d hd => by
    obtain ⟨i, hi, rfl⟩ := List.mem_map.mp hd
    obtain ⟨h1, h2⟩ := hw i hi
    unfold wh
    dsimp only
    rw [decide_eq_true h1, decide_eq_true h2]; rfl
  have e1 : cWh Γ A (mot0 (bd ss (many ss c)) (.tup (is.map D.int))) ρ = .ok (.bl true) true ρ := by
    refine wh_call hn ?_
    have e := are_whole_all (A := A) (Γ := Γ) (ρ := ρ) (xs := is.map D.int) (lo := -1000000) (hi := 1000000) (by rw [List.length_map, hl]; exact hn) (fun d hd => by obtain ⟨i, _, rfl⟩ := List.mem_map.mp hd; exact .inl ⟨i, rfl⟩)
    rw [hall, List.length_map, hl] at e
    exact e
  obtain ⟨f, e4⟩ := call1 (F := f_steps Γ A) (δ := mot0 (bd ss (many ss c)) (.tup (is.map D.int))) (i := 0) (b := false) rfl (steps (A := A) (Γ := Γ) (ρ := ρ) (n := many ss c) h hm)
  have big : (stepsOf ss).length ≤ 100000 := Nat.le_trans (steps_len h hm) (by decide)
  have := comp_all (δ := mot0 (bd ss (many ss c)) (.tup (is.map D.int))) (ρ := ρ) (ci := iAny (eCallF (f_steps Γ A) (aCons (eVar 0) aNil))) (tg := gTu ((gN 2) :: ((gN 3) :: []))) (c := eBin fLe (eBin (orF fIx (fIxR Γ)) (eVar 1) (eVar 3)) (eBin (orF fIx (fIxR Γ)) (eVar 1) (eVar 2))) (vs := [2, 3]) (fun d => match prOf d with | some p => decide (at0 is p.2 ≤ at0 is p.1) | none => false) (any_lst e4) (by rw [List.length_map]; exact big) (fun d hd => by
    obtain ⟨p, hp, rfl⟩ := List.mem_map.mp hd
    obtain ⟨r1, r2⟩ := steps_rng h hp
    refine ⟨_, rfl, ?_⟩
    have a1 : ∀ {δ : List Slot}, δ[1]? = some (some (false, .tup (is.map D.int))) → δ[3]? = some (some (true, .int p.2)) → eBin (orF fIx (fIxR Γ)) (eVar 1) (eVar 3) δ ρ = .ok (.int (at0 is p.2)) true ρ := fun h1 h2 => bin_ok (var_ok h1) (var_ok h2) (ix_ints r2.1 (by rw [hl]; exact r2.2))
    have a2 : ∀ {δ : List Slot}, δ[1]? = some (some (false, .tup (is.map D.int))) → δ[2]? = some (some (true, .int p.1)) → eBin (orF fIx (fIxR Γ)) (eVar 1) (eVar 2) δ ρ = .ok (.int (at0 is p.1)) true ρ := fun h1 h2 => bin_ok (var_ok h1) (var_ok h2) (ix_ints r1.1 (by rw [hl]; exact r1.2))
    exact bin_ok (a1 rfl rfl) (a2 rfl rfl) le_int)
  rw [List.all_map] at this
  have g : p_is_motion Γ A (mot0 (bd ss (many ss c)) (.tup (is.map D.int))) ρ = .rt (.bl (goes ss is)) true ρ := by
    rw [p_motion, seq_nx (drop_board (b := false) rfl), seq_nx (if_go (not_ok (bE_ok e1)))]
    exact ret_ok this
  exact fn_rt rfl g
end K00

/-! ## P3 -/
namespace K00
open PySem PySem.Spec PyProof.Rows L2 WF TL PM
variable {A : Ad} {Γ : Gam} {δ : List Slot} {ρ : WF.Row}
theorem ne_intD {i j : Int} : fNe (.int i) (.int j) = some (.bl (decide (i ≠ j)), true) := by
  show (if (SeqAt.shaped (.int i) && SeqAt.shaped (.int j)) = true then some (D.bl (!PyData.eqv (.int i) (.int j)), true) else none) = _
  rw [if_pos (show (SeqAt.shaped (PyData.int i) && SeqAt.shaped (PyData.int j)) = true from rfl)]
  have : PyData.eqv (.int i) (.int j) = decide (i = j) := by
    by_cases h : i = j
    · subst h; simp [PyData.eqv]
    · simp [PyData.eqv, h]
  rw [this]
  by_cases h : i = j <;> simp [h]
theorem ds_list {ps : List (Int × Int)} {a : Int} : ∀ {r : Nat} {x : Int}, Ds ps a r x → ∃ l : List Int, l.length = r + 1 ∧ l.Nodup ∧ ∀ y ∈ l, ∃ d, d ≤ r ∧ Ds ps a d y
  | 0, x, h => ⟨[x], rfl, List.pairwise_singleton _ _, fun y hy => by rw [List.mem_singleton.mp hy]; exact ⟨0, Nat.le_refl _, h⟩⟩
  | r + 1, x, h => by
    obtain ⟨b, hb, _⟩ := h.prev
    obtain ⟨l, l1, l2, l3⟩ := ds_list hb
    refine ⟨x :: l, by rw [List.length_cons, l1], List.nodup_cons.mpr ⟨fun z => ?_, l2⟩, fun y hy => ?_⟩
    · obtain ⟨d, hd, e⟩ := l3 x z
      have := e.uniq h
      omega
    · rcases List.mem_cons.mp hy with rfl | hy
      · exact ⟨r + 1, Nat.le_refl _, h⟩
      · obtain ⟨d, hd, e⟩ := l3 y hy
        exact ⟨d, by omega, e⟩
theorem ds_lt {ps : List (Int × Int)} {a : Int} {n r : Nat} {x : Int} (hr : ∀ p ∈ ps, (0 ≤ p.1 ∧ p.1 < (n : Int)) ∧ 0 ≤ p.2 ∧ p.2 < (n : Int)) (ha : 0 ≤ a ∧ a < (n : Int)) (h : Ds ps a r x) : r + 1 ≤ n := by
  obtain ⟨l, l1, l2, l3⟩ := ds_list h
  rw [← l1]
  refine nodup_rng n l2 fun k hk => ?_
  obtain ⟨d, _, e⟩ := l3 k hk
  cases e.1 with
  | nil => exact ha
  | snoc _ e => exact (hr _ e).2
theorem last_lst {c : List Int} (h : c ≠ []) : orF fIx (fIxR Γ) (.lst (iD c)) (.int (-1)) = some (.int (PM.lst c), true) := by
  have h1 := last_ix (Γ := Γ) h
  refine ix_lst (d := .int (PM.lst c)) ?_
  have hl : 0 < c.length := List.length_pos_iff.mpr h
  unfold atI ixN
  have e1 : ¬ ((0 : Int) ≤ -1) := by decide
  have hl2 : (iD c).length = c.length := by unfold iD; rw [List.length_map]
  rw [if_neg e1, hl2, if_pos (by omega)]
  show (iD c)[((-1 : Int) + (c.length : Int)).toNat]? = _
  rw [show ((-1 : Int) + (c.length : Int)).toNat = c.length - 1 by omega]
  unfold iD PM.lst
  rw [List.getElem?_map, List.getLast?_eq_getElem?]
  cases z : c[c.length - 1]? with
  | none => rw [List.getElem?_eq_none_iff] at z; omega
  | some v => rfl
abbrev cLast (i : Nat) (Γ : Gam) : CE := eBin (orF fIx (fIxR Γ)) (eVar i) (eUn fNeg (eC (.int 1)))
/-- slots of a chain -/
def hS (b : D) (a t : Int) (K V W : List Int) (x y z w : Slot) : List Slot := [some (false, b), some (false, .int a), some (false, .int t), some (true, .dct false (iD K) (iD V)), some (true, .lst (iD W)), x, y, z, w]
theorem lastW {b : D} {a t u : Int} {K V W : List Int} {x y z w : Slot} : cLast 4 Γ (hS b a t K V (W ++ [u]) x y z w) ρ = .ok (.int u) true ρ := by
  have h := last_lst (Γ := Γ) (c := W ++ [u]) (by simp)
  rw [lst_snoc] at h
  exact bin_ok (b := .int (-1)) (var_ok (w := true) rfl) rfl h
theorem get1_ok {i j : Nat} {K V : List Int} {b : Int} {w w' : Bool} (hi : δ[i]? = some (some (w, .dct false (iD K) (iD V)))) (hj : δ[j]? = some (some (w', .int b))) : ∃ f, eDGet1 (eVar i) (eVar j) δ ρ = .ok (orNon ((PM.getI K V b).map D.int)) f ρ := by
  unfold eDGet1
  rw [var_ok hi]
  dsimp only
  rw [var_ok hj]
  dsimp only
  rw [show anyKey false (.int b) = some (.inl (.inl b)) from rfl]
  dsimp only
  rw [getD_ints]
  exact ⟨_, rfl⟩
theorem eq_get {K V : List Int} {b r : Int} : fEq (orNon ((PM.getI K V b).map D.int)) (.int r) = some (.bl (decide (PM.getI K V b = some r)), true) := by
  cases h : PM.getI K V b with
  | none => rfl
  | some v =>
    show fEq (.int v) (.int r) = _
    rw [eq_ints]
    congr 3
    simp
abbrev tNear (Γ : Gam) : CT := (bAnd (bB (eBin fEq (eVar 7) (cLast 4 Γ))) (bB (eBin fEq (eDGet1 (eVar 3) (eVar 8)) (eVar 5))))
abbrev bNear (Γ : Gam) (A : Ad) : CS := (sSeq (sSet 5 (eBin fSub (eBin fDGet (eVar 3) (cLast 4 Γ)) (eC (.int 1)))) (sSeq (sSet 6 (eLc (iAny (eCallF (f_steps Γ A) (aCons (eVar 0) aNil))) (gTu ((gN 7) :: ((gN 8) :: []))) (tNear Γ) (eVar 8) [7, 8])) (sApp 4 (eBin (orF fIx (fIxR Γ)) (eVar 6) (eC (.int 0))))))
def nexts (ps : List (Int × Int)) (K V : List Int) (u : Int) (r : Int) : List (Int × Int) := ps.filter fun p => decide (p.1 = u) && decide (PM.getI K V p.2 = some r)
theorem near_ok {m c : Int} {ss : List Str} (h : Cells m ss c) (hm : m ≤ 5) {a t u r v : Int} {K V W : List Int} {x y z w : Slot} {q : List (Int × Int)} (hu : PM.getI K V u = some (r + 1)) (hq : (nexts (stepsOf ss) K V u r).map (·.2) = v :: q.map (·.2)) (hW : W.length < 900) :
    ∃ x' y' z' w', bNear Γ A (hS (bd ss (many ss c)) a t K V (W ++ [u]) x y z w) ρ = .nx (hS (bd ss (many ss c)) a t K V ((W ++ [u]) ++ [v]) x' y' z' w') ρ := by
  have e0 : fDGet (.dct false (iD K) (iD V)) (.int u) = some (.int (r + 1), true) := by
    show (getD false (iD K) (iD V) (.inl (.inl u))).map (fun d => (d, imm d)) = _
    rw [getD_ints, hu]; rfl
  have e1 : eBin fSub (eBin fDGet (eVar 3) (cLast 4 Γ)) (eC (.int 1)) (hS (bd ss (many ss c)) a t K V (W ++ [u]) x y z w) ρ = .ok (.int (r + 1 - 1)) true ρ := bin_ok (bin_ok (var_ok (w := true) rfl) lastW e0) rfl rfl
  rw [show r + 1 - 1 = r by omega] at e1
  have s1 : sSet 5 (eBin fSub (eBin fDGet (eVar 3) (cLast 4 Γ)) (eC (.int 1))) (hS (bd ss (many ss c)) a t K V (W ++ [u]) x y z w) ρ = .nx (hS (bd ss (many ss c)) a t K V (W ++ [u]) (some (true, .int r)) y z w) ρ := set_ok e1
  have v0 : eVar 0 (hS (bd ss (many ss c)) a t K V (W ++ [u]) (some (true, .int r)) y z w) ρ = .ok (bd ss (many ss c)) (imm (bd ss (many ss c))) ρ := var_ok (w := false) rfl
  have e2 := callF_d (F := f_steps Γ A) (cons_ok v0 nil_ok) (steps (A := A) (Γ := Γ) (ρ := ρ) (n := many ss c) h hm)
  have e3 := lc_ok (δ := hS (bd ss (many ss c)) a t K V (W ++ [u]) (some (true, .int r)) y z w) (ρ := ρ) (tg := gTu ((gN 7) :: ((gN 8) :: []))) (t := tNear Γ) (c := eVar 8) (vs := [7, 8]) (any_lst e2) (by rw [List.length_map]; exact Nat.le_trans (steps_len h hm) (by decide)) (lc_filter (enc := WF.prD) (fun p => decide (p.1 = u) && decide (PM.getI K V p.2 = some r)) (fun p => D.int p.2) (L := stepsOf ss) fun p hp => by
    refine ⟨hS (bd ss (many ss c)) a t K V (W ++ [u]) (some (true, .int r)) y (some (true, .int p.1)) (some (true, .int p.2)), rfl, ?_, fun _ => var_ok (w := true) rfl⟩
    have t1 : bB (eBin fEq (eVar 7) (cLast 4 Γ)) (hS (bd ss (many ss c)) a t K V (W ++ [u]) (some (true, .int r)) y (some (true, .int p.1)) (some (true, .int p.2))) ρ = .ok (decide (p.1 = u)) ρ := bB_ok (bin_ok (var_ok (w := true) rfl) lastW eq_ints)
    obtain ⟨f, g1⟩ := get1_ok (ρ := ρ) (i := 3) (j := 8) (K := K) (V := V) (b := p.2) (w := true) (w' := true) (δ := hS (bd ss (many ss c)) a t K V (W ++ [u]) (some (true, .int r)) y (some (true, .int p.1)) (some (true, .int p.2))) rfl rfl
    have t2 : bB (eBin fEq (eDGet1 (eVar 3) (eVar 8)) (eVar 5)) (hS (bd ss (many ss c)) a t K V (W ++ [u]) (some (true, .int r)) y (some (true, .int p.1)) (some (true, .int p.2))) ρ = .ok (decide (PM.getI K V p.2 = some r)) ρ := bB_ok (bin_ok g1 (var_ok (w := true) rfl) eq_get)
    by_cases h1 : p.1 = u
    · rw [decide_eq_true h1] at t1 ⊢
      exact (and_bt t1).trans (t2.trans (by rw [Bool.true_and]))
    · rw [decide_eq_false h1] at t1 ⊢
      exact (and_bf t1).trans (by rw [Bool.false_and]))
  have s2 := set_ok (i := 6) e3
  have em : ((stepsOf ss).filter fun p => decide (p.1 = u) && decide (PM.getI K V p.2 = some r)).map (fun p => D.int p.2) = iD (v :: q.map (·.2)) := by
    have h2 := congrArg (List.map D.int) hq
    rw [List.map_map] at h2
    exact h2
  rw [em] at s2
  have s2' : sSet 6 (eLc (iAny (eCallF (f_steps Γ A) (aCons (eVar 0) aNil))) (gTu ((gN 7) :: ((gN 8) :: []))) (tNear Γ) (eVar 8) [7, 8]) (hS (bd ss (many ss c)) a t K V (W ++ [u]) (some (true, .int r)) y z w) ρ = .nx (hS (bd ss (many ss c)) a t K V (W ++ [u]) (some (true, .int r)) (some (true, .lst (iD (v :: q.map (·.2))))) z w) ρ := s2
  have e4 : eBin (orF fIx (fIxR Γ)) (eVar 6) (eC (.int 0)) (hS (bd ss (many ss c)) a t K V (W ++ [u]) (some (true, .int r)) (some (true, .lst (iD (v :: q.map (·.2))))) z w) ρ = .ok (.int v) true ρ := bin_ok (var_ok (w := true) rfl) rfl (ix_lst (d := .int v) (by rw [atI_nat' (by decide) (by show (0 : Int) < ((_ + 1 : Nat) : Int); omega)]; rfl))
  have e5 := app_i (i := 4) (K := W ++ [u]) (b := v) (f := true) (δ := hS (bd ss (many ss c)) a t K V (W ++ [u]) (some (true, .int r)) (some (true, .lst (iD (v :: q.map (·.2))))) z w) (ρ := ρ) rfl e4 (by rw [List.length_append]; show _ + 1 < _; omega)
  refine ⟨some (true, .int r), some (true, .lst (iD (v :: q.map (·.2)))), z, w, ?_⟩
  rw [show bNear Γ A = sSeq _ (sSeq _ _) from rfl, seq_nx s1, seq_nx s2']
  exact e5
theorem to_get {ps qs : List (Int × Int)} {t u : Int} {K V : List Int} (ht : Tur ps qs) (al : ∀ x, x ∈ K ↔ ∃ j, Wk qs t j x) (vs : Vs qs t K V) {r : Nat} : PM.getI K V u = some (r : Int) ↔ To ps t r u := by
  constructor
  · intro h
    obtain ⟨j, h1, h2⟩ := vs.2 u (getI_mem h)
    rw [h] at h1
    have : r = j := by injection h1 with h1; omega
    subst this
    exact ht.ds.mp h2
  · intro h
    have hd := ht.ds.mpr h
    obtain ⟨j, h1, h2⟩ := vs.2 u ((al u).mpr ⟨r, hd.1⟩)
    rw [h2.uniq hd] at h1
    exact h1
theorem near_while {m c : Int} {ss : List Str} (h : Cells m ss c) (hm : m ≤ 5) {a t : Int} {K V : List Int} (al : ∀ x, x ∈ K ↔ ∃ j, Wk (stepsOf (ss.map turnS)) t j x) (vs : Vs (stepsOf (ss.map turnS)) t K V) : ∀ (r fuel : Nat) (u : Int) (W : List Int) (x y z w : Slot), To (stepsOf ss) t r u → r + 1 ≤ fuel → W.length + r < 800 →
    ∃ (l : List Int) (x' y' z' w' : Slot), whL (bB (eBin fNe (cLast 4 Γ) (eVar 2))) (bNear Γ A) fuel (hS (bd ss (many ss c)) a t K V (W ++ [u]) x y z w) ρ = .nx (hS (bd ss (many ss c)) a t K V (W ++ l) x' y' z' w') ρ ∧ Grd (stepsOf ss) t r u l := fun r => by
  have tg := fun (r : Nat) (u : Int) => to_get (u := u) (tur h) al vs (r := r)
  induction r with
  | zero =>
    intro fuel u W x y z w hu hf hW
    have hut : t = u := hu.1.zero
    subst hut
    have tt : bB (eBin fNe (cLast 4 Γ) (eVar 2)) (hS (bd ss (many ss c)) a t K V (W ++ [t]) x y z w) ρ = .ok (decide (t ≠ t)) ρ := bB_ok (bin_ok lastW (var_ok (w := false) rfl) ne_intD)
    rw [decide_eq_false (by simp)] at tt
    obtain ⟨fuel, rfl⟩ : ∃ f, fuel = f + 1 := ⟨fuel - 1, by omega⟩
    exact ⟨[t], x, y, z, w, whL_no tt, .zero⟩
  | succ r ih =>
    intro fuel u W x y z w hu hf hW
    obtain ⟨fuel, rfl⟩ : ∃ f, fuel = f + 1 := ⟨fuel - 1, by omega⟩
    have hne : u ≠ t := fun e => hu.2 0 (by omega) (by rw [e]; exact .nil t)
    have tt : bB (eBin fNe (cLast 4 Γ) (eVar 2)) (hS (bd ss (many ss c)) a t K V (W ++ [u]) x y z w) ρ = .ok (decide (u ≠ t)) ρ := bB_ok (bin_ok lastW (var_ok (w := false) rfl) ne_intD)
    rw [decide_eq_true hne] at tt
    have hg : PM.getI K V u = some ((r : Int) + 1) := by
      have := (tg (r + 1) u).mpr hu
      rw [this]; rfl
    have mem : ∀ p, p ∈ nexts (stepsOf ss) K V u r ↔ p ∈ stepsOf ss ∧ p.1 = u ∧ To (stepsOf ss) t r p.2 := fun p => by
      unfold nexts
      rw [List.mem_filter, Bool.and_eq_true, decide_eq_true_eq, decide_eq_true_eq, tg r p.2]
    have pw : (nexts (stepsOf ss) K V u r).Pairwise leP := by
      unfold nexts stepsOf
      exact (sortP_sorted _).filter _
    cases hn : nexts (stepsOf ss) K V u r with
    | nil =>
      obtain ⟨b, h1, h2⟩ := hu.next
      have := (mem (u, b)).mpr ⟨h1, rfl, h2⟩
      rw [hn] at this
      cases this
    | cons p q =>
      obtain ⟨m1, m2, m3⟩ := (mem p).mp (by rw [hn]; exact List.mem_cons_self)
      have least : Least (stepsOf ss) t r u p.2 := by
        refine ⟨by rw [← m2]; exact m1, m3, fun b hb tb => ?_⟩
        have hb2 := (mem (u, b)).mpr ⟨hb, rfl, tb⟩
        rw [hn] at hb2 pw
        rcases List.mem_cons.mp hb2 with e | e
        · rw [← e]; exact Int.le_refl _
        · have := (List.pairwise_cons.mp pw).1 _ e
          have h3 : p.1 < u ∨ (p.1 = u ∧ p.2 ≤ b) := this
          omega
      obtain ⟨x1, y1, z1, w1, e1⟩ := near_ok (A := A) (Γ := Γ) (ρ := ρ) h hm (a := a) (t := t) (u := u) (r := r) (v := p.2) (K := K) (V := V) (W := W) (x := x) (y := y) (z := z) (w := w) (q := q) hg (by rw [hn]; rfl) (by omega)
      obtain ⟨l, x', y', z', w', e2, gr⟩ := ih fuel p.2 (W ++ [u]) x1 y1 z1 w1 m3 (by omega) (by rw [List.length_append]; show _ + 1 + _ < _; omega)
      refine ⟨u :: l, x', y', z', w', ?_, .succ least gr⟩
      rw [whL_nx tt e1, e2, List.append_assoc]
      rfl
end K00

/-! ## P4 -/
namespace K00
open PySem PySem.Spec PyProof.Rows L2 WF TL PM
variable {A : Ad} {Γ : Gam} {δ : List Slot} {ρ : WF.Row}
/-- what a chain comes to -/
def Due (ps : List (Int × Int)) (a t : Int) (d : D) : Prop := (∃ c, d = tD c ∧ Best ps a t c) ∨ (d = .non ∧ ¬ ∃ j, Wk ps a j t)
theorem Due.uniq {ps : List (Int × Int)} {a t : Int} {d e : D} (h : Due ps a t d) (h2 : Due ps a t e) : d = e := by
  have hw : ∀ {c}, Best ps a t c → ∃ j, Wk ps a j t := fun hb => by
    obtain ⟨k, _, w⟩ := hb.1.len
    exact ⟨k, w⟩
  rcases h with ⟨c, rfl, hb⟩ | ⟨rfl, n⟩
  · rcases h2 with ⟨c2, rfl, hb2⟩ | ⟨rfl, n2⟩
    · rw [hb.uniq hb2]
    · exact absurd (hw hb) n2
  · rcases h2 with ⟨c2, rfl, hb2⟩ | ⟨rfl, n2⟩
    · exact absurd (hw hb2) n
    · rfl
theorem Due.non {ps : List (Int × Int)} {a t : Int} {d : D} (h : Due ps a t d) : isNonD d = true ↔ ¬ ∃ j, Wk ps a j t := by
  rcases h with ⟨c, rfl, hb⟩ | ⟨rfl, n⟩
  · obtain ⟨k, _, w⟩ := hb.1.len
    exact ⟨fun z => (by cases z), fun z => absurd ⟨k, w⟩ z⟩
  · exact ⟨fun _ => n, fun _ => rfl⟩
theorem chain {m c : Int} {ss : List Str} {a t : Int} (h : Cells m ss c) (hm : m ≤ 5) (ha : 0 ≤ a ∧ a < (many ss c : Int)) (ht : 0 ≤ t ∧ t < (many ss c : Int)) : ∃ d, f_chain Γ A [bd ss (many ss c), .int a, .int t] ρ = .ok d true ρ ∧ Due (stepsOf ss) a t d := by
  have hn := (many_le h hm).2
  let δ0 : List Slot := [some (false, bd ss (many ss c)), some (false, .int a), some (false, .int t), none, none, none, none, none, none]
  have v2 : eVar 2 δ0 ρ = .ok (.int t) (imm (.int t)) ρ := var_ok (w := false) rfl
  obtain ⟨K, V, e4, nd, rg, al, vs⟩ := distances (A := A) (Γ := Γ) (ρ := ρ) hn (Nat.le_trans (steps_len (turn_cells h) hm) (by decide)) (turn_rng h) ht.1 ht.2
  have e5 := callF_d (F := f_distances Γ A) (cons_ok (turned_steps (A := A) (Γ := Γ) (δ := δ0) (ρ := ρ) (i := 0) (b := false) h hm rfl) (cons_ok v2 nil_ok)) e4
  have s3 := set_ok (i := 3) e5
  let δ1 : List Slot := [some (false, bd ss (many ss c)), some (false, .int a), some (false, .int t), some (true, .dct false (iD K) (iD V)), none, none, none, none, none]
  have s3' : sSet 3 (eCallF (f_distances Γ A) (aCons (eCallF (f_steps Γ A) (aCons (eCallF (f_turned Γ A) (aCons (eVar 0) aNil)) aNil)) (aCons (eVar 2) aNil))) δ0 ρ = .nx δ1 ρ := s3
  have d1 : sDrop (eCallF (f_check_board Γ A) (aCons (eVar 0) aNil)) δ0 ρ = .nx δ0 ρ := drop_board (b := false) rfl
  have d2 : sDrop (eCallF (f_check_thread Γ A) (aCons (eVar 0) (aCons (eVar 1) aNil))) δ0 ρ = .nx δ0 ρ := drop_thread (b := false) (b' := false) (by omega) rfl rfl ha.1 ha.2
  have d3 : sDrop (eCallF (f_check_thread Γ A) (aCons (eVar 0) (aCons (eVar 2) aNil))) δ0 ρ = .nx δ0 ρ := drop_thread (b := false) (b' := false) (by omega) rfl rfl ht.1 ht.2
  have e6 : fDIn true (.int a) (.dct false (iD K) (iD V)) = some (.bl (!decide (a ∈ K)), true) := by
    show some (D.bl ((getD false (iD K) (iD V) (.inl (.inl a))).isSome != true), true) = _
    rw [getD_ints, Option.isSome_map, getI_some vs.1, Bool.bne_true]
  have t6 : bB (eBin (fDIn true) (eVar 1) (eVar 3)) δ1 ρ = .ok (!decide (a ∈ K)) ρ := bB_ok (bin_ok (var_ok (w := false) rfl) (var_ok (w := true) rfl) e6)
  by_cases hk : a ∈ K
  · rw [decide_eq_true hk] at t6
    obtain ⟨j, hj1, hj2⟩ := vs.2 a hk
    have hto := (tur h).ds.mp hj2
    have hjn := ds_lt (turn_rng h) ht hj2
    obtain ⟨l, x, y, z, w, e7, gr⟩ := near_while (A := A) (Γ := Γ) (ρ := ρ) h hm (a := a) (t := t) (K := K) (V := V) al vs j 12 a [] none none none none hto (by omega) (by show 0 + _ < _; omega)
    refine ⟨tD l, ?_, .inl ⟨l, rfl, gr.best hto⟩⟩
    have s4 : sSet 4 (eLst (aCons (eVar 1) aNil)) δ1 ρ = .nx (hS (bd ss (many ss c)) a t K V ([] ++ [a]) none none none none) ρ := rfl
    have e8 : sWhile 12 (bB (eBin fNe (cLast 4 Γ) (eVar 2))) (bNear Γ A) (hS (bd ss (many ss c)) a t K V ([] ++ [a]) none none none none) ρ = .nx (hS (bd ss (many ss c)) a t K V ([] ++ l) x y z w) ρ := e7
    have v4 : aCons (eVar 4) aNil (hS (bd ss (many ss c)) a t K V ([] ++ l) x y z w) ρ = .ok [.lst (iD l)] (imm (.lst (iD l)) && true) ρ := cons_ok (var_ok (w := true) rfl) nil_ok
    have e9 := tuple_ok v4
    rw [imm_ints'] at e9
    have g : p_chain Γ A δ0 ρ = .rt (tD l) true ρ := by
      unfold p_chain
      rw [seq_nx d1, seq_nx d2, seq_nx d3, seq_nx s3', seq_nx (if_go t6), seq_nx s4, seq_nx e8]
      exact ret_ok e9
    exact fn_rt rfl g
  · rw [decide_eq_false hk] at t6
    refine ⟨.non, ?_, .inr ⟨rfl, fun ⟨j, w⟩ => hk ((al a).mpr ⟨j, (tur h).wk.mpr w⟩)⟩⟩
    have g : p_chain Γ A δ0 ρ = .rt .non true ρ := by
      unfold p_chain
      rw [seq_nx d1, seq_nx d2, seq_nx d3, seq_nx s3']
      refine seq_rt ?_
      rw [if_ok t6, if_pos (show (!false) = true from rfl)]
      rfl
    exact fn_rt rfl g
theorem make_true {i : Nat} {m c : Int} {ss : List Str} {b : Bool} (h : Cells m ss c) (hm : m ≤ 5) (hc : δ[i]? = some (some (b, .tup (ss.map D.str)))) : eMake 0 (i_Board Γ A) (aCons (eVar i) aNil) δ ρ = .ok (bd ss (many ss c)) true ρ := by
  unfold eMake
  rw [cons_ok (var_ok hc) nil_ok]
  dsimp only
  rw [board h hm]
  have hi : immAll [D.tup (ss.map D.str), D.tup (intsD 0 (ss.length + c.toNat))] = true := by
    rw [immAll, immAll, immAll, imm, imm, imm_strs, intsD_imm]; rfl
  dsimp only
  rw [hi]
  rfl
theorem ne_bl {a b : Bool} (h : a = b) : fNe (.bl a) (.bl b) = some (.bl false, true) := by
  subst h; cases a <;> rfl
theorem ne_due {ps : List (Int × Int)} {a t : Int} {d : D} (h : Due ps a t d) : fNe d d = some (.bl false, true) := by
  rcases h with ⟨c, rfl, _⟩ | ⟨rfl, _⟩
  · unfold fNe
    rw [py_tD]
    dsimp only
    have : SeqAt.shaped (tP c) = true := shaped_tup c
    rw [this, if_pos (show (true && true) = true from rfl)]
    unfold tP
    rw [PyData.eqv, eqv_ints, decide_eq_true rfl]; rfl
  · rfl
end K00

/-! ## O1 -/
namespace K00
open PySem PySem.Spec PyProof.Rows L2 WF TL
variable {A : Ad} {Γ : Gam} {δ : List Slot} {ρ : WF.Row}
theorem together {a b : List Int} (hl : a.length + b.length < 64) : f_together Γ A [.tup (iD a), .tup (iD b)] ρ = .ok (.tup (iD (sortU (a ++ b)))) true ρ := by
  refine fn_rt (c := p_together Γ A) rfl ?_
  show p_together Γ A [some (false, .tup (iD a)), some (false, .tup (iD b))] ρ = _
  have e0 : fAdd (.tup (iD a)) (.tup (iD b)) = some (.tup (iD (a ++ b)), true) := by
    have h : fAddT (.tup (iD a)) (.tup (iD b)) = some (.tup (iD (a ++ b)), true) := by
      unfold fAddT
      dsimp only
      have ea : iD a ++ iD b = iD (a ++ b) := by unfold iD; rw [List.map_append]
      rw [if_pos (by unfold iD; rw [List.length_map, List.length_map]; omega), ea, imm_ints']
    unfold fAdd orF
    rw [show fAddI (.tup (iD a)) (.tup (iD b)) = none from rfl]
    dsimp only
    rw [show fAddS (.tup (iD a)) (.tup (iD b)) = none from rfl]
    dsimp only
    rw [h]
  have e1 : eBin fAdd (eVar 0) (eVar 1) [some (false, .tup (iD a)), some (false, .tup (iD b))] ρ = .ok (.tup (iD (a ++ b))) true ρ := bin_ok (var_ok (w := false) rfl) (var_ok (w := false) rfl) e0
  have e2 : eCall fSortU (aCons (eBin fAdd (eVar 0) (eVar 1)) aNil) [some (false, .tup (iD a)), some (false, .tup (iD b))] ρ = .ok (.lst (iD (sortU (a ++ b)))) true ρ := by
    unfold eCall
    rw [cons_ok e1 nil_ok]
    dsimp only
    unfold fSortU
    dsimp only
    rw [show intsOf (iD (a ++ b)) = some (a ++ b) from intsOf_map _]
    dsimp only
    rw [if_pos (by rw [List.length_append]; exact hl)]
    rfl
  have e3 := tuple_ok (cons_ok e2 nil_ok)
  rw [imm_ints'] at e3
  exact ret_ok e3
theorem flat_ints : ∀ xs : List Int, flatAll (iD xs) = some (xs.map V.int)
  | [] => rfl
  | x :: xs => by
    show flatAll (.int x :: iD xs) = _
    rw [flatAll, flat_ints xs]; rfl
theorem inV_ints (a : Int) (xs : List Int) : inV (.int a) (xs.map V.int) = decide (a ∈ xs) := by
  unfold inV
  rw [List.any_map]
  induction xs with
  | nil => simp
  | cons x xs ih =>
    rw [List.any_cons, ih]
    have : eqV (.int x) (.int a) = decide (x = a) := by
      by_cases h : x = a
      · subst h; simp [eqV]
      · simp [eqV, h]
    show (eqV (.int x) (.int a) || _) = _
    rw [this]
    by_cases h : x = a
    · subst h; simp
    · have h' : ¬ a = x := fun z => h z.symm
      simp [h, h']
theorem in_tup {a : Int} {xs : List Int} : fIn (.int a) (.tup (iD xs)) = some (.bl (decide (a ∈ xs)), true) := by
  have h : fInT false (.int a) (.tup (iD xs)) = some (.bl (decide (a ∈ xs)), true) := by
    unfold fInT
    dsimp only
    rw [flat_ints, show flatD (.int a) = some (.int a) from rfl]
    dsimp only
    rw [if_neg Bool.false_ne_true, inV_ints]
  unfold fIn orF
  rw [h]
theorem ni_tup {a : Int} {xs : List Int} : fNi (.int a) (.tup (iD xs)) = some (.bl (!decide (a ∈ xs)), true) := by
  have h : fInT true (.int a) (.tup (iD xs)) = some (.bl (!decide (a ∈ xs)), true) := by
    unfold fInT
    dsimp only
    rw [flat_ints, show flatD (.int a) = some (.int a) from rfl]
    dsimp only
    rw [if_pos rfl, inV_ints]
  unfold fNi orF
  rw [h]
/-! ### lots -/
/-- a lot: threads, ascending -/
structure Lot (n : Nat) (L : List Int) : Prop where
  rg : ∀ k ∈ L, 0 ≤ k ∧ k < (n : Int)
  up : L.Pairwise (· < ·)
  ln : L.length ≤ 60
theorem zips_ints : ∀ (xs ys : List Int), zips (iD xs) (iD ys) = (xs.zip ys).map WF.prD
  | [], _ => rfl
  | x :: xs, [] => rfl
  | x :: xs, y :: ys => by
    show (D.tup [.int x, .int y] :: zips (iD xs) (iD ys) : List D) = _
    rw [zips_ints xs ys]; rfl
theorem zip_up : ∀ {L : List Int}, L.Pairwise (· < ·) → ∀ p ∈ L.zip (L.drop 1), p.1 < p.2
  | [], _, p, hp => by cases hp
  | [x], _, p, hp => by cases hp
  | x :: y :: L, h, p, hp => by
    obtain ⟨h1, h2⟩ := List.pairwise_cons.mp h
    rcases List.mem_cons.mp hp with rfl | hp
    · exact h1 y List.mem_cons_self
    · exact zip_up h2 p hp
theorem is_ascending {n : Nat} {L : List Int} (h : Lot n L) : f_is_ascending Γ A [.tup (iD L)] ρ = .ok (.bl true) true ρ := by
  let δ0 : List Slot := [some (false, .tup (iD L)), none, none]
  have ll := h.ln
  have e1 : eSl fSl (eVar 0) (oSome (eC (.int 1))) oNone δ0 ρ = .ok (.tup (iD (L.drop 1))) true ρ := by
    have e : eSl fSl (eVar 0) (oSome (eC (.int 1))) oNone δ0 ρ = .ok (.tup (cutD (iD L) (some 1) none)) (immAll (cutD (iD L) (some 1) none)) ρ := rfl
    have ec : cutD (iD L) (some 1) none = iD (L.drop 1) := by
      unfold WF.cutD
      have h1 : HT.sIx (iD L).length 0 (some 1) = min 1 (iD L).length := HT.sIx_nat _ _ 1
      rw [h1, HT.sIx_none]
      unfold iD
      rw [List.length_map]
      cases L with
      | nil => rfl
      | cons x L =>
        rw [List.length_cons, show min 1 (L.length + 1) = 1 by omega, ← List.map_drop, ← List.map_take]
        congr 1
        exact List.take_of_length_le (by rw [List.length_drop, List.length_cons]; exact Nat.le_refl _)
    rw [e, ec, imm_ints']
  have e2 : iZip (aCons (eVar 0) (aCons (eSl fSl (eVar 0) (oSome (eC (.int 1))) oNone) aNil)) δ0 ρ = .ok ((L.zip (L.drop 1)).map WF.prD) true ρ := by
    have a : aCons (eVar 0) (aCons (eSl fSl (eVar 0) (oSome (eC (.int 1))) oNone) aNil) δ0 ρ = .ok [.tup (iD L), .tup (iD (L.drop 1))] (imm (.tup (iD L)) && (true && true)) ρ := cons_ok (var_ok (w := false) rfl) (cons_ok e1 nil_ok)
    unfold WF.iZip
    rw [a]
    dsimp only
    rw [zips_ints, imm, imm_ints']
    rfl
  have e3 := comp_all (δ := δ0) (ρ := ρ) (tg := gTu ((gN 1) :: ((gN 2) :: []))) (c := eBin fLt (eVar 1) (eVar 2)) (vs := [1, 2]) (fun _ => true) e2 (by rw [List.length_map, List.length_zip]; omega) (fun d hd => by
    obtain ⟨p, hp, rfl⟩ := List.mem_map.mp hd
    refine ⟨[some (false, .tup (iD L)), some (true, .int p.1), some (true, .int p.2)], rfl, bin_ok (var_ok (w := true) rfl) (var_ok (w := true) rfl) ?_⟩
    show some (D.bl (decide (p.1 < p.2)), true) = _
    rw [decide_eq_true (zip_up h.up p hp)])
  have t : (((L.zip (L.drop 1)).map WF.prD).all fun _ => true) = true := List.all_eq_true.mpr fun _ _ => rfl
  rw [t] at e3
  have g : p_is_ascending Γ A δ0 ρ = .rt (.bl true) true ρ := by
    unfold p_is_ascending
    exact ret_ok e3
  exact fn_rt rfl g
theorem is_lot {ss : List Str} {n : Nat} {L : List Int} (hn : n ≤ 1000) (h : Lot n L) : f_is_lot Γ A [bd ss n, .tup (iD L)] ρ = .ok (.bl true) true ρ := by
  let δ0 : List Slot := [some (false, bd ss n), some (false, .tup (iD L)), none]
  have ll := h.ln
  have t1 : bNot (bE (eCall fIsi (aCons (eVar 1) (aCons (eC (.ty "tuple")) aNil)))) δ0 ρ = .ok false ρ := rfl
  have e1 := comp_all (δ := δ0) (ρ := ρ) (ci := iAny (eVar 1)) (tg := gN 2) (c := eCallF (f_is_thread Γ A) (aCons (eVar 0) (aCons (eVar 2) aNil))) (vs := [2]) (fun _ => true) (any_tup (var_ok (w := false) rfl)) (by unfold iD; rw [List.length_map]; omega) (fun d hd => by
    obtain ⟨k, hk, rfl⟩ := List.mem_map.mp hd
    obtain ⟨r1, r2⟩ := h.rg k hk
    refine ⟨[some (false, bd ss n), some (false, .tup (iD L)), some (true, .int k)], rfl, ?_⟩
    have a : aCons (eVar 0) (aCons (eVar 2) aNil) [some (false, bd ss n), some (false, .tup (iD L)), some (true, .int k)] ρ = .ok [bd ss n, .int k] (imm (bd ss n) && (imm (.int k) && true)) ρ := cons_ok (var_ok (w := false) rfl) (cons_ok (var_ok (w := true) rfl) nil_ok)
    exact callF_d a (is_thread hn r1 r2))
  have t : ((iD L).all fun _ => true) = true := List.all_eq_true.mpr fun _ _ => rfl
  rw [t] at e1
  have v1 : eVar 1 δ0 ρ = .ok (.tup (iD L)) (imm (.tup (iD L))) ρ := var_ok (w := false) rfl
  have e2 := callF_d (F := f_is_ascending Γ A) (cons_ok v1 nil_ok) (is_ascending (A := A) (Γ := Γ) (ρ := ρ) h)
  have g : p_is_lot Γ A δ0 ρ = .rt (.bl true) true ρ := by
    unfold p_is_lot
    rw [seq_nx (if_go t1)]
    refine ret_ok ?_
    rw [and_t e1]
    exact e2
  exact fn_rt rfl g
theorem check_lot {ss : List Str} {n : Nat} {L : List Int} (hn : n ≤ 1000) (h : Lot n L) : f_check_lot Γ A [bd ss n, .tup (iD L)] ρ = .ok .non true ρ := by
  obtain ⟨f, e⟩ := call2 (F := f_is_lot Γ A) (δ := [some (false, bd ss n), some (false, .tup (iD L))]) (i := 0) (j := 1) (b := false) (b' := false) rfl rfl (is_lot (A := A) (Γ := Γ) (ρ := ρ) hn h)
  exact fn_nx rfl (if_go (not_ok (bE_ok e)))
end K00

/-! ## O2 -/
namespace K00
open PySem PySem.Spec PyProof.Rows L2 WF TL
variable {A : Ad} {Γ : Gam} {δ : List Slot} {ρ : WF.Row}
theorem callF2 {F : Fn} {i j : Nat} {b b' : Bool} {d d' r : D} {f : Bool} {ρ1 : WF.Row} (h : δ[i]? = some (some (b, d))) (h' : δ[j]? = some (some (b', d'))) (e : F [d, d'] ρ = .ok r f ρ1) : eCallF F (aCons (eVar i) (aCons (eVar j) aNil)) δ ρ = .ok r f ρ1 := callF_d (cons_ok (var_ok h) (cons_ok (var_ok h') nil_ok)) e
theorem eor_t {c1 c2 : CE} {f : Bool} {ρ1 : WF.Row} (h : c1 δ ρ = .ok (.bl true) f ρ1) : ∃ f', eOr c1 c2 δ ρ = .ok (.bl true) f' ρ1 := by unfold eOr; rw [h]; exact ⟨_, rfl⟩
theorem eor_f {c1 c2 : CE} {f : Bool} {ρ1 : WF.Row} (h : c1 δ ρ = .ok (.bl false) f ρ1) : eOr c1 c2 δ ρ = c2 δ ρ1 := by unfold eOr; rw [h]
theorem fn_er {n m : Nat} {c : CS} {ds : List D} {k : Nat} {ρ1 : WF.Row} (hl : ds.length = m) (h : c (startD n ds) ρ = .er k ρ1) : fnD n m c ds ρ = .er k ρ1 := by
  unfold fnD fnOfS; rw [if_pos hl, h]
def clos (ss : List Str) (L : List Int) : Bool := (stepsOf ss).all fun p => decide (p.1 ∈ L) || !decide (p.2 ∈ L)
theorem clos_iff {ss : List Str} {L : List Int} : clos ss L = true ↔ ∀ a b, (a, b) ∈ stepsOf ss → b ∈ L → a ∈ L := by
  unfold clos
  rw [List.all_eq_true]
  constructor
  · intro h a b hab hb
    have := h (a, b) hab
    simpa [hb] using this
  · intro h p hp
    by_cases hb : p.2 ∈ L
    · have := h p.1 p.2 hp hb
      simp [this]
    · simp [hb]
theorem is_closed_b {m c : Int} {ss : List Str} {L : List Int} (h : Cells m ss c) (hm : m ≤ 5) (hL : Lot (many ss c) L) : f_is_closed Γ A [bd ss (many ss c), .tup (iD L)] ρ = .ok (.bl (clos ss L)) true ρ := by
  have hn := (many_le h hm).2
  let δ0 : List Slot := [some (false, bd ss (many ss c)), some (false, .tup (iD L)), none, none]
  have c1 : sDrop (eCallF (f_check_lot Γ A) (aCons (eVar 0) (aCons (eVar 1) aNil))) δ0 ρ = .nx δ0 ρ := drop_ok (callF2 (b := false) (b' := false) rfl rfl (check_lot (A := A) (Γ := Γ) (ρ := ρ) (by omega) hL))
  have v0 : eVar 0 δ0 ρ = .ok (bd ss (many ss c)) (imm (bd ss (many ss c))) ρ := var_ok (w := false) rfl
  have e4 := callF_d (F := f_steps Γ A) (cons_ok v0 nil_ok) (steps (A := A) (Γ := Γ) (ρ := ρ) (n := many ss c) h hm)
  have e5 := comp_all (δ := δ0) (ρ := ρ) (ci := iAny (eCallF (f_steps Γ A) (aCons (eVar 0) aNil))) (tg := gTu ((gN 2) :: ((gN 3) :: []))) (c := eOr (eBin fIn (eVar 2) (eVar 1)) (eBin fNi (eVar 3) (eVar 1))) (vs := [2, 3]) (fun d => match prOf d with | some p => decide (p.1 ∈ L) || !decide (p.2 ∈ L) | none => false) (any_lst e4) (by rw [List.length_map]; exact Nat.le_trans (steps_len h hm) (by decide)) (fun d hd => by
    obtain ⟨p, hp, rfl⟩ := List.mem_map.mp hd
    refine ⟨[some (false, bd ss (many ss c)), some (false, .tup (iD L)), some (true, .int p.1), some (true, .int p.2)], rfl, ?_⟩
    have a1 : eBin fIn (eVar 2) (eVar 1) [some (false, bd ss (many ss c)), some (false, .tup (iD L)), some (true, .int p.1), some (true, .int p.2)] ρ = .ok (.bl (decide (p.1 ∈ L))) true ρ := bin_ok (var_ok (w := true) rfl) (var_ok (w := false) rfl) in_tup
    have a2 : eBin fNi (eVar 3) (eVar 1) [some (false, bd ss (many ss c)), some (false, .tup (iD L)), some (true, .int p.1), some (true, .int p.2)] ρ = .ok (.bl (!decide (p.2 ∈ L))) true ρ := bin_ok (var_ok (w := true) rfl) (var_ok (w := false) rfl) ni_tup
    show _ = RE.ok (.bl (decide (p.1 ∈ L) || !decide (p.2 ∈ L))) true ρ
    by_cases h1 : p.1 ∈ L
    · rw [decide_eq_true h1] at a1 ⊢
      unfold eOr
      rw [a1]
      rfl
    · rw [decide_eq_false h1] at a1 ⊢
      rw [eor_f a1]
      exact a2)
  rw [List.all_map] at e5
  have g : p_is_closed Γ A δ0 ρ = .rt (.bl (clos ss L)) true ρ := by
    unfold p_is_closed
    rw [seq_nx (drop_board (b := false) rfl), seq_nx c1]
    exact ret_ok e5
  exact fn_rt rfl g
theorem eq_nil (xs : List Int) : fEq (.lst (iD xs)) (.lst []) = some (.bl (decide (xs = [])), true) := by
  cases xs with
  | nil => rfl
  | cons x r =>
    have h1 : py (.lst (iD (x :: r))) = some (.list ((x :: r).map PyData.int)) := by rw [py, pyAll_ints]
    unfold fEq
    rw [h1]
    show (if SeqAt.shaped (.list ((x :: r).map PyData.int)) && SeqAt.shaped (.list []) then some (D.bl (PyData.eqv (.list ((x :: r).map PyData.int)) (.list [])), true) else none) = _
    rw [shaped_ints, if_pos (by rfl)]
    have h2 : PyData.eqv (.list ((x :: r).map PyData.int)) (.list []) = false := by simp [PyData.eqv, PyData.eqvAll]
    rw [h2]
    simp
theorem filter_nil {α : Type} {P : α → Bool} {L : List α} : decide (L.filter P = []) = L.all fun a => !P a := by
  induction L with
  | nil => rfl
  | cons a L ih =>
    by_cases h : P a = true
    · rw [List.filter_cons_of_pos h, List.all_cons, h]
      simp
    · rw [List.filter_cons_of_neg h, List.all_cons, ih]
      simp [Bool.not_eq_true] at h
      rw [h]
      simp
theorem map_nil_iff {α : Type} (L : List (Int × Int)) : (L.map (·.1) = []) ↔ L = [] := List.map_eq_nil_iff
end K00

/-! ## S1 -/
namespace K00
open PySem PySem.Spec PyProof.Rows L2 WF TL PM
variable {A : Ad} {Γ : Gam} {δ : List Slot} {ρ : WF.Row}
/-! ### a tuple of texts that may be no cells -/
def okS (k : Nat) : Bool := decide (k ∈ tl sg)
def okL (s0 s : Str) : Bool := decide ((s.length : Int) = (s0.length : Int)) && (tl s).all okS
def Near (s : Str) : Prop := s.length ≤ 1000 ∧ ∀ k ∈ tl s, k ∈ tl sg ∨ k = 111
theorem in_signs {k : Nat} (h : k ∈ tl sg ∨ k = 111) : fIn (.str ⟨#[k]⟩) (.ktup k_SIGNS) = some (.bl (okS k), true) := by
  rcases h with h | rfl
  · rw [sign_in h]
    unfold okS
    rw [decide_eq_true h]
  · have : okS 111 = false := by decide +kernel
    rw [this]
    rfl
def okD : D → Bool
  | .str s => (tl s).all okS
  | _ => false
theorem signs_v {s : Str} {x0 x3 : Slot} (h : Near s) : eCall fAll (aCons (eLc (iAny (eVar 2)) (gN 3) bYes (eBin fIn (eVar 3) (eVar 1)) [3]) aNil) [x0, some (false, .ktup k_SIGNS), some (true, .str s), x3] ρ = .ok (.bl ((tl s).all okS)) true ρ := by
  have := comp_all (δ := [x0, some (false, .ktup k_SIGNS), some (true, D.str s), x3]) (ρ := ρ) (ci := iAny (eVar 2)) (tg := gN 3) (c := eBin fIn (eVar 3) (eVar 1)) (vs := [3]) okD (any_str (var_ok (w := true) rfl)) (by
    rw [signs_len]; have := h.1; show s.length ≤ _; omega) (fun d hd => by
      obtain ⟨k, hk, rfl⟩ := List.mem_map.mp hd
      refine ⟨_, rfl, bin_ok (var_ok (w := true) rfl) (var_ok (w := false) rfl) ?_⟩
      have e : okD (.str ⟨#[k]⟩) = okS k := by
        show ([k] : List Nat).all okS = _
        simp
      show fIn (.str ⟨#[k]⟩) _ = some (.bl (okD (.str ⟨#[k]⟩)), true)
      rw [e]
      exact in_signs (h.2 k hk))
  have t : (WF.signs s).all okD = (tl s).all okS := by
    unfold WF.signs
    rw [List.all_map]
    congr 1
    funext k
    show okD (.str ⟨#[k]⟩) = okS k
    show ([k] : List Nat).all okS = _
    simp
  rw [t] at this
  exact this
def tabV (s0 : Str) (L : List Str) : Bool := decide ((L.length : Int) ≤ 5) && (decide (1 ≤ (s0.length : Int)) && decide ((s0.length : Int) ≤ 5) && L.all (okL s0))
def lineD (s0 : Str) : D → Bool
  | .str s => okL s0 s
  | _ => false
theorem is_table_v {s0 : Str} {L : List Str} (hN : ∀ s ∈ s0 :: L, Near s) (hL : L.length ≤ 100) : f_is_table Γ A [.tup ((s0 :: L).map D.str), .ktup k_SIGNS] ρ = .ok (.bl (tabV s0 (s0 :: L))) true ρ := by
  have e0 : ∀ {δ : List Slot} {b : Bool} {ρ : WF.Row}, δ[0]? = some (some (b, .tup ((s0 :: L).map D.str))) → eBin (orF fIx (fIxR Γ)) (eVar 0) (eC (.int 0)) δ ρ = .ok (.str s0) true ρ := fun hδ => bin_ok (var_ok hδ) rfl (ix_tup (d := .str s0) (by rw [atI_nat' (by decide) (by rw [List.length_map, List.length_cons]; omega)]; rfl))
  have z0 := (hN s0 List.mem_cons_self).1
  let δ0 : List Slot := [some (false, .tup ((s0 :: L).map D.str)), some (false, .ktup k_SIGNS), none, none]
  have a1 : eCall fIsi (aCons (eVar 0) (aCons (eC (.ty "tuple")) aNil)) δ0 ρ = .ok (.bl true) true ρ := rfl
  have a2 : eLenX Γ 0 (f_Board_len Γ A) (aCons (eVar 0) aNil) δ0 ρ = .ok (.int ((s0 :: L).map D.str).length) true ρ := len_tup (cons_ok (var_ok (w := false) rfl) nil_ok)
  rw [List.length_map] at a2
  have g1 : ∀ {t : CT} {c : CS}, t δ0 ρ = .ok false ρ → sIf t c sNil δ0 ρ = .nx δ0 ρ := fun h => by rw [if_ok h]; rfl
  by_cases h5 : ((s0 :: L).length : Int) ≤ 5
  · have t1 : bOr (bNot (bE (eCall fIsi (aCons (eVar 0) (aCons (eC (.ty "tuple")) aNil))))) (bNot (bB (eChain fLe fLe (eC (.int 1)) (eLenX Γ 0 (f_Board_len Γ A) (aCons (eVar 0) aNil)) (eC (.int 5))))) δ0 ρ = .ok false ρ := by
      rw [or_f (not_ok (bE_ok a1))]
      exact not_ok (bB_ok (chain_ok (x := true) rfl a2 (le_t (by rw [List.length_cons]; omega)) rfl (le_t h5)))
    have t2 : bNot (bE (eCall fAll (aCons (eLc (iAny (eVar 0)) (gN 2) bYes (eCall fIsi (aCons (eVar 2) (aCons (eC (.ty "str")) aNil))) [2]) aNil))) δ0 ρ = .ok false ρ := by
      have := comp_all (δ := δ0) (ρ := ρ) (ci := iAny (eVar 0)) (tg := gN 2) (c := eCall fIsi (aCons (eVar 2) (aCons (eC (.ty "str")) aNil))) (vs := [2]) (fun _ => true) (any_tup (var_ok (w := false) rfl)) (by rw [List.length_map]; omega) (fun d hd => by
        obtain ⟨s, hs, rfl⟩ := List.mem_map.mp hd
        exact ⟨_, rfl, rfl⟩)
      have t : (((s0 :: L).map D.str).all fun _ => true) = true := List.all_eq_true.mpr fun _ _ => rfl
      rw [t] at this
      exact not_ok (bE_ok this)
    have b2 : eLenX Γ 0 (f_Board_len Γ A) (aCons (eBin (orF fIx (fIxR Γ)) (eVar 0) (eC (.int 0))) aNil) δ0 ρ = .ok (.int s0.length) true ρ := len_str (cons_ok (e0 (b := false) rfl) nil_ok) z0
    have t3 := not_ok (bB_ok (chain_int (rfl : eC (.int 1) δ0 ρ = .ok (.int 1) true ρ) b2 (rfl : eC (.int 5) δ0 ρ = .ok (.int 5) true ρ)))
    by_cases h3 : (decide (1 ≤ (s0.length : Int)) && decide ((s0.length : Int) ≤ 5)) = true
    · rw [h3] at t3
      have t4 := comp_all (δ := δ0) (ρ := ρ) (ci := iAny (eVar 0)) (tg := gN 2) (c := (eAnd (eBin fEq (eLenX Γ 0 (f_Board_len Γ A) (aCons (eVar 2) aNil)) (eLenX Γ 0 (f_Board_len Γ A) (aCons (eBin (orF fIx (fIxR Γ)) (eVar 0) (eC (.int 0))) aNil))) (eCall fAll (aCons (eLc (iAny (eVar 2)) (gN 3) bYes (eBin fIn (eVar 3) (eVar 1)) [3]) aNil)))) (vs := [2]) (lineD s0) (any_tup (var_ok (w := false) rfl)) (by rw [List.length_map]; omega) (fun d hd => by
        obtain ⟨s, hs, rfl⟩ := List.mem_map.mp hd
        refine ⟨[some (false, .tup ((s0 :: L).map D.str)), some (false, .ktup k_SIGNS), some (true, .str s), none], rfl, ?_⟩
        have c1 : eLenX Γ 0 (f_Board_len Γ A) (aCons (eVar 2) aNil) [some (false, .tup ((s0 :: L).map D.str)), some (false, .ktup k_SIGNS), some (true, .str s), none] ρ = .ok (.int s.length) true ρ := len_str (cons_ok (var_ok (w := true) rfl) nil_ok) (hN s hs).1
        have c2 : eLenX Γ 0 (f_Board_len Γ A) (aCons (eBin (orF fIx (fIxR Γ)) (eVar 0) (eC (.int 0))) aNil) [some (false, .tup ((s0 :: L).map D.str)), some (false, .ktup k_SIGNS), some (true, .str s), none] ρ = .ok (.int s0.length) true ρ := len_str (cons_ok (e0 (b := false) rfl) nil_ok) z0
        have c3 := bin_ok c1 c2 (f := fEq) eq_ints
        show _ = RE.ok (.bl (okL s0 s)) true ρ
        unfold okL
        by_cases q : (s.length : Int) = (s0.length : Int)
        · rw [decide_eq_true q] at c3 ⊢
          rw [and_t c3, Bool.true_and]
          exact signs_v (hN s hs)
        · rw [decide_eq_false q] at c3 ⊢
          rw [Bool.false_and]
          exact and_f c3)
      have t : ((s0 :: L).map D.str).all (lineD s0) = (s0 :: L).all (okL s0) := by rw [List.all_map]; rfl
      rw [t] at t4
      have v : tabV s0 (s0 :: L) = (s0 :: L).all (okL s0) := by unfold tabV; rw [decide_eq_true h5, h3]; rfl
      have g : p_is_table Γ A δ0 ρ = .rt (.bl (tabV s0 (s0 :: L))) true ρ := by
        unfold p_is_table
        rw [v, seq_nx (g1 t1), seq_nx (g1 t2), seq_nx (g1 t3)]
        exact ret_ok t4
      exact fn_rt rfl g
    · have h3 := Bool.eq_false_iff.mpr h3
      rw [h3] at t3
      have v : tabV s0 (s0 :: L) = false := by unfold tabV; rw [decide_eq_true h5, h3]; rfl
      have g : p_is_table Γ A δ0 ρ = .rt (.bl (tabV s0 (s0 :: L))) true ρ := by
        unfold p_is_table
        rw [v, seq_nx (g1 t1), seq_nx (g1 t2)]
        exact seq_rt (if_no t3)
      exact fn_rt rfl g
  · have t1 : bOr (bNot (bE (eCall fIsi (aCons (eVar 0) (aCons (eC (.ty "tuple")) aNil))))) (bNot (bB (eChain fLe fLe (eC (.int 1)) (eLenX Γ 0 (f_Board_len Γ A) (aCons (eVar 0) aNil)) (eC (.int 5))))) δ0 ρ = .ok true ρ := by
      rw [or_f (not_ok (bE_ok a1))]
      exact not_ok (bB_ok (chain_ok (x := false) rfl a2 (le_t (by rw [List.length_cons]; omega)) rfl (le_f h5)))
    have v : tabV s0 (s0 :: L) = false := by unfold tabV; rw [decide_eq_false h5]; rfl
    have g : p_is_table Γ A δ0 ρ = .rt (.bl (tabV s0 (s0 :: L))) true ρ := by
      unfold p_is_table
      rw [v]
      exact seq_rt (if_no t1)
    exact fn_rt rfl g
end K00

/-! ## S2 -/
namespace K00
open PySem PySem.Spec PyProof.Rows L2 WF TL PM
variable {A : Ad} {Γ : Gam} {δ : List Slot} {ρ : WF.Row}
/-! ### values that are no cells -/
def NoC (Γ : Gam) (A : Ad) (d : D) : Prop := ∀ ρ : WF.Row, f_is_cells Γ A [d] ρ = .ok (.bl false) true ρ
theorem noC_v {s0 : Str} {L : List Str} (hN : ∀ s ∈ s0 :: L, Near s) (hL : L.length ≤ 100) (h : tabV s0 (s0 :: L) = false) : NoC Γ A (.tup ((s0 :: L).map D.str)) := fun ρ => by
  have e := is_table_v (A := A) (Γ := Γ) (ρ := ρ) hN hL
  rw [h] at e
  have g : p_is_cells Γ A [some (false, .tup ((s0 :: L).map D.str))] ρ = .rt (.bl false) true ρ := by
    unfold p_is_cells
    refine ret_ok ?_
    unfold eCallF
    rw [cons_ok (var_ok (w := false) (d := .tup ((s0 :: L).map D.str)) rfl) (cons_ok (d := .ktup k_SIGNS) (f1 := true) rfl nil_ok)]
    dsimp only
    exact e
  exact fn_rt rfl g
theorem near_line {s : Str} {c : Int} (h : Line c sg s) (hc : c ≤ 100) : Near s := ⟨by rw [len_tl]; have := h.1; omega, fun k hk => .inl (h.2 k hk)⟩
theorem len_add (s t : Str) : (s ++ t).length = s.length + t.length := by rw [len_tl, tl_add, List.length_append, ← len_tl, ← len_tl]
theorem near_add {s t : Str} (h : Near s) (h2 : Near t) (hl : s.length + t.length ≤ 1000) : Near (s ++ t) := ⟨by rw [len_add]; exact hl, fun k hk => by
  rw [tl_add] at hk
  rcases List.mem_append.mp hk with z | z
  · exact h.2 k z
  · exact h2.2 k z⟩
theorem tl_cut (s : Str) (lo hi : Option Int) : ∀ k ∈ tl (cutS s lo hi), k ∈ tl s := fun k hk => List.mem_of_mem_drop (List.mem_of_mem_take hk)
theorem cut_le (s : Str) (lo hi : Option Int) : (cutS s lo hi).length ≤ s.length := by
  rw [len_tl, len_tl]
  show (List.take _ (List.drop _ (tl s))).length ≤ _
  rw [List.length_take, List.length_drop]
  omega
theorem near_cut {s : Str} (h : Near s) (lo hi : Option Int) : Near (cutS s lo hi) := ⟨Nat.le_trans (cut_le s lo hi) h.1, fun k hk => h.2 k (tl_cut s lo hi k hk)⟩
theorem near1 {k : Nat} (h : k ∈ tl sg ∨ k = 111) : Near ⟨#[k]⟩ := ⟨by show 1 ≤ 1000; decide, fun q hq => by
  have : q = k := List.mem_singleton.mp hq
  rw [this]; exact h⟩
abbrev cutO (s : Str) : Str := cutS s none (some (-1)) ++ (⟨#[111]⟩ : Str)
section
variable {s0 : Str} {L : List Str} {c : Int} (h : Cells 5 (s0 :: L) c)
include h
theorem lens : ∀ s ∈ s0 :: L, (s.length : Int) = c := fun s hs => by rw [len_tl]; exact (h.ln s hs).1
theorem nears : ∀ s ∈ s0 :: L, Near s := fun s hs => near_line (h.ln s hs) (by have := h.c2; omega)
theorem no_last : NoC Γ A (.tup ((s0 :: (L ++ [s0 ++ ⟨#[46]⟩])).map D.str)) := by
  have c2 := h.c2; have r2 := h.r2
  have l0 := lens h s0 List.mem_cons_self
  have nn := near_add (nears h s0 List.mem_cons_self) (near1 (k := 46) (.inl (by decide +kernel))) (by show s0.length + 1 ≤ 1000; omega)
  rw [List.length_cons] at r2
  refine noC_v (fun s hs => ?_) (by rw [List.length_append]; show _ + 1 ≤ 100; omega) ?_
  · rcases List.mem_cons.mp hs with rfl | hs
    · exact nears h _ List.mem_cons_self
    · rcases List.mem_append.mp hs with hs | hs
      · exact nears h _ (List.mem_cons_of_mem _ hs)
      · rw [List.mem_singleton.mp hs]; exact nn
  · have : (s0 :: (L ++ [s0 ++ ⟨#[46]⟩])).all (okL s0) = false := by
      rw [List.all_eq_false]
      refine ⟨s0 ++ ⟨#[46]⟩, by simp, ?_⟩
      unfold okL
      rw [decide_eq_false (by rw [len_add]; show ¬ ((s0.length + 1 : Nat) : Int) = _; omega)]
      simp
    unfold tabV
    rw [this, Bool.and_false, Bool.and_false]
theorem no_first : NoC Γ A (.tup (((s0 ++ ⟨#[60]⟩) :: s0 :: L).map D.str)) := by
  have c2 := h.c2; have r2 := h.r2
  have l0 := lens h s0 List.mem_cons_self
  have nn := near_add (nears h s0 List.mem_cons_self) (near1 (k := 60) (.inl (by decide +kernel))) (by show s0.length + 1 ≤ 1000; omega)
  rw [List.length_cons] at r2
  refine noC_v (fun s hs => ?_) (by rw [List.length_cons]; omega) ?_
  · rcases List.mem_cons.mp hs with rfl | hs
    · exact nn
    · exact nears h _ hs
  · have : ((s0 ++ ⟨#[60]⟩) :: s0 :: L).all (okL (s0 ++ ⟨#[60]⟩)) = false := by
      rw [List.all_eq_false]
      refine ⟨s0, by simp, ?_⟩
      unfold okL
      rw [decide_eq_false (by rw [len_add]; show ¬ _ = ((s0.length + 1 : Nat) : Int); omega)]
      simp
    unfold tabV
    rw [this, Bool.and_false, Bool.and_false]
theorem no_sign : NoC Γ A (.tup ((cutO s0 :: L).map D.str)) := by
  have c2 := h.c2; have r2 := h.r2
  have l0 := lens h s0 List.mem_cons_self
  have cl := cut_le s0 none (some (-1))
  have nn := near_add (near_cut (nears h s0 List.mem_cons_self) none (some (-1))) (near1 (k := 111) (.inr rfl)) (by show _ + 1 ≤ 1000; omega)
  rw [List.length_cons] at r2
  refine noC_v (fun s hs => ?_) (by omega) ?_
  · rcases List.mem_cons.mp hs with rfl | hs
    · exact nn
    · exact nears h _ (List.mem_cons_of_mem _ hs)
  · have : (cutO s0 :: L).all (okL (cutO s0)) = false := by
      rw [List.all_cons]
      have : okL (cutO s0) (cutO s0) = false := by
        unfold okL cutO
        rw [tl_add, List.all_append]
        have : (tl (⟨#[111]⟩ : Str)).all okS = false := by decide +kernel
        rw [this, Bool.and_false, Bool.and_false]
      rw [this, Bool.false_and]
    unfold tabV
    rw [this, Bool.and_false, Bool.and_false]
end
theorem no_consts : ∀ d ∈ ([.non, .tup [], .dct false [] [], .tup [.str ""], .tup [.str ".....x"], .tup [.str ".", .str ".", .str ".", .str ".", .str ".", .str "."], .tup [.tup [.str "<"]], .tup [.int 1], .tup [.str "<", .non], .tup [.str "-"], .tup [.str "X"], .tup [.str " "], .tup [.bl true]] : List D), NoC Γ A d := fun d hd ρ => by
  simp only [List.mem_cons, List.not_mem_nil, or_false] at hd
  rcases hd with rfl | rfl | rfl | rfl | rfl | rfl | rfl | rfl | rfl | rfl | rfl | rfl | rfl <;> rfl
theorem no_lst (ds : List D) : NoC Γ A (.lst ds) := fun _ => rfl
theorem no_str (s : Str) : NoC Γ A (.str s) := fun _ => rfl
theorem board_er {d : D} (h : NoC Γ A d) : i_Board Γ A [d] ρ = .er 3 ρ := by
  have a1 : eCallF (f_is_cells Γ A) (aCons (eVar 1) aNil) [none, some (false, d)] ρ = .ok (.bl false) true ρ := callF_d (cons_ok (var_ok (w := false) rfl) nil_ok) (h ρ)
  have a2 : bNot (bE (eCallF (f_is_cells Γ A) (aCons (eVar 1) aNil))) [none, some (false, d)] ρ = .ok true ρ := not_ok (bE_ok a1)
  unfold i_Board
  rw [if_pos (show [d].length = 1 from rfl)]
  show iniRun [none, some (false, d)] (steps_Board Γ A) [] ρ = _
  unfold steps_Board
  rw [iniRun, a2]
end K00

/-! ## S3 -/
namespace K00
open PySem PySem.Spec PyProof.Rows L2 WF TL PM
variable {A : Ad} {Γ : Gam} {δ : List Slot} {ρ : WF.Row}
theorem addO_ok {i : Nat} {c : CE} {ds es : List D} {ρ1 : WF.Row} (h : δ[i]? = some (some (true, .lst ds))) (hc : c δ ρ = .ok (.lst es) true ρ1) (hl : ds.length + es.length ≤ 100000) : sAddO i c δ ρ = .nx (δ.set i (some (true, .lst (ds ++ es)))) ρ1 := by
  unfold sAddO
  rw [h]
  dsimp only
  rw [hc]
  dsimp only
  rw [if_pos hl]
theorem add_tupS {xs ys : List D} (h : xs.length + ys.length ≤ 100000) : fAdd (.tup xs) (.tup ys) = some (.tup (xs ++ ys), immAll (xs ++ ys)) := by
  have e : fAddT (.tup xs) (.tup ys) = some (.tup (xs ++ ys), immAll (xs ++ ys)) := by
    unfold fAddT
    dsimp only
    rw [if_pos h]
  unfold fAdd orF
  rw [show fAddI (.tup xs) (.tup ys) = none from rfl]
  dsimp only
  rw [show fAddS (.tup xs) (.tup ys) = none from rfl]
  dsimp only
  rw [e]
theorem cut1 (d : D) (ds : List D) : cutD (d :: ds) (some 1) none = ds := by
  unfold WF.cutD
  have h1 : HT.sIx (d :: ds).length 0 (some 1) = min 1 (d :: ds).length := HT.sIx_nat _ _ 1
  have h2 : HT.sIx (d :: ds).length (d :: ds).length none = (d :: ds).length := HT.sIx_none _ _
  rw [h1, h2, List.length_cons, show min 1 (ds.length + 1) = 1 by omega]
  exact List.take_of_length_le (by show ds.length ≤ _; omega)
def odd8 (s0 : Str) (L : List Str) : List D := [.non, .tup [], .lst ((s0 :: L).map D.str), .str s0, .dct false [] [], .tup [], .tup ((s0 :: (L ++ [s0 ++ ⟨#[46]⟩])).map D.str), .tup (((s0 ++ ⟨#[60]⟩) :: s0 :: L).map D.str)]
def odd10 : List D := [.tup [.str ""], .tup [.str ".....x"], .tup [.str ".", .str ".", .str ".", .str ".", .str ".", .str "."], .tup [.tup [.str "<"]], .tup [.int 1], .tup [.str "<", .non], .tup [.str "-"], .tup [.str "X"], .tup [.str " "], .tup [.bl true]]
def odd19 (s0 : Str) (L : List Str) : List D := odd8 s0 L ++ odd10 ++ [.tup ((cutO s0 :: L).map D.str)]
theorem no_odd {s0 : Str} {L : List Str} {c : Int} (h : Cells 5 (s0 :: L) c) : ∀ d ∈ odd19 s0 L, NoC Γ A d := fun d hd => by
  unfold odd19 at hd
  rcases List.mem_append.mp hd with hd | hd
  · rcases List.mem_append.mp hd with hd | hd
    · unfold odd8 at hd
      simp only [List.mem_cons, List.not_mem_nil, or_false] at hd
      rcases hd with rfl | rfl | rfl | rfl | rfl | rfl | rfl | rfl
      · exact no_consts _ (by simp)
      · exact no_consts _ (by simp)
      · exact no_lst _
      · exact no_str _
      · exact no_consts _ (by simp)
      · exact no_consts _ (by simp)
      · exact no_last h
      · exact no_first h
    · unfold odd10 at hd
      refine no_consts _ ?_
      simp only [List.mem_cons, List.not_mem_nil, or_false] at hd ⊢
      rcases hd with rfl | rfl | rfl | rfl | rfl | rfl | rfl | rfl | rfl | rfl <;> simp
  · rw [List.mem_singleton.mp hd]
    exact no_sign h
theorem tup_i {r : CA} {ds : List D} {f : Bool} {ρ1 : WF.Row} (h : r δ ρ = .ok ds f ρ1) (m : immAll ds = true) (hl : ds.length ≤ 1000) : eTup r δ ρ = .ok (.tup ds) true ρ1 := by unfold eTup; rw [h]; dsimp only; rw [if_pos hl, m, Bool.or_true]
theorem odd_cells {s0 : Str} {L : List Str} {c : Int} (h : Cells 5 (s0 :: L) c) (hi : 0 ≤ ρ.i) : ∃ d f ρ1, f_law_odd_cells Γ A [.row, .tup ((s0 :: L).map D.str)] ρ = .ok d f ρ1 ∧ 0 ≤ ρ1.i ∧ NoC Γ A d := by
  have c2 := h.c2; have r2 := h.r2
  have l0 := lens h s0 List.mem_cons_self
  have z0 := (nears h s0 List.mem_cons_self).1
  rw [List.length_cons] at r2
  have im : ∀ ss : List Str, imm (.tup (ss.map D.str)) = true := fun ss => by rw [imm]; exact imm_strs ss
  -- the first eight
  generalize hd : [some (false, D.row), some (false, .tup ((s0 :: L).map D.str)), none] = δ0
  have v1 : eVar 1 δ0 ρ = .ok (.tup ((s0 :: L).map D.str)) true ρ := by
    have : eVar 1 δ0 ρ = .ok (.tup ((s0 :: L).map D.str)) (imm (.tup ((s0 :: L).map D.str))) ρ := by subst hd; exact var_ok (w := false) rfl
    rw [im] at this
    exact this
  have ix : eBin (orF fIx (fIxR Γ)) (eVar 1) (eC (.int 0)) δ0 ρ = .ok (.str s0) true ρ := bin_ok v1 rfl (ix_tup (d := .str s0) (by rw [atI_nat' (by decide) (by rw [List.length_map, List.length_cons]; omega)]; rfl))
  have ls : eCall fLists (aCons (eVar 1) aNil) δ0 ρ = .ok (.lst ((s0 :: L).map D.str)) true ρ := by
    unfold eCall
    rw [cons_ok v1 nil_ok]
    dsimp only
    have : fLists [.tup ((s0 :: L).map D.str)] = some (.lst ((s0 :: L).map D.str), immAll ((s0 :: L).map D.str)) := rfl
    rw [this, imm_strs]
  have dot := bin_ok (f := fAdd) ix (rfl : eC (.str ".") δ0 ρ = .ok (.str ".") true ρ) (d := .str (s0 ++ ⟨#[46]⟩)) (fr := true) (by
    rw [show (Str.ofString ".") = ⟨#[46]⟩ from by decide +kernel]
    exact add_str (by show s0.length + 1 ≤ 1000; omega))
  have lt := bin_ok (f := fAdd) ix (rfl : eC (.str "<") δ0 ρ = .ok (.str "<") true ρ) (d := .str (s0 ++ ⟨#[60]⟩)) (fr := true) (by
    rw [show (Str.ofString "<") = ⟨#[60]⟩ from by decide +kernel]
    exact add_str (by show s0.length + 1 ≤ 1000; omega))
  have t7 := tup_i (cons_ok dot nil_ok) rfl (by show 1 ≤ 1000; decide)
  have t8 := tup_i (cons_ok lt nil_ok) rfl (by show 1 ≤ 1000; decide)
  have a7 := bin_ok (f := fAdd) v1 t7 (fr := true) (d := .tup ((s0 :: (L ++ [s0 ++ ⟨#[46]⟩])).map D.str)) (by
    rw [add_tupS (by simp only [List.length_map, List.length_cons, List.length_nil]; omega)]
    have : (s0 :: L).map D.str ++ [D.str (s0 ++ ⟨#[46]⟩)] = (s0 :: (L ++ [s0 ++ ⟨#[46]⟩])).map D.str := by rw [List.map_cons, List.map_cons, List.map_append]; rfl
    rw [this, imm_strs])
  have a8 := bin_ok (f := fAdd) t8 v1 (fr := true) (d := .tup (((s0 ++ ⟨#[60]⟩) :: s0 :: L).map D.str)) (by
    rw [add_tupS (by simp only [List.length_map, List.length_cons, List.length_nil]; omega)]
    have : [D.str (s0 ++ ⟨#[60]⟩)] ++ (s0 :: L).map D.str = ((s0 ++ ⟨#[60]⟩) :: s0 :: L).map D.str := rfl
    rw [this, imm_strs])
  have all8 := cons_ok (rfl : eC .non δ0 ρ = .ok .non true ρ) (cons_ok (rfl : eTup aNil δ0 ρ = .ok (.tup []) true ρ) (cons_ok ls (cons_ok ix (cons_ok (rfl : eDnew false δ0 ρ = .ok (.dct false [] []) true ρ) (cons_ok (rfl : eTup aNil δ0 ρ = .ok (.tup []) true ρ) (cons_ok a7 (cons_ok a8 nil_ok)))))))
  have s1 : sSet 2 (eLst (aCons (eC .non) (aCons (eTup aNil) (aCons (eCall fLists (aCons (eVar 1) aNil)) (aCons (eBin (orF fIx (fIxR Γ)) (eVar 1) (eC (.int 0))) (aCons (eDnew false) (aCons (eTup aNil) (aCons (eBin fAdd (eVar 1) (eTup (aCons (eBin fAdd (eBin (orF fIx (fIxR Γ)) (eVar 1) (eC (.int 0))) (eC (.str "."))) aNil))) (aCons (eBin fAdd (eTup (aCons (eBin fAdd (eBin (orF fIx (fIxR Γ)) (eVar 1) (eC (.int 0))) (eC (.str "<"))) aNil)) (eVar 1)) aNil))))))))) δ0 ρ = .nx [some (false, .row), some (false, .tup ((s0 :: L).map D.str)), some (true, .lst (odd8 s0 L))] ρ := by
    have e : eLst (aCons (eC .non) (aCons (eTup aNil) (aCons (eCall fLists (aCons (eVar 1) aNil)) (aCons (eBin (orF fIx (fIxR Γ)) (eVar 1) (eC (.int 0))) (aCons (eDnew false) (aCons (eTup aNil) (aCons (eBin fAdd (eVar 1) (eTup (aCons (eBin fAdd (eBin (orF fIx (fIxR Γ)) (eVar 1) (eC (.int 0))) (eC (.str "."))) aNil))) (aCons (eBin fAdd (eTup (aCons (eBin fAdd (eBin (orF fIx (fIxR Γ)) (eVar 1) (eC (.int 0))) (eC (.str "<"))) aNil)) (eVar 1)) aNil)))))))) δ0 ρ = .ok (.lst (odd8 s0 L)) true ρ := by
      unfold eLst
      rw [all8]
      rfl
    rw [set_ok e]
    subst hd
    rfl
  subst hd
  generalize hO : odd8 s0 L = O at s1
  have lO : O.length = 8 := by rw [← hO]; rfl
  have s2 := addO_ok (δ := [some (false, .row), some (false, .tup ((s0 :: L).map D.str)), some (true, .lst O)]) (ρ := ρ) (i := 2) (es := odd10) (c := eLst (aCons (eTup (aCons (eC (.str "")) aNil)) (aCons (eTup (aCons (eC (.str ".....x")) aNil)) (aCons (eBin fMul (eTup (aCons (eC (.str ".")) aNil)) (eC (.int 6))) (aCons (eTup (aCons (eTup (aCons (eC (.str "<")) aNil)) aNil)) (aCons (eTup (aCons (eC (.int 1)) aNil)) (aCons (eTup (aCons (eC (.str "<")) (aCons (eC .non) aNil))) (aCons (eTup (aCons (eC (.str "-")) aNil)) (aCons (eTup (aCons (eC (.str "X")) aNil)) (aCons (eTup (aCons (eC (.str " ")) aNil)) (aCons (eTup (aCons (eC (.bl true)) aNil)) aNil))))))))))) rfl rfl (by rw [lO]; decide)
  generalize hd2 : ([some (false, D.row), some (false, .tup ((s0 :: L).map D.str)), some (true, .lst O)] : List Slot).set 2 (some (true, .lst (O ++ odd10))) = δ2 at s2
  have hd3 : δ2 = [some (false, .row), some (false, .tup ((s0 :: L).map D.str)), some (true, .lst (O ++ odd10))] := by rw [← hd2]; rfl
  have w1 : eVar 1 δ2 ρ = .ok (.tup ((s0 :: L).map D.str)) true ρ := by
    have : eVar 1 δ2 ρ = .ok (.tup ((s0 :: L).map D.str)) (imm (.tup ((s0 :: L).map D.str))) ρ := by rw [hd3]; exact var_ok (w := false) rfl
    rw [im] at this
    exact this
  have ix2 : eBin (orF fIx (fIxR Γ)) (eVar 1) (eC (.int 0)) δ2 ρ = .ok (.str s0) true ρ := bin_ok w1 rfl (ix_tup (d := .str s0) (by rw [atI_nat' (by decide) (by rw [List.length_map, List.length_cons]; omega)]; rfl))
  have sl : eSl fSl (eBin (orF fIx (fIxR Γ)) (eVar 1) (eC (.int 0))) oNone (oSome (eUn fNeg (eC (.int 1)))) δ2 ρ = .ok (.str (cutS s0 none (some (-1)))) true ρ := sl_ok ix2 rfl (some_co (rfl : eUn fNeg (eC (.int 1)) δ2 ρ = .ok (.int (-1)) true ρ)) z0
  have cl := cut_le s0 none (some (-1))
  have oo := bin_ok (f := fAdd) sl (rfl : eC (.str "o") δ2 ρ = .ok (.str "o") true ρ) (d := .str (cutO s0)) (fr := true) (by
    rw [show (Str.ofString "o") = ⟨#[111]⟩ from by decide +kernel]
    exact add_str (by show _ + 1 ≤ 1000; omega))
  have t9 := tup_i (cons_ok oo nil_ok) rfl (by show 1 ≤ 1000; decide)
  have rest : eSl fSl (eVar 1) (oSome (eC (.int 1))) oNone δ2 ρ = .ok (.tup (L.map D.str)) true ρ := by
    have o1 : oSome (eC (.int 1)) δ2 ρ = some (some 1, ρ) := rfl
    have o2 : oNone δ2 ρ = some (none, ρ) := rfl
    have eq : fSl (.tup ((s0 :: L).map D.str)) (some 1) none = some (.tup (L.map D.str), true) := by
      unfold fSl
      dsimp only
      rw [List.map_cons, cut1, imm_strs]
    unfold eSl
    rw [w1]
    dsimp only
    rw [o1]
    dsimp only
    rw [o2]
    dsimp only
    rw [eq]
  have a9 := bin_ok (f := fAdd) t9 rest (fr := true) (d := .tup ((cutO s0 :: L).map D.str)) (by
    rw [add_tupS (by simp only [List.length_map, List.length_cons, List.length_nil]; omega)]
    have : [D.str (cutO s0)] ++ L.map D.str = (cutO s0 :: L).map D.str := rfl
    rw [this, imm_strs])
  have s3 := app_ok (i := 2) (ds := O ++ odd10) (by rw [hd3]; rfl) a9 (by rw [List.length_append, lO]; decide)
  generalize hd4 : δ2.set 2 (some (true, .lst (O ++ odd10 ++ [.tup ((cutO s0 :: L).map D.str)]))) = δ3 at s3
  have hd5 : δ3 = [some (false, .row), some (false, .tup ((s0 :: L).map D.str)), some (true, .lst (odd19 s0 L))] := by rw [← hd4, hd3, ← hO]; rfl
  have l19 : (odd19 s0 L).length = 19 := rfl
  have x2 : eVar 2 δ3 ρ = .ok (.lst (odd19 s0 L)) (imm (.lst (odd19 s0 L))) ρ := by rw [hd5]; exact var_ok (w := true) rfl
  have x0 : eVar 0 δ3 ρ = .ok .row (imm D.row) ρ := by rw [hd5]; exact var_ok (w := false) rfl
  have ln := len_lst (Γ := Γ) (F := f_Board_len Γ A) (cons_ok x2 nil_ok)
  rw [l19] at ln
  obtain ⟨v, f3, ρ2, ev, v0, v19, i2⟩ := draw (A := A) (Γ := Γ) (n := 19) (cons_ok x0 (cons_ok ln nil_ok)) hi (by decide) (by decide)
  obtain ⟨d, hv⟩ := atI_ok (xs := odd19 s0 L) v0 (by rw [l19]; omega)
  have e5 := bin_ok (f := orF fIx (fIxR Γ)) x2 ev (ix_lst hv)
  refine ⟨d, imm d, ρ2, ?_, i2, no_odd h d ?_⟩
  · refine fn_rt rfl ?_
    show p_law_odd_cells Γ A [some (false, .row), some (false, .tup ((s0 :: L).map D.str)), none] ρ = _
    unfold p_law_odd_cells
    rw [seq_nx s1, seq_nx s2, seq_nx s3]
    exact ret_ok e5
  · rw [atI_nat' v0 (by rw [l19]; omega)] at hv
    exact List.mem_of_getElem? hv
end K00

/-! ## H00 -/
namespace K00
open PySem PySem.Spec PyProof.Rows L2 WF
abbrev s_law : Stmt := (top 67)
section
variable {A : Ad} {mg : Str → Option Value} {w : World} {P : Program} {base : Heap} {K : PySem.W.Frag} {cls : Nat → Addr} {fld : Nat → List Str}
theorem sc_law : FnScope ["_law_script", "_law_row", "_law_turn", "_law_board", "_law_odd", "_law_bad", "_law_works", "_law_cells_here", "_law_other"] ["_law_script"] (defScope s_law) := ⟨rfl, rfl, rfl, by decide +kernel, rfl, by decide +kernel, by decide +kernel⟩
def lamBs (Γ : Gam) (A : Ad) : List CE := [(eCallF (f_steps Γ A) (aCons (eVar 5) aNil)), (eCallF (f_flipped Γ A) (aCons (eVar 5) aNil)), (eCallF (f_closed_lots Γ A) (aCons (eVar 5) aNil)), (eCallF (f_verdict Γ A) (aCons (eVar 5) aNil)), (eCallF (f_with_cell Γ A) (aCons (eVar 5) (aCons (eC .non) (aCons (eC .non) (aCons (eC .non) aNil))))), (eCallF (f_leads Γ A) (aCons (eVar 5) (aCons (eC .non) (aCons (eC .non) aNil)))), (eCallF (f_least_closed Γ A) (aCons (eVar 5) (aCons (eC .non) aNil))), (eCallF (f_as_load Γ A) (aCons (eVar 5) (aCons (eC .non) aNil))), (eCallF (f_is_motion Γ A) (aCons (eVar 5) (aCons (eC (.int 0)) aNil)))]
def p_law (Γ : Gam) (A : Ad) : CS := (sSeq (sFor (gN 2) (iRg1 (aCons (eC (.int 4)) aNil)) (sSeq (sPar 7 8 (aCons (eCallF (f_law_cells Γ A) (aCons (eVar 1) (aCons (eC (.int 5)) aNil))) (aCons (eCallF (f_law_cells Γ A) (aCons (eVar 1) (aCons (eC (.int 5)) aNil))) aNil))) (sSeq (sSet 3 (eMake 0 (i_Board Γ A) (aCons (eVar 7) aNil))) (sSeq (sIf (bOr (bB (eBin fNe (eProp 0 (f_Board_cells Γ A) (eVar 3)) (eVar 7))) (bOr (bB (eBin fNe (eProp 0 (f_Board_rows Γ A) (eVar 3)) (eLenX Γ 0 (f_Board_len Γ A) (aCons (eVar 7) aNil)))) (bB (eBin fNe (eProp 0 (f_Board_columns Γ A) (eVar 3)) (eLenX Γ 0 (f_Board_len Γ A) (aCons (eBin (orF fIx (fIxR Γ)) (eVar 7) (eC (.int 0))) aNil)))))) (sRet (eC (.bl false))) sNil) (sSeq (sIf (bOr (bB (eBin fNe (eLenX Γ 0 (f_Board_len Γ A) (aCons (eVar 3) aNil)) (eCallF (f_law_many Γ A) (aCons (eVar 7) aNil)))) (bOr (bNot (bB (eOwnV 0 (f_Board_eq Γ A) (eVar 3) (eMake 0 (i_Board Γ A) (aCons (eVar 7) aNil))))) (bB (eOwnV 0 (f_Board_eq Γ A) (eVar 3) (eVar 7))))) (sRet (eC (.bl false))) sNil) (sSeq (sIf (bOr (bB (eBin fNe (eOwnV 0 (f_Board_eq Γ A) (eVar 3) (eMake 0 (i_Board Γ A) (aCons (eVar 8) aNil))) (eBin fEq (eVar 7) (eVar 8)))) (bB (eOwnV 0 (f_Board_eq Γ A) (eVar 3) (eC (.int 0))))) (sRet (eC (.bl false))) sNil) (sSeq (sSet 4 (eCallF (f_law_odd_cells Γ A) (aCons (eVar 1) (aCons (eVar 7) aNil)))) (sSeq (sIf (bB (eBin fNe (eErr wordsE (eMake 0 (i_Board Γ A) (aCons (eVar 4) aNil))) (eC (.str "cells")))) (sRet (eC (.bl false))) sNil) (sSeq (sSet 5 (eBin (orF fIx (fIxR Γ)) (eLst (aCons (eC .non) (aCons (eVar 7) (aCons (eC (.int 0)) (aCons (eC (.str "board")) (aCons (eLst (aCons (eVar 7) aNil)) (aCons (eDnew false) (aCons (eC (.bl true)) aNil)))))))) (eCallF (f_law_taken Γ A) (aCons (eVar 1) (aCons (eC (.int 7)) aNil))))) (sSeq (sSet 6 (eLst (aCons (eLam 0) (aCons (eLam 1) (aCons (eLam 2) aNil))))) (sSeq (sSet 6 (eBin fAdd (eVar 6) (eLst (aCons (eLam 3) (aCons (eLam 4) aNil))))) (sSeq (sSet 6 (eBin fAdd (eVar 6) (eLst (aCons (eLam 5) (aCons (eLam 6) aNil))))) (sSeq (sSet 6 (eBin fAdd (eVar 6) (eLst (aCons (eLam 7) (aCons (eLam 8) aNil))))) (sIf (bB (eBin fNe (eErrL wordsE (lamBs Γ A) (eBin (orF fIx (fIxR Γ)) (eVar 6) (eCallF (f_law_taken Γ A) (aCons (eVar 1) (aCons (eC (.int 9)) aNil))))) (eC (.str "board")))) (sRet (eC (.bl false))) sNil)))))))))))))) (sRet (eC (.bl true))))
def lamLF : L2.Cx → LamTab := fun X => ⟨fun i => match i with | 0 => lamTab X (eAt 0 (eItems (sVal (sAt 8 (sBody (sAt 1 (defBody s_law))))))) false | 1 => lamTab X (eAt 1 (eItems (sVal (sAt 8 (sBody (sAt 1 (defBody s_law))))))) true | 2 => lamTab X (eAt 2 (eItems (sVal (sAt 8 (sBody (sAt 1 (defBody s_law))))))) true | 3 => lamTab X (eAt 0 (eItems (eR (sVal (sAt 9 (sBody (sAt 1 (defBody s_law)))))))) false | 4 => lamTab X (eAt 1 (eItems (eR (sVal (sAt 9 (sBody (sAt 1 (defBody s_law)))))))) true | 5 => lamTab X (eAt 0 (eItems (eR (sVal (sAt 10 (sBody (sAt 1 (defBody s_law)))))))) false | 6 => lamTab X (eAt 1 (eItems (eR (sVal (sAt 10 (sBody (sAt 1 (defBody s_law)))))))) true | 7 => lamTab X (eAt 0 (eItems (eR (sVal (sAt 11 (sBody (sAt 1 (defBody s_law)))))))) false | 8 => lamTab X (eAt 1 (eItems (eR (sVal (sAt 11 (sBody (sAt 1 (defBody s_law)))))))) true | _ => fun _ _ _ _ => True, fun _ => WF.lamQ X, fun i => match i with | 1 => true | 2 => true | 4 => true | 6 => true | 8 => true | _ => false⟩
def lamQ : Str := (envOfC "law" (defScope s_law) 0 0 .none).qual ++ "<lambda>"
theorem ok_law {f : Addr} {oc kV doc pm ct : Value} {od an : Option Addr} {osl : Array (Option Value)} {c0 P0 : Addr} (lk : K.lookup f = some ⟨oc, od, .func (PySem.W.fnOf "law" "law" (defArgs s_law) (defBody s_law) (defScope s_law) .none kV doc pm an (.ref c0) ct), osl⟩) (hcc : PySem.W.codeIn K (.ref c0) "law" = true) (TBc : LamX.TabB base mg c0 P0) (TT : ∀ Lm R S ns, Tx A (gam K cls fld [(P0, lamQ), (A.P_in_order, lamQ_in_order)] Lm R S ns) mg w base) (hone : ∀ p ∈ ([(P0, lamQ), (A.P_in_order, lamQ_in_order)] : List (Addr × Str)), p.1 = P0 → p.2 = lamQ) (pure : ∀ (Lm : LamTab) (R Sc : Addr) (ns : List Int), ns.length ≤ 63 → ∃ fr ρ, p_law (gam K cls fld [(P0, lamQ), (A.P_in_order, lamQ_in_order)] Lm R Sc ns) A (lawD 9) ⟨0, 1400, 0⟩ = .rt (.bl true) fr ρ) :
    FnOk P w K mg base (L2.CX P w) 15 f (PySem.W.fnOf "law" "law" (defArgs s_law) (defBody s_law) (defScope s_law) .none kV doc pm an (.ref c0) ct) ["_law_script"] (spLaw K [(P0, lamQ), (A.P_in_order, lamQ_in_order)]) :=
  law_ok (k := 14) (TB := [(P0, lamQ), (A.P_in_order, lamQ_in_order)]) (LF := lamLF) (c := fun Γ => p_law Γ A) lk hcc sc_law rfl (by decide) rfl rfl (by first | exact Or.inl rfl | exact Or.inr (Or.inl rfl) | exact Or.inr (Or.inr rfl)) (by first | exact Or.inl rfl | exact Or.inr rfl) (by decide) (by decide) rfl (fun R Sc ns Ar outer s H E1 hr => have T : Tx A (gam K cls fld [(P0, lamQ), (A.P_in_order, lamQ_in_order)] (lamLF (cxOf (L2.CX P w) P w K mg base ["_law_script", "_law_row", "_law_turn", "_law_board", "_law_odd", "_law_bad", "_law_works", "_law_cells_here", "_law_other"] "law" (defScope s_law) f (.ref c0) Ar outer s H E1)) R Sc ns) mg w base := TT _ R Sc ns
    have M : Maker (cxOf (L2.CX P w) P w K mg base ["_law_script", "_law_row", "_law_turn", "_law_board", "_law_odd", "_law_bad", "_law_works", "_law_cells_here", "_law_other"] "law" (defScope s_law) f (.ref c0) Ar outer s H E1) [(P0, lamQ), (A.P_in_order, lamQ_in_order)] c0 P0 := ⟨TBc, rfl, List.mem_cons_self, hone⟩
    (cs_cons (cs_for (passes_of rfl) rfl (g_range1 rfl T.n_range (ca_cons c_int ca_nil)) (cg_name (i := 2) sc_law.nd rfl (by first | exact Or.inl rfl | exact Or.inr rfl)) (cs_cons (cs_par (i := 7) (j := 8) rfl sc_law.nd rfl rfl (by decide) rfl rfl (ca_cons (c_callF (ok_law_cells T) (hr.mono (by decide)) rfl T.m_law_cells T.k_law_cells T.b_law_cells (passD tk_of) (ca_cons (c_var 1) (ca_cons c_int ca_nil))) (ca_cons (c_callF (ok_law_cells T) (hr.mono (by decide)) rfl T.m_law_cells T.k_law_cells T.b_law_cells (passD tk_of) (ca_cons (c_var 1) (ca_cons c_int ca_nil))) ca_nil)) rfl) (cs_cons (cs_set (i := 3) sc_law.nd rfl (by first | exact Or.inl rfl | exact Or.inr rfl) (c_make T.mk_Board (ok_Board_init T) (hr.mono (by decide)) rfl T.m_Board T.b_Board_init (passM tk_of) (ca_cons (c_var 7) ca_nil))) (cs_cons (cs_if (PW.pt (cw_or (g_tcmp (xNe rfl hr) (c_prop rfl T.cl_Board T.prop_cells (ok_Board_cells T) (hr.mono (by decide)) T.b_Board_cells (c_var 3)) (c_var 7)) (cw_or (g_tcmp (xNe rfl hr) (c_prop rfl T.cl_Board T.prop_rows (ok_Board_rows T) (hr.mono (by decide)) T.b_Board_rows (c_var 3)) (c_len rfl T.len_s T.len_f (ok_Board_len T) (hr.mono (by decide)) T.b_Board_len rfl T.n_len (ca_cons (c_var 7) ca_nil))) (cw_or1 (g_tcmp (xNe rfl hr) (c_prop rfl T.cl_Board T.prop_columns (ok_Board_columns T) (hr.mono (by decide)) T.b_Board_columns (c_var 3)) (c_len rfl T.len_s T.len_f (ok_Board_len T) (hr.mono (by decide)) T.b_Board_len rfl T.n_len (ca_cons (g_ix rfl (c_var 7) c_int) ca_nil))))))) (cs_one (cs_ret c_bl)) cs_nil) (cs_cons (cs_if (PW.pt (cw_or (g_tcmp (xNe rfl hr) (c_len rfl T.len_s T.len_f (ok_Board_len T) (hr.mono (by decide)) T.b_Board_len rfl T.n_len (ca_cons (c_var 3) ca_nil)) (c_callF (ok_law_many T) (hr.mono (by decide)) rfl T.m_law_many T.k_law_many T.b_law_many (passD tk_of) (ca_cons (c_var 7) ca_nil))) (cw_or (cw_not (c_tOwnV rfl T.eq_s T.eq_f T.ns_int T.ns_tuple (ok_Board_eq T) (hr.mono (by decide)) T.b_Board_eq passL (c_var 3) (c_make T.mk_Board (ok_Board_init T) (hr.mono (by decide)) rfl T.m_Board T.b_Board_init (passM tk_of) (ca_cons (c_var 7) ca_nil)))) (cw_or1 (c_tOwnV rfl T.eq_s T.eq_f T.ns_int T.ns_tuple (ok_Board_eq T) (hr.mono (by decide)) T.b_Board_eq passL (c_var 3) (c_var 7)))))) (cs_one (cs_ret c_bl)) cs_nil) (cs_cons (cs_if (PW.pt (cw_or (g_tcmp (xNe rfl hr) (c_ownV rfl T.eq_s T.eq_f T.ns_int T.ns_tuple (ok_Board_eq T) (hr.mono (by decide)) T.b_Board_eq passL (c_var 3) (c_make T.mk_Board (ok_Board_init T) (hr.mono (by decide)) rfl T.m_Board T.b_Board_init (passM tk_of) (ca_cons (c_var 8) ca_nil))) (g_cmp (xEq rfl hr) (c_var 7) (c_var 8))) (cw_or1 (c_tOwnV rfl T.eq_s T.eq_f T.ns_int T.ns_tuple (ok_Board_eq T) (hr.mono (by decide)) T.b_Board_eq passL (c_var 3) c_int)))) (cs_one (cs_ret c_bl)) cs_nil) (cs_cons (cs_set (i := 4) sc_law.nd rfl (by first | exact Or.inl rfl | exact Or.inr rfl) (c_callF (ok_law_odd_cells T) (hr.mono (by decide)) rfl T.m_law_odd_cells T.k_law_odd_cells T.b_law_odd_cells (passD tk_of) (ca_cons (c_var 1) (ca_cons (c_var 7) ca_nil)))) (cs_cons (cs_if (g_tcmp (xNe rfl hr) (c_err (k := 6) T.F_law_error T.b_law_error sc_law_error rfl (Or.inl rfl) T.m_law_error T.k_law_error (fun cdg q => ok_err T rfl rfl rfl rfl) M (hr.mono (by decide)) rfl (LamX.lamS_by (sc := defScope s_law) (by decide +kernel)) (fun Ar2 outer2 s2 H2 E2 f2 c2 hr => (c_make T.mk_Board (ok_Board_init T) (hr.mono (by decide)) rfl T.m_Board T.b_Board_init (passM tk_lam) (ca_cons (c_var 4) ca_nil)))) c_str) (cs_one (cs_ret c_bl)) cs_nil) (cs_cons (cs_set (i := 5) sc_law.nd rfl (by first | exact Or.inl rfl | exact Or.inr rfl) (g_ix rfl (c_lst (ca_cons c_non (ca_cons (c_var 7) (ca_cons c_int (ca_cons c_str (ca_cons (c_lst (ca_cons (c_var 7) ca_nil)) (ca_cons (c_dnew false) (ca_cons c_bl ca_nil)))))))) (c_callF (ok_law_taken T) (hr.mono (by decide)) rfl T.m_law_taken T.k_law_taken T.b_law_taken (passD tk_of) (ca_cons (c_var 1) (ca_cons c_int ca_nil))))) (cs_cons (cs_set (i := 6) sc_law.nd rfl (by first | exact Or.inl rfl | exact Or.inr rfl) (c_lst (ca_cons (c_lam0 M (lamP_by (N := ["_law_script", "_law_row", "_law_turn", "_law_board", "_law_odd", "_law_bad", "_law_works", "_law_cells_here", "_law_other"]) (sc := defScope s_law) (ow := []) (by decide +kernel)) rfl rfl rfl) (ca_cons (c_lam1 M (lamP_by (N := ["_law_script", "_law_row", "_law_turn", "_law_board", "_law_odd", "_law_bad", "_law_works", "_law_cells_here", "_law_other"]) (sc := defScope s_law) (ow := ["_law_a"]) (by decide +kernel)) rfl rfl) (ca_cons (c_lam1 M (lamP_by (N := ["_law_script", "_law_row", "_law_turn", "_law_board", "_law_odd", "_law_bad", "_law_works", "_law_cells_here", "_law_other"]) (sc := defScope s_law) (ow := ["_law_b"]) (by decide +kernel)) rfl rfl) ca_nil))))) (cs_cons (cs_set (i := 6) sc_law.nd rfl (by first | exact Or.inl rfl | exact Or.inr rfl) (g_bin (xAdd rfl) (c_var 6) (c_lst (ca_cons (c_lam0 M (lamP_by (N := ["_law_script", "_law_row", "_law_turn", "_law_board", "_law_odd", "_law_bad", "_law_works", "_law_cells_here", "_law_other"]) (sc := defScope s_law) (ow := []) (by decide +kernel)) rfl rfl rfl) (ca_cons (c_lam1 M (lamP_by (N := ["_law_script", "_law_row", "_law_turn", "_law_board", "_law_odd", "_law_bad", "_law_works", "_law_cells_here", "_law_other"]) (sc := defScope s_law) (ow := ["_law_a"]) (by decide +kernel)) rfl rfl) ca_nil))))) (cs_cons (cs_set (i := 6) sc_law.nd rfl (by first | exact Or.inl rfl | exact Or.inr rfl) (g_bin (xAdd rfl) (c_var 6) (c_lst (ca_cons (c_lam0 M (lamP_by (N := ["_law_script", "_law_row", "_law_turn", "_law_board", "_law_odd", "_law_bad", "_law_works", "_law_cells_here", "_law_other"]) (sc := defScope s_law) (ow := []) (by decide +kernel)) rfl rfl rfl) (ca_cons (c_lam1 M (lamP_by (N := ["_law_script", "_law_row", "_law_turn", "_law_board", "_law_odd", "_law_bad", "_law_works", "_law_cells_here", "_law_other"]) (sc := defScope s_law) (ow := ["_law_a"]) (by decide +kernel)) rfl rfl) ca_nil))))) (cs_cons (cs_set (i := 6) sc_law.nd rfl (by first | exact Or.inl rfl | exact Or.inr rfl) (g_bin (xAdd rfl) (c_var 6) (c_lst (ca_cons (c_lam0 M (lamP_by (N := ["_law_script", "_law_row", "_law_turn", "_law_board", "_law_odd", "_law_bad", "_law_works", "_law_cells_here", "_law_other"]) (sc := defScope s_law) (ow := []) (by decide +kernel)) rfl rfl rfl) (ca_cons (c_lam1 M (lamP_by (N := ["_law_script", "_law_row", "_law_turn", "_law_board", "_law_odd", "_law_bad", "_law_works", "_law_cells_here", "_law_other"]) (sc := defScope s_law) (ow := ["_law_a"]) (by decide +kernel)) rfl rfl) ca_nil))))) (cs_one (cs_if (g_tcmp (xNe rfl hr) (c_errL (k := 12) (bs := lamBs _ A) T.F_law_error T.b_law_error sc_law_error rfl (Or.inl rfl) T.m_law_error T.k_law_error (fun cdg q => ok_err T rfl rfl rfl rfl) (hr.mono (by decide)) rfl (g_ix rfl (c_var 6) (c_callF (ok_law_taken T) (hr.mono (by decide)) rfl T.m_law_taken T.k_law_taken T.b_law_taken (passD tk_of) (ca_cons (c_var 1) (ca_cons c_int ca_nil)))) (fun i cb h => ⟨match i, h with | 0, h => by cases h; exact ⟨_, _, _, [], false, rfl, rfl, rfl, lamP_by (N := ["_law_script", "_law_row", "_law_turn", "_law_board", "_law_odd", "_law_bad", "_law_works", "_law_cells_here", "_law_other"]) (sc := defScope s_law) (by decide +kernel), .no rfl (fun _ _ _ _ => rfl), fun Ar2 outer2 s2 H2 E2 f2 c2 hr => (c_callF (ok_steps T) (hr.mono (by decide)) rfl T.m_steps T.k_steps T.b_steps (passD tk_lam) (ca_cons (c_var 5) ca_nil))⟩ | 1, h => by cases h; exact ⟨_, _, _, ["_law_a"], true, rfl, rfl, rfl, lamP_by (N := ["_law_script", "_law_row", "_law_turn", "_law_board", "_law_odd", "_law_bad", "_law_works", "_law_cells_here", "_law_other"]) (sc := defScope s_law) (by decide +kernel), .yes rfl (fun _ _ _ _ _ => ⟨_, rfl, fun _ => rfl⟩), fun Ar2 outer2 s2 H2 E2 f2 c2 hr => (c_callF (ok_flipped T) (hr.mono (by decide)) rfl T.m_flipped T.k_flipped T.b_flipped (passD tk_lam) (ca_cons (c_var 5) ca_nil))⟩ | 2, h => by cases h; exact ⟨_, _, _, ["_law_b"], true, rfl, rfl, rfl, lamP_by (N := ["_law_script", "_law_row", "_law_turn", "_law_board", "_law_odd", "_law_bad", "_law_works", "_law_cells_here", "_law_other"]) (sc := defScope s_law) (by decide +kernel), .yes rfl (fun _ _ _ _ _ => ⟨_, rfl, fun _ => rfl⟩), fun Ar2 outer2 s2 H2 E2 f2 c2 hr => (c_callF (ok_closed_lots T) (hr.mono (by decide)) rfl T.m_closed_lots T.k_closed_lots T.b_closed_lots (passD tk_lam) (ca_cons (c_var 5) ca_nil))⟩ | 3, h => by cases h; exact ⟨_, _, _, [], false, rfl, rfl, rfl, lamP_by (N := ["_law_script", "_law_row", "_law_turn", "_law_board", "_law_odd", "_law_bad", "_law_works", "_law_cells_here", "_law_other"]) (sc := defScope s_law) (by decide +kernel), .no rfl (fun _ _ _ _ => rfl), fun Ar2 outer2 s2 H2 E2 f2 c2 hr => (c_callF (ok_verdict T) (hr.mono (by decide)) rfl T.m_verdict T.k_verdict T.b_verdict (passD tk_lam) (ca_cons (c_var 5) ca_nil))⟩ | 4, h => by cases h; exact ⟨_, _, _, ["_law_a"], true, rfl, rfl, rfl, lamP_by (N := ["_law_script", "_law_row", "_law_turn", "_law_board", "_law_odd", "_law_bad", "_law_works", "_law_cells_here", "_law_other"]) (sc := defScope s_law) (by decide +kernel), .yes rfl (fun _ _ _ _ _ => ⟨_, rfl, fun _ => rfl⟩), fun Ar2 outer2 s2 H2 E2 f2 c2 hr => (c_callF (ok_with_cell T) (hr.mono (by decide)) rfl T.m_with_cell T.k_with_cell T.b_with_cell (passD tk_lam) (ca_cons (c_var 5) (ca_cons c_non (ca_cons c_non (ca_cons c_non ca_nil)))))⟩ | 5, h => by cases h; exact ⟨_, _, _, [], false, rfl, rfl, rfl, lamP_by (N := ["_law_script", "_law_row", "_law_turn", "_law_board", "_law_odd", "_law_bad", "_law_works", "_law_cells_here", "_law_other"]) (sc := defScope s_law) (by decide +kernel), .no rfl (fun _ _ _ _ => rfl), fun Ar2 outer2 s2 H2 E2 f2 c2 hr => (c_callF (ok_leads T) (hr.mono (by decide)) rfl T.m_leads T.k_leads T.b_leads (passD tk_lam) (ca_cons (c_var 5) (ca_cons c_non (ca_cons c_non ca_nil))))⟩ | 6, h => by cases h; exact ⟨_, _, _, ["_law_a"], true, rfl, rfl, rfl, lamP_by (N := ["_law_script", "_law_row", "_law_turn", "_law_board", "_law_odd", "_law_bad", "_law_works", "_law_cells_here", "_law_other"]) (sc := defScope s_law) (by decide +kernel), .yes rfl (fun _ _ _ _ _ => ⟨_, rfl, fun _ => rfl⟩), fun Ar2 outer2 s2 H2 E2 f2 c2 hr => (c_callF (ok_least_closed T) (hr.mono (by decide)) rfl T.m_least_closed T.k_least_closed T.b_least_closed (passD tk_lam) (ca_cons (c_var 5) (ca_cons c_non ca_nil)))⟩ | 7, h => by cases h; exact ⟨_, _, _, [], false, rfl, rfl, rfl, lamP_by (N := ["_law_script", "_law_row", "_law_turn", "_law_board", "_law_odd", "_law_bad", "_law_works", "_law_cells_here", "_law_other"]) (sc := defScope s_law) (by decide +kernel), .no rfl (fun _ _ _ _ => rfl), fun Ar2 outer2 s2 H2 E2 f2 c2 hr => (c_callF (ok_as_load T) (hr.mono (by decide)) rfl T.m_as_load T.k_as_load T.b_as_load (passD tk_lam) (ca_cons (c_var 5) (ca_cons c_non ca_nil)))⟩ | 8, h => by cases h; exact ⟨_, _, _, ["_law_a"], true, rfl, rfl, rfl, lamP_by (N := ["_law_script", "_law_row", "_law_turn", "_law_board", "_law_odd", "_law_bad", "_law_works", "_law_cells_here", "_law_other"]) (sc := defScope s_law) (by decide +kernel), .yes rfl (fun _ _ _ _ _ => ⟨_, rfl, fun _ => rfl⟩), fun Ar2 outer2 s2 H2 E2 f2 c2 hr => (c_callF (ok_is_motion T) (hr.mono (by decide)) rfl T.m_is_motion T.k_is_motion T.b_is_motion (passD tk_lam) (ca_cons (c_var 5) (ca_cons c_int ca_nil)))⟩ | n + 9, h => by cases h⟩)) c_str) (cs_one (cs_ret c_bl)) cs_nil))))))))))))))) (cs_one (cs_ret c_bl)))) pure
end
end K00

/-! ## S4 -/
namespace K00
open PySem PySem.Spec PyProof.Rows L2 WF TL PM
variable {A : Ad} {Γ : Gam} {δ : List Slot} {ρ : WF.Row}
def Has (δ : List Slot) (j : Nat) (d : D) : Prop := ∃ b, δ[j]? = some (some (b, d))
theorem Has.var {j : Nat} {d : D} (h : Has δ j d) : eVar j δ ρ = .ok d (imm d) ρ := (let ⟨_, e⟩ := h; var_ok e)
theorem Has.set {i j : Nat} {d : D} {s : Slot} (h : Has δ j d) (n : i ≠ j) : Has (δ.set i s) j d := by
  obtain ⟨b, e⟩ := h
  exact ⟨b, by rw [List.getElem?_set_ne n]; exact e⟩
theorem Has.here {i : Nat} {d : D} {b : Bool} (h : i < δ.length) : Has (δ.set i (some (b, d))) i d := ⟨b, by rw [List.getElem?_set_self h]⟩
theorem Has.put {i j : Nat} {d d' : D} {fr : Bool} (h : Has δ j d) (n : i ≠ j) : Has (WF.put i d' fr δ) j d := by
  obtain ⟨b, e⟩ := h
  unfold WF.put
  cases fr with
  | true => exact ⟨b, by rw [if_pos rfl, List.getElem?_set_ne n]; exact e⟩
  | false =>
    refine ⟨false, ?_⟩
    rw [if_neg Bool.false_ne_true, List.getElem?_set_ne n]
    unfold freeze
    rw [List.getElem?_map, e]
    rfl
theorem lenP {i : Nat} {d : D} {fr : Bool} : (WF.put i d fr δ).length = δ.length := by
  unfold WF.put
  cases fr with
  | true => rw [if_pos rfl, List.length_set]
  | false => rw [if_neg Bool.false_ne_true, List.length_set]; unfold freeze; rw [List.length_map]
theorem Has.new {i : Nat} {d : D} {fr : Bool} (h : i < δ.length) : Has (WF.put i d fr δ) i d := by
  unfold WF.put
  cases fr with
  | true => exact ⟨true, by rw [if_pos rfl, List.getElem?_set_self h]⟩
  | false => exact ⟨false, by rw [if_neg Bool.false_ne_true, List.getElem?_set_self (by unfold freeze; rw [List.length_map]; exact h)]⟩
theorem callH1 {F : Fn} {i : Nat} {d r : D} {f : Bool} {ρ1 : WF.Row} (h : Has δ i d) (e : F [d] ρ = .ok r f ρ1) : eCallF F (aCons (eVar i) aNil) δ ρ = .ok r f ρ1 := callF_d (cons_ok h.var nil_ok) e
theorem drawE {n : Int} {i : Nat} {e : CE} {f : Bool} (h : Has δ i .row) (he : e δ ρ = .ok (.int n) f ρ) (hi : 0 ≤ ρ.i) (hn : 1 ≤ n) (hn2 : n < 1073741824) : ∃ v f3 ρ2, eCallF (f_law_taken Γ A) (aCons (eVar i) (aCons e aNil)) δ ρ = .ok (.int v) f3 ρ2 ∧ 0 ≤ v ∧ v < n ∧ 0 ≤ ρ2.i :=
  draw (cons_ok h.var (cons_ok he nil_ok)) hi hn hn2
/-! ### a plain thing is equal to itself -/
mutual
theorem eqv_self : ∀ p : PyData, p.canLay0 = true → PyData.eqv p p = true
  | .none, _ => rfl
  | .bool v, _ => by simp [PyData.eqv]
  | .int n, _ => by simp [PyData.eqv]
  | .str s, _ => by simp [PyData.eqv]
  | .list xs, h => by rw [PyData.eqv]; exact eqvAll_self xs h
  | .tuple xs, h => by rw [PyData.eqv]; exact eqvAll_self xs h
  | .dict _, h => by cases h
theorem eqvAll_self : ∀ ps : List PyData, PyData.canLayAll0 ps = true → PyData.eqvAll ps ps = true
  | [], _ => by rw [PyData.eqvAll]
  | p :: ps, h => by
    rw [PyData.canLayAll0, Bool.and_eq_true] at h
    rw [PyData.eqvAll, eqv_self p h.1, eqvAll_self ps h.2]
    rfl
end
theorem ne_self {d : D} {p : PyData} (h : py d = some p) (hs : SeqAt.shaped p = true) : fNe d d = some (.bl false, true) := by
  unfold fNe
  rw [h]
  dsimp only
  rw [hs, if_pos (show (true && true) = true from rfl), eqv_self p (SeqAt.canLay_of_shaped hs)]
  rfl
theorem eq_self' {d : D} {p : PyData} (h : py d = some p) (hs : SeqAt.shaped p = true) : fEq d d = some (.bl true, true) := by
  unfold fEq
  rw [h]
  dsimp only
  rw [hs, if_pos (show (true && true) = true from rfl), eqv_self p (SeqAt.canLay_of_shaped hs)]
theorem lay_all : ∀ {ps : List PyData}, (∀ p ∈ ps, p.canLay0 = true) → PyData.canLayAll0 ps = true
  | [], _ => rfl
  | p :: ps, h => by rw [PyData.canLayAll0, h p List.mem_cons_self, lay_all fun q hq => h q (List.mem_cons_of_mem _ hq)]; rfl
theorem dep_all {n : Nat} : ∀ {ps : List PyData}, (∀ p ∈ ps, p.depth ≤ n) → PyData.depthAll ps ≤ n
  | [], _ => by rw [PyData.depthAll]; exact Nat.zero_le _
  | p :: ps, h => by
    rw [PyData.depthAll]
    exact Nat.max_le.mpr ⟨h p List.mem_cons_self, dep_all fun q hq => h q (List.mem_cons_of_mem _ hq)⟩
theorem shaped_all {ps : List PyData} (h1 : ∀ p ∈ ps, p.canLay0 = true) (h2 : ∀ p ∈ ps, p.depth ≤ 5) : SeqAt.shaped (.list ps) = true ∧ SeqAt.shaped (.tuple ps) = true := by
  have e1 := lay_all h1
  have e2 := dep_all h2
  unfold SeqAt.shaped
  rw [PyData.canLay0, PyData.canLay0, PyData.depth, PyData.depth, e1]
  simp only [Bool.true_and, decide_eq_true_eq]
  omega
theorem pyAll_map {α : Type} {f : α → D} {g : α → PyData} : ∀ {L : List α}, (∀ a ∈ L, py (f a) = some (g a)) → pyAll (L.map f) = some (L.map g)
  | [], _ => rfl
  | a :: L, h => by
    rw [List.map_cons, pyAll, h a List.mem_cons_self, pyAll_map fun b hb => h b (List.mem_cons_of_mem _ hb)]
    rfl
theorem sg_small {k : Nat} (h : k ∈ tl sg) : k < 1114112 := by
  have : tl sg = [46, 60, 62, 120] := by rfl
  rw [this] at h
  simp at h
  omega
theorem strOk_line {c : Int} {s : Str} (h : Line c sg s) : (PyData.str s).canLay0 = true := by
  show s.cps.all (· < 0x110000) = true
  rw [← Array.all_toList]
  refine List.all_eq_true.mpr fun k hk => decide_eq_true (sg_small (h.2 k hk))
theorem py_strs (ss : List Str) : py (.tup (ss.map D.str)) = some (.tuple (ss.map PyData.str)) := by rw [py, pyAll_map (g := PyData.str) fun s _ => rfl]
theorem shaped_cells {m c : Int} {ss : List Str} (h : Cells m ss c) : SeqAt.shaped (.tuple (ss.map PyData.str)) = true := by
  refine (shaped_all (fun p hp => ?_) fun p hp => ?_).2
  · obtain ⟨s, hs, rfl⟩ := List.mem_map.mp hp
    exact strOk_line (h.ln s hs)
  · obtain ⟨s, hs, rfl⟩ := List.mem_map.mp hp
    simp [PyData.depth]
theorem ne_cells {m c : Int} {ss : List Str} (h : Cells m ss c) : fNe (.tup (ss.map D.str)) (.tup (ss.map D.str)) = some (.bl false, true) := ne_self (py_strs ss) (shaped_cells h)
theorem eq_cells {m c : Int} {ss : List Str} (h : Cells m ss c) : fEq (.tup (ss.map D.str)) (.tup (ss.map D.str)) = some (.bl true, true) := eq_self' (py_strs ss) (shaped_cells h)
theorem imm_bd2 (ss : List Str) (n : Nat) : immAll [D.tup (ss.map D.str), D.tup (intsD 0 n)] = true := by
  rw [immAll, immAll, immAll, imm, imm, imm_strs, intsD_imm]; rfl
/-! ### columns -/
theorem prop_cols {m c : Int} {ss : List Str} {n : Nat} {e : CE} {f : Bool} (h : Cells m ss c) (hm : m ≤ 5) (he : e δ ρ = .ok (bd ss n) f ρ) : eProp 0 (f_Board_columns Γ A) e δ ρ = .ok (.int c) true ρ := by
  obtain ⟨s0, ss', rfl⟩ : ∃ s0 ss', ss = s0 :: ss' := by
    cases ss with
    | nil => have := h.r1; cases this
    | cons a b => exact ⟨a, b, rfl⟩
  have l0 := (h.ln s0 List.mem_cons_self).1
  have c2 := h.c2
  let δ0 : List Slot := [some (false, bd (s0 :: ss') n)]
  have v0 : eFld 0 0 (eVar 0) δ0 ρ = .ok (.tup ((s0 :: ss').map D.str)) (imm (.tup ((s0 :: ss').map D.str))) ρ := rfl
  have a2 : eBin (orF fIx (fIxR Γ)) (eFld 0 0 (eVar 0)) (eC (.int 0)) δ0 ρ = .ok (.str s0) true ρ := bin_ok v0 rfl (ix_tup (d := .str s0) (by rw [atI_nat' (by decide) (by rw [List.length_map, List.length_cons]; omega)]; rfl))
  have a3 : eCall (fLen Γ) (aCons (eBin (orF fIx (fIxR Γ)) (eFld 0 0 (eVar 0)) (eC (.int 0))) aNil) δ0 ρ = .ok (.int c) true ρ := by
    unfold eCall
    rw [cons_ok a2 nil_ok]
    have : fLen Γ [.str s0] = some (.int c, true) := by
      unfold fLen
      dsimp only
      rw [len_tl, l0]
      try rw [if_pos (by omega)]
    dsimp only
    rw [this]
  have g : f_Board_columns Γ A [bd (s0 :: ss') n] ρ = .ok (.int c) true ρ := fn_rt rfl (ret_ok a3)
  unfold eProp
  rw [he]
  unfold bd at g ⊢
  dsimp only
  rw [if_pos rfl, g]
  rfl
theorem prop_rowsE {ss : List Str} {n : Nat} {e : CE} {f : Bool} (he : e δ ρ = .ok (bd ss n) f ρ) : eProp 0 (f_Board_rows Γ A) e δ ρ = .ok (.int ss.length) true ρ := by
  have g : f_Board_rows Γ A [bd ss n] ρ = .ok (.int ss.length) true ρ := fn_rt rfl (ret_ok (by
    show RE.ok (.int ((ss.map D.str).length : Nat)) true ρ = _
    rw [List.length_map]))
  unfold eProp
  rw [he]
  unfold bd at g ⊢
  dsimp only
  rw [if_pos rfl, g]
  rfl
theorem prop_cellsE {ss : List Str} {n : Nat} {e : CE} {f : Bool} (he : e δ ρ = .ok (bd ss n) f ρ) : eProp 0 (f_Board_cells Γ A) e δ ρ = .ok (.tup (ss.map D.str)) true ρ := by
  have g : f_Board_cells Γ A [bd ss n] ρ = .ok (.tup (ss.map D.str)) true ρ := fn_rt rfl (ret_ok (by
    show RE.ok (.tup (ss.map D.str)) (imm (.tup (ss.map D.str))) ρ = _
    rw [imm, imm_strs]))
  unfold eProp
  rw [he]
  unfold bd at g ⊢
  dsimp only
  rw [if_pos rfl, g]
  rfl
/-! ### cells compared -/
theorem eqvA_strs : ∀ x y : List Str, PyData.eqvAll (x.map PyData.str) (y.map PyData.str) = decide (x = y)
  | [], [] => rfl
  | [], _ :: _ => rfl
  | _ :: _, [] => rfl
  | a :: x, b :: y => by
    show (PyData.eqv (.str a) (.str b) && PyData.eqvAll (x.map PyData.str) (y.map PyData.str)) = _
    rw [eqvA_strs x y]
    have : PyData.eqv (.str a) (.str b) = decide (a = b) := by
      rw [PyData.eqv]
      by_cases h : a = b
      · subst h; simp
      · rw [decide_eq_false h]; simpa using h
    rw [this]
    by_cases h : a = b <;> by_cases h2 : x = y <;> simp [h, h2]
theorem eq_strs {m m' c c' : Int} {x y : List Str} (h : Cells m x c) (h2 : Cells m' y c') : fEq (.tup (x.map D.str)) (.tup (y.map D.str)) = some (.bl (decide (x = y)), true) := by
  unfold fEq
  rw [py_strs, py_strs]
  dsimp only
  rw [shaped_cells h, shaped_cells h2, if_pos (show (true && true) = true from rfl), PyData.eqv, eqvA_strs]
theorem board_eq {m m' c c' : Int} {x y : List Str} {n n' : Nat} (h : Cells m x c) (h2 : Cells m' y c') : f_Board_eq Γ A [bd x n, bd y n'] ρ = .ok (.bl (decide (x = y))) true ρ := by
  let δ0 : List Slot := [some (false, bd x n), some (false, bd y n')]
  have a1 : eCall (fIsC 0) (aCons (eVar 1) (aCons (eC (.cls 0)) aNil)) δ0 ρ = .ok (.bl true) true ρ := rfl
  have a2 : eFld 0 0 (eVar 0) δ0 ρ = .ok (.tup (x.map D.str)) (imm (.tup (x.map D.str))) ρ := rfl
  have a3 : eFld 0 0 (eVar 1) δ0 ρ = .ok (.tup (y.map D.str)) (imm (.tup (y.map D.str))) ρ := rfl
  have g : p_Board_eq Γ A δ0 ρ = .rt (.bl (decide (x = y))) true ρ := by
    unfold p_Board_eq
    exact ret_ok ((and_t a1).trans (bin_ok (f := fEq) a2 a3 (eq_strs h h2)))
  exact fn_rt rfl g
theorem board_ne_tup {x : List Str} {n : Nat} {ds : List D} : f_Board_eq Γ A [bd x n, .tup ds] ρ = .ok (.bl false) true ρ := rfl
theorem board_ne_int {x : List Str} {n : Nat} {i : Int} : f_Board_eq Γ A [bd x n, .int i] ρ = .ok (.bl false) true ρ := rfl
theorem ownV_ok {F : Fn} {ca cb : CE} {x : List Str} {n : Nat} {d : D} {t f1 f2 : Bool} {ρ1 ρ2 : WF.Row} (h1 : ca δ ρ = .ok (bd x n) f1 ρ1) (h2 : cb δ ρ1 = .ok d f2 ρ2) (hs : eqSide 0 d = true) (h : F [bd x n, d] ρ2 = .ok (.bl t) true ρ2) : eOwnV 0 F ca cb δ ρ = .ok (.bl t) true ρ2 := by
  unfold eOwnV
  rw [h1]
  unfold bd at h ⊢
  dsimp only
  rw [if_pos rfl, h2]
  dsimp only
  rw [if_pos hs, h]
/-! ### nine lambdas, seven values that are no board -/
def badL (ss : List Str) : List D := [.non, .tup (ss.map D.str), .int 0, .str "board", .lst [.tup (ss.map D.str)], .dct false [] [], .bl true]
theorem lams_er {ss : List Str} {d : D} (hd : d ∈ badL ss) (h : Has δ 5 d) : ∀ cb ∈ lamBs Γ A, cb δ ρ = .er 2 ρ := fun cb hc => by
  have v : ∀ {ρ}, eVar 5 δ ρ = .ok d (imm d) ρ := h.var
  have n0 : ∀ {ρ}, eC .non δ ρ = .ok .non true ρ := rfl
  have z0 : ∀ {ρ}, eC (.int 0) δ ρ = .ok (.int 0) true ρ := rfl
  have go : ∀ {F : Fn} {r : CA} {ds : List D} {f : Bool}, r δ ρ = .ok ds f ρ → F ds ρ = .er 2 ρ → eCallF F r δ ρ = .er 2 ρ := fun h1 h2 => by unfold eCallF; rw [h1]; dsimp only; rw [h2]
  unfold badL at hd
  unfold lamBs at hc
  simp only [List.mem_cons, List.not_mem_nil, or_false] at hd hc
  rcases hc with rfl | rfl | rfl | rfl | rfl | rfl | rfl | rfl | rfl
  · exact go (cons_ok v nil_ok) (by rcases hd with rfl | rfl | rfl | rfl | rfl | rfl | rfl <;> rfl)
  · exact go (cons_ok v nil_ok) (by rcases hd with rfl | rfl | rfl | rfl | rfl | rfl | rfl <;> rfl)
  · exact go (cons_ok v nil_ok) (by rcases hd with rfl | rfl | rfl | rfl | rfl | rfl | rfl <;> rfl)
  · exact go (cons_ok v nil_ok) (by rcases hd with rfl | rfl | rfl | rfl | rfl | rfl | rfl <;> rfl)
  · exact go (cons_ok v (cons_ok n0 (cons_ok n0 (cons_ok n0 nil_ok)))) (by rcases hd with rfl | rfl | rfl | rfl | rfl | rfl | rfl <;> rfl)
  · exact go (cons_ok v (cons_ok n0 (cons_ok n0 nil_ok))) (by rcases hd with rfl | rfl | rfl | rfl | rfl | rfl | rfl <;> rfl)
  · exact go (cons_ok v (cons_ok n0 nil_ok)) (by rcases hd with rfl | rfl | rfl | rfl | rfl | rfl | rfl <;> rfl)
  · exact go (cons_ok v (cons_ok n0 nil_ok)) (by rcases hd with rfl | rfl | rfl | rfl | rfl | rfl | rfl <;> rfl)
  · exact go (cons_ok v (cons_ok z0 nil_ok)) (by rcases hd with rfl | rfl | rfl | rfl | rfl | rfl | rfl <;> rfl)
end K00

/-! ## S5 -/
namespace K00
open PySem PySem.Spec PyProof.Rows L2 WF TL PM
variable {A : Ad} {Γ : Gam} {δ : List Slot} {ρ : WF.Row}
theorem num_eq {i j : Int} (h : i = j) : fNe (.int i) (.int j) = some (.bl false, true) := by
  rw [ne_intD, decide_eq_false (fun n => n h)]
abbrev ifA (Γ : Gam) (A : Ad) : CS := sIf (bOr (bB (eBin fNe (eProp 0 (f_Board_cells Γ A) (eVar 3)) (eVar 7))) (bOr (bB (eBin fNe (eProp 0 (f_Board_rows Γ A) (eVar 3)) (eLenX Γ 0 (f_Board_len Γ A) (aCons (eVar 7) aNil)))) (bB (eBin fNe (eProp 0 (f_Board_columns Γ A) (eVar 3)) (eLenX Γ 0 (f_Board_len Γ A) (aCons (eBin (orF fIx (fIxR Γ)) (eVar 7) (eC (.int 0))) aNil)))))) (sRet (eC (.bl false))) sNil
abbrev ifB (Γ : Gam) (A : Ad) : CS := sIf (bOr (bB (eBin fNe (eLenX Γ 0 (f_Board_len Γ A) (aCons (eVar 3) aNil)) (eCallF (f_law_many Γ A) (aCons (eVar 7) aNil)))) (bOr (bNot (bB (eOwnV 0 (f_Board_eq Γ A) (eVar 3) (eMake 0 (i_Board Γ A) (aCons (eVar 7) aNil))))) (bB (eOwnV 0 (f_Board_eq Γ A) (eVar 3) (eVar 7))))) (sRet (eC (.bl false))) sNil
abbrev ifC (Γ : Gam) (A : Ad) : CS := sIf (bOr (bB (eBin fNe (eOwnV 0 (f_Board_eq Γ A) (eVar 3) (eMake 0 (i_Board Γ A) (aCons (eVar 8) aNil))) (eBin fEq (eVar 7) (eVar 8)))) (bB (eOwnV 0 (f_Board_eq Γ A) (eVar 3) (eC (.int 0))))) (sRet (eC (.bl false))) sNil
abbrev ifD (Γ : Gam) (A : Ad) : CS := sIf (bB (eBin fNe (eErr wordsE (eMake 0 (i_Board Γ A) (aCons (eVar 4) aNil))) (eC (.str "cells")))) (sRet (eC (.bl false))) sNil
abbrev ifE (Γ : Gam) (A : Ad) : CS := sIf (bB (eBin fNe (eErrL wordsE (lamBs Γ A) (eBin (orF fIx (fIxR Γ)) (eVar 6) (eCallF (f_law_taken Γ A) (aCons (eVar 1) (aCons (eC (.int 9)) aNil))))) (eC (.str "board")))) (sRet (eC (.bl false))) sNil
abbrev setB (Γ : Gam) (A : Ad) : CS := sSet 5 (eBin (orF fIx (fIxR Γ)) (eLst (aCons (eC .non) (aCons (eVar 7) (aCons (eC (.int 0)) (aCons (eC (.str "board")) (aCons (eLst (aCons (eVar 7) aNil)) (aCons (eDnew false) (aCons (eC (.bl true)) aNil)))))))) (eCallF (f_law_taken Γ A) (aCons (eVar 1) (aCons (eC (.int 7)) aNil))))
abbrev setW : CS := sSeq (sSet 6 (eLst (aCons (eLam 0) (aCons (eLam 1) (aCons (eLam 2) aNil))))) (sSeq (sSet 6 (eBin fAdd (eVar 6) (eLst (aCons (eLam 3) (aCons (eLam 4) aNil))))) (sSeq (sSet 6 (eBin fAdd (eVar 6) (eLst (aCons (eLam 5) (aCons (eLam 6) aNil))))) (sSet 6 (eBin fAdd (eVar 6) (eLst (aCons (eLam 7) (aCons (eLam 8) aNil)))))))
def bTurnL (Γ : Gam) (A : Ad) : CS := sSeq (sPar 7 8 (aCons (eCallF (f_law_cells Γ A) (aCons (eVar 1) (aCons (eC (.int 5)) aNil))) (aCons (eCallF (f_law_cells Γ A) (aCons (eVar 1) (aCons (eC (.int 5)) aNil))) aNil))) (sSeq (sSet 3 (eMake 0 (i_Board Γ A) (aCons (eVar 7) aNil))) (sSeq (ifA Γ A) (sSeq (ifB Γ A) (sSeq (ifC Γ A) (sSeq (sSet 4 (eCallF (f_law_odd_cells Γ A) (aCons (eVar 1) (aCons (eVar 7) aNil)))) (sSeq (ifD Γ A) (sSeq (setB Γ A) (sSeq (sSet 6 (eLst (aCons (eLam 0) (aCons (eLam 1) (aCons (eLam 2) aNil))))) (sSeq (sSet 6 (eBin fAdd (eVar 6) (eLst (aCons (eLam 3) (aCons (eLam 4) aNil))))) (sSeq (sSet 6 (eBin fAdd (eVar 6) (eLst (aCons (eLam 5) (aCons (eLam 6) aNil))))) (sSeq (sSet 6 (eBin fAdd (eVar 6) (eLst (aCons (eLam 7) (aCons (eLam 8) aNil))))) (ifE Γ A))))))))))))
section
variable {x y : List Str} {c c' : Int}
theorem if_A (hx : Cells 5 x c) {n : Nat} (h3 : Has δ 3 (bd x n)) (h7 : Has δ 7 (.tup (x.map D.str))) : ifA Γ A δ ρ = .nx δ ρ := by
  obtain ⟨s0, L, rfl⟩ : ∃ s0 L, x = s0 :: L := by
    cases x with
    | nil => have := hx.r1; cases this
    | cons a b => exact ⟨a, b, rfl⟩
  have l0 := (hx.ln s0 List.mem_cons_self).1
  have c2 := hx.c2
  have t1 := bB_ok (bin_ok (f := fNe) (prop_cellsE (A := A) (Γ := Γ) (ρ := ρ) h3.var) h7.var (ne_cells hx))
  have t2 := bB_ok (bin_ok (f := fNe) (prop_rowsE (A := A) (Γ := Γ) (ρ := ρ) h3.var) (len_tup (Γ := Γ) (F := f_Board_len Γ A) (cons_ok h7.var nil_ok)) (num_eq (by rw [List.length_map])))
  have ix : eBin (orF fIx (fIxR Γ)) (eVar 7) (eC (.int 0)) δ ρ = .ok (.str s0) true ρ := bin_ok h7.var rfl (ix_tup (d := .str s0) (by rw [atI_nat' (by decide) (by rw [List.length_map, List.length_cons]; omega)]; rfl))
  have t3 := bB_ok (bin_ok (f := fNe) (prop_cols (A := A) (Γ := Γ) (ρ := ρ) hx (by decide) h3.var) (len_str (Γ := Γ) (F := f_Board_len Γ A) (cons_ok ix nil_ok) (by rw [len_tl]; omega)) (num_eq (by rw [len_tl, l0])))
  exact if_go ((or_f t1).trans ((or_f t2).trans t3))
theorem if_B (hx : Cells 5 x c) (h3 : Has δ 3 (bd x (many x c))) (h7 : Has δ 7 (.tup (x.map D.str))) : ifB Γ A δ ρ = .nx δ ρ := by
  have hm := many_le hx (by decide)
  obtain ⟨b7, e7⟩ := id h7
  have t1 := bB_ok (bin_ok (f := fNe) (len_bd (A := A) (Γ := Γ) (cons_ok (h3.var (ρ := ρ)) nil_ok) (by omega)) (callH1 h7 (many_ok (A := A) (Γ := Γ) hx (by decide))) (num_eq rfl))
  have t2 := not_ok (bB_ok (ownV_ok (ρ := ρ) h3.var (make_true (A := A) (Γ := Γ) hx (by decide) e7) rfl (board_eq (A := A) (Γ := Γ) hx hx)))
  rw [decide_eq_true rfl] at t2
  have t3 := bB_ok (ownV_ok (F := f_Board_eq Γ A) (ρ := ρ) h3.var h7.var rfl board_ne_tup)
  exact if_go ((or_f t1).trans ((or_f t2).trans t3))
theorem if_C (hx : Cells 5 x c) (hy : Cells 5 y c') {n : Nat} (h3 : Has δ 3 (bd x n)) (h7 : Has δ 7 (.tup (x.map D.str))) (h8 : Has δ 8 (.tup (y.map D.str))) : ifC Γ A δ ρ = .nx δ ρ := by
  obtain ⟨b8, e8⟩ := id h8
  have t1 := bB_ok (bin_ok (f := fNe) (ownV_ok (ρ := ρ) h3.var (make_true (A := A) (Γ := Γ) hy (by decide) e8) rfl (board_eq (A := A) (Γ := Γ) hx hy)) (bin_ok (f := fEq) h7.var h8.var (eq_strs hx hy)) (ne_bl rfl))
  have t2 := bB_ok (ownV_ok (F := f_Board_eq Γ A) (cb := eC (.int 0)) (ρ := ρ) h3.var rfl rfl board_ne_int)
  exact if_go ((or_f t1).trans t2)
theorem if_D {d : D} (h4 : Has δ 4 d) (hd : NoC Γ A d) : ifD Γ A δ ρ = .nx δ ρ := by
  have e : eErr wordsE (eMake 0 (i_Board Γ A) (aCons (eVar 4) aNil)) δ ρ = .ok (.str "cells") true ρ := by
    have e1 : eMake 0 (i_Board Γ A) (aCons (eVar 4) aNil) δ ρ = .er 3 ρ := by
      unfold eMake
      rw [cons_ok h4.var nil_ok]
      dsimp only
      rw [board_er hd]
    unfold eErr
    rw [e1]
    rfl
  exact if_go (bB_ok (bin_ok (f := fNe) (cb := eC (.str "cells")) e rfl (ne_self (p := .str "cells") rfl (by decide +kernel))))
theorem set_B (h1 : Has δ 1 .row) (h7 : Has δ 7 (.tup (x.map D.str))) (hi : 0 ≤ ρ.i) : ∃ d fr ρ1, setB Γ A δ ρ = .nx (WF.put 5 d fr δ) ρ1 ∧ d ∈ badL x ∧ 0 ≤ ρ1.i := by
  have hl : ∃ fr, eLst (aCons (eC .non) (aCons (eVar 7) (aCons (eC (.int 0)) (aCons (eC (.str "board")) (aCons (eLst (aCons (eVar 7) aNil)) (aCons (eDnew false) (aCons (eC (.bl true)) aNil))))))) δ ρ = .ok (.lst (badL x)) fr ρ := by
    have v := h7.var (ρ := ρ)
    have e5 : ∃ g, eLst (aCons (eVar 7) aNil) δ ρ = .ok (.lst [.tup (x.map D.str)]) g ρ := by
      unfold eLst
      rw [cons_ok v nil_ok]
      exact ⟨_, rfl⟩
    obtain ⟨g, e5⟩ := e5
    have all := cons_ok (rfl : eC .non δ ρ = .ok .non true ρ) (cons_ok v (cons_ok (rfl : eC (.int 0) δ ρ = .ok (.int 0) true ρ) (cons_ok (rfl : eC (.str "board") δ ρ = .ok (.str "board") true ρ) (cons_ok e5 (cons_ok (rfl : eDnew false δ ρ = .ok (.dct false [] []) true ρ) (cons_ok (rfl : eC (.bl true) δ ρ = .ok (.bl true) true ρ) nil_ok))))))
    unfold eLst at all ⊢
    rw [all]
    exact ⟨_, rfl⟩
  obtain ⟨fr, hl⟩ := hl
  have l7 : (badL x).length = 7 := rfl
  obtain ⟨v, f3, ρ2, ev, v0, v7, i2⟩ := drawE (A := A) (Γ := Γ) (n := 7) (e := eC (.int 7)) h1 rfl hi (by decide) (by decide)
  obtain ⟨d, hv⟩ := atI_ok (xs := badL x) v0 (by rw [l7]; omega)
  refine ⟨d, imm d, ρ2, set_ok (bin_ok hl ev (ix_lst hv)), ?_, i2⟩
  rw [atI_nat' v0 (by rw [l7]; omega)] at hv
  exact List.mem_of_getElem? hv
def works : List D := [.lam 0, .lam 1, .lam 2, .lam 3, .lam 4, .lam 5, .lam 6, .lam 7, .lam 8]
theorem add_set {xs ys : List D} {e : CE} {f : Bool} (h : Has δ 6 (.lst xs)) (he : e δ ρ = .ok (.lst ys) f ρ) (hl : xs.length + ys.length ≤ 100000) : ∃ fr, sSet 6 (eBin fAdd (eVar 6) e) δ ρ = .nx (WF.put 6 (.lst (xs ++ ys)) fr δ) ρ := by
  have e1 : fAdd (.lst xs) (.lst ys) = some (.lst (xs ++ ys), immAll (xs ++ ys)) := by
    have : fAddL (.lst xs) (.lst ys) = some (.lst (xs ++ ys), immAll (xs ++ ys)) := by
      unfold fAddL
      dsimp only
      rw [if_pos hl]
    unfold fAdd orF
    rw [show fAddI (.lst xs) (.lst ys) = none from rfl]
    dsimp only
    rw [show fAddS (.lst xs) (.lst ys) = none from rfl]
    dsimp only
    rw [show fAddT (.lst xs) (.lst ys) = none from rfl]
    dsimp only
    rw [this]
  exact ⟨_, set_ok (bin_ok h.var he e1)⟩
theorem if_E {d : D} (hd : d ∈ badL x) (h1 : Has δ 1 .row) (h5 : Has δ 5 d) (h6 : Has δ 6 (.lst works)) (hi : 0 ≤ ρ.i) : ∃ ρ1, ifE Γ A δ ρ = .nx δ ρ1 ∧ 0 ≤ ρ1.i := by
  obtain ⟨v, f3, ρ2, ev, v0, v9, i2⟩ := drawE (A := A) (Γ := Γ) (n := 9) (e := eC (.int 9)) h1 rfl hi (by decide) (by decide)
  refine ⟨ρ2, ?_, i2⟩
  obtain ⟨k, rfl⟩ : ∃ k : Nat, v = k := ⟨v.toNat, by omega⟩
  have hw : atI works (k : Int) = some (.lam k) := by
    rw [atI_nat' v0 (by show (k : Int) < 9; omega), Int.toNat_natCast]
    have : k = 0 ∨ k = 1 ∨ k = 2 ∨ k = 3 ∨ k = 4 ∨ k = 5 ∨ k = 6 ∨ k = 7 ∨ k = 8 := by omega
    rcases this with rfl | rfl | rfl | rfl | rfl | rfl | rfl | rfl | rfl <;> rfl
  have e1 := bin_ok (f := orF fIx (fIxR Γ)) h6.var ev (ix_lst hw)
  obtain ⟨cb, hb⟩ : ∃ cb, (lamBs Γ A)[k]? = some cb := ⟨_, List.getElem?_eq_getElem (by show k < 9; omega)⟩
  have e2 := lams_er (A := A) (Γ := Γ) (ρ := ρ2) hd h5 cb (List.mem_of_getElem? hb)
  have e3 : eErrL wordsE (lamBs Γ A) (eBin (orF fIx (fIxR Γ)) (eVar 6) (eCallF (f_law_taken Γ A) (aCons (eVar 1) (aCons (eC (.int 9)) aNil)))) δ ρ = .ok (.str "board") true ρ2 := by
    unfold eErrL
    rw [e1]
    dsimp only
    rw [hb]
    dsimp only
    rw [e2]
    rfl
  exact if_go (bB_ok (bin_ok (f := fNe) (cb := eC (.str "board")) e3 rfl (ne_self (p := .str "board") rfl (by decide +kernel))))
theorem turnL (h1 : Has δ 1 .row) (hl : δ.length = 9) (hi : 0 ≤ ρ.i) : ∃ δ1 ρ1, bTurnL Γ A δ ρ = .nx δ1 ρ1 ∧ Has δ1 1 .row ∧ δ1.length = 9 ∧ 0 ≤ ρ1.i := by
  obtain ⟨x, c, ρ1, e1, hx, i1⟩ := cells (A := A) (Γ := Γ) (ρ := ρ) (m := 5) (by decide) (by decide) hi
  obtain ⟨y, c', ρ2, e2, hy, i2⟩ := cells (A := A) (Γ := Γ) (ρ := ρ1) (m := 5) (by decide) (by decide) i1
  have f1 := callF_d (F := f_law_cells Γ A) (cons_ok h1.var (cons_ok (rfl : eC (.int 5) δ ρ = .ok (.int 5) true ρ) nil_ok)) e1
  have f2 := callF_d (F := f_law_cells Γ A) (cons_ok h1.var (cons_ok (rfl : eC (.int 5) δ ρ1 = .ok (.int 5) true ρ1) nil_ok)) e2
  have s1 := par_ok (i := 7) (j := 8) (cons_ok f1 (cons_ok f2 nil_ok))
  have a1 : Has (put 8 (D.tup (y.map D.str)) (imm (D.tup (y.map D.str))) (put 7 (D.tup (x.map D.str)) (imm (D.tup (x.map D.str))) δ)) 1 .row := (h1.put (by decide)).put (by decide)
  have a7 : Has (put 8 (D.tup (y.map D.str)) (imm (D.tup (y.map D.str))) (put 7 (D.tup (x.map D.str)) (imm (D.tup (x.map D.str))) δ)) 7 (.tup (x.map D.str)) := (Has.new (by rw [hl]; decide)).put (by decide)
  have a8 : Has (put 8 (D.tup (y.map D.str)) (imm (D.tup (y.map D.str))) (put 7 (D.tup (x.map D.str)) (imm (D.tup (x.map D.str))) δ)) 8 (.tup (y.map D.str)) := Has.new (by rw [lenP, hl]; decide)
  have al : (put 8 (D.tup (y.map D.str)) (imm (D.tup (y.map D.str))) (put 7 (D.tup (x.map D.str)) (imm (D.tup (x.map D.str))) δ)).length = 9 := by rw [lenP, lenP, hl]
  generalize put 8 (D.tup (y.map D.str)) (imm (D.tup (y.map D.str))) (put 7 (D.tup (x.map D.str)) (imm (D.tup (x.map D.str))) δ) = δa at s1 a1 a7 a8 al
  obtain ⟨b7, g7⟩ := id a7
  have s2 := set_ok (i := 3) (make_true (A := A) (Γ := Γ) (ρ := ρ2) hx (by decide) g7)
  have b3 : Has (put 3 (bd x (many x c)) true δa) 3 (bd x (many x c)) := Has.new (by rw [al]; decide)
  have b1 : Has (put 3 (bd x (many x c)) true δa) 1 .row := a1.put (by decide)
  have b7' : Has (put 3 (bd x (many x c)) true δa) 7 (.tup (x.map D.str)) := a7.put (by decide)
  have b8 : Has (put 3 (bd x (many x c)) true δa) 8 (.tup (y.map D.str)) := a8.put (by decide)
  have bl : (put 3 (bd x (many x c)) true δa).length = 9 := by rw [lenP, al]
  generalize put 3 (bd x (many x c)) true δa = δb at s2 b3 b1 b7' b8 bl
  have s3 := if_A (A := A) (Γ := Γ) (ρ := ρ2) hx b3 b7'
  have s4 := if_B (A := A) (Γ := Γ) (ρ := ρ2) hx b3 b7'
  have s5 := if_C (A := A) (Γ := Γ) (ρ := ρ2) hx hy b3 b7' b8
  obtain ⟨s0, L, rfl⟩ : ∃ s0 L, x = s0 :: L := by
    cases x with
    | nil => have := hx.r1; cases this
    | cons a b => exact ⟨a, b, rfl⟩
  obtain ⟨d, fd, ρ3, e3, i3, nd⟩ := odd_cells (A := A) (Γ := Γ) (ρ := ρ2) hx i2
  have s6 := set_ok (i := 4) (callF_d (F := f_law_odd_cells Γ A) (cons_ok b1.var (cons_ok b7'.var nil_ok)) e3)
  have c4 : Has (put 4 d fd δb) 4 d := Has.new (by rw [bl]; decide)
  have c1 : Has (put 4 d fd δb) 1 .row := b1.put (by decide)
  have c7 : Has (put 4 d fd δb) 7 (.tup ((s0 :: L).map D.str)) := b7'.put (by decide)
  have cl : (put 4 d fd δb).length = 9 := by rw [lenP, bl]
  generalize put 4 d fd δb = δc at s6 c4 c1 c7 cl
  have s7 := if_D (A := A) (Γ := Γ) (ρ := ρ3) c4 nd
  obtain ⟨z, fz, ρ4, s8, mz, i4⟩ := set_B (A := A) (Γ := Γ) (ρ := ρ3) c1 c7 i3
  have d5 : Has (put 5 z fz δc) 5 z := Has.new (by rw [cl]; decide)
  have d1 : Has (put 5 z fz δc) 1 .row := c1.put (by decide)
  have dl : (put 5 z fz δc).length = 9 := by rw [lenP, cl]
  generalize put 5 z fz δc = δd at s8 d5 d1 dl
  have s9 : sSet 6 (eLst (aCons (eLam 0) (aCons (eLam 1) (aCons (eLam 2) aNil)))) δd ρ4 = .nx (put 6 (.lst [.lam 0, .lam 1, .lam 2]) false δd) ρ4 := rfl
  have p6 : Has (put 6 (.lst [.lam 0, .lam 1, .lam 2]) false δd) 6 (.lst [.lam 0, .lam 1, .lam 2]) := Has.new (by rw [dl]; decide)
  have p5 : Has (put 6 (.lst [.lam 0, .lam 1, .lam 2]) false δd) 5 z := d5.put (by decide)
  have p1 : Has (put 6 (.lst [.lam 0, .lam 1, .lam 2]) false δd) 1 .row := d1.put (by decide)
  have pl : (put 6 (.lst [.lam 0, .lam 1, .lam 2]) false δd).length = 9 := by rw [lenP, dl]
  generalize put 6 (.lst [.lam 0, .lam 1, .lam 2]) false δd = δe at s9 p6 p5 p1 pl
  obtain ⟨g1, s10⟩ := add_set (ρ := ρ4) (ys := [.lam 3, .lam 4]) (e := eLst (aCons (eLam 3) (aCons (eLam 4) aNil))) p6 rfl (by decide)
  have q6 : Has (put 6 (.lst ([.lam 0, .lam 1, .lam 2] ++ [.lam 3, .lam 4])) g1 δe) 6 (.lst ([.lam 0, .lam 1, .lam 2] ++ [.lam 3, .lam 4])) := Has.new (by rw [pl]; decide)
  have q5 : Has (put 6 (.lst ([.lam 0, .lam 1, .lam 2] ++ [.lam 3, .lam 4])) g1 δe) 5 z := p5.put (by decide)
  have q1 : Has (put 6 (.lst ([.lam 0, .lam 1, .lam 2] ++ [.lam 3, .lam 4])) g1 δe) 1 .row := p1.put (by decide)
  have ql : (put 6 (.lst ([.lam 0, .lam 1, .lam 2] ++ [.lam 3, .lam 4])) g1 δe).length = 9 := by rw [lenP, pl]
  generalize put 6 (.lst ([.lam 0, .lam 1, .lam 2] ++ [.lam 3, .lam 4])) g1 δe = δf at s10 q6 q5 q1 ql
  obtain ⟨g2, s11⟩ := add_set (ρ := ρ4) (ys := [.lam 5, .lam 6]) (e := eLst (aCons (eLam 5) (aCons (eLam 6) aNil))) q6 rfl (by decide)
  have r6 : Has (put 6 (.lst ([.lam 0, .lam 1, .lam 2] ++ [.lam 3, .lam 4] ++ [.lam 5, .lam 6])) g2 δf) 6 (.lst ([.lam 0, .lam 1, .lam 2] ++ [.lam 3, .lam 4] ++ [.lam 5, .lam 6])) := Has.new (by rw [ql]; decide)
  have r5 : Has (put 6 (.lst ([.lam 0, .lam 1, .lam 2] ++ [.lam 3, .lam 4] ++ [.lam 5, .lam 6])) g2 δf) 5 z := q5.put (by decide)
  have r1 : Has (put 6 (.lst ([.lam 0, .lam 1, .lam 2] ++ [.lam 3, .lam 4] ++ [.lam 5, .lam 6])) g2 δf) 1 .row := q1.put (by decide)
  have rl : (put 6 (.lst ([.lam 0, .lam 1, .lam 2] ++ [.lam 3, .lam 4] ++ [.lam 5, .lam 6])) g2 δf).length = 9 := by rw [lenP, ql]
  generalize put 6 (.lst ([.lam 0, .lam 1, .lam 2] ++ [.lam 3, .lam 4] ++ [.lam 5, .lam 6])) g2 δf = δg at s11 r6 r5 r1 rl
  obtain ⟨g3, s12⟩ := add_set (ρ := ρ4) (ys := [.lam 7, .lam 8]) (e := eLst (aCons (eLam 7) (aCons (eLam 8) aNil))) r6 rfl (by decide)
  have w6 : Has (put 6 (.lst ([.lam 0, .lam 1, .lam 2] ++ [.lam 3, .lam 4] ++ [.lam 5, .lam 6] ++ [.lam 7, .lam 8])) g3 δg) 6 (.lst works) := Has.new (by rw [rl]; decide)
  have w5 : Has (put 6 (.lst ([.lam 0, .lam 1, .lam 2] ++ [.lam 3, .lam 4] ++ [.lam 5, .lam 6] ++ [.lam 7, .lam 8])) g3 δg) 5 z := r5.put (by decide)
  have w1 : Has (put 6 (.lst ([.lam 0, .lam 1, .lam 2] ++ [.lam 3, .lam 4] ++ [.lam 5, .lam 6] ++ [.lam 7, .lam 8])) g3 δg) 1 .row := r1.put (by decide)
  have wl : (put 6 (.lst ([.lam 0, .lam 1, .lam 2] ++ [.lam 3, .lam 4] ++ [.lam 5, .lam 6] ++ [.lam 7, .lam 8])) g3 δg).length = 9 := by rw [lenP, rl]
  generalize put 6 (.lst ([.lam 0, .lam 1, .lam 2] ++ [.lam 3, .lam 4] ++ [.lam 5, .lam 6] ++ [.lam 7, .lam 8])) g3 δg = δh at s12 w6 w5 w1 wl
  obtain ⟨ρ5, s13, i5⟩ := if_E (A := A) (Γ := Γ) (ρ := ρ4) mz w1 w5 w6 i4
  refine ⟨δh, ρ5, ?_, w1, wl, i5⟩
  unfold bTurnL
  rw [seq_nx s1, seq_nx s2, seq_nx s3, seq_nx s4, seq_nx s5, seq_nx s6, seq_nx s7, seq_nx s8, seq_nx s9, seq_nx s10, seq_nx s11, seq_nx s12]
  exact s13
end
theorem turns : ∀ (ds : List D) (δ : List Slot) (ρ : WF.Row), Has δ 1 .row → δ.length = 9 → 0 ≤ ρ.i → ∃ δ1 ρ1, forL (gN 2) (bTurnL Γ A) ds δ ρ = .nx δ1 ρ1
  | [], δ, ρ, _, _, _ => ⟨δ, ρ, rfl⟩
  | d :: ds, δ, ρ, h1, hl, hi => by
    obtain ⟨δ1, ρ1, e1, h1', hl', hi'⟩ := turnL (A := A) (Γ := Γ) (δ := put 2 d (imm d) δ) (ρ := ρ) (h1.put (by decide)) (by rw [lenP, hl]) hi
    obtain ⟨δ2, ρ2, e2⟩ := turns ds δ1 ρ1 h1' hl' hi'
    exact ⟨δ2, ρ2, (forL_nx (tg := gN 2) rfl e1).trans e2⟩
theorem law_all : ∃ fr ρ1, p_law Γ A (lawD 9) ⟨0, 1400, 0⟩ = .rt (.bl true) fr ρ1 := by
  have e1 : iRg1 (aCons (eC (.int 4)) aNil) (lawD 9) ⟨0, 1400, 0⟩ = .ok ((List.range 4).map fun (k : Nat) => D.int k) true ⟨0, 1400, 0⟩ := rfl
  obtain ⟨δ1, ρ1, e2⟩ := turns (A := A) (Γ := Γ) ((List.range 4).map fun (k : Nat) => D.int k) (lawD 9) ⟨0, 1400, 0⟩ ⟨false, rfl⟩ rfl (by decide)
  have s1 : sFor (gN 2) (iRg1 (aCons (eC (.int 4)) aNil)) (bTurnL Γ A) (lawD 9) ⟨0, 1400, 0⟩ = .nx δ1 ρ1 := (for_ok e1).trans e2
  refine ⟨true, ρ1, ?_⟩
  show sSeq (sFor (gN 2) (iRg1 (aCons (eC (.int 4)) aNil)) (bTurnL Γ A)) (sRet (eC (.bl true))) (lawD 9) ⟨0, 1400, 0⟩ = _
  rw [seq_nx s1]
  rfl
end K00

/-! ## Z00 -/
namespace K00
open PySem PySem.Spec PyProof.Rows L2 WF
theorem pure_law {A : Ad} {K : PySem.W.Frag} {cls : Nat → Addr} {fld : Nat → List Str} {TB : List (Addr × Str)} : ∀ (Lm : LamTab) (R Sc : Addr) (ns : List Int), ns.length ≤ 63 → ∃ fr ρ, p_law (gam K cls fld TB Lm R Sc ns) A (lawD 9) ⟨0, 1400, 0⟩ = .rt (.bl true) fr ρ := fun Lm R Sc ns h => law_all
theorem all_mk {l : PySem.W.OpenLaw} {w : World} {K : PySem.W.Frag} {h : Heap} {mg : Str → Option Value} {fa : Addr} (X : K.In h) (G : h.Ns mainGlobals mg) (hfa : mg "law" = some (.ref fa))
    {C0 C1 C2 C3 C4 C5 C6 C7 C8 C9 C10 C11 C12 C13 C14 f_is_number f_is_whole f_Board_len f_are_numbers f_are_whole f_is_ascending f_first_of f_is_table f_is_cells f_Board_init f_Board_cells q_cells f_Board_rows q_rows f_Board_columns q_columns f_Board_eq f_check_board f_is_thread f_check_thread f_check_cell f_steps f_flipped f_turned f_with_cell f_distances f_chain f_leads f_reached f_reaching f_is_lot f_check_lot f_together f_in_order f_is_closed f_closed_lots f_least_closed f_part_of f_holds f_lifts_off f_lifting f_is_motion f_as_load f_ring_row f_verdict f_law_taken f_law_cells f_law_many f_law_odd_cells f_law_error f_law p_SIGNS p_OTHER_WAY c0 P0 cc_in_order PP_in_order : Addr}
    {od_is_number an_is_number : Option Addr} {sl_is_number : Array (Option Value)} {oc_is_number kV_is_number dc_is_number pm_is_number cd_is_number ct_is_number : Value}
    {od_is_whole an_is_whole : Option Addr} {sl_is_whole : Array (Option Value)} {oc_is_whole kV_is_whole dc_is_whole pm_is_whole cd_is_whole ct_is_whole : Value}
    {od_Board_len an_Board_len : Option Addr} {sl_Board_len : Array (Option Value)} {oc_Board_len kV_Board_len dc_Board_len pm_Board_len cd_Board_len ct_Board_len : Value}
    {od_are_numbers an_are_numbers : Option Addr} {sl_are_numbers : Array (Option Value)} {oc_are_numbers kV_are_numbers dc_are_numbers pm_are_numbers cd_are_numbers ct_are_numbers : Value}
    {od_are_whole an_are_whole : Option Addr} {sl_are_whole : Array (Option Value)} {oc_are_whole kV_are_whole dc_are_whole pm_are_whole cd_are_whole ct_are_whole : Value}
    {od_is_ascending an_is_ascending : Option Addr} {sl_is_ascending : Array (Option Value)} {oc_is_ascending kV_is_ascending dc_is_ascending pm_is_ascending cd_is_ascending ct_is_ascending : Value}
    {od_first_of an_first_of : Option Addr} {sl_first_of : Array (Option Value)} {oc_first_of kV_first_of dc_first_of pm_first_of cd_first_of ct_first_of : Value}
    {od_is_table an_is_table : Option Addr} {sl_is_table : Array (Option Value)} {oc_is_table kV_is_table dc_is_table pm_is_table cd_is_table ct_is_table : Value}
    {od_is_cells an_is_cells : Option Addr} {sl_is_cells : Array (Option Value)} {oc_is_cells kV_is_cells dc_is_cells pm_is_cells cd_is_cells ct_is_cells : Value}
    {od_Board_init an_Board_init : Option Addr} {sl_Board_init : Array (Option Value)} {oc_Board_init kV_Board_init dc_Board_init pm_Board_init cd_Board_init ct_Board_init : Value}
    {rs_cells : List Value}
    {od_Board_cells an_Board_cells : Option Addr} {sl_Board_cells : Array (Option Value)} {oc_Board_cells kV_Board_cells dc_Board_cells pm_Board_cells cd_Board_cells ct_Board_cells : Value}
    {rs_rows : List Value}
    {od_Board_rows an_Board_rows : Option Addr} {sl_Board_rows : Array (Option Value)} {oc_Board_rows kV_Board_rows dc_Board_rows pm_Board_rows cd_Board_rows ct_Board_rows : Value}
    {rs_columns : List Value}
    {od_Board_columns an_Board_columns : Option Addr} {sl_Board_columns : Array (Option Value)} {oc_Board_columns kV_Board_columns dc_Board_columns pm_Board_columns cd_Board_columns ct_Board_columns : Value}
    {od_Board_eq an_Board_eq : Option Addr} {sl_Board_eq : Array (Option Value)} {oc_Board_eq kV_Board_eq dc_Board_eq pm_Board_eq cd_Board_eq ct_Board_eq : Value}
    {od_check_board an_check_board : Option Addr} {sl_check_board : Array (Option Value)} {oc_check_board kV_check_board dc_check_board pm_check_board cd_check_board ct_check_board : Value}
    {od_is_thread an_is_thread : Option Addr} {sl_is_thread : Array (Option Value)} {oc_is_thread kV_is_thread dc_is_thread pm_is_thread cd_is_thread ct_is_thread : Value}
    {od_check_thread an_check_thread : Option Addr} {sl_check_thread : Array (Option Value)} {oc_check_thread kV_check_thread dc_check_thread pm_check_thread cd_check_thread ct_check_thread : Value}
    {od_check_cell an_check_cell : Option Addr} {sl_check_cell : Array (Option Value)} {oc_check_cell kV_check_cell dc_check_cell pm_check_cell cd_check_cell ct_check_cell : Value}
    {od_steps an_steps : Option Addr} {sl_steps : Array (Option Value)} {oc_steps kV_steps dc_steps pm_steps cd_steps ct_steps : Value}
    {od_flipped an_flipped : Option Addr} {sl_flipped : Array (Option Value)} {oc_flipped kV_flipped dc_flipped pm_flipped cd_flipped ct_flipped : Value}
    {od_turned an_turned : Option Addr} {sl_turned : Array (Option Value)} {oc_turned kV_turned dc_turned pm_turned cd_turned ct_turned : Value}
    {od_with_cell an_with_cell : Option Addr} {sl_with_cell : Array (Option Value)} {oc_with_cell kV_with_cell dc_with_cell pm_with_cell cd_with_cell ct_with_cell : Value}
    {od_distances an_distances : Option Addr} {sl_distances : Array (Option Value)} {oc_distances kV_distances dc_distances pm_distances cd_distances ct_distances : Value}
    {od_chain an_chain : Option Addr} {sl_chain : Array (Option Value)} {oc_chain kV_chain dc_chain pm_chain cd_chain ct_chain : Value}
    {od_leads an_leads : Option Addr} {sl_leads : Array (Option Value)} {oc_leads kV_leads dc_leads pm_leads cd_leads ct_leads : Value}
    {od_reached an_reached : Option Addr} {sl_reached : Array (Option Value)} {oc_reached kV_reached dc_reached pm_reached cd_reached ct_reached : Value}
    {od_reaching an_reaching : Option Addr} {sl_reaching : Array (Option Value)} {oc_reaching kV_reaching dc_reaching pm_reaching cd_reaching ct_reaching : Value}
    {od_is_lot an_is_lot : Option Addr} {sl_is_lot : Array (Option Value)} {oc_is_lot kV_is_lot dc_is_lot pm_is_lot cd_is_lot ct_is_lot : Value}
    {od_check_lot an_check_lot : Option Addr} {sl_check_lot : Array (Option Value)} {oc_check_lot kV_check_lot dc_check_lot pm_check_lot cd_check_lot ct_check_lot : Value}
    {od_together an_together : Option Addr} {sl_together : Array (Option Value)} {oc_together kV_together dc_together pm_together cd_together ct_together : Value}
    {od_in_order an_in_order : Option Addr} {sl_in_order : Array (Option Value)} {oc_in_order kV_in_order dc_in_order pm_in_order cd_in_order ct_in_order : Value}
    {od_is_closed an_is_closed : Option Addr} {sl_is_closed : Array (Option Value)} {oc_is_closed kV_is_closed dc_is_closed pm_is_closed cd_is_closed ct_is_closed : Value}
    {od_closed_lots an_closed_lots : Option Addr} {sl_closed_lots : Array (Option Value)} {oc_closed_lots kV_closed_lots dc_closed_lots pm_closed_lots cd_closed_lots ct_closed_lots : Value}
    {od_least_closed an_least_closed : Option Addr} {sl_least_closed : Array (Option Value)} {oc_least_closed kV_least_closed dc_least_closed pm_least_closed cd_least_closed ct_least_closed : Value}
    {od_part_of an_part_of : Option Addr} {sl_part_of : Array (Option Value)} {oc_part_of kV_part_of dc_part_of pm_part_of cd_part_of ct_part_of : Value}
    {od_holds an_holds : Option Addr} {sl_holds : Array (Option Value)} {oc_holds kV_holds dc_holds pm_holds cd_holds ct_holds : Value}
    {od_lifts_off an_lifts_off : Option Addr} {sl_lifts_off : Array (Option Value)} {oc_lifts_off kV_lifts_off dc_lifts_off pm_lifts_off cd_lifts_off ct_lifts_off : Value}
    {od_lifting an_lifting : Option Addr} {sl_lifting : Array (Option Value)} {oc_lifting kV_lifting dc_lifting pm_lifting cd_lifting ct_lifting : Value}
    {od_is_motion an_is_motion : Option Addr} {sl_is_motion : Array (Option Value)} {oc_is_motion kV_is_motion dc_is_motion pm_is_motion cd_is_motion ct_is_motion : Value}
    {od_as_load an_as_load : Option Addr} {sl_as_load : Array (Option Value)} {oc_as_load kV_as_load dc_as_load pm_as_load cd_as_load ct_as_load : Value}
    {od_ring_row an_ring_row : Option Addr} {sl_ring_row : Array (Option Value)} {oc_ring_row kV_ring_row dc_ring_row pm_ring_row cd_ring_row ct_ring_row : Value}
    {od_verdict an_verdict : Option Addr} {sl_verdict : Array (Option Value)} {oc_verdict kV_verdict dc_verdict pm_verdict cd_verdict ct_verdict : Value}
    {od_law_taken an_law_taken : Option Addr} {sl_law_taken : Array (Option Value)} {oc_law_taken kV_law_taken dc_law_taken pm_law_taken cd_law_taken ct_law_taken : Value}
    {od_law_cells an_law_cells : Option Addr} {sl_law_cells : Array (Option Value)} {oc_law_cells kV_law_cells dc_law_cells pm_law_cells cd_law_cells ct_law_cells : Value}
    {od_law_many an_law_many : Option Addr} {sl_law_many : Array (Option Value)} {oc_law_many kV_law_many dc_law_many pm_law_many cd_law_many ct_law_many : Value}
    {od_law_odd_cells an_law_odd_cells : Option Addr} {sl_law_odd_cells : Array (Option Value)} {oc_law_odd_cells kV_law_odd_cells dc_law_odd_cells pm_law_odd_cells cd_law_odd_cells ct_law_odd_cells : Value}
    {od_law_error an_law_error : Option Addr} {sl_law_error : Array (Option Value)} {oc_law_error kV_law_error dc_law_error pm_law_error cd_law_error ct_law_error : Value}
    {od_law an_law : Option Addr} {sl_law : Array (Option Value)} {oc_law kV_law dc_law pm_law cd_law ct_law : Value}
    {tk_LONGEST_SIDE : Tok}
    {od_SIGNS : Option Addr} {nn_SIGNS : Nat} {sl_SIGNS : Array (Option Value)} {t0_SIGNS t1_SIGNS t2_SIGNS t3_SIGNS : Tok}
    {es_OTHER_WAY : Array DictEntry} {nn_OTHER_WAY : Nat} {t0_OTHER_WAY t1_OTHER_WAY t2_OTHER_WAY t3_OTHER_WAY : Tok}
    {tk_GREATEST_ANGLE : Tok}
    {odc_law : Option Addr} {vc_law : Array Value} {slc_law : Array (Option Value)}
    {odc_in_order : Option Addr} {vc_in_order : Array Value} {slc_in_order : Array (Option Value)}
    (a_Board : PySem.W.nsIn K mainGlobals "Board" = some (some (.ref C0)))
    (a_WovenError : PySem.W.nsIn K mainGlobals "WovenError" = some (some (.ref C1)))
    (a_BadBoard : PySem.W.nsIn K mainGlobals "BadBoard" = some (some (.ref C2)))
    (a_BadCells : PySem.W.nsIn K mainGlobals "BadCells" = some (some (.ref C3)))
    (a_BadRow : PySem.W.nsIn K mainGlobals "BadRow" = some (some (.ref C4)))
    (a_BadColumn : PySem.W.nsIn K mainGlobals "BadColumn" = some (some (.ref C5)))
    (a_BadSign : PySem.W.nsIn K mainGlobals "BadSign" = some (some (.ref C6)))
    (a_BadThread : PySem.W.nsIn K mainGlobals "BadThread" = some (some (.ref C7)))
    (a_BadLot : PySem.W.nsIn K mainGlobals "BadLot" = some (some (.ref C8)))
    (a_NotClosed : PySem.W.nsIn K mainGlobals "NotClosed" = some (some (.ref C9)))
    (a_NotLifting : PySem.W.nsIn K mainGlobals "NotLifting" = some (some (.ref C10)))
    (a_BadLoad : PySem.W.nsIn K mainGlobals "BadLoad" = some (some (.ref C11)))
    (a_BadStrengths : PySem.W.nsIn K mainGlobals "BadStrengths" = some (some (.ref C12)))
    (a_BadPrices : PySem.W.nsIn K mainGlobals "BadPrices" = some (some (.ref C13)))
    (a_TooMany : PySem.W.nsIn K mainGlobals "TooMany" = some (some (.ref C14)))
    (xn_WovenError : ¬ C1 = C0)
    (xq_BadBoard : PySem.W.excIn K C2 [.type "ValueError", .type "Exception", .type "BaseException", .type "object"] "ValueError.__new__" = true)
    (xk_BadBoard : PySem.W.keepIn K (.ref C2) = true)
    (xs_BadBoard : PySem.W.subIn K (.ref C2) (.type "BaseException") = some true)
    (xt_BadBoard : PySem.W.typeIn K (.ref C2) = some (.type "type"))
    (xn_BadBoard : ¬ C2 = C0)
    (eg_BadBoard : PySem.W.findIn K (.ref C2) "__getattribute__" = some (some (.builtin "BaseException.__getattribute__")))
    (ek_BadBoard : PySem.W.findIn K (.ref C2) "__getattr__" = some none)
    (ed_BadBoard : PySem.W.hasDictIn K C2 = true)
    (ea_BadBoard : PySem.W.findIn K (.ref C2) "__class__" = some (some (.builtin "object.__class__")))
    (em_BadBoard : PySem.W.mroIn K C2 (.type "object") = some true)
    (ev_BadBoard : PySem.W.kitOne K (.ref C2) (.type "ValueError") = some true)
    (e2_BadBoard : PySem.W.kitOne K (.ref C2) (.ref C2) = some true)
    (e3_BadBoard : PySem.W.kitOne K (.ref C2) (.ref C3) = some false)
    (e4_BadBoard : PySem.W.kitOne K (.ref C2) (.ref C4) = some false)
    (e5_BadBoard : PySem.W.kitOne K (.ref C2) (.ref C5) = some false)
    (e6_BadBoard : PySem.W.kitOne K (.ref C2) (.ref C6) = some false)
    (e7_BadBoard : PySem.W.kitOne K (.ref C2) (.ref C7) = some false)
    (e8_BadBoard : PySem.W.kitOne K (.ref C2) (.ref C8) = some false)
    (e9_BadBoard : PySem.W.kitOne K (.ref C2) (.ref C9) = some false)
    (e10_BadBoard : PySem.W.kitOne K (.ref C2) (.ref C10) = some false)
    (e11_BadBoard : PySem.W.kitOne K (.ref C2) (.ref C11) = some false)
    (e12_BadBoard : PySem.W.kitOne K (.ref C2) (.ref C12) = some false)
    (e14_BadBoard : PySem.W.kitOne K (.ref C2) (.ref C14) = some false)
    (e13_BadBoard : PySem.W.kitOne K (.ref C2) (.ref C13) = some false)
    (ew_BadBoard : PySem.W.subIn K (.ref C2) (.ref C1) = some true)
    (xq_BadCells : PySem.W.excIn K C3 [.type "ValueError", .type "Exception", .type "BaseException", .type "object"] "ValueError.__new__" = true)
    (xk_BadCells : PySem.W.keepIn K (.ref C3) = true)
    (xs_BadCells : PySem.W.subIn K (.ref C3) (.type "BaseException") = some true)
    (xt_BadCells : PySem.W.typeIn K (.ref C3) = some (.type "type"))
    (xn_BadCells : ¬ C3 = C0)
    (eg_BadCells : PySem.W.findIn K (.ref C3) "__getattribute__" = some (some (.builtin "BaseException.__getattribute__")))
    (ek_BadCells : PySem.W.findIn K (.ref C3) "__getattr__" = some none)
    (ed_BadCells : PySem.W.hasDictIn K C3 = true)
    (ea_BadCells : PySem.W.findIn K (.ref C3) "__class__" = some (some (.builtin "object.__class__")))
    (em_BadCells : PySem.W.mroIn K C3 (.type "object") = some true)
    (ev_BadCells : PySem.W.kitOne K (.ref C3) (.type "ValueError") = some true)
    (e2_BadCells : PySem.W.kitOne K (.ref C3) (.ref C2) = some false)
    (e3_BadCells : PySem.W.kitOne K (.ref C3) (.ref C3) = some true)
    (e4_BadCells : PySem.W.kitOne K (.ref C3) (.ref C4) = some false)
    (e5_BadCells : PySem.W.kitOne K (.ref C3) (.ref C5) = some false)
    (e6_BadCells : PySem.W.kitOne K (.ref C3) (.ref C6) = some false)
    (e7_BadCells : PySem.W.kitOne K (.ref C3) (.ref C7) = some false)
    (e8_BadCells : PySem.W.kitOne K (.ref C3) (.ref C8) = some false)
    (e9_BadCells : PySem.W.kitOne K (.ref C3) (.ref C9) = some false)
    (e10_BadCells : PySem.W.kitOne K (.ref C3) (.ref C10) = some false)
    (e11_BadCells : PySem.W.kitOne K (.ref C3) (.ref C11) = some false)
    (e12_BadCells : PySem.W.kitOne K (.ref C3) (.ref C12) = some false)
    (e14_BadCells : PySem.W.kitOne K (.ref C3) (.ref C14) = some false)
    (e13_BadCells : PySem.W.kitOne K (.ref C3) (.ref C13) = some false)
    (ew_BadCells : PySem.W.subIn K (.ref C3) (.ref C1) = some true)
    (xq_BadRow : PySem.W.excIn K C4 [.type "ValueError", .type "Exception", .type "BaseException", .type "object"] "ValueError.__new__" = true)
    (xk_BadRow : PySem.W.keepIn K (.ref C4) = true)
    (xs_BadRow : PySem.W.subIn K (.ref C4) (.type "BaseException") = some true)
    (xt_BadRow : PySem.W.typeIn K (.ref C4) = some (.type "type"))
    (xn_BadRow : ¬ C4 = C0)
    (xq_BadColumn : PySem.W.excIn K C5 [.type "ValueError", .type "Exception", .type "BaseException", .type "object"] "ValueError.__new__" = true)
    (xk_BadColumn : PySem.W.keepIn K (.ref C5) = true)
    (xs_BadColumn : PySem.W.subIn K (.ref C5) (.type "BaseException") = some true)
    (xt_BadColumn : PySem.W.typeIn K (.ref C5) = some (.type "type"))
    (xn_BadColumn : ¬ C5 = C0)
    (xq_BadSign : PySem.W.excIn K C6 [.type "ValueError", .type "Exception", .type "BaseException", .type "object"] "ValueError.__new__" = true)
    (xk_BadSign : PySem.W.keepIn K (.ref C6) = true)
    (xs_BadSign : PySem.W.subIn K (.ref C6) (.type "BaseException") = some true)
    (xt_BadSign : PySem.W.typeIn K (.ref C6) = some (.type "type"))
    (xn_BadSign : ¬ C6 = C0)
    (xq_BadThread : PySem.W.excIn K C7 [.type "ValueError", .type "Exception", .type "BaseException", .type "object"] "ValueError.__new__" = true)
    (xk_BadThread : PySem.W.keepIn K (.ref C7) = true)
    (xs_BadThread : PySem.W.subIn K (.ref C7) (.type "BaseException") = some true)
    (xt_BadThread : PySem.W.typeIn K (.ref C7) = some (.type "type"))
    (xn_BadThread : ¬ C7 = C0)
    (xq_BadLot : PySem.W.excIn K C8 [.type "ValueError", .type "Exception", .type "BaseException", .type "object"] "ValueError.__new__" = true)
    (xk_BadLot : PySem.W.keepIn K (.ref C8) = true)
    (xs_BadLot : PySem.W.subIn K (.ref C8) (.type "BaseException") = some true)
    (xt_BadLot : PySem.W.typeIn K (.ref C8) = some (.type "type"))
    (xn_BadLot : ¬ C8 = C0)
    (xn_NotClosed : ¬ C9 = C0)
    (xq_NotLifting : PySem.W.excIn K C10 [.type "ValueError", .type "Exception", .type "BaseException", .type "object"] "ValueError.__new__" = true)
    (xk_NotLifting : PySem.W.keepIn K (.ref C10) = true)
    (xs_NotLifting : PySem.W.subIn K (.ref C10) (.type "BaseException") = some true)
    (xt_NotLifting : PySem.W.typeIn K (.ref C10) = some (.type "type"))
    (xn_NotLifting : ¬ C10 = C0)
    (xn_BadLoad : ¬ C11 = C0)
    (xn_BadStrengths : ¬ C12 = C0)
    (xn_BadPrices : ¬ C13 = C0)
    (xn_TooMany : ¬ C14 = C0)
    (ww_s : PySem.W.subIn K (.ref C1) (.type "BaseException") = some true)
    (ww_d : PySem.W.hasDictIn K C1 = true)
    (ww_t : PySem.W.typeIn K (.ref C1) = some (.type "type"))
    (a_is_number : PySem.W.nsIn K mainGlobals "is_number" = some (some (.ref f_is_number)))
    (l_is_number : K.lookup f_is_number = some ⟨oc_is_number, od_is_number, .func (PySem.W.fnOf "is_number" "is_number" (defArgs s_is_number) (defBody s_is_number) (defScope s_is_number) .none kV_is_number dc_is_number pm_is_number an_is_number cd_is_number ct_is_number), sl_is_number⟩)
    (c_is_number : PySem.W.codeIn K cd_is_number "is_number" = true)
    (k_is_number : PySem.W.keepIn K (.ref f_is_number) = true)
    (a_is_whole : PySem.W.nsIn K mainGlobals "is_whole" = some (some (.ref f_is_whole)))
    (l_is_whole : K.lookup f_is_whole = some ⟨oc_is_whole, od_is_whole, .func (PySem.W.fnOf "is_whole" "is_whole" (defArgs s_is_whole) (defBody s_is_whole) (defScope s_is_whole) .none kV_is_whole dc_is_whole pm_is_whole an_is_whole cd_is_whole ct_is_whole), sl_is_whole⟩)
    (c_is_whole : PySem.W.codeIn K cd_is_whole "is_whole" = true)
    (k_is_whole : PySem.W.keepIn K (.ref f_is_whole) = true)
    (a_Board_len : PySem.W.findIn K (.ref C0) "__len__" = some (some (.ref f_Board_len)))
    (i_Board_len : PySem.W.isFn K (.ref f_Board_len) = true)
    (l_Board_len : K.lookup f_Board_len = some ⟨oc_Board_len, od_Board_len, .func (PySem.W.fnOf "__len__" "Board.__len__" (defArgs s_Board_len) (defBody s_Board_len) (defScope s_Board_len) .none kV_Board_len dc_Board_len pm_Board_len an_Board_len cd_Board_len ct_Board_len), sl_Board_len⟩)
    (c_Board_len : PySem.W.codeIn K cd_Board_len "Board.__len__" = true)
    (k_Board_len : PySem.W.keepIn K (.ref f_Board_len) = true)
    (a_are_numbers : PySem.W.nsIn K mainGlobals "are_numbers" = some (some (.ref f_are_numbers)))
    (l_are_numbers : K.lookup f_are_numbers = some ⟨oc_are_numbers, od_are_numbers, .func (PySem.W.fnOf "are_numbers" "are_numbers" (defArgs s_are_numbers) (defBody s_are_numbers) (defScope s_are_numbers) .none kV_are_numbers dc_are_numbers pm_are_numbers an_are_numbers cd_are_numbers ct_are_numbers), sl_are_numbers⟩)
    (c_are_numbers : PySem.W.codeIn K cd_are_numbers "are_numbers" = true)
    (k_are_numbers : PySem.W.keepIn K (.ref f_are_numbers) = true)
    (a_are_whole : PySem.W.nsIn K mainGlobals "are_whole" = some (some (.ref f_are_whole)))
    (l_are_whole : K.lookup f_are_whole = some ⟨oc_are_whole, od_are_whole, .func (PySem.W.fnOf "are_whole" "are_whole" (defArgs s_are_whole) (defBody s_are_whole) (defScope s_are_whole) .none kV_are_whole dc_are_whole pm_are_whole an_are_whole cd_are_whole ct_are_whole), sl_are_whole⟩)
    (c_are_whole : PySem.W.codeIn K cd_are_whole "are_whole" = true)
    (k_are_whole : PySem.W.keepIn K (.ref f_are_whole) = true)
    (a_is_ascending : PySem.W.nsIn K mainGlobals "is_ascending" = some (some (.ref f_is_ascending)))
    (l_is_ascending : K.lookup f_is_ascending = some ⟨oc_is_ascending, od_is_ascending, .func (PySem.W.fnOf "is_ascending" "is_ascending" (defArgs s_is_ascending) (defBody s_is_ascending) (defScope s_is_ascending) .none kV_is_ascending dc_is_ascending pm_is_ascending an_is_ascending cd_is_ascending ct_is_ascending), sl_is_ascending⟩)
    (c_is_ascending : PySem.W.codeIn K cd_is_ascending "is_ascending" = true)
    (k_is_ascending : PySem.W.keepIn K (.ref f_is_ascending) = true)
    (a_first_of : PySem.W.nsIn K mainGlobals "first_of" = some (some (.ref f_first_of)))
    (l_first_of : K.lookup f_first_of = some ⟨oc_first_of, od_first_of, .func (PySem.W.fnOf "first_of" "first_of" (defArgs s_first_of) (defBody s_first_of) (defScope s_first_of) .none kV_first_of dc_first_of pm_first_of an_first_of cd_first_of ct_first_of), sl_first_of⟩)
    (c_first_of : PySem.W.codeIn K cd_first_of "first_of" = true)
    (k_first_of : PySem.W.keepIn K (.ref f_first_of) = true)
    (a_is_table : PySem.W.nsIn K mainGlobals "is_table" = some (some (.ref f_is_table)))
    (l_is_table : K.lookup f_is_table = some ⟨oc_is_table, od_is_table, .func (PySem.W.fnOf "is_table" "is_table" (defArgs s_is_table) (defBody s_is_table) (defScope s_is_table) .none kV_is_table dc_is_table pm_is_table an_is_table cd_is_table ct_is_table), sl_is_table⟩)
    (c_is_table : PySem.W.codeIn K cd_is_table "is_table" = true)
    (k_is_table : PySem.W.keepIn K (.ref f_is_table) = true)
    (a_is_cells : PySem.W.nsIn K mainGlobals "is_cells" = some (some (.ref f_is_cells)))
    (l_is_cells : K.lookup f_is_cells = some ⟨oc_is_cells, od_is_cells, .func (PySem.W.fnOf "is_cells" "is_cells" (defArgs s_is_cells) (defBody s_is_cells) (defScope s_is_cells) .none kV_is_cells dc_is_cells pm_is_cells an_is_cells cd_is_cells ct_is_cells), sl_is_cells⟩)
    (c_is_cells : PySem.W.codeIn K cd_is_cells "is_cells" = true)
    (k_is_cells : PySem.W.keepIn K (.ref f_is_cells) = true)
    (a_Board_init : PySem.W.findIn K (.ref C0) "__init__" = some (some (.ref f_Board_init)))
    (i_Board_init : PySem.W.isFn K (.ref f_Board_init) = true)
    (l_Board_init : K.lookup f_Board_init = some ⟨oc_Board_init, od_Board_init, .func (PySem.W.fnOf "__init__" "Board.__init__" (defArgs s_Board_init) (defBody s_Board_init) (defScope s_Board_init) .none kV_Board_init dc_Board_init pm_Board_init an_Board_init cd_Board_init ct_Board_init), sl_Board_init⟩)
    (c_Board_init : PySem.W.codeIn K cd_Board_init "Board.__init__" = true)
    (k_Board_init : PySem.W.keepIn K (.ref f_Board_init) = true)
    (pa_cells : PySem.W.findIn K (.ref C0) "cells" = some (some (.ref q_cells)))
    (pg_cells : PySem.W.specialIn K (.ref q_cells) "__get__" = some (some (.builtin "property.__get__")))
    (pt_cells : PySem.W.takesIn K (.ref q_cells) = some true)
    (pr_cells : PySem.W.recIn K q_cells "property" = some (.ref f_Board_cells :: rs_cells))
    (l_Board_cells : K.lookup f_Board_cells = some ⟨oc_Board_cells, od_Board_cells, .func (PySem.W.fnOf "cells" "Board.cells" (defArgs s_Board_cells) (defBody s_Board_cells) (defScope s_Board_cells) .none kV_Board_cells dc_Board_cells pm_Board_cells an_Board_cells cd_Board_cells ct_Board_cells), sl_Board_cells⟩)
    (c_Board_cells : PySem.W.codeIn K cd_Board_cells "Board.cells" = true)
    (k_Board_cells : PySem.W.keepIn K (.ref f_Board_cells) = true)
    (pa_rows : PySem.W.findIn K (.ref C0) "rows" = some (some (.ref q_rows)))
    (pg_rows : PySem.W.specialIn K (.ref q_rows) "__get__" = some (some (.builtin "property.__get__")))
    (pt_rows : PySem.W.takesIn K (.ref q_rows) = some true)
    (pr_rows : PySem.W.recIn K q_rows "property" = some (.ref f_Board_rows :: rs_rows))
    (l_Board_rows : K.lookup f_Board_rows = some ⟨oc_Board_rows, od_Board_rows, .func (PySem.W.fnOf "rows" "Board.rows" (defArgs s_Board_rows) (defBody s_Board_rows) (defScope s_Board_rows) .none kV_Board_rows dc_Board_rows pm_Board_rows an_Board_rows cd_Board_rows ct_Board_rows), sl_Board_rows⟩)
    (c_Board_rows : PySem.W.codeIn K cd_Board_rows "Board.rows" = true)
    (k_Board_rows : PySem.W.keepIn K (.ref f_Board_rows) = true)
    (pa_columns : PySem.W.findIn K (.ref C0) "columns" = some (some (.ref q_columns)))
    (pg_columns : PySem.W.specialIn K (.ref q_columns) "__get__" = some (some (.builtin "property.__get__")))
    (pt_columns : PySem.W.takesIn K (.ref q_columns) = some true)
    (pr_columns : PySem.W.recIn K q_columns "property" = some (.ref f_Board_columns :: rs_columns))
    (l_Board_columns : K.lookup f_Board_columns = some ⟨oc_Board_columns, od_Board_columns, .func (PySem.W.fnOf "columns" "Board.columns" (defArgs s_Board_columns) (defBody s_Board_columns) (defScope s_Board_columns) .none kV_Board_columns dc_Board_columns pm_Board_columns an_Board_columns cd_Board_columns ct_Board_columns), sl_Board_columns⟩)
    (c_Board_columns : PySem.W.codeIn K cd_Board_columns "Board.columns" = true)
    (k_Board_columns : PySem.W.keepIn K (.ref f_Board_columns) = true)
    (a_Board_eq : PySem.W.findIn K (.ref C0) "__eq__" = some (some (.ref f_Board_eq)))
    (i_Board_eq : PySem.W.isFn K (.ref f_Board_eq) = true)
    (l_Board_eq : K.lookup f_Board_eq = some ⟨oc_Board_eq, od_Board_eq, .func (PySem.W.fnOf "__eq__" "Board.__eq__" (defArgs s_Board_eq) (defBody s_Board_eq) (defScope s_Board_eq) .none kV_Board_eq dc_Board_eq pm_Board_eq an_Board_eq cd_Board_eq ct_Board_eq), sl_Board_eq⟩)
    (c_Board_eq : PySem.W.codeIn K cd_Board_eq "Board.__eq__" = true)
    (k_Board_eq : PySem.W.keepIn K (.ref f_Board_eq) = true)
    (a_check_board : PySem.W.nsIn K mainGlobals "check_board" = some (some (.ref f_check_board)))
    (l_check_board : K.lookup f_check_board = some ⟨oc_check_board, od_check_board, .func (PySem.W.fnOf "check_board" "check_board" (defArgs s_check_board) (defBody s_check_board) (defScope s_check_board) .none kV_check_board dc_check_board pm_check_board an_check_board cd_check_board ct_check_board), sl_check_board⟩)
    (c_check_board : PySem.W.codeIn K cd_check_board "check_board" = true)
    (k_check_board : PySem.W.keepIn K (.ref f_check_board) = true)
    (a_is_thread : PySem.W.nsIn K mainGlobals "is_thread" = some (some (.ref f_is_thread)))
    (l_is_thread : K.lookup f_is_thread = some ⟨oc_is_thread, od_is_thread, .func (PySem.W.fnOf "is_thread" "is_thread" (defArgs s_is_thread) (defBody s_is_thread) (defScope s_is_thread) .none kV_is_thread dc_is_thread pm_is_thread an_is_thread cd_is_thread ct_is_thread), sl_is_thread⟩)
    (c_is_thread : PySem.W.codeIn K cd_is_thread "is_thread" = true)
    (k_is_thread : PySem.W.keepIn K (.ref f_is_thread) = true)
    (a_check_thread : PySem.W.nsIn K mainGlobals "check_thread" = some (some (.ref f_check_thread)))
    (l_check_thread : K.lookup f_check_thread = some ⟨oc_check_thread, od_check_thread, .func (PySem.W.fnOf "check_thread" "check_thread" (defArgs s_check_thread) (defBody s_check_thread) (defScope s_check_thread) .none kV_check_thread dc_check_thread pm_check_thread an_check_thread cd_check_thread ct_check_thread), sl_check_thread⟩)
    (c_check_thread : PySem.W.codeIn K cd_check_thread "check_thread" = true)
    (k_check_thread : PySem.W.keepIn K (.ref f_check_thread) = true)
    (a_check_cell : PySem.W.nsIn K mainGlobals "check_cell" = some (some (.ref f_check_cell)))
    (l_check_cell : K.lookup f_check_cell = some ⟨oc_check_cell, od_check_cell, .func (PySem.W.fnOf "check_cell" "check_cell" (defArgs s_check_cell) (defBody s_check_cell) (defScope s_check_cell) .none kV_check_cell dc_check_cell pm_check_cell an_check_cell cd_check_cell ct_check_cell), sl_check_cell⟩)
    (c_check_cell : PySem.W.codeIn K cd_check_cell "check_cell" = true)
    (k_check_cell : PySem.W.keepIn K (.ref f_check_cell) = true)
    (a_steps : PySem.W.nsIn K mainGlobals "steps" = some (some (.ref f_steps)))
    (l_steps : K.lookup f_steps = some ⟨oc_steps, od_steps, .func (PySem.W.fnOf "steps" "steps" (defArgs s_steps) (defBody s_steps) (defScope s_steps) .none kV_steps dc_steps pm_steps an_steps cd_steps ct_steps), sl_steps⟩)
    (c_steps : PySem.W.codeIn K cd_steps "steps" = true)
    (k_steps : PySem.W.keepIn K (.ref f_steps) = true)
    (a_flipped : PySem.W.nsIn K mainGlobals "flipped" = some (some (.ref f_flipped)))
    (l_flipped : K.lookup f_flipped = some ⟨oc_flipped, od_flipped, .func (PySem.W.fnOf "flipped" "flipped" (defArgs s_flipped) (defBody s_flipped) (defScope s_flipped) .none kV_flipped dc_flipped pm_flipped an_flipped cd_flipped ct_flipped), sl_flipped⟩)
    (c_flipped : PySem.W.codeIn K cd_flipped "flipped" = true)
    (k_flipped : PySem.W.keepIn K (.ref f_flipped) = true)
    (a_turned : PySem.W.nsIn K mainGlobals "turned" = some (some (.ref f_turned)))
    (l_turned : K.lookup f_turned = some ⟨oc_turned, od_turned, .func (PySem.W.fnOf "turned" "turned" (defArgs s_turned) (defBody s_turned) (defScope s_turned) .none kV_turned dc_turned pm_turned an_turned cd_turned ct_turned), sl_turned⟩)
    (c_turned : PySem.W.codeIn K cd_turned "turned" = true)
    (k_turned : PySem.W.keepIn K (.ref f_turned) = true)
    (a_with_cell : PySem.W.nsIn K mainGlobals "with_cell" = some (some (.ref f_with_cell)))
    (l_with_cell : K.lookup f_with_cell = some ⟨oc_with_cell, od_with_cell, .func (PySem.W.fnOf "with_cell" "with_cell" (defArgs s_with_cell) (defBody s_with_cell) (defScope s_with_cell) .none kV_with_cell dc_with_cell pm_with_cell an_with_cell cd_with_cell ct_with_cell), sl_with_cell⟩)
    (c_with_cell : PySem.W.codeIn K cd_with_cell "with_cell" = true)
    (k_with_cell : PySem.W.keepIn K (.ref f_with_cell) = true)
    (a_distances : PySem.W.nsIn K mainGlobals "distances" = some (some (.ref f_distances)))
    (l_distances : K.lookup f_distances = some ⟨oc_distances, od_distances, .func (PySem.W.fnOf "distances" "distances" (defArgs s_distances) (defBody s_distances) (defScope s_distances) .none kV_distances dc_distances pm_distances an_distances cd_distances ct_distances), sl_distances⟩)
    (c_distances : PySem.W.codeIn K cd_distances "distances" = true)
    (k_distances : PySem.W.keepIn K (.ref f_distances) = true)
    (a_chain : PySem.W.nsIn K mainGlobals "chain" = some (some (.ref f_chain)))
    (l_chain : K.lookup f_chain = some ⟨oc_chain, od_chain, .func (PySem.W.fnOf "chain" "chain" (defArgs s_chain) (defBody s_chain) (defScope s_chain) .none kV_chain dc_chain pm_chain an_chain cd_chain ct_chain), sl_chain⟩)
    (c_chain : PySem.W.codeIn K cd_chain "chain" = true)
    (k_chain : PySem.W.keepIn K (.ref f_chain) = true)
    (a_leads : PySem.W.nsIn K mainGlobals "leads" = some (some (.ref f_leads)))
    (l_leads : K.lookup f_leads = some ⟨oc_leads, od_leads, .func (PySem.W.fnOf "leads" "leads" (defArgs s_leads) (defBody s_leads) (defScope s_leads) .none kV_leads dc_leads pm_leads an_leads cd_leads ct_leads), sl_leads⟩)
    (c_leads : PySem.W.codeIn K cd_leads "leads" = true)
    (k_leads : PySem.W.keepIn K (.ref f_leads) = true)
    (a_reached : PySem.W.nsIn K mainGlobals "reached" = some (some (.ref f_reached)))
    (l_reached : K.lookup f_reached = some ⟨oc_reached, od_reached, .func (PySem.W.fnOf "reached" "reached" (defArgs s_reached) (defBody s_reached) (defScope s_reached) .none kV_reached dc_reached pm_reached an_reached cd_reached ct_reached), sl_reached⟩)
    (c_reached : PySem.W.codeIn K cd_reached "reached" = true)
    (k_reached : PySem.W.keepIn K (.ref f_reached) = true)
    (a_reaching : PySem.W.nsIn K mainGlobals "reaching" = some (some (.ref f_reaching)))
    (l_reaching : K.lookup f_reaching = some ⟨oc_reaching, od_reaching, .func (PySem.W.fnOf "reaching" "reaching" (defArgs s_reaching) (defBody s_reaching) (defScope s_reaching) .none kV_reaching dc_reaching pm_reaching an_reaching cd_reaching ct_reaching), sl_reaching⟩)
    (c_reaching : PySem.W.codeIn K cd_reaching "reaching" = true)
    (k_reaching : PySem.W.keepIn K (.ref f_reaching) = true)
    (a_is_lot : PySem.W.nsIn K mainGlobals "is_lot" = some (some (.ref f_is_lot)))
    (l_is_lot : K.lookup f_is_lot = some ⟨oc_is_lot, od_is_lot, .func (PySem.W.fnOf "is_lot" "is_lot" (defArgs s_is_lot) (defBody s_is_lot) (defScope s_is_lot) .none kV_is_lot dc_is_lot pm_is_lot an_is_lot cd_is_lot ct_is_lot), sl_is_lot⟩)
    (c_is_lot : PySem.W.codeIn K cd_is_lot "is_lot" = true)
    (k_is_lot : PySem.W.keepIn K (.ref f_is_lot) = true)
    (a_check_lot : PySem.W.nsIn K mainGlobals "check_lot" = some (some (.ref f_check_lot)))
    (l_check_lot : K.lookup f_check_lot = some ⟨oc_check_lot, od_check_lot, .func (PySem.W.fnOf "check_lot" "check_lot" (defArgs s_check_lot) (defBody s_check_lot) (defScope s_check_lot) .none kV_check_lot dc_check_lot pm_check_lot an_check_lot cd_check_lot ct_check_lot), sl_check_lot⟩)
    (c_check_lot : PySem.W.codeIn K cd_check_lot "check_lot" = true)
    (k_check_lot : PySem.W.keepIn K (.ref f_check_lot) = true)
    (a_together : PySem.W.nsIn K mainGlobals "together" = some (some (.ref f_together)))
    (l_together : K.lookup f_together = some ⟨oc_together, od_together, .func (PySem.W.fnOf "together" "together" (defArgs s_together) (defBody s_together) (defScope s_together) .none kV_together dc_together pm_together an_together cd_together ct_together), sl_together⟩)
    (c_together : PySem.W.codeIn K cd_together "together" = true)
    (k_together : PySem.W.keepIn K (.ref f_together) = true)
    (a_in_order : PySem.W.nsIn K mainGlobals "in_order" = some (some (.ref f_in_order)))
    (l_in_order : K.lookup f_in_order = some ⟨oc_in_order, od_in_order, .func (PySem.W.fnOf "in_order" "in_order" (defArgs s_in_order) (defBody s_in_order) (defScope s_in_order) .none kV_in_order dc_in_order pm_in_order an_in_order cd_in_order ct_in_order), sl_in_order⟩)
    (c_in_order : PySem.W.codeIn K cd_in_order "in_order" = true)
    (k_in_order : PySem.W.keepIn K (.ref f_in_order) = true)
    (a_is_closed : PySem.W.nsIn K mainGlobals "is_closed" = some (some (.ref f_is_closed)))
    (l_is_closed : K.lookup f_is_closed = some ⟨oc_is_closed, od_is_closed, .func (PySem.W.fnOf "is_closed" "is_closed" (defArgs s_is_closed) (defBody s_is_closed) (defScope s_is_closed) .none kV_is_closed dc_is_closed pm_is_closed an_is_closed cd_is_closed ct_is_closed), sl_is_closed⟩)
    (c_is_closed : PySem.W.codeIn K cd_is_closed "is_closed" = true)
    (k_is_closed : PySem.W.keepIn K (.ref f_is_closed) = true)
    (a_closed_lots : PySem.W.nsIn K mainGlobals "closed_lots" = some (some (.ref f_closed_lots)))
    (l_closed_lots : K.lookup f_closed_lots = some ⟨oc_closed_lots, od_closed_lots, .func (PySem.W.fnOf "closed_lots" "closed_lots" (defArgs s_closed_lots) (defBody s_closed_lots) (defScope s_closed_lots) .none kV_closed_lots dc_closed_lots pm_closed_lots an_closed_lots cd_closed_lots ct_closed_lots), sl_closed_lots⟩)
    (c_closed_lots : PySem.W.codeIn K cd_closed_lots "closed_lots" = true)
    (k_closed_lots : PySem.W.keepIn K (.ref f_closed_lots) = true)
    (a_least_closed : PySem.W.nsIn K mainGlobals "least_closed" = some (some (.ref f_least_closed)))
    (l_least_closed : K.lookup f_least_closed = some ⟨oc_least_closed, od_least_closed, .func (PySem.W.fnOf "least_closed" "least_closed" (defArgs s_least_closed) (defBody s_least_closed) (defScope s_least_closed) .none kV_least_closed dc_least_closed pm_least_closed an_least_closed cd_least_closed ct_least_closed), sl_least_closed⟩)
    (c_least_closed : PySem.W.codeIn K cd_least_closed "least_closed" = true)
    (k_least_closed : PySem.W.keepIn K (.ref f_least_closed) = true)
    (a_part_of : PySem.W.nsIn K mainGlobals "part_of" = some (some (.ref f_part_of)))
    (l_part_of : K.lookup f_part_of = some ⟨oc_part_of, od_part_of, .func (PySem.W.fnOf "part_of" "part_of" (defArgs s_part_of) (defBody s_part_of) (defScope s_part_of) .none kV_part_of dc_part_of pm_part_of an_part_of cd_part_of ct_part_of), sl_part_of⟩)
    (c_part_of : PySem.W.codeIn K cd_part_of "part_of" = true)
    (k_part_of : PySem.W.keepIn K (.ref f_part_of) = true)
    (a_holds : PySem.W.nsIn K mainGlobals "holds" = some (some (.ref f_holds)))
    (l_holds : K.lookup f_holds = some ⟨oc_holds, od_holds, .func (PySem.W.fnOf "holds" "holds" (defArgs s_holds) (defBody s_holds) (defScope s_holds) .none kV_holds dc_holds pm_holds an_holds cd_holds ct_holds), sl_holds⟩)
    (c_holds : PySem.W.codeIn K cd_holds "holds" = true)
    (k_holds : PySem.W.keepIn K (.ref f_holds) = true)
    (a_lifts_off : PySem.W.nsIn K mainGlobals "lifts_off" = some (some (.ref f_lifts_off)))
    (l_lifts_off : K.lookup f_lifts_off = some ⟨oc_lifts_off, od_lifts_off, .func (PySem.W.fnOf "lifts_off" "lifts_off" (defArgs s_lifts_off) (defBody s_lifts_off) (defScope s_lifts_off) .none kV_lifts_off dc_lifts_off pm_lifts_off an_lifts_off cd_lifts_off ct_lifts_off), sl_lifts_off⟩)
    (c_lifts_off : PySem.W.codeIn K cd_lifts_off "lifts_off" = true)
    (k_lifts_off : PySem.W.keepIn K (.ref f_lifts_off) = true)
    (a_lifting : PySem.W.nsIn K mainGlobals "lifting" = some (some (.ref f_lifting)))
    (l_lifting : K.lookup f_lifting = some ⟨oc_lifting, od_lifting, .func (PySem.W.fnOf "lifting" "lifting" (defArgs s_lifting) (defBody s_lifting) (defScope s_lifting) .none kV_lifting dc_lifting pm_lifting an_lifting cd_lifting ct_lifting), sl_lifting⟩)
    (c_lifting : PySem.W.codeIn K cd_lifting "lifting" = true)
    (k_lifting : PySem.W.keepIn K (.ref f_lifting) = true)
    (a_is_motion : PySem.W.nsIn K mainGlobals "is_motion" = some (some (.ref f_is_motion)))
    (l_is_motion : K.lookup f_is_motion = some ⟨oc_is_motion, od_is_motion, .func (PySem.W.fnOf "is_motion" "is_motion" (defArgs s_is_motion) (defBody s_is_motion) (defScope s_is_motion) .none kV_is_motion dc_is_motion pm_is_motion an_is_motion cd_is_motion ct_is_motion), sl_is_motion⟩)
    (c_is_motion : PySem.W.codeIn K cd_is_motion "is_motion" = true)
    (k_is_motion : PySem.W.keepIn K (.ref f_is_motion) = true)
    (a_as_load : PySem.W.nsIn K mainGlobals "as_load" = some (some (.ref f_as_load)))
    (l_as_load : K.lookup f_as_load = some ⟨oc_as_load, od_as_load, .func (PySem.W.fnOf "as_load" "as_load" (defArgs s_as_load) (defBody s_as_load) (defScope s_as_load) .none kV_as_load dc_as_load pm_as_load an_as_load cd_as_load ct_as_load), sl_as_load⟩)
    (c_as_load : PySem.W.codeIn K cd_as_load "as_load" = true)
    (k_as_load : PySem.W.keepIn K (.ref f_as_load) = true)
    (a_ring_row : PySem.W.nsIn K mainGlobals "ring_row" = some (some (.ref f_ring_row)))
    (l_ring_row : K.lookup f_ring_row = some ⟨oc_ring_row, od_ring_row, .func (PySem.W.fnOf "ring_row" "ring_row" (defArgs s_ring_row) (defBody s_ring_row) (defScope s_ring_row) .none kV_ring_row dc_ring_row pm_ring_row an_ring_row cd_ring_row ct_ring_row), sl_ring_row⟩)
    (c_ring_row : PySem.W.codeIn K cd_ring_row "ring_row" = true)
    (k_ring_row : PySem.W.keepIn K (.ref f_ring_row) = true)
    (a_verdict : PySem.W.nsIn K mainGlobals "verdict" = some (some (.ref f_verdict)))
    (l_verdict : K.lookup f_verdict = some ⟨oc_verdict, od_verdict, .func (PySem.W.fnOf "verdict" "verdict" (defArgs s_verdict) (defBody s_verdict) (defScope s_verdict) .none kV_verdict dc_verdict pm_verdict an_verdict cd_verdict ct_verdict), sl_verdict⟩)
    (c_verdict : PySem.W.codeIn K cd_verdict "verdict" = true)
    (k_verdict : PySem.W.keepIn K (.ref f_verdict) = true)
    (a_law_taken : PySem.W.nsIn K mainGlobals "_law_taken" = some (some (.ref f_law_taken)))
    (l_law_taken : K.lookup f_law_taken = some ⟨oc_law_taken, od_law_taken, .func (PySem.W.fnOf "_law_taken" "_law_taken" (defArgs s_law_taken) (defBody s_law_taken) (defScope s_law_taken) .none kV_law_taken dc_law_taken pm_law_taken an_law_taken cd_law_taken ct_law_taken), sl_law_taken⟩)
    (c_law_taken : PySem.W.codeIn K cd_law_taken "_law_taken" = true)
    (k_law_taken : PySem.W.keepIn K (.ref f_law_taken) = true)
    (a_law_cells : PySem.W.nsIn K mainGlobals "_law_cells" = some (some (.ref f_law_cells)))
    (l_law_cells : K.lookup f_law_cells = some ⟨oc_law_cells, od_law_cells, .func (PySem.W.fnOf "_law_cells" "_law_cells" (defArgs s_law_cells) (defBody s_law_cells) (defScope s_law_cells) .none kV_law_cells dc_law_cells pm_law_cells an_law_cells cd_law_cells ct_law_cells), sl_law_cells⟩)
    (c_law_cells : PySem.W.codeIn K cd_law_cells "_law_cells" = true)
    (k_law_cells : PySem.W.keepIn K (.ref f_law_cells) = true)
    (a_law_many : PySem.W.nsIn K mainGlobals "_law_many" = some (some (.ref f_law_many)))
    (l_law_many : K.lookup f_law_many = some ⟨oc_law_many, od_law_many, .func (PySem.W.fnOf "_law_many" "_law_many" (defArgs s_law_many) (defBody s_law_many) (defScope s_law_many) .none kV_law_many dc_law_many pm_law_many an_law_many cd_law_many ct_law_many), sl_law_many⟩)
    (c_law_many : PySem.W.codeIn K cd_law_many "_law_many" = true)
    (k_law_many : PySem.W.keepIn K (.ref f_law_many) = true)
    (a_law_odd_cells : PySem.W.nsIn K mainGlobals "_law_odd_cells" = some (some (.ref f_law_odd_cells)))
    (l_law_odd_cells : K.lookup f_law_odd_cells = some ⟨oc_law_odd_cells, od_law_odd_cells, .func (PySem.W.fnOf "_law_odd_cells" "_law_odd_cells" (defArgs s_law_odd_cells) (defBody s_law_odd_cells) (defScope s_law_odd_cells) .none kV_law_odd_cells dc_law_odd_cells pm_law_odd_cells an_law_odd_cells cd_law_odd_cells ct_law_odd_cells), sl_law_odd_cells⟩)
    (c_law_odd_cells : PySem.W.codeIn K cd_law_odd_cells "_law_odd_cells" = true)
    (k_law_odd_cells : PySem.W.keepIn K (.ref f_law_odd_cells) = true)
    (a_law_error : PySem.W.nsIn K mainGlobals "_law_error" = some (some (.ref f_law_error)))
    (l_law_error : K.lookup f_law_error = some ⟨oc_law_error, od_law_error, .func (PySem.W.fnOf "_law_error" "_law_error" (defArgs s_law_error) (defBody s_law_error) (defScope s_law_error) .none kV_law_error dc_law_error pm_law_error an_law_error cd_law_error ct_law_error), sl_law_error⟩)
    (c_law_error : PySem.W.codeIn K cd_law_error "_law_error" = true)
    (k_law_error : PySem.W.keepIn K (.ref f_law_error) = true)
    (a_law : PySem.W.nsIn K mainGlobals "law" = some (some (.ref f_law)))
    (l_law : K.lookup f_law = some ⟨oc_law, od_law, .func (PySem.W.fnOf "law" "law" (defArgs s_law) (defBody s_law) (defScope s_law) .none kV_law dc_law pm_law an_law cd_law ct_law), sl_law⟩)
    (c_law : PySem.W.codeIn K cd_law "law" = true)
    (k_law : PySem.W.keepIn K (.ref f_law) = true)
    (pg : PySem.W.plainGet K C0 Str.empty = true)
    (hd : PySem.W.hasDictIn K C0 = true)
    (po : PySem.W.plainOver K C0 = true)
    (sa : PySem.W.findIn K (.ref C0) "__setattr__" = some (some (.builtin "object.__setattr__")))
    (mk : PySem.W.makesIn K C0 = true)
    (kc : PySem.W.keepIn K (.ref C0) = true)
    (n1 : PySem.W.findIn K (.ref C0) "_cells" = some none)
    (n2 : PySem.W.findIn K (.ref C0) "_threads" = some none)
    (ha : PySem.W.findIn K (.ref C0) "__class__" = some (some (.builtin "object.__class__")))
    (hn : PySem.W.specialIn K (.builtin "object.__class__") "__get__" = some (some (.builtin "getset_descriptor.__get__")))
    (htk : PySem.W.takesIn K (.builtin "object.__class__") = some true)
    (hmr : PySem.W.mroIn K C0 (.type "object") = some true)
    (ns_int : PySem.W.subIn K (.type "int") (.ref C0) = some false)
    (ns_tuple : PySem.W.subIn K (.type "tuple") (.ref C0) = some false)
    (hself : PySem.W.kitOne K (.ref C0) (.ref C0) = some true)
    (ho_NoneType : PySem.W.kitOne K (.type "NoneType") (.ref C0) = some false)
    (ho_int : PySem.W.kitOne K (.type "int") (.ref C0) = some false)
    (ho_bool : PySem.W.kitOne K (.type "bool") (.ref C0) = some false)
    (ho_str : PySem.W.kitOne K (.type "str") (.ref C0) = some false)
    (ho_tuple : PySem.W.kitOne K (.type "tuple") (.ref C0) = some false)
    (ho_list : PySem.W.kitOne K (.type "list") (.ref C0) = some false)
    (ho_dict : PySem.W.kitOne K (.type "dict") (.ref C0) = some false)
    (a_LONGEST_SIDE : PySem.W.nsIn K mainGlobals "LONGEST_SIDE" = some (some (.int 5 tk_LONGEST_SIDE)))
    (a_SIGNS : PySem.W.nsIn K mainGlobals "SIGNS" = some (some (.ref p_SIGNS)))
    (l_SIGNS : K.lookup p_SIGNS = some ⟨.type "tuple", od_SIGNS, .seq #[.str "." t0_SIGNS, .str "<" t1_SIGNS, .str ">" t2_SIGNS, .str "x" t3_SIGNS] nn_SIGNS, sl_SIGNS⟩)
    (a_OTHER_WAY : PySem.W.nsIn K mainGlobals "OTHER_WAY" = some (some (.ref p_OTHER_WAY)))
    (l_OTHER_WAY : K.lookup p_OTHER_WAY = some ⟨.type "dict", none, .dict es_OTHER_WAY nn_OTHER_WAY, #[]⟩)
    (kl_OTHER_WAY : PySem.W.KeysLit w.params es_OTHER_WAY.toList)
    (e0_OTHER_WAY : PySem.W.nsIn K p_OTHER_WAY "." = some (some (.str "." t0_OTHER_WAY)))
    (e1_OTHER_WAY : PySem.W.nsIn K p_OTHER_WAY "<" = some (some (.str ">" t1_OTHER_WAY)))
    (e2_OTHER_WAY : PySem.W.nsIn K p_OTHER_WAY ">" = some (some (.str "<" t2_OTHER_WAY)))
    (e3_OTHER_WAY : PySem.W.nsIn K p_OTHER_WAY "x" = some (some (.str "x" t3_OTHER_WAY)))
    (a_GREATEST_ANGLE : PySem.W.nsIn K mainGlobals "GREATEST_ANGLE" = some (some (.int 1000000 tk_GREATEST_ANGLE)))
    (z_ValueError : PySem.W.nsIn K mainGlobals "ValueError" = some none)
    (z_all : PySem.W.nsIn K mainGlobals "all" = some none)
    (z_bool : PySem.W.nsIn K mainGlobals "bool" = some none)
    (z_enumerate : PySem.W.nsIn K mainGlobals "enumerate" = some none)
    (z_int : PySem.W.nsIn K mainGlobals "int" = some none)
    (z_isinstance : PySem.W.nsIn K mainGlobals "isinstance" = some none)
    (z_len : PySem.W.nsIn K mainGlobals "len" = some none)
    (z_list : PySem.W.nsIn K mainGlobals "list" = some none)
    (z_min : PySem.W.nsIn K mainGlobals "min" = some none)
    (z_range : PySem.W.nsIn K mainGlobals "range" = some none)
    (z_set : PySem.W.nsIn K mainGlobals "set" = some none)
    (z_sorted : PySem.W.nsIn K mainGlobals "sorted" = some none)
    (z_str : PySem.W.nsIn K mainGlobals "str" = some none)
    (z_tuple : PySem.W.nsIn K mainGlobals "tuple" = some none)
    (z_zip : PySem.W.nsIn K mainGlobals "zip" = some none)
    (ec_law : cd_law = .ref c0)
    (lc_law : K.lookup c0 = some ⟨.type "code", odc_law, .fields vc_law, slc_law⟩)
    (pc_law : vc_law[11]? = some (.ref P0))
    (hh_law : PySem.W.codeHdIn K c0 P0 = true)
    (tt_law : h.get? P0 = some { cls := .none, data := .fields #[] })
    (nt_law : K.lookup P0 = none)
    (ec_in_order : cd_in_order = .ref cc_in_order)
    (lc_in_order : K.lookup cc_in_order = some ⟨.type "code", odc_in_order, .fields vc_in_order, slc_in_order⟩)
    (pc_in_order : vc_in_order[11]? = some (.ref PP_in_order))
    (hh_in_order : PySem.W.codeHdIn K cc_in_order PP_in_order = true)
    (tt_in_order : h.get? PP_in_order = some { cls := .none, data := .fields #[] })
    (nt_in_order : K.lookup PP_in_order = none)
    (np_law_in_order : ¬ P0 = PP_in_order)
    (np_in_order_law : ¬ PP_in_order = P0)
    :
    LamX.LawAtS l w K (L2.CX l.prog w) 15 63 "_law_script" mg fa h := by
  cases ec_law
  cases ec_in_order
  have e := hfa.symm.trans (PySem.W.mg_of X G a_law)
  cases e
  have F_is_number := fun_mk (st := s_is_number) l_is_number c_is_number k_is_number
  have F_is_whole := fun_mk (st := s_is_whole) l_is_whole c_is_whole k_is_whole
  have F_Board_len := fun_mk (st := s_Board_len) l_Board_len c_Board_len k_Board_len
  have F_are_numbers := fun_mk (st := s_are_numbers) l_are_numbers c_are_numbers k_are_numbers
  have F_are_whole := fun_mk (st := s_are_whole) l_are_whole c_are_whole k_are_whole
  have F_is_ascending := fun_mk (st := s_is_ascending) l_is_ascending c_is_ascending k_is_ascending
  have F_first_of := fun_mk (st := s_first_of) l_first_of c_first_of k_first_of
  have F_is_table := fun_mk (st := s_is_table) l_is_table c_is_table k_is_table
  have F_is_cells := fun_mk (st := s_is_cells) l_is_cells c_is_cells k_is_cells
  have F_Board_init := fun_mk (st := s_Board_init) l_Board_init c_Board_init k_Board_init
  have F_Board_cells := fun_mk (st := s_Board_cells) l_Board_cells c_Board_cells k_Board_cells
  have F_Board_rows := fun_mk (st := s_Board_rows) l_Board_rows c_Board_rows k_Board_rows
  have F_Board_columns := fun_mk (st := s_Board_columns) l_Board_columns c_Board_columns k_Board_columns
  have F_Board_eq := fun_mk (st := s_Board_eq) l_Board_eq c_Board_eq k_Board_eq
  have F_check_board := fun_mk (st := s_check_board) l_check_board c_check_board k_check_board
  have F_is_thread := fun_mk (st := s_is_thread) l_is_thread c_is_thread k_is_thread
  have F_check_thread := fun_mk (st := s_check_thread) l_check_thread c_check_thread k_check_thread
  have F_check_cell := fun_mk (st := s_check_cell) l_check_cell c_check_cell k_check_cell
  have F_steps := fun_mk (st := s_steps) l_steps c_steps k_steps
  have F_flipped := fun_mk (st := s_flipped) l_flipped c_flipped k_flipped
  have F_turned := fun_mk (st := s_turned) l_turned c_turned k_turned
  have F_with_cell := fun_mk (st := s_with_cell) l_with_cell c_with_cell k_with_cell
  have F_distances := fun_mk (st := s_distances) l_distances c_distances k_distances
  have F_chain := fun_mk (st := s_chain) l_chain c_chain k_chain
  have F_leads := fun_mk (st := s_leads) l_leads c_leads k_leads
  have F_reached := fun_mk (st := s_reached) l_reached c_reached k_reached
  have F_reaching := fun_mk (st := s_reaching) l_reaching c_reaching k_reaching
  have F_is_lot := fun_mk (st := s_is_lot) l_is_lot c_is_lot k_is_lot
  have F_check_lot := fun_mk (st := s_check_lot) l_check_lot c_check_lot k_check_lot
  have F_together := fun_mk (st := s_together) l_together c_together k_together
  have F_in_order := fun_mk (st := s_in_order) l_in_order c_in_order k_in_order
  have F_is_closed := fun_mk (st := s_is_closed) l_is_closed c_is_closed k_is_closed
  have F_closed_lots := fun_mk (st := s_closed_lots) l_closed_lots c_closed_lots k_closed_lots
  have F_least_closed := fun_mk (st := s_least_closed) l_least_closed c_least_closed k_least_closed
  have F_part_of := fun_mk (st := s_part_of) l_part_of c_part_of k_part_of
  have F_holds := fun_mk (st := s_holds) l_holds c_holds k_holds
  have F_lifts_off := fun_mk (st := s_lifts_off) l_lifts_off c_lifts_off k_lifts_off
  have F_lifting := fun_mk (st := s_lifting) l_lifting c_lifting k_lifting
  have F_is_motion := fun_mk (st := s_is_motion) l_is_motion c_is_motion k_is_motion
  have F_as_load := fun_mk (st := s_as_load) l_as_load c_as_load k_as_load
  have F_ring_row := fun_mk (st := s_ring_row) l_ring_row c_ring_row k_ring_row
  have F_verdict := fun_mk (st := s_verdict) l_verdict c_verdict k_verdict
  have F_law_taken := fun_mk (st := s_law_taken) l_law_taken c_law_taken k_law_taken
  have F_law_cells := fun_mk (st := s_law_cells) l_law_cells c_law_cells k_law_cells
  have F_law_many := fun_mk (st := s_law_many) l_law_many c_law_many k_law_many
  have F_law_odd_cells := fun_mk (st := s_law_odd_cells) l_law_odd_cells c_law_odd_cells k_law_odd_cells
  have F_law_error := fun_mk (st := s_law_error) l_law_error c_law_error k_law_error
  let A : Ad := {
    a_is_number := f_is_number, fd_is_number := PySem.W.fnOf "is_number" "is_number" (defArgs s_is_number) (defBody s_is_number) (defScope s_is_number) .none kV_is_number dc_is_number pm_is_number an_is_number cd_is_number ct_is_number,
    a_is_whole := f_is_whole, fd_is_whole := PySem.W.fnOf "is_whole" "is_whole" (defArgs s_is_whole) (defBody s_is_whole) (defScope s_is_whole) .none kV_is_whole dc_is_whole pm_is_whole an_is_whole cd_is_whole ct_is_whole,
    a_Board_len := f_Board_len, fd_Board_len := PySem.W.fnOf "__len__" "Board.__len__" (defArgs s_Board_len) (defBody s_Board_len) (defScope s_Board_len) .none kV_Board_len dc_Board_len pm_Board_len an_Board_len cd_Board_len ct_Board_len,
    a_are_numbers := f_are_numbers, fd_are_numbers := PySem.W.fnOf "are_numbers" "are_numbers" (defArgs s_are_numbers) (defBody s_are_numbers) (defScope s_are_numbers) .none kV_are_numbers dc_are_numbers pm_are_numbers an_are_numbers cd_are_numbers ct_are_numbers,
    a_are_whole := f_are_whole, fd_are_whole := PySem.W.fnOf "are_whole" "are_whole" (defArgs s_are_whole) (defBody s_are_whole) (defScope s_are_whole) .none kV_are_whole dc_are_whole pm_are_whole an_are_whole cd_are_whole ct_are_whole,
    a_is_ascending := f_is_ascending, fd_is_ascending := PySem.W.fnOf "is_ascending" "is_ascending" (defArgs s_is_ascending) (defBody s_is_ascending) (defScope s_is_ascending) .none kV_is_ascending dc_is_ascending pm_is_ascending an_is_ascending cd_is_ascending ct_is_ascending,
    a_first_of := f_first_of, fd_first_of := PySem.W.fnOf "first_of" "first_of" (defArgs s_first_of) (defBody s_first_of) (defScope s_first_of) .none kV_first_of dc_first_of pm_first_of an_first_of cd_first_of ct_first_of,
    a_is_table := f_is_table, fd_is_table := PySem.W.fnOf "is_table" "is_table" (defArgs s_is_table) (defBody s_is_table) (defScope s_is_table) .none kV_is_table dc_is_table pm_is_table an_is_table cd_is_table ct_is_table,
    a_is_cells := f_is_cells, fd_is_cells := PySem.W.fnOf "is_cells" "is_cells" (defArgs s_is_cells) (defBody s_is_cells) (defScope s_is_cells) .none kV_is_cells dc_is_cells pm_is_cells an_is_cells cd_is_cells ct_is_cells,
    a_Board_init := f_Board_init, fd_Board_init := PySem.W.fnOf "__init__" "Board.__init__" (defArgs s_Board_init) (defBody s_Board_init) (defScope s_Board_init) .none kV_Board_init dc_Board_init pm_Board_init an_Board_init cd_Board_init ct_Board_init,
    a_Board_cells := f_Board_cells, fd_Board_cells := PySem.W.fnOf "cells" "Board.cells" (defArgs s_Board_cells) (defBody s_Board_cells) (defScope s_Board_cells) .none kV_Board_cells dc_Board_cells pm_Board_cells an_Board_cells cd_Board_cells ct_Board_cells,
    a_Board_rows := f_Board_rows, fd_Board_rows := PySem.W.fnOf "rows" "Board.rows" (defArgs s_Board_rows) (defBody s_Board_rows) (defScope s_Board_rows) .none kV_Board_rows dc_Board_rows pm_Board_rows an_Board_rows cd_Board_rows ct_Board_rows,
    a_Board_columns := f_Board_columns, fd_Board_columns := PySem.W.fnOf "columns" "Board.columns" (defArgs s_Board_columns) (defBody s_Board_columns) (defScope s_Board_columns) .none kV_Board_columns dc_Board_columns pm_Board_columns an_Board_columns cd_Board_columns ct_Board_columns,
    a_Board_eq := f_Board_eq, fd_Board_eq := PySem.W.fnOf "__eq__" "Board.__eq__" (defArgs s_Board_eq) (defBody s_Board_eq) (defScope s_Board_eq) .none kV_Board_eq dc_Board_eq pm_Board_eq an_Board_eq cd_Board_eq ct_Board_eq,
    a_check_board := f_check_board, fd_check_board := PySem.W.fnOf "check_board" "check_board" (defArgs s_check_board) (defBody s_check_board) (defScope s_check_board) .none kV_check_board dc_check_board pm_check_board an_check_board cd_check_board ct_check_board,
    a_is_thread := f_is_thread, fd_is_thread := PySem.W.fnOf "is_thread" "is_thread" (defArgs s_is_thread) (defBody s_is_thread) (defScope s_is_thread) .none kV_is_thread dc_is_thread pm_is_thread an_is_thread cd_is_thread ct_is_thread,
    a_check_thread := f_check_thread, fd_check_thread := PySem.W.fnOf "check_thread" "check_thread" (defArgs s_check_thread) (defBody s_check_thread) (defScope s_check_thread) .none kV_check_thread dc_check_thread pm_check_thread an_check_thread cd_check_thread ct_check_thread,
    a_check_cell := f_check_cell, fd_check_cell := PySem.W.fnOf "check_cell" "check_cell" (defArgs s_check_cell) (defBody s_check_cell) (defScope s_check_cell) .none kV_check_cell dc_check_cell pm_check_cell an_check_cell cd_check_cell ct_check_cell,
    a_steps := f_steps, fd_steps := PySem.W.fnOf "steps" "steps" (defArgs s_steps) (defBody s_steps) (defScope s_steps) .none kV_steps dc_steps pm_steps an_steps cd_steps ct_steps,
    a_flipped := f_flipped, fd_flipped := PySem.W.fnOf "flipped" "flipped" (defArgs s_flipped) (defBody s_flipped) (defScope s_flipped) .none kV_flipped dc_flipped pm_flipped an_flipped cd_flipped ct_flipped,
    a_turned := f_turned, fd_turned := PySem.W.fnOf "turned" "turned" (defArgs s_turned) (defBody s_turned) (defScope s_turned) .none kV_turned dc_turned pm_turned an_turned cd_turned ct_turned,
    a_with_cell := f_with_cell, fd_with_cell := PySem.W.fnOf "with_cell" "with_cell" (defArgs s_with_cell) (defBody s_with_cell) (defScope s_with_cell) .none kV_with_cell dc_with_cell pm_with_cell an_with_cell cd_with_cell ct_with_cell,
    a_distances := f_distances, fd_distances := PySem.W.fnOf "distances" "distances" (defArgs s_distances) (defBody s_distances) (defScope s_distances) .none kV_distances dc_distances pm_distances an_distances cd_distances ct_distances,
    a_chain := f_chain, fd_chain := PySem.W.fnOf "chain" "chain" (defArgs s_chain) (defBody s_chain) (defScope s_chain) .none kV_chain dc_chain pm_chain an_chain cd_chain ct_chain,
    a_leads := f_leads, fd_leads := PySem.W.fnOf "leads" "leads" (defArgs s_leads) (defBody s_leads) (defScope s_leads) .none kV_leads dc_leads pm_leads an_leads cd_leads ct_leads,
    a_reached := f_reached, fd_reached := PySem.W.fnOf "reached" "reached" (defArgs s_reached) (defBody s_reached) (defScope s_reached) .none kV_reached dc_reached pm_reached an_reached cd_reached ct_reached,
    a_reaching := f_reaching, fd_reaching := PySem.W.fnOf "reaching" "reaching" (defArgs s_reaching) (defBody s_reaching) (defScope s_reaching) .none kV_reaching dc_reaching pm_reaching an_reaching cd_reaching ct_reaching,
    a_is_lot := f_is_lot, fd_is_lot := PySem.W.fnOf "is_lot" "is_lot" (defArgs s_is_lot) (defBody s_is_lot) (defScope s_is_lot) .none kV_is_lot dc_is_lot pm_is_lot an_is_lot cd_is_lot ct_is_lot,
    a_check_lot := f_check_lot, fd_check_lot := PySem.W.fnOf "check_lot" "check_lot" (defArgs s_check_lot) (defBody s_check_lot) (defScope s_check_lot) .none kV_check_lot dc_check_lot pm_check_lot an_check_lot cd_check_lot ct_check_lot,
    a_together := f_together, fd_together := PySem.W.fnOf "together" "together" (defArgs s_together) (defBody s_together) (defScope s_together) .none kV_together dc_together pm_together an_together cd_together ct_together,
    a_in_order := f_in_order, fd_in_order := PySem.W.fnOf "in_order" "in_order" (defArgs s_in_order) (defBody s_in_order) (defScope s_in_order) .none kV_in_order dc_in_order pm_in_order an_in_order (.ref cc_in_order) ct_in_order,
    c_in_order := cc_in_order, P_in_order := PP_in_order,
    a_is_closed := f_is_closed, fd_is_closed := PySem.W.fnOf "is_closed" "is_closed" (defArgs s_is_closed) (defBody s_is_closed) (defScope s_is_closed) .none kV_is_closed dc_is_closed pm_is_closed an_is_closed cd_is_closed ct_is_closed,
    a_closed_lots := f_closed_lots, fd_closed_lots := PySem.W.fnOf "closed_lots" "closed_lots" (defArgs s_closed_lots) (defBody s_closed_lots) (defScope s_closed_lots) .none kV_closed_lots dc_closed_lots pm_closed_lots an_closed_lots cd_closed_lots ct_closed_lots,
    a_least_closed := f_least_closed, fd_least_closed := PySem.W.fnOf "least_closed" "least_closed" (defArgs s_least_closed) (defBody s_least_closed) (defScope s_least_closed) .none kV_least_closed dc_least_closed pm_least_closed an_least_closed cd_least_closed ct_least_closed,
    a_part_of := f_part_of, fd_part_of := PySem.W.fnOf "part_of" "part_of" (defArgs s_part_of) (defBody s_part_of) (defScope s_part_of) .none kV_part_of dc_part_of pm_part_of an_part_of cd_part_of ct_part_of,
    a_holds := f_holds, fd_holds := PySem.W.fnOf "holds" "holds" (defArgs s_holds) (defBody s_holds) (defScope s_holds) .none kV_holds dc_holds pm_holds an_holds cd_holds ct_holds,
    a_lifts_off := f_lifts_off, fd_lifts_off := PySem.W.fnOf "lifts_off" "lifts_off" (defArgs s_lifts_off) (defBody s_lifts_off) (defScope s_lifts_off) .none kV_lifts_off dc_lifts_off pm_lifts_off an_lifts_off cd_lifts_off ct_lifts_off,
    a_lifting := f_lifting, fd_lifting := PySem.W.fnOf "lifting" "lifting" (defArgs s_lifting) (defBody s_lifting) (defScope s_lifting) .none kV_lifting dc_lifting pm_lifting an_lifting cd_lifting ct_lifting,
    a_is_motion := f_is_motion, fd_is_motion := PySem.W.fnOf "is_motion" "is_motion" (defArgs s_is_motion) (defBody s_is_motion) (defScope s_is_motion) .none kV_is_motion dc_is_motion pm_is_motion an_is_motion cd_is_motion ct_is_motion,
    a_as_load := f_as_load, fd_as_load := PySem.W.fnOf "as_load" "as_load" (defArgs s_as_load) (defBody s_as_load) (defScope s_as_load) .none kV_as_load dc_as_load pm_as_load an_as_load cd_as_load ct_as_load,
    a_ring_row := f_ring_row, fd_ring_row := PySem.W.fnOf "ring_row" "ring_row" (defArgs s_ring_row) (defBody s_ring_row) (defScope s_ring_row) .none kV_ring_row dc_ring_row pm_ring_row an_ring_row cd_ring_row ct_ring_row,
    a_verdict := f_verdict, fd_verdict := PySem.W.fnOf "verdict" "verdict" (defArgs s_verdict) (defBody s_verdict) (defScope s_verdict) .none kV_verdict dc_verdict pm_verdict an_verdict cd_verdict ct_verdict,
    a_law_taken := f_law_taken, fd_law_taken := PySem.W.fnOf "_law_taken" "_law_taken" (defArgs s_law_taken) (defBody s_law_taken) (defScope s_law_taken) .none kV_law_taken dc_law_taken pm_law_taken an_law_taken cd_law_taken ct_law_taken,
    a_law_cells := f_law_cells, fd_law_cells := PySem.W.fnOf "_law_cells" "_law_cells" (defArgs s_law_cells) (defBody s_law_cells) (defScope s_law_cells) .none kV_law_cells dc_law_cells pm_law_cells an_law_cells cd_law_cells ct_law_cells,
    a_law_many := f_law_many, fd_law_many := PySem.W.fnOf "_law_many" "_law_many" (defArgs s_law_many) (defBody s_law_many) (defScope s_law_many) .none kV_law_many dc_law_many pm_law_many an_law_many cd_law_many ct_law_many,
    a_law_odd_cells := f_law_odd_cells, fd_law_odd_cells := PySem.W.fnOf "_law_odd_cells" "_law_odd_cells" (defArgs s_law_odd_cells) (defBody s_law_odd_cells) (defScope s_law_odd_cells) .none kV_law_odd_cells dc_law_odd_cells pm_law_odd_cells an_law_odd_cells cd_law_odd_cells ct_law_odd_cells,
    a_law_error := f_law_error, fd_law_error := PySem.W.fnOf "_law_error" "_law_error" (defArgs s_law_error) (defBody s_law_error) (defScope s_law_error) .none kV_law_error dc_law_error pm_law_error an_law_error cd_law_error ct_law_error,
    q_cells := q_cells,
    q_rows := q_rows,
    q_columns := q_columns,
    a_SIGNS := p_SIGNS,
    a_OTHER_WAY := p_OTHER_WAY }
  let cls : Nat → Addr := fun k => match k with | 0 => C0 | 1 => C1 | 2 => C2 | 3 => C3 | 4 => C4 | 5 => C5 | 6 => C6 | 7 => C7 | 8 => C8 | 9 => C9 | 10 => C10 | 11 => C11 | 12 => C12 | 13 => C13 | 14 => C14 | _ => C14
  let fld : Nat → List Str := fun k => match k with | 0 => ["_cells", "_threads"] | _ => []
  have nf : ∀ c', cls c' = cls 0 → fld c' = (["_cells", "_threads"] : List Str) := fun c' z => match c', z with | 0, _ => rfl | 1, z => absurd z xn_WovenError | 2, z => absurd z xn_BadBoard | 3, z => absurd z xn_BadCells | 4, z => absurd z xn_BadRow | 5, z => absurd z xn_BadColumn | 6, z => absurd z xn_BadSign | 7, z => absurd z xn_BadThread | 8, z => absurd z xn_BadLot | 9, z => absurd z xn_NotClosed | 10, z => absurd z xn_NotLifting | 11, z => absurd z xn_BadLoad | 12, z => absurd z xn_BadStrengths | 13, z => absurd z xn_BadPrices | 14, z => absurd z xn_TooMany | n + 15, z => absurd z xn_TooMany
  have TT : ∀ base : Heap, (∀ p ∈ ([(c0, P0), (cc_in_order, PP_in_order)] : List (Addr × Addr)), LamX.TabB base mg p.1 p.2) → ∀ Lm R S ns, Tx A (gam K cls fld [(P0, lamQ), (PP_in_order, lamQ_in_order)] Lm R S ns) mg w base := fun base hB Lm R S ns => {
    F_is_number := F_is_number,
    b_is_number := F_is_number.binds (ps := ["value"]) fun _ _ _ _ _ _ us hl => match us, hl with | [_], _ => rfl,
    m_is_number := PySem.W.mg_of X G a_is_number,
    k_is_number := k_is_number,
    F_is_whole := F_is_whole,
    b_is_whole := F_is_whole.binds (ps := ["value", "least", "most"]) fun _ _ _ _ _ _ us hl => match us, hl with | [_, _, _], _ => rfl,
    m_is_whole := PySem.W.mg_of X G a_is_whole,
    k_is_whole := k_is_whole,
    F_Board_len := F_Board_len,
    b_Board_len := F_Board_len.binds (ps := ["self"]) fun _ _ _ _ _ _ us hl => match us, hl with | [_], _ => rfl,
    F_are_numbers := F_are_numbers,
    b_are_numbers := F_are_numbers.binds (ps := ["value", "many"]) fun _ _ _ _ _ _ us hl => match us, hl with | [_, _], _ => rfl,
    m_are_numbers := PySem.W.mg_of X G a_are_numbers,
    k_are_numbers := k_are_numbers,
    F_are_whole := F_are_whole,
    b_are_whole := F_are_whole.binds (ps := ["value", "many", "least", "most"]) fun _ _ _ _ _ _ us hl => match us, hl with | [_, _, _, _], _ => rfl,
    m_are_whole := PySem.W.mg_of X G a_are_whole,
    k_are_whole := k_are_whole,
    F_is_ascending := F_is_ascending,
    b_is_ascending := F_is_ascending.binds (ps := ["values"]) fun _ _ _ _ _ _ us hl => match us, hl with | [_], _ => rfl,
    m_is_ascending := PySem.W.mg_of X G a_is_ascending,
    k_is_ascending := k_is_ascending,
    F_first_of := F_first_of,
    b_first_of := F_first_of.binds (ps := ["values"]) fun _ _ _ _ _ _ us hl => match us, hl with | [_], _ => rfl,
    m_first_of := PySem.W.mg_of X G a_first_of,
    k_first_of := k_first_of,
    F_is_table := F_is_table,
    b_is_table := F_is_table.binds (ps := ["value", "signs"]) fun _ _ _ _ _ _ us hl => match us, hl with | [_, _], _ => rfl,
    m_is_table := PySem.W.mg_of X G a_is_table,
    k_is_table := k_is_table,
    F_is_cells := F_is_cells,
    b_is_cells := F_is_cells.binds (ps := ["value"]) fun _ _ _ _ _ _ us hl => match us, hl with | [_], _ => rfl,
    m_is_cells := PySem.W.mg_of X G a_is_cells,
    k_is_cells := k_is_cells,
    F_Board_init := F_Board_init,
    b_Board_init := F_Board_init.binds (ps := ["self", "cells"]) fun _ _ _ _ _ _ us hl => match us, hl with | [_, _], _ => rfl,
    F_Board_cells := F_Board_cells,
    b_Board_cells := F_Board_cells.binds (ps := ["self"]) fun _ _ _ _ _ _ us hl => match us, hl with | [_], _ => rfl,
    F_Board_rows := F_Board_rows,
    b_Board_rows := F_Board_rows.binds (ps := ["self"]) fun _ _ _ _ _ _ us hl => match us, hl with | [_], _ => rfl,
    F_Board_columns := F_Board_columns,
    b_Board_columns := F_Board_columns.binds (ps := ["self"]) fun _ _ _ _ _ _ us hl => match us, hl with | [_], _ => rfl,
    F_Board_eq := F_Board_eq,
    b_Board_eq := F_Board_eq.binds (ps := ["self", "other"]) fun _ _ _ _ _ _ us hl => match us, hl with | [_, _], _ => rfl,
    F_check_board := F_check_board,
    b_check_board := F_check_board.binds (ps := ["value"]) fun _ _ _ _ _ _ us hl => match us, hl with | [_], _ => rfl,
    m_check_board := PySem.W.mg_of X G a_check_board,
    k_check_board := k_check_board,
    F_is_thread := F_is_thread,
    b_is_thread := F_is_thread.binds (ps := ["board", "value"]) fun _ _ _ _ _ _ us hl => match us, hl with | [_, _], _ => rfl,
    m_is_thread := PySem.W.mg_of X G a_is_thread,
    k_is_thread := k_is_thread,
    F_check_thread := F_check_thread,
    b_check_thread := F_check_thread.binds (ps := ["board", "value"]) fun _ _ _ _ _ _ us hl => match us, hl with | [_, _], _ => rfl,
    m_check_thread := PySem.W.mg_of X G a_check_thread,
    k_check_thread := k_check_thread,
    F_check_cell := F_check_cell,
    b_check_cell := F_check_cell.binds (ps := ["board", "row", "column"]) fun _ _ _ _ _ _ us hl => match us, hl with | [_, _, _], _ => rfl,
    m_check_cell := PySem.W.mg_of X G a_check_cell,
    k_check_cell := k_check_cell,
    F_steps := F_steps,
    b_steps := F_steps.binds (ps := ["board"]) fun _ _ _ _ _ _ us hl => match us, hl with | [_], _ => rfl,
    m_steps := PySem.W.mg_of X G a_steps,
    k_steps := k_steps,
    F_flipped := F_flipped,
    b_flipped := F_flipped.binds (ps := ["board"]) fun _ _ _ _ _ _ us hl => match us, hl with | [_], _ => rfl,
    m_flipped := PySem.W.mg_of X G a_flipped,
    k_flipped := k_flipped,
    F_turned := F_turned,
    b_turned := F_turned.binds (ps := ["board"]) fun _ _ _ _ _ _ us hl => match us, hl with | [_], _ => rfl,
    m_turned := PySem.W.mg_of X G a_turned,
    k_turned := k_turned,
    F_with_cell := F_with_cell,
    b_with_cell := F_with_cell.binds (ps := ["board", "row", "column", "sign"]) fun _ _ _ _ _ _ us hl => match us, hl with | [_, _, _, _], _ => rfl,
    m_with_cell := PySem.W.mg_of X G a_with_cell,
    k_with_cell := k_with_cell,
    F_distances := F_distances,
    b_distances := F_distances.binds (ps := ["pairs", "start"]) fun _ _ _ _ _ _ us hl => match us, hl with | [_, _], _ => rfl,
    m_distances := PySem.W.mg_of X G a_distances,
    k_distances := k_distances,
    F_chain := F_chain,
    b_chain := F_chain.binds (ps := ["board", "one", "other"]) fun _ _ _ _ _ _ us hl => match us, hl with | [_, _, _], _ => rfl,
    m_chain := PySem.W.mg_of X G a_chain,
    k_chain := k_chain,
    F_leads := F_leads,
    b_leads := F_leads.binds (ps := ["board", "one", "other"]) fun _ _ _ _ _ _ us hl => match us, hl with | [_, _, _], _ => rfl,
    m_leads := PySem.W.mg_of X G a_leads,
    k_leads := k_leads,
    F_reached := F_reached,
    b_reached := F_reached.binds (ps := ["board", "one"]) fun _ _ _ _ _ _ us hl => match us, hl with | [_, _], _ => rfl,
    m_reached := PySem.W.mg_of X G a_reached,
    k_reached := k_reached,
    F_reaching := F_reaching,
    b_reaching := F_reaching.binds (ps := ["board", "other"]) fun _ _ _ _ _ _ us hl => match us, hl with | [_, _], _ => rfl,
    m_reaching := PySem.W.mg_of X G a_reaching,
    k_reaching := k_reaching,
    F_is_lot := F_is_lot,
    b_is_lot := F_is_lot.binds (ps := ["board", "value"]) fun _ _ _ _ _ _ us hl => match us, hl with | [_, _], _ => rfl,
    m_is_lot := PySem.W.mg_of X G a_is_lot,
    k_is_lot := k_is_lot,
    F_check_lot := F_check_lot,
    b_check_lot := F_check_lot.binds (ps := ["board", "value"]) fun _ _ _ _ _ _ us hl => match us, hl with | [_, _], _ => rfl,
    m_check_lot := PySem.W.mg_of X G a_check_lot,
    k_check_lot := k_check_lot,
    F_together := F_together,
    b_together := F_together.binds (ps := ["lot", "other"]) fun _ _ _ _ _ _ us hl => match us, hl with | [_, _], _ => rfl,
    m_together := PySem.W.mg_of X G a_together,
    k_together := k_together,
    F_in_order := F_in_order,
    b_in_order := F_in_order.binds (ps := ["lots"]) fun _ _ _ _ _ _ us hl => match us, hl with | [_], _ => rfl,
    C_in_order := funC_mk l_in_order c_in_order,
    tb_in_order := hB (cc_in_order, PP_in_order) (List.mem_cons_of_mem _ (List.mem_cons_self)),
    tm_in_order := List.mem_cons_of_mem _ (List.mem_cons_self),
    to_in_order := List.forall_mem_cons.mpr ⟨fun e => absurd e np_law_in_order, List.forall_mem_cons.mpr ⟨fun _ => rfl, fun _ h => absurd h List.not_mem_nil⟩⟩,
    m_in_order := PySem.W.mg_of X G a_in_order,
    k_in_order := k_in_order,
    F_is_closed := F_is_closed,
    b_is_closed := F_is_closed.binds (ps := ["board", "lot"]) fun _ _ _ _ _ _ us hl => match us, hl with | [_, _], _ => rfl,
    m_is_closed := PySem.W.mg_of X G a_is_closed,
    k_is_closed := k_is_closed,
    F_closed_lots := F_closed_lots,
    b_closed_lots := F_closed_lots.binds (ps := ["board"]) fun _ _ _ _ _ _ us hl => match us, hl with | [_], _ => rfl,
    m_closed_lots := PySem.W.mg_of X G a_closed_lots,
    k_closed_lots := k_closed_lots,
    F_least_closed := F_least_closed,
    b_least_closed := F_least_closed.binds (ps := ["board", "lot"]) fun _ _ _ _ _ _ us hl => match us, hl with | [_, _], _ => rfl,
    m_least_closed := PySem.W.mg_of X G a_least_closed,
    k_least_closed := k_least_closed,
    F_part_of := F_part_of,
    b_part_of := F_part_of.binds (ps := ["board", "thread"]) fun _ _ _ _ _ _ us hl => match us, hl with | [_, _], _ => rfl,
    m_part_of := PySem.W.mg_of X G a_part_of,
    k_part_of := k_part_of,
    F_holds := F_holds,
    b_holds := F_holds.binds (ps := ["board"]) fun _ _ _ _ _ _ us hl => match us, hl with | [_], _ => rfl,
    m_holds := PySem.W.mg_of X G a_holds,
    k_holds := k_holds,
    F_lifts_off := F_lifts_off,
    b_lifts_off := F_lifts_off.binds (ps := ["board", "lot"]) fun _ _ _ _ _ _ us hl => match us, hl with | [_, _], _ => rfl,
    m_lifts_off := PySem.W.mg_of X G a_lifts_off,
    k_lifts_off := k_lifts_off,
    F_lifting := F_lifting,
    b_lifting := F_lifting.binds (ps := ["board"]) fun _ _ _ _ _ _ us hl => match us, hl with | [_], _ => rfl,
    m_lifting := PySem.W.mg_of X G a_lifting,
    k_lifting := k_lifting,
    F_is_motion := F_is_motion,
    b_is_motion := F_is_motion.binds (ps := ["board", "value"]) fun _ _ _ _ _ _ us hl => match us, hl with | [_, _], _ => rfl,
    m_is_motion := PySem.W.mg_of X G a_is_motion,
    k_is_motion := k_is_motion,
    F_as_load := F_as_load,
    b_as_load := F_as_load.binds (ps := ["board", "lot"]) fun _ _ _ _ _ _ us hl => match us, hl with | [_, _], _ => rfl,
    m_as_load := PySem.W.mg_of X G a_as_load,
    k_as_load := k_as_load,
    F_ring_row := F_ring_row,
    b_ring_row := F_ring_row.binds (ps := ["board"]) fun _ _ _ _ _ _ us hl => match us, hl with | [_], _ => rfl,
    m_ring_row := PySem.W.mg_of X G a_ring_row,
    k_ring_row := k_ring_row,
    F_verdict := F_verdict,
    b_verdict := F_verdict.binds (ps := ["board"]) fun _ _ _ _ _ _ us hl => match us, hl with | [_], _ => rfl,
    m_verdict := PySem.W.mg_of X G a_verdict,
    k_verdict := k_verdict,
    F_law_taken := F_law_taken,
    b_law_taken := F_law_taken.binds (ps := ["_law_row", "_law_many_here"]) fun _ _ _ _ _ _ us hl => match us, hl with | [_, _], _ => rfl,
    m_law_taken := PySem.W.mg_of X G a_law_taken,
    k_law_taken := k_law_taken,
    F_law_cells := F_law_cells,
    b_law_cells := F_law_cells.binds (ps := ["_law_row", "_law_most"]) fun _ _ _ _ _ _ us hl => match us, hl with | [_, _], _ => rfl,
    m_law_cells := PySem.W.mg_of X G a_law_cells,
    k_law_cells := k_law_cells,
    F_law_many := F_law_many,
    b_law_many := F_law_many.binds (ps := ["_law_cells_here"]) fun _ _ _ _ _ _ us hl => match us, hl with | [_], _ => rfl,
    m_law_many := PySem.W.mg_of X G a_law_many,
    k_law_many := k_law_many,
    F_law_odd_cells := F_law_odd_cells,
    b_law_odd_cells := F_law_odd_cells.binds (ps := ["_law_row", "_law_cells_here"]) fun _ _ _ _ _ _ us hl => match us, hl with | [_, _], _ => rfl,
    m_law_odd_cells := PySem.W.mg_of X G a_law_odd_cells,
    k_law_odd_cells := k_law_odd_cells,
    F_law_error := F_law_error,
    b_law_error := F_law_error.binds (ps := ["_law_work"]) fun _ _ _ _ _ _ us hl => match us, hl with | [_], _ => rfl,
    m_law_error := PySem.W.mg_of X G a_law_error,
    k_law_error := k_law_error,
    n_ValueError := PySem.W.mg_none_of X G z_ValueError,
    n_all := PySem.W.mg_none_of X G z_all,
    n_bool := PySem.W.mg_none_of X G z_bool,
    n_enumerate := PySem.W.mg_none_of X G z_enumerate,
    n_int := PySem.W.mg_none_of X G z_int,
    n_isinstance := PySem.W.mg_none_of X G z_isinstance,
    n_len := PySem.W.mg_none_of X G z_len,
    n_list := PySem.W.mg_none_of X G z_list,
    n_min := PySem.W.mg_none_of X G z_min,
    n_range := PySem.W.mg_none_of X G z_range,
    n_set := PySem.W.mg_none_of X G z_set,
    n_sorted := PySem.W.mg_none_of X G z_sorted,
    n_str := PySem.W.mg_none_of X G z_str,
    n_tuple := PySem.W.mg_none_of X G z_tuple,
    n_zip := PySem.W.mg_none_of X G z_zip,
    g_LONGEST_SIDE := ⟨_, PySem.W.mg_of X G a_LONGEST_SIDE⟩,
    g_SIGNS := PySem.W.mg_of X G a_SIGNS,
    h_SIGNS := fun H => .ktup (xs := [.str ".", .str "<", .str ">", .str "x"]) (fun H' => .inr ⟨_, _, _, l_SIGNS, rfl, rfl, small (show (4 : Nat) ≤ 1000 by decide), (.cons ⟨_, rfl⟩ (.cons ⟨_, rfl⟩ (.cons ⟨_, rfl⟩ (.cons ⟨_, rfl⟩ .nil))))⟩) ((.cons (.str _) (.cons (.str _) (.cons (.str _) (.cons (.str _) .nil))))),
    g_OTHER_WAY := PySem.W.mg_of X G a_OTHER_WAY,
    h_OTHER_WAY := kd_tab [(".", "."), ("<", ">"), (">", "<"), ("x", "x")] l_OTHER_WAY kl_OTHER_WAY (by simpa using ⟨⟨_, e0_OTHER_WAY⟩, ⟨_, e1_OTHER_WAY⟩, ⟨_, e2_OTHER_WAY⟩, ⟨_, e3_OTHER_WAY⟩⟩),
    g_GREATEST_ANGLE := ⟨_, PySem.W.mg_of X G a_GREATEST_ANGLE⟩,
    m_Board := PySem.W.mg_of X G a_Board,
    m_WovenError := PySem.W.mg_of X G a_WovenError,
    m_BadBoard := PySem.W.mg_of X G a_BadBoard,
    x_BadBoard := ⟨⟨_, _, _, _, PySem.F.excBase_ValueError, xq_BadBoard⟩, xk_BadBoard, xs_BadBoard, xt_BadBoard⟩,
    m_BadCells := PySem.W.mg_of X G a_BadCells,
    x_BadCells := ⟨⟨_, _, _, _, PySem.F.excBase_ValueError, xq_BadCells⟩, xk_BadCells, xs_BadCells, xt_BadCells⟩,
    m_BadRow := PySem.W.mg_of X G a_BadRow,
    x_BadRow := ⟨⟨_, _, _, _, PySem.F.excBase_ValueError, xq_BadRow⟩, xk_BadRow, xs_BadRow, xt_BadRow⟩,
    m_BadColumn := PySem.W.mg_of X G a_BadColumn,
    x_BadColumn := ⟨⟨_, _, _, _, PySem.F.excBase_ValueError, xq_BadColumn⟩, xk_BadColumn, xs_BadColumn, xt_BadColumn⟩,
    m_BadSign := PySem.W.mg_of X G a_BadSign,
    x_BadSign := ⟨⟨_, _, _, _, PySem.F.excBase_ValueError, xq_BadSign⟩, xk_BadSign, xs_BadSign, xt_BadSign⟩,
    m_BadThread := PySem.W.mg_of X G a_BadThread,
    x_BadThread := ⟨⟨_, _, _, _, PySem.F.excBase_ValueError, xq_BadThread⟩, xk_BadThread, xs_BadThread, xt_BadThread⟩,
    m_BadLot := PySem.W.mg_of X G a_BadLot,
    x_BadLot := ⟨⟨_, _, _, _, PySem.F.excBase_ValueError, xq_BadLot⟩, xk_BadLot, xs_BadLot, xt_BadLot⟩,
    m_NotClosed := PySem.W.mg_of X G a_NotClosed,
    m_NotLifting := PySem.W.mg_of X G a_NotLifting,
    x_NotLifting := ⟨⟨_, _, _, _, PySem.F.excBase_ValueError, xq_NotLifting⟩, xk_NotLifting, xs_NotLifting, xt_NotLifting⟩,
    m_BadLoad := PySem.W.mg_of X G a_BadLoad,
    m_BadStrengths := PySem.W.mg_of X G a_BadStrengths,
    m_BadPrices := PySem.W.mg_of X G a_BadPrices,
    m_TooMany := PySem.W.mg_of X G a_TooMany,
    cl_Board := ⟨pg, hd, po, sa⟩,
    na__cells := n1,
    na__threads := n2,
    fl_Board := rfl,
    nf_Board := nf,
    mk_Board := ⟨mk, a_Board_init, i_Board_init, kc⟩,
    isc_Board := ⟨⟨pg, hd, po, sa⟩, ha, hn, htk, hmr, hself, by simpa using ⟨ho_NoneType, ho_int, ho_bool, ho_str, ho_tuple, ho_list, ho_dict⟩⟩,
    len_s := a_Board_len,
    len_f := i_Board_len,
    ns_int := ns_int, ns_tuple := ns_tuple,
    eq_s := a_Board_eq,
    eq_f := i_Board_eq,
    prop_cells := ⟨pa_cells, pg_cells, pt_cells, ⟨_, pr_cells⟩⟩,
    prop_rows := ⟨pa_rows, pg_rows, pt_rows, ⟨_, pr_rows⟩⟩,
    prop_columns := ⟨pa_columns, pg_columns, pt_columns, ⟨_, pr_columns⟩⟩,
    y_BadCells := ask_mk (pairsE 3) ⟨eg_BadCells, ek_BadCells, xs_BadCells, ed_BadCells, ea_BadCells, hn, htk, em_BadCells⟩ ev_BadCells (by simpa [pairsE, cls] using ⟨e2_BadCells, e3_BadCells, e4_BadCells, e5_BadCells, e6_BadCells, e7_BadCells, e8_BadCells, e9_BadCells, e10_BadCells, e11_BadCells, e12_BadCells, e14_BadCells, e13_BadCells⟩),
    z_BadCells := PySem.W.exm_ref ww_s ww_d ww_t ew_BadCells,
    y_BadBoard := ask_mk (pairsE 2) ⟨eg_BadBoard, ek_BadBoard, xs_BadBoard, ed_BadBoard, ea_BadBoard, hn, htk, em_BadBoard⟩ ev_BadBoard (by simpa [pairsE, cls] using ⟨e2_BadBoard, e3_BadBoard, e4_BadBoard, e5_BadBoard, e6_BadBoard, e7_BadBoard, e8_BadBoard, e9_BadBoard, e10_BadBoard, e11_BadBoard, e12_BadBoard, e14_BadBoard, e13_BadBoard⟩),
    z_BadBoard := PySem.W.exm_ref ww_s ww_d ww_t ew_BadBoard }
  exact ⟨PySem.W.fnOf "law" "law" (defArgs s_law) (defBody s_law) (defScope s_law) .none kV_law dc_law pm_law an_law (.ref c0) ct_law, [(c0, P0), (cc_in_order, PP_in_order)], spLaw K [(P0, lamQ), (PP_in_order, lamQ_in_order)], List.forall_mem_cons.mpr ⟨tt_law, List.forall_mem_cons.mpr ⟨tt_in_order, fun _ h => absurd h List.not_mem_nil⟩⟩, List.forall_mem_cons.mpr ⟨nt_law, List.forall_mem_cons.mpr ⟨nt_in_order, fun _ h => absurd h List.not_mem_nil⟩⟩, List.forall_mem_cons.mpr ⟨PySem.W.codeHd_of_K X hh_law, List.forall_mem_cons.mpr ⟨PySem.W.codeHd_of_K X hh_in_order, fun _ h => absurd h List.not_mem_nil⟩⟩, fun s v => .of_eq rfl,
    fun H a ns hl _ ht hS => ⟨a, ns, rfl, hS, hl, List.forall_mem_cons.mpr ⟨LamX.TabS.nil (ht (c0, P0) (List.mem_cons_self)), List.forall_mem_cons.mpr ⟨LamX.TabS.nil (ht (cc_in_order, PP_in_order) (List.mem_cons_of_mem _ (List.mem_cons_self))), fun _ h => absurd h List.not_mem_nil⟩⟩, fun _ => rfl⟩, fun base _ _ hB => ok_law l_law c_law (hB (c0, P0) List.mem_cons_self) (TT base hB) (List.forall_mem_cons.mpr ⟨fun _ => rfl, List.forall_mem_cons.mpr ⟨fun e => absurd e np_in_order_law, fun _ h => absurd h List.not_mem_nil⟩⟩) (pure_law)⟩
theorem walk {l : PySem.W.OpenLaw} {q : Program} {loose : List Str} {XP : (Str → Option Value) → Heap → Prop} {YP : World → Heap → Prop} {d : DefRec} {K : Params → PySem.W.Frag} (hn : l.most = some 63) (hdf : d.params.defaults = [])
    (hY : ∀ (w : World) (h : Heap), YP w h → (K w.params).In h)
    (F : ∀ (w : World) (mg : Str → Option Value) (fa : Addr) (h : Heap), YP w h → (K w.params).In h → h.Ns mainGlobals mg → mg d.name = some (.ref fa) → LamX.LawAtS l w (K w.params) (L2.CX l.prog w) 15 63 "_law_script" mg fa h) :
    PySem.W.WalkO q loose XP YP l.row.toRowW d [] (fun f vs => PySem.call f vs) :=
  LamX.walk_ofTs (CX := fun w => L2.CX l.prog w) hn (by decide) hdf ⟨rfl, by decide, by decide⟩ hY F fun _ _ _ _ _ h => by
    obtain ⟨_, _, _, _, _, _, _, _, _, _, _, _, z⟩ := h
    exact z
end K00
open PySem PySem.W PyProof.Rows in
set_option maxRecDepth 100000 in
set_option maxHeartbeats 0 in
theorem PySem.Challenge.cw_wovenframes_k00_boards_refused_holds : PySem.Challenge.rw_wovenframes_k00_boards_refused.Holds := by
  w_on; o_law; k_head; (case hw => w_witness2)
  k_fill
  refine K00.walk (l := PySem.Challenge.rw_wovenframes_k00_boards_refused) rfl rfl (fun w h Y => PySem.W.km_in_of Y) ?F
  case F =>
    intro w mg fa h Y KX G hmg
    refine' K00.all_mk KX G hmg ?a_Board ?a_WovenError ?a_BadBoard ?a_BadCells ?a_BadRow ?a_BadColumn ?a_BadSign ?a_BadThread ?a_BadLot ?a_NotClosed ?a_NotLifting ?a_BadLoad ?a_BadStrengths ?a_BadPrices ?a_TooMany ?xn_WovenError ?xq_BadBoard ?xk_BadBoard ?xs_BadBoard ?xt_BadBoard ?xn_BadBoard ?eg_BadBoard ?ek_BadBoard ?ed_BadBoard ?ea_BadBoard ?em_BadBoard ?ev_BadBoard ?e2_BadBoard ?e3_BadBoard ?e4_BadBoard ?e5_BadBoard ?e6_BadBoard ?e7_BadBoard ?e8_BadBoard ?e9_BadBoard ?e10_BadBoard ?e11_BadBoard ?e12_BadBoard ?e14_BadBoard ?e13_BadBoard ?ew_BadBoard ?xq_BadCells ?xk_BadCells ?xs_BadCells ?xt_BadCells ?xn_BadCells ?eg_BadCells ?ek_BadCells ?ed_BadCells ?ea_BadCells ?em_BadCells ?ev_BadCells ?e2_BadCells ?e3_BadCells ?e4_BadCells ?e5_BadCells ?e6_BadCells ?e7_BadCells ?e8_BadCells ?e9_BadCells ?e10_BadCells ?e11_BadCells ?e12_BadCells ?e14_BadCells ?e13_BadCells ?ew_BadCells ?xq_BadRow ?xk_BadRow ?xs_BadRow ?xt_BadRow ?xn_BadRow ?xq_BadColumn ?xk_BadColumn ?xs_BadColumn ?xt_BadColumn ?xn_BadColumn ?xq_BadSign ?xk_BadSign ?xs_BadSign ?xt_BadSign ?xn_BadSign ?xq_BadThread ?xk_BadThread ?xs_BadThread ?xt_BadThread ?xn_BadThread ?xq_BadLot ?xk_BadLot ?xs_BadLot ?xt_BadLot ?xn_BadLot ?xn_NotClosed ?xq_NotLifting ?xk_NotLifting ?xs_NotLifting ?xt_NotLifting ?xn_NotLifting ?xn_BadLoad ?xn_BadStrengths ?xn_BadPrices ?xn_TooMany ?ww_s ?ww_d ?ww_t ?a_is_number ?l_is_number ?c_is_number ?k_is_number ?a_is_whole ?l_is_whole ?c_is_whole ?k_is_whole ?a_Board_len ?i_Board_len ?l_Board_len ?c_Board_len ?k_Board_len ?a_are_numbers ?l_are_numbers ?c_are_numbers ?k_are_numbers ?a_are_whole ?l_are_whole ?c_are_whole ?k_are_whole ?a_is_ascending ?l_is_ascending ?c_is_ascending ?k_is_ascending ?a_first_of ?l_first_of ?c_first_of ?k_first_of ?a_is_table ?l_is_table ?c_is_table ?k_is_table ?a_is_cells ?l_is_cells ?c_is_cells ?k_is_cells ?a_Board_init ?i_Board_init ?l_Board_init ?c_Board_init ?k_Board_init ?pa_cells ?pg_cells ?pt_cells ?pr_cells ?l_Board_cells ?c_Board_cells ?k_Board_cells ?pa_rows ?pg_rows ?pt_rows ?pr_rows ?l_Board_rows ?c_Board_rows ?k_Board_rows ?pa_columns ?pg_columns ?pt_columns ?pr_columns ?l_Board_columns ?c_Board_columns ?k_Board_columns ?a_Board_eq ?i_Board_eq ?l_Board_eq ?c_Board_eq ?k_Board_eq ?a_check_board ?l_check_board ?c_check_board ?k_check_board ?a_is_thread ?l_is_thread ?c_is_thread ?k_is_thread ?a_check_thread ?l_check_thread ?c_check_thread ?k_check_thread ?a_check_cell ?l_check_cell ?c_check_cell ?k_check_cell ?a_steps ?l_steps ?c_steps ?k_steps ?a_flipped ?l_flipped ?c_flipped ?k_flipped ?a_turned ?l_turned ?c_turned ?k_turned ?a_with_cell ?l_with_cell ?c_with_cell ?k_with_cell ?a_distances ?l_distances ?c_distances ?k_distances ?a_chain ?l_chain ?c_chain ?k_chain ?a_leads ?l_leads ?c_leads ?k_leads ?a_reached ?l_reached ?c_reached ?k_reached ?a_reaching ?l_reaching ?c_reaching ?k_reaching ?a_is_lot ?l_is_lot ?c_is_lot ?k_is_lot ?a_check_lot ?l_check_lot ?c_check_lot ?k_check_lot ?a_together ?l_together ?c_together ?k_together ?a_in_order ?l_in_order ?c_in_order ?k_in_order ?a_is_closed ?l_is_closed ?c_is_closed ?k_is_closed ?a_closed_lots ?l_closed_lots ?c_closed_lots ?k_closed_lots ?a_least_closed ?l_least_closed ?c_least_closed ?k_least_closed ?a_part_of ?l_part_of ?c_part_of ?k_part_of ?a_holds ?l_holds ?c_holds ?k_holds ?a_lifts_off ?l_lifts_off ?c_lifts_off ?k_lifts_off ?a_lifting ?l_lifting ?c_lifting ?k_lifting ?a_is_motion ?l_is_motion ?c_is_motion ?k_is_motion ?a_as_load ?l_as_load ?c_as_load ?k_as_load ?a_ring_row ?l_ring_row ?c_ring_row ?k_ring_row ?a_verdict ?l_verdict ?c_verdict ?k_verdict ?a_law_taken ?l_law_taken ?c_law_taken ?k_law_taken ?a_law_cells ?l_law_cells ?c_law_cells ?k_law_cells ?a_law_many ?l_law_many ?c_law_many ?k_law_many ?a_law_odd_cells ?l_law_odd_cells ?c_law_odd_cells ?k_law_odd_cells ?a_law_error ?l_law_error ?c_law_error ?k_law_error ?a_law ?l_law ?c_law ?k_law ?pg ?hd ?po ?sa ?mk ?kc ?n1 ?n2 ?ha ?hn ?htk ?hmr ?ns_int ?ns_tuple ?hself ?ho_NoneType ?ho_int ?ho_bool ?ho_str ?ho_tuple ?ho_list ?ho_dict ?a_LONGEST_SIDE ?a_SIGNS ?l_SIGNS ?a_OTHER_WAY ?l_OTHER_WAY ?kl_OTHER_WAY ?e0_OTHER_WAY ?e1_OTHER_WAY ?e2_OTHER_WAY ?e3_OTHER_WAY ?a_GREATEST_ANGLE ?z_ValueError ?z_all ?z_bool ?z_enumerate ?z_int ?z_isinstance ?z_len ?z_list ?z_min ?z_range ?z_set ?z_sorted ?z_str ?z_tuple ?z_zip ?ec_law ?lc_law ?pc_law ?hh_law ?tt_law ?nt_law ?ec_in_order ?lc_in_order ?pc_in_order ?hh_in_order ?tt_in_order ?nt_in_order ?np_law_in_order ?np_in_order_law
    (case a_Board => k_is)
    (case a_WovenError => k_is)
    (case a_BadBoard => k_is)
    (case a_BadCells => k_is)
    (case a_BadRow => k_is)
    (case a_BadColumn => k_is)
    (case a_BadSign => k_is)
    (case a_BadThread => k_is)
    (case a_BadLot => k_is)
    (case a_NotClosed => k_is)
    (case a_NotLifting => k_is)
    (case a_BadLoad => k_is)
    (case a_BadStrengths => k_is)
    (case a_BadPrices => k_is)
    (case a_TooMany => k_is)
    (case xn_WovenError => decide)
    (case xq_BadBoard => k_exc)
    (case xk_BadBoard => k_is)
    (case xs_BadBoard => k_is)
    (case xt_BadBoard => k_is)
    (case xn_BadBoard => decide)
    (case eg_BadBoard => k_is)
    (case ek_BadBoard => k_is)
    (case ed_BadBoard => k_is)
    (case ea_BadBoard => k_is)
    (case em_BadBoard => k_is)
    (case ev_BadBoard => kit_is)
    (case e2_BadBoard => kit_is)
    (case e3_BadBoard => kit_is)
    (case e4_BadBoard => kit_is)
    (case e5_BadBoard => kit_is)
    (case e6_BadBoard => kit_is)
    (case e7_BadBoard => kit_is)
    (case e8_BadBoard => kit_is)
    (case e9_BadBoard => kit_is)
    (case e10_BadBoard => kit_is)
    (case e11_BadBoard => kit_is)
    (case e12_BadBoard => kit_is)
    (case e14_BadBoard => kit_is)
    (case e13_BadBoard => kit_is)
    (case ew_BadBoard => k_is)
    (case xq_BadCells => k_exc)
    (case xk_BadCells => k_is)
    (case xs_BadCells => k_is)
    (case xt_BadCells => k_is)
    (case xn_BadCells => decide)
    (case eg_BadCells => k_is)
    (case ek_BadCells => k_is)
    (case ed_BadCells => k_is)
    (case ea_BadCells => k_is)
    (case em_BadCells => k_is)
    (case ev_BadCells => kit_is)
    (case e2_BadCells => kit_is)
    (case e3_BadCells => kit_is)
    (case e4_BadCells => kit_is)
    (case e5_BadCells => kit_is)
    (case e6_BadCells => kit_is)
    (case e7_BadCells => kit_is)
    (case e8_BadCells => kit_is)
    (case e9_BadCells => kit_is)
    (case e10_BadCells => kit_is)
    (case e11_BadCells => kit_is)
    (case e12_BadCells => kit_is)
    (case e14_BadCells => kit_is)
    (case e13_BadCells => kit_is)
    (case ew_BadCells => k_is)
    (case xq_BadRow => k_exc)
    (case xk_BadRow => k_is)
    (case xs_BadRow => k_is)
    (case xt_BadRow => k_is)
    (case xn_BadRow => decide)
    (case xq_BadColumn => k_exc)
    (case xk_BadColumn => k_is)
    (case xs_BadColumn => k_is)
    (case xt_BadColumn => k_is)
    (case xn_BadColumn => decide)
    (case xq_BadSign => k_exc)
    (case xk_BadSign => k_is)
    (case xs_BadSign => k_is)
    (case xt_BadSign => k_is)
    (case xn_BadSign => decide)
    (case xq_BadThread => k_exc)
    (case xk_BadThread => k_is)
    (case xs_BadThread => k_is)
    (case xt_BadThread => k_is)
    (case xn_BadThread => decide)
    (case xq_BadLot => k_exc)
    (case xk_BadLot => k_is)
    (case xs_BadLot => k_is)
    (case xt_BadLot => k_is)
    (case xn_BadLot => decide)
    (case xn_NotClosed => decide)
    (case xq_NotLifting => k_exc)
    (case xk_NotLifting => k_is)
    (case xs_NotLifting => k_is)
    (case xt_NotLifting => k_is)
    (case xn_NotLifting => decide)
    (case xn_BadLoad => decide)
    (case xn_BadStrengths => decide)
    (case xn_BadPrices => decide)
    (case xn_TooMany => decide)
    (case ww_s => k_is)
    (case ww_d => k_is)
    (case ww_t => k_is)
    (case a_is_number => k_is)
    (case l_is_number => k_is)
    (case c_is_number => k_is)
    (case k_is_number => k_is)
    (case a_is_whole => k_is)
    (case l_is_whole => k_is)
    (case c_is_whole => k_is)
    (case k_is_whole => k_is)
    (case a_Board_len => k_is)
    (case i_Board_len => k_is)
    (case l_Board_len => k_is)
    (case c_Board_len => k_is)
    (case k_Board_len => k_is)
    (case a_are_numbers => k_is)
    (case l_are_numbers => k_is)
    (case c_are_numbers => k_is)
    (case k_are_numbers => k_is)
    (case a_are_whole => k_is)
    (case l_are_whole => k_is)
    (case c_are_whole => k_is)
    (case k_are_whole => k_is)
    (case a_is_ascending => k_is)
    (case l_is_ascending => k_is)
    (case c_is_ascending => k_is)
    (case k_is_ascending => k_is)
    (case a_first_of => k_is)
    (case l_first_of => k_is)
    (case c_first_of => k_is)
    (case k_first_of => k_is)
    (case a_is_table => k_is)
    (case l_is_table => k_is)
    (case c_is_table => k_is)
    (case k_is_table => k_is)
    (case a_is_cells => k_is)
    (case l_is_cells => k_is)
    (case c_is_cells => k_is)
    (case k_is_cells => k_is)
    (case a_Board_init => k_is)
    (case i_Board_init => k_is)
    (case l_Board_init => k_is)
    (case c_Board_init => k_is)
    (case k_Board_init => k_is)
    (case pa_cells => k_is)
    (case pg_cells => k_is)
    (case pt_cells => k_is)
    (case pr_cells => k_is)
    (case l_Board_cells => k_is)
    (case c_Board_cells => k_is)
    (case k_Board_cells => k_is)
    (case pa_rows => k_is)
    (case pg_rows => k_is)
    (case pt_rows => k_is)
    (case pr_rows => k_is)
    (case l_Board_rows => k_is)
    (case c_Board_rows => k_is)
    (case k_Board_rows => k_is)
    (case pa_columns => k_is)
    (case pg_columns => k_is)
    (case pt_columns => k_is)
    (case pr_columns => k_is)
    (case l_Board_columns => k_is)
    (case c_Board_columns => k_is)
    (case k_Board_columns => k_is)
    (case a_Board_eq => k_is)
    (case i_Board_eq => k_is)
    (case l_Board_eq => k_is)
    (case c_Board_eq => k_is)
    (case k_Board_eq => k_is)
    (case a_check_board => k_is)
    (case l_check_board => k_is)
    (case c_check_board => k_is)
    (case k_check_board => k_is)
    (case a_is_thread => k_is)
    (case l_is_thread => k_is)
    (case c_is_thread => k_is)
    (case k_is_thread => k_is)
    (case a_check_thread => k_is)
    (case l_check_thread => k_is)
    (case c_check_thread => k_is)
    (case k_check_thread => k_is)
    (case a_check_cell => k_is)
    (case l_check_cell => k_is)
    (case c_check_cell => k_is)
    (case k_check_cell => k_is)
    (case a_steps => k_is)
    (case l_steps => k_is)
    (case c_steps => k_is)
    (case k_steps => k_is)
    (case a_flipped => k_is)
    (case l_flipped => k_is)
    (case c_flipped => k_is)
    (case k_flipped => k_is)
    (case a_turned => k_is)
    (case l_turned => k_is)
    (case c_turned => k_is)
    (case k_turned => k_is)
    (case a_with_cell => k_is)
    (case l_with_cell => k_is)
    (case c_with_cell => k_is)
    (case k_with_cell => k_is)
    (case a_distances => k_is)
    (case l_distances => k_is)
    (case c_distances => k_is)
    (case k_distances => k_is)
    (case a_chain => k_is)
    (case l_chain => k_is)
    (case c_chain => k_is)
    (case k_chain => k_is)
    (case a_leads => k_is)
    (case l_leads => k_is)
    (case c_leads => k_is)
    (case k_leads => k_is)
    (case a_reached => k_is)
    (case l_reached => k_is)
    (case c_reached => k_is)
    (case k_reached => k_is)
    (case a_reaching => k_is)
    (case l_reaching => k_is)
    (case c_reaching => k_is)
    (case k_reaching => k_is)
    (case a_is_lot => k_is)
    (case l_is_lot => k_is)
    (case c_is_lot => k_is)
    (case k_is_lot => k_is)
    (case a_check_lot => k_is)
    (case l_check_lot => k_is)
    (case c_check_lot => k_is)
    (case k_check_lot => k_is)
    (case a_together => k_is)
    (case l_together => k_is)
    (case c_together => k_is)
    (case k_together => k_is)
    (case a_in_order => k_is)
    (case l_in_order => k_is)
    (case c_in_order => k_is)
    (case k_in_order => k_is)
    (case a_is_closed => k_is)
    (case l_is_closed => k_is)
    (case c_is_closed => k_is)
    (case k_is_closed => k_is)
    (case a_closed_lots => k_is)
    (case l_closed_lots => k_is)
    (case c_closed_lots => k_is)
    (case k_closed_lots => k_is)
    (case a_least_closed => k_is)
    (case l_least_closed => k_is)
    (case c_least_closed => k_is)
    (case k_least_closed => k_is)
    (case a_part_of => k_is)
    (case l_part_of => k_is)
    (case c_part_of => k_is)
    (case k_part_of => k_is)
    (case a_holds => k_is)
    (case l_holds => k_is)
    (case c_holds => k_is)
    (case k_holds => k_is)
    (case a_lifts_off => k_is)
    (case l_lifts_off => k_is)
    (case c_lifts_off => k_is)
    (case k_lifts_off => k_is)
    (case a_lifting => k_is)
    (case l_lifting => k_is)
    (case c_lifting => k_is)
    (case k_lifting => k_is)
    (case a_is_motion => k_is)
    (case l_is_motion => k_is)
    (case c_is_motion => k_is)
    (case k_is_motion => k_is)
    (case a_as_load => k_is)
    (case l_as_load => k_is)
    (case c_as_load => k_is)
    (case k_as_load => k_is)
    (case a_ring_row => k_is)
    (case l_ring_row => k_is)
    (case c_ring_row => k_is)
    (case k_ring_row => k_is)
    (case a_verdict => k_is)
    (case l_verdict => k_is)
    (case c_verdict => k_is)
    (case k_verdict => k_is)
    (case a_law_taken => k_is)
    (case l_law_taken => k_is)
    (case c_law_taken => k_is)
    (case k_law_taken => k_is)
    (case a_law_cells => k_is)
    (case l_law_cells => k_is)
    (case c_law_cells => k_is)
    (case k_law_cells => k_is)
    (case a_law_many => k_is)
    (case l_law_many => k_is)
    (case c_law_many => k_is)
    (case k_law_many => k_is)
    (case a_law_odd_cells => k_is)
    (case l_law_odd_cells => k_is)
    (case c_law_odd_cells => k_is)
    (case k_law_odd_cells => k_is)
    (case a_law_error => k_is)
    (case l_law_error => k_is)
    (case c_law_error => k_is)
    (case k_law_error => k_is)
    (case a_law => k_is)
    (case l_law => k_is)
    (case c_law => k_is)
    (case k_law => k_is)
    (case pg => k_is)
    (case hd => k_is)
    (case po => k_is)
    (case sa => k_is)
    (case mk => k_is)
    (case kc => k_is)
    (case n1 => k_is)
    (case n2 => k_is)
    (case ha => k_is)
    (case hn => k_is)
    (case htk => k_is)
    (case hmr => k_is)
    (case ns_int => k_is)
    (case ns_tuple => k_is)
    (case hself => kit_is)
    (case ho_NoneType => kit_is)
    (case ho_int => kit_is)
    (case ho_bool => kit_is)
    (case ho_str => kit_is)
    (case ho_tuple => kit_is)
    (case ho_list => kit_is)
    (case ho_dict => kit_is)
    (case a_LONGEST_SIDE => k_is)
    (case a_SIGNS => k_is)
    (case l_SIGNS => k_is)
    (case a_OTHER_WAY => k_is)
    (case l_OTHER_WAY => k_is)
    (case kl_OTHER_WAY => k_keys)
    (case e0_OTHER_WAY => k_is)
    (case e1_OTHER_WAY => k_is)
    (case e2_OTHER_WAY => k_is)
    (case e3_OTHER_WAY => k_is)
    (case a_GREATEST_ANGLE => k_is)
    (case z_ValueError => k_is)
    (case z_all => k_is)
    (case z_bool => k_is)
    (case z_enumerate => k_is)
    (case z_int => k_is)
    (case z_isinstance => k_is)
    (case z_len => k_is)
    (case z_list => k_is)
    (case z_min => k_is)
    (case z_range => k_is)
    (case z_set => k_is)
    (case z_sorted => k_is)
    (case z_str => k_is)
    (case z_tuple => k_is)
    (case z_zip => k_is)
    (case ec_law => rfl)
    (case lc_law => k_is)
    (case pc_law => rfl)
    (case hh_law => kernel_rfl)
    (case tt_law => exact PySem.W.km_tabs_of Y _ (by k_mem))
    (case nt_law => kernel_rfl)
    (case ec_in_order => rfl)
    (case lc_in_order => k_is)
    (case pc_in_order => rfl)
    (case hh_in_order => kernel_rfl)
    (case tt_in_order => exact PySem.W.km_tabs_of Y _ (by k_mem))
    (case nt_in_order => kernel_rfl)
    (case np_law_in_order => decide)
    (case np_in_order_law => decide)

