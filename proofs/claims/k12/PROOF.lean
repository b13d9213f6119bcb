import PyProof.Rows.All
import Wide.All
import OpenK.AllK
import Wide.FinOn
import PySem.Challenge.RW_whistleboard_k12_all_pairings_tried
import HandS.ForMost
import HandS.ForExc
import HandS.Flow
import HandS.IsInst
import HandS.More
import HandS.SetFor
import HandS.Conv
import HandS.Strs
import HandS.Style
set_option linter.all false
set_option autoImplicit false
namespace My
/-! ### the mathematics of pairs: a map of holders to wishes -/
abbrev Mp := List (Int × Int)
def get (M : Mp) (h : Int) : Option Int := (M.find? fun p => decide (p.1 = h)).map (·.2)
def put (M : Mp) (h w : Int) : Mp := if (M.any fun p => decide (p.1 = h)) = true then M.map fun p => if p.1 = h then (p.1, w) else p else M ++ [(h, w)]
def cnt (M : Mp) (w : Int) : Nat := M.countP fun p => decide (p.2 = w)
abbrev keys (M : Mp) : List Int := M.map (·.1)
theorem get_cons (p : Int × Int) (M : Mp) (h : Int) : get (p :: M) h = if p.1 = h then some p.2 else get M h := by
  unfold get
  by_cases e : p.1 = h
  · simp [List.find?_cons, e]
  · simp [List.find?_cons, e]
theorem get_none_iff {M : Mp} {h : Int} : get M h = none ↔ h ∉ keys M := by
  induction M with
  | nil => simp [get]
  | cons p M ih =>
    rw [get_cons]
    by_cases e : p.1 = h
    · simp [e]
    · rw [if_neg e, ih]
      simp only [keys, List.map_cons, List.mem_cons, not_or]
      exact ⟨fun q => ⟨fun z => e z.symm, q⟩, fun q => q.2⟩
theorem get_mem {M : Mp} {h w : Int} (e : get M h = some w) : (h, w) ∈ M := by
  induction M with
  | nil => simp [get] at e
  | cons p M ih =>
    rw [get_cons] at e
    by_cases c : p.1 = h
    · rw [if_pos c] at e
      have : p = (h, w) := by
        cases p
        simp only [Option.some.injEq] at e c ⊢
        rw [c, e]
      rw [this]
      exact List.mem_cons_self ..
    · rw [if_neg c] at e
      exact List.mem_cons_of_mem _ (ih e)
theorem mem_get {M : Mp} {h w : Int} (nd : (keys M).Nodup) (e : (h, w) ∈ M) : get M h = some w := by
  induction M with
  | nil => cases e
  | cons p M ih =>
    rw [get_cons]
    have nd' : p.1 ∉ keys M ∧ (keys M).Nodup := List.nodup_cons.mp nd
    rcases List.mem_cons.mp e with q | q
    · rw [← q, if_pos rfl]
    · rw [if_neg (fun c => nd'.1 (by rw [c]; exact List.mem_map.mpr ⟨_, q, rfl⟩)), ih nd'.2 q]
theorem any_get {M : Mp} {h : Int} : (M.any fun p => decide (p.1 = h)) = (get M h).isSome := by
  induction M with
  | nil => rfl
  | cons p M ih =>
    rw [get_cons, List.any_cons, ih]
    by_cases e : p.1 = h
    · simp [e]
    · simp [e]
theorem put_new {M : Mp} {h w : Int} (e : get M h = none) : put M h w = M ++ [(h, w)] := by
  unfold put
  rw [any_get, e]
  rfl
theorem put_old {M : Mp} {h w v : Int} (e : get M h = some v) : put M h w = M.map fun p => if p.1 = h then (p.1, w) else p := by
  unfold put
  rw [any_get, e]
  rfl
theorem get_snoc (M : Mp) (h w j : Int) : get M h = none → get (M ++ [(h, w)]) j = if j = h then some w else get M j := by
  intro e
  induction M with
  | nil =>
    show get [(h, w)] j = _
    rw [get_cons]
    by_cases c : h = j
    · rw [if_pos c, if_pos c.symm]
    · rw [if_neg c, if_neg (fun z => c z.symm)]
  | cons p M ih =>
    rw [get_cons] at e
    by_cases c : p.1 = h
    · rw [if_pos c] at e; cases e
    · rw [if_neg c] at e
      rw [List.cons_append, get_cons, ih e, get_cons]
      by_cases d : p.1 = j
      · rw [if_pos d, if_pos d, if_neg (fun z => c (d.trans z))]
      · rw [if_neg d, if_neg d]
theorem get_mapped (M : Mp) (h w j : Int) : get (M.map fun p => if p.1 = h then (p.1, w) else p) j = (get M j).map fun x => if j = h then w else x := by
  induction M with
  | nil => rfl
  | cons p M ih =>
    rw [List.map_cons, get_cons, get_cons, ih]
    by_cases c : p.1 = h
    · rw [if_pos c]
      by_cases d : p.1 = j
      · rw [if_pos d, if_pos d, Option.map_some, if_pos (d.symm.trans c)]
      · rw [if_neg d, if_neg d]
    · rw [if_neg c]
      by_cases d : p.1 = j
      · rw [if_pos d, if_pos d, Option.map_some, if_neg (fun z => c (d.trans z))]
      · rw [if_neg d, if_neg d]
theorem get_put (M : Mp) (h w j : Int) : get (put M h w) j = if j = h then some w else get M j := by
  cases e : get M h with
  | none => rw [put_new e, get_snoc M h w j e]
  | some v =>
    rw [put_old e, get_mapped]
    by_cases c : j = h
    · rw [if_pos c, c, e, Option.map_some, if_pos rfl]
    · rw [if_neg c]
      cases get M j with
      | none => rfl
      | some x => rw [Option.map_some, if_neg c]
theorem keys_old (M : Mp) (h w : Int) : keys (M.map fun p => if p.1 = h then (p.1, w) else p) = keys M := by
  unfold keys
  rw [List.map_map]
  apply List.map_congr_left
  intro p _
  show (if p.1 = h then (p.1, w) else p).1 = p.1
  by_cases c : p.1 = h
  · rw [if_pos c]
  · rw [if_neg c]
theorem nd_put {M : Mp} (h w : Int) (nd : (keys M).Nodup) : (keys (put M h w)).Nodup := by
  cases e : get M h with
  | none =>
    rw [put_new e]
    show (List.map _ (M ++ [(h, w)])).Nodup
    rw [List.map_append]
    refine List.nodup_append.mpr ⟨nd, by simp, fun a ha b hb => ?_⟩
    have : b = h := by simpa using hb
    rw [this]
    intro z
    exact get_none_iff.mp e (z ▸ ha)
  | some v => rw [put_old e, keys_old]; exact nd
theorem cnt_cons (p : Int × Int) (M : Mp) (w : Int) : cnt (p :: M) w = cnt M w + if p.2 = w then 1 else 0 := by
  unfold cnt
  rw [List.countP_cons]
  by_cases e : p.2 = w
  · simp [e]
  · simp [e]
theorem cnt_new {M : Mp} {h w : Int} (e : get M h = none) (x : Int) : cnt (put M h w) x = cnt M x + if w = x then 1 else 0 := by
  rw [put_new e]
  unfold cnt
  rw [List.countP_append]
  by_cases c : w = x
  · simp [c]
  · simp [c]
theorem cnt_mapped : ∀ (M : Mp) (h w v x : Int), (keys M).Nodup → get M h = some v → cnt (M.map fun p => if p.1 = h then (p.1, w) else p) x + (if v = x then 1 else 0) = cnt M x + if w = x then 1 else 0
  | [], h, w, v, x, _, e => by simp [get] at e
  | p :: M, h, w, v, x, nd, e => by
    have nd' : p.1 ∉ keys M ∧ (keys M).Nodup := List.nodup_cons.mp nd
    rw [List.map_cons, cnt_cons, cnt_cons]
    rw [get_cons] at e
    by_cases c : p.1 = h
    · rw [if_pos c] at e ⊢
      have ev : p.2 = v := Option.some.inj e
      have same : (M.map fun p => if p.1 = h then (p.1, w) else p) = M := by
        conv => rhs; rw [← List.map_id M]
        apply List.map_congr_left
        intro q hq
        exact if_neg (fun z => nd'.1 (by rw [c, ← z]; exact List.mem_map.mpr ⟨q, hq, rfl⟩))
      rw [same, ev]
      show cnt M x + (if w = x then 1 else 0) + (if v = x then 1 else 0) = _
      omega
    · rw [if_neg c] at e ⊢
      have ih := cnt_mapped M h w v x nd'.2 e
      omega
theorem cnt_old {M : Mp} {h w v : Int} (nd : (keys M).Nodup) (e : get M h = some v) (x : Int) : cnt (put M h w) x + (if v = x then 1 else 0) = cnt M x + if w = x then 1 else 0 := by
  rw [put_old e]
  exact cnt_mapped M h w v x nd e
/-! ### wishes -/
def adj (Ws : List (List Int)) (w : Int) : List Int := Ws.getD w.toNat []
/-- a map that may stand: keys once, holders that fit, wishes that there are -/
structure Okm (Ws : List (List Int)) (M : Mp) : Prop where
  nd : (keys M).Nodup
  fit : ∀ h w, get M h = some w → 0 ≤ w ∧ w < Ws.length ∧ h ∈ adj Ws w
def Closed (Ws : List (List Int)) (M : Mp) (T : Int → Prop) : Prop := ∀ h, T h → ∃ w, get M h = some w ∧ ∀ j ∈ adj Ws w, T j
structure Tr (tr : List Int) : Prop where
  nd : tr.Nodup
  rg : ∀ h ∈ tr, 0 ≤ h ∧ h < 60
structure Succ (Ws : List (List Int)) (M : Mp) (tr : List Int) (wish : Int) (M' : Mp) (tr' : List Int) : Prop where
  ok : Okm Ws M'
  cn : ∀ x, cnt M' x = cnt M x + if wish = x then 1 else 0
  kp : ∀ h ∈ tr, get M' h = get M h
  tk : Tr tr'
  sub : ∀ h ∈ tr, h ∈ tr'
  cl : ∀ T, Closed Ws M T → (∀ h, T h → get M' h = get M h) ∧ ¬ ∀ h ∈ adj Ws wish, T h
structure Half (Ws : List (List Int)) (M : Mp) (tr tr' : List Int) : Prop where
  tk : Tr tr'
  sub : ∀ h ∈ tr, h ∈ tr'
  cl : ∀ h ∈ tr', h ∈ tr ∨ ∃ w, get M h = some w ∧ ∀ j ∈ adj Ws w, j ∈ tr'
structure Fail (Ws : List (List Int)) (M : Mp) (tr : List Int) (wish : Int) (tr' : List Int) : Prop where
  hf : Half Ws M tr tr'
  all : ∀ h ∈ adj Ws wish, h ∈ tr'
theorem Half.refl {Ws : List (List Int)} {M : Mp} {tr : List Int} (h : Tr tr) : Half Ws M tr tr := ⟨h, fun _ q => q, fun _ q => .inl q⟩
theorem Tr.snoc {tr : List Int} {h : Int} (t : Tr tr) (nh : h ∉ tr) (r : 0 ≤ h ∧ h < 60) : Tr (tr ++ [h]) := by
  refine ⟨List.nodup_append.mpr ⟨t.nd, by simp, fun a ha b hb => ?_⟩, fun j hj => ?_⟩
  · have : b = h := by simpa using hb
    rw [this]
    intro z
    exact nh (z ▸ ha)
  · rcases List.mem_append.mp hj with q | q
    · exact t.rg j q
    · have : j = h := by simpa using q
      rw [this]; exact r
/-- a free holder is taken -/
theorem succ_free {Ws : List (List Int)} {M : Mp} {tr ti : List Int} {wish h : Int} (ok : Okm Ws M) (hw : 0 ≤ wish ∧ wish < Ws.length) (hf : Half Ws M tr ti) (hh : h ∈ adj Ws wish) (nh : h ∉ ti) (r : 0 ≤ h ∧ h < 60) (e : get M h = none) :
    Succ Ws M tr wish (put M h wish) (ti ++ [h]) := by
  refine ⟨⟨nd_put h wish ok.nd, fun j w q => ?_⟩, fun x => cnt_new e x, fun j hj => ?_, hf.tk.snoc nh r, fun j hj => List.mem_append_left _ (hf.sub j hj), fun T hT => ⟨fun j hj => ?_, fun all => ?_⟩⟩
  · rw [get_put] at q
    by_cases c : j = h
    · rw [if_pos c] at q
      have := Option.some.inj q
      subst this
      rw [c]
      exact ⟨hw.1, hw.2, hh⟩
    · rw [if_neg c] at q
      exact ok.fit j w q
  · rw [get_put, if_neg (fun (c : j = h) => nh (c ▸ hf.sub j hj))]
  · rw [get_put, if_neg (fun c => ?_)]
    obtain ⟨w, q, _⟩ := hT j hj
    rw [c, e] at q
    cases q
  · obtain ⟨w, q, _⟩ := hT h (all h hh)
    rw [e] at q
    cases q
/-- a holder is taken whose wish has found another one -/
theorem succ_moved {Ws : List (List Int)} {M M2 : Mp} {tr ti t2 : List Int} {wish h w2 : Int} (ok : Okm Ws M) (hw : 0 ≤ wish ∧ wish < Ws.length) (hf : Half Ws M tr ti) (hh : h ∈ adj Ws wish) (nh : h ∉ ti) (e : get M h = some w2) (s : Succ Ws M (ti ++ [h]) w2 M2 t2) :
    Succ Ws M tr wish (put M2 h wish) t2 := by
  have e2 : get M2 h = some w2 := (s.kp h (by simp)).trans e
  refine ⟨⟨nd_put h wish s.ok.nd, fun j w q => ?_⟩, fun x => ?_, fun j hj => ?_, s.tk, fun j hj => s.sub j (List.mem_append_left _ (hf.sub j hj)), fun T hT => ?_⟩
  · rw [get_put] at q
    by_cases c : j = h
    · rw [if_pos c] at q
      have := Option.some.inj q
      subst this
      rw [c]
      exact ⟨hw.1, hw.2, hh⟩
    · rw [if_neg c] at q
      exact s.ok.fit j w q
  · have a := cnt_old (w := wish) s.ok.nd e2 x
    have b := s.cn x
    omega
  · rw [get_put, if_neg (fun (c : j = h) => nh (c ▸ hf.sub j hj))]
    exact s.kp j (List.mem_append_left _ (hf.sub j hj))
  · obtain ⟨c1, c2⟩ := s.cl T hT
    have nT : ¬ T h := fun th => by
      obtain ⟨w, q, all⟩ := hT h th
      rw [e] at q
      have := Option.some.inj q
      subst this
      exact c2 all
    refine ⟨fun j hj => ?_, fun all => nT (all h hh)⟩
    rw [get_put, if_neg (fun (c : j = h) => nT (c ▸ hj))]
    exact c1 j hj
/-- .. or has found none -/
theorem half_more {Ws : List (List Int)} {M : Mp} {tr ti t2 : List Int} {h w2 : Int} (hf : Half Ws M tr ti) (e : get M h = some w2) (s : Fail Ws M (ti ++ [h]) w2 t2) : Half Ws M tr t2 := by
  refine ⟨s.hf.tk, fun j hj => s.hf.sub j (List.mem_append_left _ (hf.sub j hj)), fun j hj => ?_⟩
  rcases s.hf.cl j hj with q | q
  · rcases List.mem_append.mp q with q | q
    · rcases hf.cl j q with z | ⟨w, z, all⟩
      · exact .inl z
      · exact .inr ⟨w, z, fun k hk => s.hf.sub k (List.mem_append_left _ (all k hk))⟩
    · have : j = h := by simpa using q
      exact .inr ⟨w2, this ▸ e, s.all⟩
  · exact .inr q
/-- behind some wishes -/
structure Got (Ws : List (List Int)) (M : Mp) (i : Nat) (T : Int → Prop) : Prop where
  ok : Okm Ws M
  lo : ∀ w : Int, cnt M w ≤ 1
  hi : ∀ w : Int, (i : Int) ≤ w → cnt M w = 0
  cl : Closed Ws M T
  no : ∀ w : Int, 0 ≤ w → w < i → cnt M w = 0 → ∀ h ∈ adj Ws w, T h
theorem got_start (Ws : List (List Int)) : Got Ws [] 0 fun _ => False :=
  ⟨⟨List.nodup_nil, fun h w q => by simp [get] at q⟩, fun w => Nat.zero_le _, fun w _ => rfl, fun h q => q.elim, fun w h0 h1 => by omega⟩
theorem got_succ {Ws : List (List Int)} {M M' : Mp} {i : Nat} {T : Int → Prop} {tr' : List Int} (g : Got Ws M i T) (s : Succ Ws M [] i M' tr') : Got Ws M' (i + 1) T := by
  obtain ⟨c1, _⟩ := s.cl T g.cl
  refine ⟨s.ok, fun w => ?_, fun w hw => ?_, fun h hT => ?_, fun w h0 h1 e => ?_⟩
  · rw [s.cn]
    by_cases c : (i : Int) = w
    · rw [if_pos c, g.hi w (by omega)]; omega
    · rw [if_neg c]; exact g.lo w
  · rw [s.cn, if_neg (by omega), g.hi w (by omega)]
  · obtain ⟨w, q, all⟩ := g.cl h hT
    exact ⟨w, (c1 h hT).trans q, all⟩
  · rw [s.cn] at e
    by_cases c : (i : Int) = w
    · rw [if_pos c] at e; omega
    · exact g.no w h0 (by omega) (by omega)
theorem got_fail {Ws : List (List Int)} {M : Mp} {i : Nat} {T : Int → Prop} {tr' : List Int} (g : Got Ws M i T) (s : Fail Ws M [] i tr') : Got Ws M (i + 1) fun h => T h ∨ h ∈ tr' := by
  refine ⟨g.ok, g.lo, fun w hw => g.hi w (by omega), fun h hT => ?_, fun w h0 h1 e => ?_⟩
  · rcases hT with q | q
    · obtain ⟨w, z, all⟩ := g.cl h q
      exact ⟨w, z, fun j hj => .inl (all j hj)⟩
    · rcases s.hf.cl h q with z | ⟨w, z, all⟩
      · cases z
      · exact ⟨w, z, fun j hj => .inr (all j hj)⟩
  · intro h hh
    by_cases c : (i : Int) = w
    · exact .inr (s.all h (c ▸ hh))
    · exact .inl (g.no w h0 (by omega) e h hh)
end My

set_option linter.all false
set_option autoImplicit false
namespace My
/-! ### the pairs of a map -/
def prs (M : Mp) (n : Nat) : List (Option Int) := M.foldl (fun acc p => acc.set p.2.toNat (some p.1)) (List.replicate n none)
def hol (M : Mp) (i : Nat) : Option Int := (M.find? fun p => decide (p.2 = (i : Int))).map (·.1)
theorem fold_len : ∀ (M : Mp) (acc : List (Option Int)), (M.foldl (fun acc p => acc.set p.2.toNat (some p.1)) acc).length = acc.length
  | [], acc => rfl
  | p :: M, acc => by
    rw [List.foldl_cons, fold_len M, List.length_set]
theorem prs_len (M : Mp) (n : Nat) : (prs M n).length = n := by
  unfold prs
  rw [fold_len, List.length_replicate]
theorem fold_miss : ∀ (M : Mp) (acc : List (Option Int)) (i : Nat), (∀ p ∈ M, p.2.toNat ≠ i) → (M.foldl (fun acc p => acc.set p.2.toNat (some p.1)) acc)[i]? = acc[i]?
  | [], acc, i, _ => rfl
  | p :: M, acc, i, h => by
    rw [List.foldl_cons, fold_miss M _ i fun q hq => h q (List.mem_cons_of_mem _ hq), List.getElem?_set_ne (h p (List.mem_cons_self ..))]
theorem cnt_zero {M : Mp} {w : Int} (h : cnt M w = 0) : ∀ p ∈ M, p.2 ≠ w := fun p hp e => by
  have := List.countP_eq_zero.mp h p hp
  simp [e] at this
theorem cnt_pos {M : Mp} {p : Int × Int} (h : p ∈ M) : 0 < cnt M p.2 := List.countP_pos_iff.mpr ⟨p, h, by simp⟩
theorem fold_hit : ∀ (M : Mp) (acc : List (Option Int)) (h w : Int), (∀ x, cnt M x ≤ 1) → (∀ p ∈ M, 0 ≤ p.2) → (h, w) ∈ M → w.toNat < acc.length → (M.foldl (fun acc p => acc.set p.2.toNat (some p.1)) acc)[w.toNat]? = some (some h)
  | [], acc, h, w, _, _, e, _ => by cases e
  | p :: M, acc, h, w, hc, h0, e, hl => by
    rw [List.foldl_cons]
    have hc' : ∀ x, cnt M x ≤ 1 := fun x => by
      have := hc x
      rw [cnt_cons] at this
      omega
    have h0' : ∀ q ∈ M, 0 ≤ q.2 := fun q hq => h0 q (List.mem_cons_of_mem _ hq)
    rcases List.mem_cons.mp e with q | q
    · rw [← q]
      have z : cnt M w = 0 := by
        have := hc w
        rw [cnt_cons, ← q, if_pos rfl] at this
        omega
      rw [fold_miss M _ _ fun r hr c => cnt_zero z r hr (by have := h0' r hr; have := h0 p (List.mem_cons_self ..); rw [← q] at this; have : (0:Int) ≤ w := this; omega)]
      rw [List.getElem?_set_self hl]
    · exact fold_hit M _ h w hc' h0' q (by rw [List.length_set]; exact hl)
theorem hol_none {M : Mp} {i : Nat} : hol M i = none ↔ cnt M i = 0 := by
  unfold hol cnt
  rw [Option.map_eq_none_iff, List.find?_eq_none, List.countP_eq_zero]
theorem hol_some {M : Mp} {i : Nat} {h : Int} (e : hol M i = some h) : (h, (i : Int)) ∈ M := by
  unfold hol at e
  cases q : M.find? fun p => decide (p.2 = (i : Int)) with
  | none => rw [q] at e; cases e
  | some p =>
    rw [q] at e
    have e1 : p.1 = h := Option.some.inj e
    have e2 : p.2 = (i : Int) := by simpa using List.find?_some q
    have := List.mem_of_find?_eq_some q
    rw [← e1, ← e2]
    exact this
theorem prs_at {M : Mp} {n i : Nat} (hc : ∀ x, cnt M x ≤ 1) (h0 : ∀ p ∈ M, 0 ≤ p.2) (hi : i < n) : (prs M n)[i]? = some (hol M i) := by
  unfold prs
  cases e : hol M i with
  | none =>
    rw [fold_miss]
    · rw [List.getElem?_replicate, if_pos hi]
    · intro p hp c
      have := cnt_zero (hol_none.mp e) p hp
      have := h0 p hp
      omega
  | some h =>
    have := fold_hit M (List.replicate n none) h i hc h0 (hol_some e) (by rw [List.length_replicate]; exact hi)
    exact this
theorem prs_eq {M : Mp} {n : Nat} (hc : ∀ x, cnt M x ≤ 1) (h0 : ∀ p ∈ M, 0 ≤ p.2) : prs M n = (List.range n).map (hol M) := by
  apply List.ext_getElem?
  intro i
  by_cases hi : i < n
  · rw [prs_at hc h0 hi, List.getElem?_map, List.getElem?_range hi]
    rfl
  · rw [List.getElem?_eq_none (by rw [prs_len]; omega), List.getElem?_eq_none (by rw [List.length_map, List.length_range]; omega)]
/-! ### lists without doubles -/
theorem nd_le {α : Type} [BEq α] [LawfulBEq α] : ∀ (A B : List α), A.Nodup → (∀ x ∈ A, x ∈ B) → A.length ≤ B.length
  | [], B, _, _ => Nat.zero_le _
  | a :: A, B, nd, h => by
    have nd' := List.nodup_cons.mp nd
    have ha : a ∈ B := h a (List.mem_cons_self ..)
    have ih := nd_le A (B.erase a) nd'.2 fun x hx => (List.mem_erase_of_ne (fun (c : x = a) => nd'.1 (c ▸ hx))).mpr (h x (List.mem_cons_of_mem _ hx))
    rw [List.length_erase_of_mem ha] at ih
    have : 0 < B.length := List.length_pos_of_mem ha
    rw [List.length_cons]
    omega
theorem nd_eq {α : Type} [BEq α] [LawfulBEq α] {A B : List α} (ha : A.Nodup) (hb : B.Nodup) (h : ∀ x, x ∈ A ↔ x ∈ B) : A.length = B.length :=
  Nat.le_antisymm (nd_le A B ha fun x q => (h x).mp q) (nd_le B A hb fun x q => (h x).mpr q)
theorem nd_map {α β : Type} {f : α → β} : ∀ {l : List α}, l.Nodup → (∀ x ∈ l, ∀ y ∈ l, f x = f y → x = y) → (l.map f).Nodup
  | [], _, _ => List.nodup_nil
  | a :: l, nd, inj => by
    have nd' := List.nodup_cons.mp nd
    rw [List.map_cons]
    refine List.nodup_cons.mpr ⟨fun m => ?_, nd_map nd'.2 fun x hx y hy => inj x (List.mem_cons_of_mem _ hx) y (List.mem_cons_of_mem _ hy)⟩
    obtain ⟨x, hx, e⟩ := List.mem_map.mp m
    have := inj x (List.mem_cons_of_mem _ hx) a (List.mem_cons_self ..) e
    exact nd'.1 (this ▸ hx)
/-! ### the band -/
structure Bi (Ws : List (List Int)) (M : Mp) (T : Int → Prop) (B wt : List Int) : Prop where
  nd : B.Nodup
  rg : ∀ w, w ∈ B ∨ w ∈ wt → 0 ≤ w ∧ w < Ws.length
  un : ∀ w : Int, 0 ≤ w → w < Ws.length → cnt M w = 0 → w ∈ B ∨ w ∈ wt
  cl : ∀ w ∈ B, ∀ h ∈ adj Ws w, ∃ w', get M h = some w' ∧ (w' ∈ B ∨ w' ∈ wt)
  src : ∀ w, w ∈ B ∨ w ∈ wt → cnt M w = 0 ∨ ∃ w1 ∈ B, ∃ h ∈ adj Ws w1, get M h = some w
  tt : ∀ w, w ∈ B ∨ w ∈ wt → ∀ h ∈ adj Ws w, T h
  em : (∃ w : Int, 0 ≤ w ∧ w < Ws.length ∧ cnt M w = 0) ∨ (B = [] ∧ wt = [])
  len : wt.length ≤ Ws.length + 60 * B.length
def free (M : Mp) (n : Nat) : List Int := ((List.range n).filter fun (i : Nat) => decide (cnt M (i : Int) = 0)).map fun (i : Nat) => (i : Int)
theorem mem_free {M : Mp} {n : Nat} {w : Int} : w ∈ free M n ↔ 0 ≤ w ∧ w < n ∧ cnt M w = 0 := by
  unfold free
  rw [List.mem_map]
  constructor
  · rintro ⟨i, hi, rfl⟩
    rw [List.mem_filter, List.mem_range, decide_eq_true_eq] at hi
    exact ⟨by omega, by omega, hi.2⟩
  · rintro ⟨h0, h1, h2⟩
    refine ⟨w.toNat, ?_, by omega⟩
    rw [List.mem_filter, List.mem_range, decide_eq_true_eq]
    refine ⟨by omega, ?_⟩
    rw [Int.toNat_of_nonneg h0]
    exact h2
theorem nd_free (M : Mp) (n : Nat) : (free M n).Nodup := nd_map (List.Nodup.sublist List.filter_sublist List.nodup_range) fun x _ y _ e => by omega
theorem len_free (M : Mp) (n : Nat) : (free M n).length ≤ n := by
  unfold free
  rw [List.length_map]
  have := List.length_filter_le (fun i => decide (cnt M ((i : Nat) : Int) = 0)) (List.range n)
  rw [List.length_range] at this
  exact this
theorem bi_start {Ws : List (List Int)} {M : Mp} {T : Int → Prop} (g : Got Ws M Ws.length T) : Bi Ws M T [] (free M Ws.length) := by
  refine ⟨List.nodup_nil, fun w h => ?_, fun w h0 h1 h2 => .inr (mem_free.mpr ⟨h0, h1, h2⟩), fun w h => (by cases h), fun w h => ?_, fun w h => ?_, ?_, ?_⟩
  · rcases h with h | h
    · cases h
    · have := mem_free.mp h
      exact ⟨this.1, this.2.1⟩
  · rcases h with h | h
    · cases h
    · exact .inl (mem_free.mp h).2.2
  · rcases h with h | h
    · cases h
    · have := mem_free.mp h
      exact g.no w this.1 this.2.1 this.2.2
  · cases e : free M Ws.length with
    | nil => exact .inr ⟨rfl, rfl⟩
    | cons a l =>
      have := mem_free.mp (e ▸ List.mem_cons_self .. : a ∈ free M Ws.length)
      exact .inl ⟨a, this⟩
  · have := len_free M Ws.length
    omega
theorem bi_old {Ws : List (List Int)} {M : Mp} {T : Int → Prop} {B wt : List Int} {w : Int} (b : Bi Ws M T B (wt ++ [w])) (hw : w ∈ B) : Bi Ws M T B wt := by
  have up : ∀ x, x ∈ B ∨ x ∈ wt → x ∈ B ∨ x ∈ wt ++ [w] := fun x h => h.imp id (List.mem_append_left _)
  have down : ∀ x, x ∈ B ∨ x ∈ wt ++ [w] → x ∈ B ∨ x ∈ wt := fun x h => by
    rcases h with h | h
    · exact .inl h
    · rcases List.mem_append.mp h with h | h
      · exact .inr h
      · have : x = w := by simpa using h
        exact .inl (this ▸ hw)
  refine ⟨b.nd, fun x h => b.rg x (up x h), fun x h0 h1 h2 => down x (b.un x h0 h1 h2), fun x hx h hh => ?_, fun x h => b.src x (up x h), fun x h => b.tt x (up x h), ?_, ?_⟩
  · obtain ⟨w', q, r⟩ := b.cl x hx h hh
    exact ⟨w', q, down w' r⟩
  · rcases b.em with q | q
    · exact .inl q
    · exact absurd q.2 (by simp)
  · have := b.len
    rw [List.length_append] at this
    omega
def nexts (Ws : List (List Int)) (M : Mp) (w : Int) : List Int := (adj Ws w).map fun h => (get M h).getD 0
theorem bi_new {Ws : List (List Int)} {M : Mp} {T : Int → Prop} {B wt : List Int} {w : Int} (hcl : Closed Ws M T) (ok : Okm Ws M) (h60 : ∀ x, (adj Ws x).length ≤ 60) (b : Bi Ws M T B (wt ++ [w])) (hw : w ∉ B) : Bi Ws M T (B ++ [w]) (wt ++ nexts Ws M w) := by
  have hwm : w ∈ wt ++ [w] := List.mem_append_right _ (by simp)
  have nx : ∀ x ∈ nexts Ws M w, ∃ h ∈ adj Ws w, get M h = some x ∧ (∀ j ∈ adj Ws x, T j) := fun x hx => by
    obtain ⟨h, hh, e⟩ := List.mem_map.mp hx
    obtain ⟨w', q, all⟩ := hcl h (b.tt w (.inr hwm) h hh)
    rw [q] at e
    have : w' = x := e
    subst this
    exact ⟨h, hh, q, all⟩
  have old : ∀ x, x ∈ B ++ [w] ∨ x ∈ wt ++ nexts Ws M w → (x ∈ B ∨ x ∈ wt ++ [w]) ∨ x ∈ nexts Ws M w := fun x h => by
    rcases h with h | h
    · rcases List.mem_append.mp h with h | h
      · exact .inl (.inl h)
      · exact .inl (.inr (List.mem_append_right _ h))
    · rcases List.mem_append.mp h with h | h
      · exact .inl (.inr (List.mem_append_left _ h))
      · exact .inr h
  have on : ∀ x, x ∈ B ∨ x ∈ wt ++ [w] → x ∈ B ++ [w] ∨ x ∈ wt ++ nexts Ws M w := fun x h => by
    rcases h with h | h
    · exact .inl (List.mem_append_left _ h)
    · rcases List.mem_append.mp h with h | h
      · exact .inr (List.mem_append_left _ h)
      · exact .inl (List.mem_append_right _ h)
  refine ⟨List.nodup_append.mpr ⟨b.nd, by simp, fun x hx y hy => ?_⟩, fun x h => ?_, fun x h0 h1 h2 => on x (b.un x h0 h1 h2), fun x hx h hh => ?_, fun x h => ?_, fun x h => ?_, ?_, ?_⟩
  · have : y = w := by simpa using hy
    rw [this]
    intro c
    exact hw (c ▸ hx)
  · rcases old x h with h | h
    · exact b.rg x h
    · obtain ⟨j, hj, q, _⟩ := nx x h
      have := ok.fit j x q
      exact ⟨this.1, this.2.1⟩
  · rcases List.mem_append.mp hx with hx | hx
    · obtain ⟨w', q, r⟩ := b.cl x hx h hh
      exact ⟨w', q, on w' r⟩
    · have : x = w := by simpa using hx
      rw [this] at hh
      obtain ⟨w', q, _⟩ := hcl h (b.tt w (.inr hwm) h hh)
      refine ⟨w', q, .inr (List.mem_append_right _ (List.mem_map.mpr ⟨h, hh, ?_⟩))⟩
      rw [q]
      rfl
  · rcases old x h with h | h
    · rcases b.src x h with q | ⟨w1, h1, j, hj, q⟩
      · exact .inl q
      · exact .inr ⟨w1, List.mem_append_left _ h1, j, hj, q⟩
    · obtain ⟨j, hj, q, _⟩ := nx x h
      exact .inr ⟨w, List.mem_append_right _ (by simp), j, hj, q⟩
  · rcases old x h with h | h
    · exact b.tt x h
    · obtain ⟨j, hj, q, all⟩ := nx x h
      exact all
  · rcases b.em with q | q
    · exact .inl q
    · exact absurd q.2 (by simp)
  · have := b.len
    have := h60 w
    rw [List.length_append] at *
    rw [List.length_append]
    unfold nexts
    rw [List.length_map]
    simp only [List.length_cons, List.length_nil] at *
    omega
/-- as many wishes are without a holder as the band has more than holders that fit -/
theorem band_count {Ws : List (List Int)} {M : Mp} {T : Int → Prop} {B D : List Int} (g : Got Ws M Ws.length T) (b : Bi Ws M T B []) (nd : D.Nodup) (hD : ∀ h, h ∈ D ↔ ∃ w ∈ B, h ∈ adj Ws w) : (free M Ws.length).length + D.length = B.length := by
  have inj : ∀ x ∈ D, ∀ y ∈ D, (get M x).getD 0 = (get M y).getD 0 → x = y := fun x hx y hy e => by
    obtain ⟨w, hw, hh⟩ := (hD x).mp hx
    obtain ⟨v, hv, hk⟩ := (hD y).mp hy
    obtain ⟨x', qx, _⟩ := b.cl w hw x hh
    obtain ⟨y', qy, _⟩ := b.cl v hv y hk
    rw [qx, qy] at e
    have e' : x' = y' := e
    subst e'
    have m1 := get_mem qx
    have m2 := get_mem qy
    by_cases c : x = y
    · exact c
    · exfalso
      have l := g.lo x'
      unfold cnt at l
      have two : ∀ (L : Mp), (x, x') ∈ L → (y, x') ∈ L → 2 ≤ L.countP fun p => decide (p.2 = x') := by
        intro L
        induction L with
        | nil => intro h; cases h
        | cons p L ih =>
          intro h1 h2
          rw [List.countP_cons]
          rcases List.mem_cons.mp h1 with e1 | e1
          · rcases List.mem_cons.mp h2 with e2 | e2
            · exact absurd (congrArg Prod.fst (e1.trans e2.symm)) c
            · have := List.countP_pos_iff (p := fun p : Int × Int => decide (p.2 = x')) |>.mpr ⟨_, e2, by simp⟩
              rw [← e1]
              simp only [decide_true, if_true]
              omega
          · rcases List.mem_cons.mp h2 with e2 | e2
            · have := List.countP_pos_iff (p := fun p : Int × Int => decide (p.2 = x')) |>.mpr ⟨_, e1, by simp⟩
              rw [← e2]
              simp only [decide_true, if_true]
              omega
            · have := ih e1 e2
              omega
      have := two M m1 m2
      omega
  have ndm : (D.map fun h => (get M h).getD 0).Nodup := nd_map nd inj
  have key : ∀ x, x ∈ free M Ws.length ++ D.map (fun h => (get M h).getD 0) ↔ x ∈ B := fun x => by
    rw [List.mem_append]
    constructor
    · rintro (h | h)
      · have := mem_free.mp h
        exact (b.un x this.1 this.2.1 this.2.2).resolve_right (by simp)
      · obtain ⟨h', hh, e⟩ := List.mem_map.mp h
        obtain ⟨w, hw, hf⟩ := (hD h').mp hh
        obtain ⟨w', q, r⟩ := b.cl w hw h' hf
        rw [q] at e
        have : w' = x := e
        exact this ▸ r.resolve_right (by simp)
    · intro hx
      rcases b.src x (.inl hx) with q | ⟨w1, hw1, h, hh, q⟩
      · have := b.rg x (.inl hx)
        exact .inl (mem_free.mpr ⟨this.1, this.2, q⟩)
      · refine .inr (List.mem_map.mpr ⟨h, (hD h).mpr ⟨w1, hw1, hh⟩, ?_⟩)
        rw [q]
        rfl
  have nda : (free M Ws.length ++ D.map (fun h => (get M h).getD 0)).Nodup := by
    refine List.nodup_append.mpr ⟨nd_free _ _, ndm, fun x hx y hy c => ?_⟩
    subst c
    obtain ⟨h', hh, e⟩ := List.mem_map.mp hy
    obtain ⟨w, hw, hf⟩ := (hD h').mp hh
    obtain ⟨w', q, r⟩ := b.cl w hw h' hf
    rw [q] at e
    have : w' = x := e
    subst this
    have := cnt_pos (get_mem q)
    have z := (mem_free.mp hx).2.2
    have : 0 < cnt M w' := this
    omega
  have := nd_eq nda b.nd key
  rw [List.length_append, List.length_map] at this
  exact this
end My

set_option linter.all false
namespace My
/-! ### all ways to give holders to wishes -/
abbrev Way := List (List Int × Option Int)
def As : Way → List Int → Prop
  | [], _ => True
  | (_, none) :: L, tk => As L tk
  | (l, some h) :: L, tk => h ∈ l ∧ h ∉ tk ∧ As L (tk ++ [h])
def sz (L : Way) : Nat := L.countP fun p => p.2.isSome
structure Pa (L : Way) : Prop where
  fit : ∀ p ∈ L, ∀ h, p.2 = some h → h ∈ p.1
  one : (L.filterMap Prod.snd).Nodup
theorem as_iff : ∀ (L : Way) (tk : List Int), As L tk ↔ Pa L ∧ ∀ h ∈ L.filterMap Prod.snd, h ∉ tk
  | [], tk => by
    refine ⟨fun _ => ⟨⟨fun p hp => (by cases hp), List.nodup_nil⟩, fun h hh => (by cases hh)⟩, fun _ => trivial⟩
  | (l, none) :: L, tk => by
    show As L tk ↔ _
    rw [as_iff L tk, List.filterMap_cons_none (by rfl)]
    constructor
    · rintro ⟨pa, d⟩
      refine ⟨⟨fun p hp h e => ?_, ?_⟩, d⟩
      · rcases List.mem_cons.mp hp with q | q
        · rw [q] at e; cases e
        · exact pa.fit p q h e
      · rw [List.filterMap_cons_none (by rfl)]
        exact pa.one
    · rintro ⟨pa, d⟩
      have o := pa.one
      rw [List.filterMap_cons_none (by rfl)] at o
      exact ⟨⟨fun p hp => pa.fit p (List.mem_cons_of_mem _ hp), o⟩, d⟩
  | (l, some h) :: L, tk => by
    show (h ∈ l ∧ h ∉ tk ∧ As L (tk ++ [h])) ↔ _
    rw [as_iff L (tk ++ [h])]
    have e0 : ((l, some h) :: L).filterMap Prod.snd = h :: L.filterMap Prod.snd := List.filterMap_cons_some (by rfl)
    constructor
    · rintro ⟨hl, ht, pa, d⟩
      refine ⟨⟨fun p hp k e => ?_, ?_⟩, fun k hk => ?_⟩
      · rcases List.mem_cons.mp hp with q | q
        · rw [q] at e ⊢
          have : h = k := Option.some.inj e
          exact this ▸ hl
        · exact pa.fit p q k e
      · rw [e0]
        exact List.nodup_cons.mpr ⟨fun m => d h m (List.mem_append_right _ (by simp)), pa.one⟩
      · rw [e0] at hk
        rcases List.mem_cons.mp hk with q | q
        · exact q ▸ ht
        · exact fun c => d k q (List.mem_append_left _ c)
    · rintro ⟨pa, d⟩
      have o := pa.one
      rw [e0] at o d
      have o' := List.nodup_cons.mp o
      refine ⟨pa.fit _ (List.mem_cons_self ..) h rfl, d h (List.mem_cons_self ..), ⟨fun p hp => pa.fit p (List.mem_cons_of_mem _ hp), o'.2⟩, fun k hk c => ?_⟩
      rcases List.mem_append.mp c with q | q
      · exact d k (List.mem_cons_of_mem _ hk) q
      · have : k = h := by simpa using q
        exact o'.1 (this ▸ hk)
theorem Pa.perm {L L' : Way} (h : Pa L) (p : L'.Perm L) : Pa L' :=
  ⟨fun x hx => h.fit x (p.mem_iff.mp hx), (p.filterMap Prod.snd).nodup_iff.mpr h.one⟩
theorem sz_perm {L L' : Way} (p : L'.Perm L) : sz L' = sz L := p.countP_eq _
structure IsMost (Ws : List (List Int)) (tk : List Int) (N : Nat) : Prop where
  ex : ∃ L : Way, L.map Prod.fst = Ws ∧ As L tk ∧ sz L = N
  le : ∀ L : Way, L.map Prod.fst = Ws → As L tk → sz L ≤ N
theorem most_nil (tk : List Int) : IsMost [] tk 0 := by
  refine ⟨⟨[], rfl, trivial, rfl⟩, fun L e _ => ?_⟩
  have : L = [] := List.map_eq_nil_iff.mp e
  rw [this]
  exact Nat.le_refl _
/-- while the holders of the first wish are gone through -/
structure Best (l : List Int) (Ws : List (List Int)) (tk ys : List Int) (N : Nat) : Prop where
  ex : ∃ L : Way, L.map Prod.fst = l :: Ws ∧ As L tk ∧ sz L = N
  none : ∀ L : Way, L.map Prod.fst = Ws → As L tk → sz L ≤ N
  some : ∀ h ∈ ys, h ∉ tk → ∀ L : Way, L.map Prod.fst = Ws → As L (tk ++ [h]) → 1 + sz L ≤ N
theorem best_start {l : List Int} {Ws : List (List Int)} {tk : List Int} {N : Nat} (m : IsMost Ws tk N) : Best l Ws tk [] N := by
  obtain ⟨L, e, a, s⟩ := m.ex
  exact ⟨⟨(l, none) :: L, by rw [List.map_cons, e], a, by rw [← s]; unfold sz; rw [List.countP_cons]; rfl⟩, m.le, fun h hh => by cases hh⟩
theorem best_skip {l : List Int} {Ws : List (List Int)} {tk ys : List Int} {N : Nat} {h : Int} (b : Best l Ws tk ys N) (ht : h ∈ tk) : Best l Ws tk (ys ++ [h]) N :=
  ⟨b.ex, b.none, fun k hk nk => by
    rcases List.mem_append.mp hk with q | q
    · exact b.some k q nk
    · have : k = h := by simpa using q
      exact absurd (this ▸ ht) nk⟩
theorem best_take {l : List Int} {Ws : List (List Int)} {tk ys : List Int} {N N' : Nat} {h : Int} (b : Best l Ws tk ys N) (hl : h ∈ l) (ht : h ∉ tk) (m : IsMost Ws (tk ++ [h]) N') : Best l Ws tk (ys ++ [h]) (max N (1 + N')) := by
  refine ⟨?_, fun L e a => Nat.le_trans (b.none L e a) (Nat.le_max_left _ _), fun k hk nk L e a => ?_⟩
  · rcases Nat.le_total (1 + N') N with c | c
    · rw [Nat.max_eq_left c]
      exact b.ex
    · rw [Nat.max_eq_right c]
      obtain ⟨L, e, a, s⟩ := m.ex
      refine ⟨(l, some h) :: L, by rw [List.map_cons, e], ⟨hl, ht, a⟩, ?_⟩
      rw [← s]
      unfold sz
      rw [List.countP_cons]
      show _ + 1 = 1 + _
      omega
  · rcases List.mem_append.mp hk with q | q
    · exact Nat.le_trans (b.some k q nk L e a) (Nat.le_max_left _ _)
    · have : k = h := by simpa using q
      subst this
      have := m.le L e a
      exact Nat.le_trans (show _ ≤ 1 + N' by omega) (Nat.le_max_right _ _)
theorem best_end {l : List Int} {Ws : List (List Int)} {tk ys : List Int} {N : Nat} (b : Best l Ws tk ys N) (hy : ∀ h ∈ l, h ∈ ys) : IsMost (l :: Ws) tk N := by
  refine ⟨b.ex, fun L e a => ?_⟩
  match L, e, a with
  | (l', none) :: L, e, a =>
    have e' := List.cons.inj e
    have := b.none L e'.2 a
    unfold sz at *
    rw [List.countP_cons]
    exact this
  | (l', some h) :: L, e, a =>
    have e' := List.cons.inj e
    have el : l' = l := e'.1
    have := b.some h (hy h (el ▸ a.1)) a.2.1 L e'.2 a.2.2
    unfold sz at *
    rw [List.countP_cons]
    show _ + 1 ≤ N
    omega
/-! ### the same wishes otherwise -/
def Alike (Ws Ws' : List (List Int)) : Prop := (∀ L : Way, L.map Prod.fst = Ws → Pa L → ∃ L' : Way, L'.map Prod.fst = Ws' ∧ Pa L' ∧ sz L' = sz L) ∧ (∀ L : Way, L.map Prod.fst = Ws' → Pa L → ∃ L' : Way, L'.map Prod.fst = Ws ∧ Pa L' ∧ sz L' = sz L)
theorem alike_refl (Ws : List (List Int)) : Alike Ws Ws := ⟨fun L e p => ⟨L, e, p, rfl⟩, fun L e p => ⟨L, e, p, rfl⟩⟩
theorem alike_rev (Ws : List (List Int)) : Alike Ws Ws.reverse :=
  ⟨fun L e p => ⟨L.reverse, by rw [List.map_reverse, e], p.perm (List.reverse_perm L), sz_perm (List.reverse_perm L)⟩,
   fun L e p => ⟨L.reverse, by rw [List.map_reverse, e, List.reverse_reverse], p.perm (List.reverse_perm L), sz_perm (List.reverse_perm L)⟩⟩
theorem rot_perm {α : Type} (l : List α) (k : Nat) : (l.drop k ++ l.take k).Perm l := by
  have h := List.perm_append_comm (l₁ := l.drop k) (l₂ := l.take k)
  rw [List.take_append_drop] at h
  exact h
theorem alike_rot (Ws : List (List Int)) (k : Nat) (hk : k ≤ Ws.length) : Alike Ws (Ws.drop k ++ Ws.take k) := by
  refine ⟨fun L e p => ⟨L.drop k ++ L.take k, by rw [List.map_append, List.map_drop, List.map_take, e], p.perm (rot_perm L k), sz_perm (rot_perm L k)⟩, fun L e p => ?_⟩
  have hl : L.length = Ws.length := by
    have := congrArg List.length e
    rw [List.length_map, List.length_append, List.length_drop, List.length_take] at this
    omega
  refine ⟨L.drop (Ws.length - k) ++ L.take (Ws.length - k), ?_, p.perm (rot_perm L _), sz_perm (rot_perm L _)⟩
  rw [List.map_append, List.map_drop, List.map_take, e]
  have l1 : (Ws.drop k).length = Ws.length - k := List.length_drop
  rw [← l1, List.drop_left, List.take_left, List.take_append_drop]
theorem alike_in (Ws : List (List Int)) : Alike Ws (Ws.map List.reverse) := by
  have key : ∀ (L : Way), Pa L → Pa (L.map fun p => (p.1.reverse, p.2)) ∧ sz (L.map fun p => (p.1.reverse, p.2)) = sz L := fun L p => by
    refine ⟨⟨fun q hq h e => ?_, ?_⟩, ?_⟩
    · obtain ⟨r, hr, rfl⟩ := List.mem_map.mp hq
      exact List.mem_reverse.mpr (p.fit r hr h e)
    · rw [List.filterMap_map]
      exact p.one
    · unfold sz
      rw [List.countP_map]
      rfl
  refine ⟨fun L e p => ⟨_, ?_, (key L p).1, (key L p).2⟩, fun L e p => ⟨_, ?_, (key L p).1, (key L p).2⟩⟩
  · rw [← e, List.map_map, List.map_map]
    rfl
  · have : (L.map fun p => (p.1.reverse, p.2)).map Prod.fst = (L.map Prod.fst).map List.reverse := by
      rw [List.map_map, List.map_map]
      rfl
    rw [this, e, List.map_map]
    conv => rhs; rw [← List.map_id Ws]
    apply List.map_congr_left
    intro x _
    exact List.reverse_reverse x
theorem most_unique {Ws Ws' : List (List Int)} {N : Nat} (m : IsMost Ws [] N) (al : Alike Ws Ws') {L : Way} (e : L.map Prod.fst = Ws') (p : Pa L) (top : ∀ L' : Way, L'.map Prod.fst = Ws' → Pa L' → sz L' ≤ sz L) : N = sz L := by
  apply Nat.le_antisymm
  · obtain ⟨K, ek, ak, sk⟩ := m.ex
    obtain ⟨K', e', p', s'⟩ := al.1 K ek ((as_iff K []).mp ak).1
    have := top K' e' p'
    omega
  · obtain ⟨K, ek, pk, sk⟩ := al.2 L e p
    have := m.le K ek ((as_iff K []).mpr ⟨pk, fun h _ c => by cases c⟩)
    omega
/-- no way has more than the band lets -/
theorem band_top {Ws : List (List Int)} {B D : List Int} (nb : B.Nodup) (rb : ∀ w ∈ B, 0 ≤ w ∧ w < Ws.length) (nd : D.Nodup) (hD : ∀ w ∈ B, ∀ h ∈ adj Ws w, h ∈ D) {L : Way} (e : L.map Prod.fst = Ws) (p : Pa L) : sz L + B.length ≤ Ws.length + D.length := by
  have hl : L.length = Ws.length := by rw [← e, List.length_map]
  -- the places of those with a holder
  let has : Nat → Bool := fun i => ((L.map Prod.snd).getD i none).isSome
  have hsz : sz L = ((List.range L.length).filter has).length := by
    clear hD rb nb nd e p hl
    have gen : ∀ (K : Way), sz K = ((List.range K.length).filter fun i => ((K.map Prod.snd).getD i none).isSome).length := by
      intro K
      induction K with
      | nil => rfl
      | cons q K ih =>
        rw [List.length_cons, List.range_succ_eq_map, List.filter_cons, List.filter_map, sz, List.countP_cons]
        have e2 : ((fun i => (((q :: K).map Prod.snd).getD i none).isSome) ∘ Nat.succ) = fun i => ((K.map Prod.snd).getD i none).isSome := rfl
        rw [e2]
        unfold sz at ih
        rw [ih]
        have e3 : (((q :: K).map Prod.snd).getD 0 none).isSome = q.2.isSome := rfl
        rw [e3]
        cases q.2.isSome with
        | true => rw [if_pos rfl, if_pos rfl, List.length_cons, List.length_map]
        | false => rw [if_neg (by decide), if_neg (by decide), List.length_map]; rfl
    exact gen L
  let I := (List.range L.length).filter has
  let I1 := I.filter fun (i : Nat) => decide ((i : Int) ∈ B)
  let I2 := I.filter fun (i : Nat) => !decide ((i : Int) ∈ B)
  have hI : I1.length + I2.length = I.length := by
    show (I.filter _).length + (I.filter _).length = _
    rw [← List.countP_eq_length_filter, ← List.countP_eq_length_filter]
    have := List.length_eq_countP_add_countP (fun i : Nat => decide ((i : Int) ∈ B)) (l := I)
    have e4 : I.countP (fun (i : Nat) => !decide ((i : Int) ∈ B)) = I.countP (fun (a : Nat) => decide ¬ (decide ((a : Int) ∈ B) = true)) := by
      apply List.countP_congr
      intro x _
      simp
    omega
  have ndI : I.Nodup := List.Nodup.sublist List.filter_sublist List.nodup_range
  have memI : ∀ i ∈ I, i < L.length ∧ ∃ h, (L.map Prod.snd)[i]? = some (some h) := fun i hi => by
    have q := List.mem_filter.mp hi
    have hlt := List.mem_range.mp q.1
    refine ⟨hlt, ?_⟩
    have q2 : ((L.map Prod.snd).getD i none).isSome = true := q.2
    rw [List.getD_eq_getElem?_getD, List.getElem?_eq_getElem (by rw [List.length_map]; exact hlt)] at q2
    obtain ⟨h, eh⟩ := Option.isSome_iff_exists.mp q2
    exact ⟨h, by rw [List.getElem?_eq_getElem (by rw [List.length_map]; exact hlt)]; exact congrArg some eh⟩
  have c2 : I2.length + B.length ≤ Ws.length := by
    have := nd_le (I2.map (fun (i : Nat) => (i : Int)) ++ B) ((List.range Ws.length).map fun (i : Nat) => (i : Int)) (List.nodup_append.mpr ⟨nd_map (List.Nodup.sublist List.filter_sublist ndI) fun x _ y _ q => by omega, nb, fun x hx y hy c => by
      obtain ⟨i, hi, rfl⟩ := List.mem_map.mp hx
      have := (List.mem_filter.mp hi).2
      rw [c] at this
      simp [hy] at this⟩) (fun x hx => by
      rcases List.mem_append.mp hx with q | q
      · obtain ⟨i, hi, rfl⟩ := List.mem_map.mp q
        have := (memI i (List.mem_filter.mp hi).1).1
        exact List.mem_map.mpr ⟨i, List.mem_range.mpr (by omega), rfl⟩
      · have := rb x q
        exact List.mem_map.mpr ⟨x.toNat, List.mem_range.mpr (by omega), by omega⟩)
    rw [List.length_append, List.length_map, List.length_map, List.length_range] at this
    exact this
  have c1 : I1.length ≤ D.length := by
    have inj : ∀ (K : List (Option Int)) (i j : Nat) (h : Int), (K.filterMap id).Nodup → K[i]? = some (some h) → K[j]? = some (some h) → i = j := by
      intro K
      induction K with
      | nil => intro i j h _ e1; cases e1
      | cons q K ih =>
        intro i j h nd' e1 e2
        match i, j with
        | 0, 0 => rfl
        | 0, j + 1 =>
          have e1' : q = some h := Option.some.inj e1
          rw [e1', List.filterMap_cons_some (by rfl)] at nd'
          have e2' : K[j]? = some (some h) := e2
          exact absurd (List.mem_filterMap.mpr ⟨some h, List.mem_of_getElem? e2', rfl⟩ : h ∈ K.filterMap id) (List.nodup_cons.mp nd').1
        | i + 1, 0 =>
          have e2' : q = some h := Option.some.inj e2
          rw [e2', List.filterMap_cons_some (by rfl)] at nd'
          have e1' : K[i]? = some (some h) := e1
          exact absurd (List.mem_filterMap.mpr ⟨some h, List.mem_of_getElem? e1', rfl⟩ : h ∈ K.filterMap id) (List.nodup_cons.mp nd').1
        | i + 1, j + 1 =>
          have nd'' : (K.filterMap id).Nodup := by
            cases q with
            | none => rw [List.filterMap_cons_none (by rfl)] at nd'; exact nd'
            | some x => rw [List.filterMap_cons_some (by rfl)] at nd'; exact (List.nodup_cons.mp nd').2
          rw [ih i j h nd'' e1 e2]
    have nds : ((L.map Prod.snd).filterMap id).Nodup := by
      rw [List.filterMap_map]
      exact p.one
    have := nd_le (I1.map fun i => ((L.map Prod.snd).getD i none).getD 0) D (nd_map (List.Nodup.sublist List.filter_sublist ndI) fun x hx y hy q => by
      obtain ⟨_, h, eh⟩ := memI x (List.mem_filter.mp hx).1
      obtain ⟨_, k, ek⟩ := memI y (List.mem_filter.mp hy).1
      rw [List.getD_eq_getElem?_getD, List.getD_eq_getElem?_getD, eh, ek] at q
      have : h = k := q
      subst this
      exact inj _ x y h nds eh ek) (fun x hx => by
      obtain ⟨i, hi, rfl⟩ := List.mem_map.mp hx
      obtain ⟨hlt, h, eh⟩ := memI i (List.mem_filter.mp hi).1
      have hB : (i : Int) ∈ B := by simpa using (List.mem_filter.mp hi).2
      rw [List.getD_eq_getElem?_getD, eh]
      refine hD i hB h ?_
      rw [List.getElem?_map, List.getElem?_eq_getElem hlt] at eh
      have e5 : L[i].2 = some h := Option.some.inj eh
      have e6 := p.fit L[i] (List.getElem_mem hlt) h e5
      have e7 : adj Ws i = L[i].1 := by
        unfold adj
        rw [← e, List.getD_eq_getElem?_getD, Int.toNat_natCast, List.getElem?_map, List.getElem?_eq_getElem hlt]
        rfl
      rw [e7]
      exact e6)
    rw [List.length_map] at this
    exact this
  have : sz L = I.length := hsz
  omega
end My

set_option Elab.async false
set_option linter.all false
set_option maxRecDepth 100000
set_option maxHeartbeats 4000000
namespace My
open PySem PySem.Spec PyProof.Rows L2
/-! ### own words over the layer -/
/-- a def that is called by its name and lets nothing out -/
def Cal (P : Program) (w : World) (K : PySem.W.Frag) (mg : Str → Option Value) (base : Heap) (k : Nat) (x : Str) (sp : Sp) : Prop :=
  ∃ (f : Addr) (fd : FuncData) (ps : List Str), FnOk P w K mg base CX0 k f fd ps sp ∧ mg x = some (.ref f) ∧ PySem.W.keepIn K (.ref f) = true ∧ Binds K fd ps []
theorem pe_cal {X : Cx} {k j : Nat} {x : Str} {sp : Sp} {p pos : Pos} {e : Expr} {es : List Expr} {t : TA} (c : Cal X.prog X.w X.K X.mg X.base k x sp) (hr : Room j X.A) (hk : k ≤ j) (hg : Gl X x) (ha : PA X (e :: es) t)
    (hdb : (x == ("__debug__" : Str)) = false := by decide) (he : starEach (e :: es) X.env = (false, eval e X.env) :: starEach es X.env := by rfl) (hpl : (backTo pos (starEach es X.env)).any (·.1) = false := by rfl) :
    PE X (.Call (.Name x p) (e :: es) [] pos) (tCall sp [] E0 t) := by
  obtain ⟨f, fd, ps, F, hm, kp, b⟩ := c
  exact pe_call F (hr.mono hk) hg hm kp b .nil pass0 ha hdb he hpl
theorem same_upd {H : Hp} {p : Addr} {o : HO} (h : H p = none) : Same H (upd H p o) := fun b x e => by
  rw [upd_ne (ne_of_none e h)]
  exact e
/-- a list or tuple of the given values, by its places -/
theorem atI_of {xs : List V} {z : Int} {v : V} (h0 : 0 ≤ z) (h : xs[z.toNat]? = some v) : atI xs z = some v := by
  have e : z = (z.toNat : Int) := (Int.toNat_of_nonneg h0).symm
  rw [e]
  exact atI_nat h
theorem ixN_nat {n : Nat} {j : Nat} (h : j < n) : ixN n (j : Int) = some j := by
  unfold ixN
  simp
  omega
/-! ### the bag -/
def Bag (H : Hp) (p : Addr) : Prop := ∃ g s : Int, H p = some (.lst [.int g, .int s]) ∧ 0 ≤ g ∧ 0 ≤ s ∧ s < 2147483648
/-- all stands but the bag at p -/
def Sx (p : Addr) (H H' : Hp) : Prop := ∀ b o, b ≠ p → H b = some o → H' b = some o
def topS (i : Nat) : Stmt := PySem.Challenge.pw_whistleboard_k12_all_pairings_tried.main.body.getD i (.Pass ⟨0, 0, 0, 0⟩)
structure Txt (mg : Str → Option Value) : Prop where
  z_len : mg "len" = none
  z_abs : mg "abs" = none
  z_range : mg "range" = none
  z_max : mg "max" = none
  z_min : mg "min" = none
  z_list : mg "list" = none
  z_enumerate : mg "enumerate" = none
  z_sorted : mg "sorted" = none
  z_set : mg "set" = none
theorem Sx.of {p : Addr} {H H' : Hp} (h : ∀ b, b ≠ p → H' b = H b) : Sx p H H' := fun b o hb e => by
  rw [h b hb]
  exact e
theorem Sx.trans {p : Addr} {H H1 H2 : Hp} (a : Sx p H H1) (b : Sx p H1 H2) : Sx p H H2 := fun c o hc e => b c o hc (a c o hc e)
theorem Sx.same {p : Addr} {H H' : Hp} (h : Same H H') : Sx p H H' := fun b o _ e => h b o e
theorem Sx.toSame {p : Addr} {H H1 H2 : Hp} (a : Same H H1) (b : Sx p H1 H2) (np : H p = none) : Same H H2 := fun c o e => b c o (ne_of_none e np) (a c o e)
theorem Bag.some {p : Addr} {H : Hp} (h : Bag H p) : ∃ o, H p = some o := by
  obtain ⟨g, s, e, _⟩ := h
  exact ⟨_, e⟩
theorem Bag.same {p : Addr} {H H' : Hp} (h : Bag H p) (sm : Same H H') : Bag H' p := by
  obtain ⟨g, s, e, r⟩ := h
  exact ⟨g, s, sm _ _ e, r⟩
theorem Bag.ne {p l : Addr} {H : Hp} (h : Bag H p) (hl : H l = none) : l ≠ p := fun e => by
  obtain ⟨o, q⟩ := h.some
  rw [e, q] at hl
  cases hl
theorem neF (v : V) : V.bl (!decide (v = v)) = V.bl false := by
  rw [decide_eq_true rfl]
  rfl
theorem isF' {v : V} (h : v ≠ .non) : V.bl (decide (v = V.non)) = V.bl false := by
  rw [decide_eq_false h]
/-- no test in a comprehension -/
theorem yesI {σ : L2.St} {H : Hp} {A B : Hp → Prop} (h : A H) : tYes σ H (fun b H3 => if b = true then A H3 else B H3) := by
  show if true = true then A H else B H
  exact iteT h
theorem cal_mk {P : Program} {w : World} {K : PySem.W.Frag} {mg : Str → Option Value} {base : Heap} {k : Nat} {x : Str} {sp : Sp} {f : Addr} {fd : FuncData} {ps : List Str} (F : FnOk P w K mg base CX0 k f fd ps sp) (g : mg x = some (.ref f)) (kp : PySem.W.keepIn K (.ref f) = true) (b : Binds K fd ps []) : Cal P w K mg base k x sp := ⟨f, fd, ps, F, g, kp, b⟩
theorem pe_glob' {X : Cx} {x : Str} {pos : Pos} {i : Int} (h : ∃ t, X.mg x = some (.int i t)) (hg : Gl X x) (hd : (x == ("__debug__" : Str)) = false := by decide) : PE X (.Name x pos) (tC (.int i)) := by
  obtain ⟨t, e⟩ := h
  exact pe_glob hg e ⟨_, rfl⟩ (hd := hd)
theorem pe_globS {X : Cx} {x : Str} {pos : Pos} {i : Str} (h : ∃ t, X.mg x = some (.str i t)) (hg : Gl X x) (hd : (x == ("__debug__" : Str)) = false := by decide) : PE X (.Name x pos) (tC (.str i)) := by
  obtain ⟨t, e⟩ := h
  exact pe_glob hg e ⟨_, rfl⟩ (hd := hd)
section
variable {P : Program} {w : World} {K : PySem.W.Frag} {mg : Str → Option Value} {base : Heap}
/-! ### _law_take -/
abbrev s_law_take : Stmt := topS 6
abbrev N_law_take : List Str := ["_law_bag_here", "_law_many", "_law_digit"]
theorem sc_law_take : FnScope N_law_take ["_law_bag_here", "_law_many"] (defScope s_law_take) := ⟨rfl, rfl, rfl, by decide +kernel, rfl, by decide +kernel, by decide +kernel⟩
def sp_law_take : Sp := fun vs H Q _ => ∃ (p : Addr) (m : Int), vs = [.ref p, .int m] ∧ Bag H p ∧ 0 < m ∧ m < 1073741824 ∧
  ∀ d H', 0 ≤ d → d < m → Bag H' p → (∀ b, b ≠ p → H' b = H b) → Q (.int d) H'
theorem ok_law_take {f : Addr} {fd : FuncData} {k : Nat} (F : Fun K "_law_take" "_law_take" s_law_take f fd) : FnOk P w K mg base CX0 (k + 1) f fd ["_law_bag_here", "_law_many"] sp_law_take := by
  refine F.ok sc_law_take (fun vs H Q E h => ?_) (fun cdv A outer s H vs Q E hr h => ?_)
  · obtain ⟨p, m, rfl, _⟩ := h
    rfl
  · obtain ⟨p, m, rfl, ⟨g, sd, hp, hg, h0, h1⟩, hm0, hm1, q⟩ := h
    refine ⟨_, (pss_cons (ps_if (pt_cmpR op_gt (pe_ix ix_list (pv 0) pe_int (fun _ _ => rfl)) pe_int (nomark _)) (pss_cons (ps_set (i := 2) sc_law_take.nd rfl (.inl rfl) (pe_op op_mod (pe_ix ix_list (pv 0) pe_int (fun _ _ => rfl)) (pv 1)))
        (pss_cons (ps_asg (pe_op op_fdiv (pe_ix ix_list (pv 0) pe_int (fun _ _ => rfl)) (pv 1)) (pg_sub (pv 0) pe_int set_list))
        (pss_one (ps_ret (pv 2))))) pss_nil)
      (pss_cons (ps_asg (pe_op op_mod (pe_op op_add (pe_op op_mul (pe_ix ix_list (pv 0) pe_int (fun _ _ => rfl)) pe_int) pe_int) pe_int) (pg_sub (pv 0) pe_int set_list))
      (pss_one (ps_ret (pe_op op_mod (pe_op op_mod (pe_op op_pow (pe_op op_fdiv (pe_ix ix_list (pv 0) pe_int (fun _ _ => rfl)) pe_int) pe_int) pe_int) (pv 1)))))), ?_⟩
    have hL : SqL K H p [.int g, .int sd] := SqL.of hp
    refine ⟨_, rfl, p, _, 0, .int g, rfl, rfl, hL, atI_nat (j := 0) rfl, _, _, rfl, rfl, _, rfl, ite2 (fun e => ?_) (fun e => ?_)⟩
    · have eg : (0 : Int) < g := of_decide_eq_true e
      refine ⟨_, rfl, p, _, 0, .int g, rfl, rfl, hL, atI_nat (j := 0) rfl, _, rfl, _, _, rfl, rfl, hm0, ?_⟩
      refine ⟨_, rfl, p, _, 0, .int g, rfl, rfl, hL, atI_nat (j := 0) rfl, _, rfl, _, _, rfl, rfl, ⟨hm0, hm1⟩, ?_⟩
      refine ⟨_, rfl, p, _, 0, 0, rfl, rfl, hp, rfl, ?_⟩
      refine ⟨_, rfl, ?_⟩
      refine q _ _ (Int.emod_nonneg _ (by omega)) (Int.emod_lt_of_pos _ hm0) ⟨g / m, sd, upd_same, Int.ediv_nonneg hg (by omega), h0, h1⟩ (fun b hb => upd_ne hb)
    · refine ⟨_, rfl, p, _, 1, .int sd, rfl, rfl, hL, atI_nat (j := 1) rfl, _, _, rfl, rfl, .inl ⟨by omega, by omega⟩, _, _, rfl, rfl, _, _, rfl, rfl, (by show (0 : Int) < 2147483647; decide), ?_⟩
      refine ⟨_, rfl, p, _, 1, 1, rfl, rfl, hp, rfl, ?_⟩
      have e0 : 0 ≤ (sd * 48271 + 11) % 2147483647 := Int.emod_nonneg _ (by decide)
      have e1 : (sd * 48271 + 11) % 2147483647 < 2147483647 := Int.emod_lt_of_pos _ (by decide)
      refine ⟨_, rfl, p, _, 1, .int ((sd * 48271 + 11) % 2147483647), rfl, rfl, SqL.of upd_same, atI_nat (j := 1) rfl, _, _, rfl, rfl, ⟨by decide, by decide⟩, _, _, rfl, rfl, ⟨by decide, by decide, by omega⟩, _, _, rfl, rfl, (by show (0 : Int) < 2147483629; decide), _, rfl, _, _, rfl, rfl, hm0, ?_⟩
      refine q _ _ (Int.emod_nonneg _ (by omega)) (Int.emod_lt_of_pos _ hm0) ⟨g, _, upd_same, hg, e0, by omega⟩ (fun b hb => upd_ne hb)
/-! ### _law_bag -/
abbrev s_law_bag : Stmt := topS 5
abbrev N_law_bag : List Str := ["_law_script", "_law_at", "_law_cell", "_law_great", "_law_primes"]
theorem sc_law_bag : FnScope N_law_bag ["_law_script", "_law_at"] (defScope s_law_bag) := ⟨rfl, rfl, rfl, by decide +kernel, rfl, by decide +kernel, by decide +kernel⟩
def primes : List Int := [2147483629, 2147483587, 2147483579, 2147483563, 2147483549, 2147483543, 2147483497, 2147483489]
theorem primes_at (j : Nat) (h : j < 8) : ∃ p : Int, primes[j]? = some p ∧ 0 < p ∧ p < 2147483648 := by
  have q : ∀ j : Nat, j < 8 → ∃ p : Int, primes[j]? = some p ∧ 0 < p ∧ p < 2147483648 := fun j h =>
    match j, h with
    | 0, _ => ⟨_, rfl, by decide, by decide⟩ | 1, _ => ⟨_, rfl, by decide, by decide⟩ | 2, _ => ⟨_, rfl, by decide, by decide⟩ | 3, _ => ⟨_, rfl, by decide, by decide⟩
    | 4, _ => ⟨_, rfl, by decide, by decide⟩ | 5, _ => ⟨_, rfl, by decide, by decide⟩ | 6, _ => ⟨_, rfl, by decide, by decide⟩ | 7, _ => ⟨_, rfl, by decide, by decide⟩
    | n + 8, h => absurd h (by omega)
  exact q j h
def sp_law_bag (K : PySem.W.Frag) : Sp := fun vs H Q _ => ∃ (a : Addr) (ns : List Int) (at_ : Int), vs = [.ref a, .int at_] ∧ SqL K H a (ns.map V.int) ∧ 0 ≤ at_ ∧ at_ < 1000000 ∧
  ∀ H' p, Same H H' → H p = none → Bag H' p → Q (.ref p) H'
theorem ok_law_bag {f : Addr} {fd : FuncData} {k : Nat} (F : Fun K "_law_bag" "_law_bag" s_law_bag f fd) (T : Txt mg) : FnOk P w K mg base CX0 (k + 1) f fd ["_law_script", "_law_at"] (sp_law_bag K) := by
  refine F.ok sc_law_bag (fun vs H Q E h => ?_) (fun cdv A outer s H vs Q E hr h => ?_)
  · obtain ⟨a, ns, m, rfl, _⟩ := h
    rfl
  · obtain ⟨a, ns, m, rfl, hS, hm0, hm1, q⟩ := h
    refine ⟨_, (pss_cons (ps_set (i := 2) sc_law_bag.nd rfl (.inl rfl) pe_int)
      (pss_cons (ps_if (pt_cmpR op_gt (pe_callB call_len_seq (by rfl) T.z_len (by decide +kernel) (pa_cons (pv 0) pa_nil)) pe_int (nomark _)) (pss_one (ps_set (i := 2) sc_law_bag.nd rfl (.inl rfl) (pe_ix ix_list (pv 0) (pe_op op_mod (pv 1) (pe_callB call_len_seq (by rfl) T.z_len (by decide +kernel) (pa_cons (pv 0) pa_nil))) (fun _ _ => rfl)))) pss_nil)
      (pss_cons (ps_set (i := 3) sc_law_bag.nd rfl (.inl rfl) pe_int)
      (pss_cons (ps_if (PW.pt (pw_and (pt_cmpR op_ge (pe_callB call_abs (by rfl) T.z_abs (by decide +kernel) (pa_cons (pv 2) pa_nil)) (pe_op op_pow pe_int pe_int) (nomark _)) (pw_and1 (pt_cmpR op_lt (pv 1) (pe_callB call_len_seq (by rfl) T.z_len (by decide +kernel) (pa_cons (pv 0) pa_nil)) (nomark _))))) (pss_one (ps_set (i := 3) sc_law_bag.nd rfl (.inl rfl) (pe_callB call_abs (by rfl) T.z_abs (by decide +kernel) (pa_cons (pv 2) pa_nil)))) pss_nil)
      (pss_cons (ps_set (i := 4) sc_law_bag.nd rfl (.inl rfl) (pe_tup (pa_cons pe_int (pa_cons pe_int (pa_cons pe_int (pa_cons pe_int (pa_cons pe_int (pa_cons pe_int (pa_cons pe_int (pa_cons pe_int pa_nil))))))))))
      (pss_one (ps_ret (pe_lst (pa_cons (pv 3) (pa_cons (pe_op op_mod (pe_op op_pow (pe_op op_add (pe_op op_add (pe_op op_mod (pv 2) pe_int) (pe_op op_mul pe_int (pv 1))) pe_int) pe_int) (pe_ix ix_tup (pv 4) (pe_op op_mod (pv 1) pe_int) (fun _ _ => rfl))) pa_nil)))))))))), ?_⟩
    have nat8 : (m % 8).toNat < 8 := by omega
    obtain ⟨pr, hpr, pr0, pr1⟩ := primes_at _ nat8
    have hat : atI (primes.map V.int) (m % 8) = some (.int pr) := atI_of (by omega) (by rw [List.getElem?_map, hpr]; rfl)
    -- the way's last part, for any cell and great
    have hcell : ∀ x : Int, (x % 2147483647 + 104729 * m + 7).natAbs < 2 ^ 64 := fun x => by omega
    have two : ∀ {A B : Prop} {b : Bool}, (b = true → A) → (b = false → B) → if b = true then A else B := fun {A B b} h1 h2 => by
      cases b
      · exact iteF (h2 rfl)
      · exact iteT (h1 rfl)
    refine ⟨_, rfl, a, _, rfl, .inl hS, _, _, rfl, rfl, _, rfl, ite2 (fun e => ?g1) (fun e => ?g2)⟩
    case' g1 =>
      have e0 : 0 < ns.length := by
        have z : (0 : Int) < ((ns.map V.int).length : Nat) := of_decide_eq_true e
        rw [List.length_map] at z
        omega
      have hl : (m % ((ns.map V.int).length : Nat)).toNat < ns.length := by
        rw [List.length_map]
        have z1 : 0 ≤ m % (ns.length : Int) := Int.emod_nonneg _ (by omega)
        have z2 : m % (ns.length : Int) < (ns.length : Int) := Int.emod_lt_of_pos _ (by omega)
        omega
      have hc : atI (ns.map V.int) (m % ((ns.map V.int).length : Nat)) = some (.int (ns[(m % ((ns.map V.int).length : Nat)).toNat])) := atI_of (Int.emod_nonneg _ (by rw [List.length_map]; omega)) (by rw [List.getElem?_map, List.getElem?_eq_getElem hl]; rfl)
      refine ⟨_, rfl, _, rfl, _, rfl, a, _, rfl, .inl hS, _, _, rfl, rfl, (by show (0 : Int) < _; rw [List.length_map]; omega), a, _, _, _, rfl, rfl, hS, hc, ?_⟩
      generalize ns[(m % ((ns.map V.int).length : Nat)).toNat] = c
    all_goals
      refine ⟨_, rfl, _, rfl, _, _, rfl, rfl, ⟨by decide, by decide, by decide⟩, _, _, rfl, rfl, _, rfl, ite2 (fun e1 => ?_) (fun e1 => ?_)⟩
    all_goals first
      | refine ⟨_, rfl, _, rfl, a, _, rfl, .inl hS, _, _, rfl, rfl, _, rfl, ite2 (fun e2 => ?_) (fun e2 => ?_)⟩
      | refine iteF ?_
    all_goals try refine ⟨_, rfl, _, rfl, ?_⟩
    all_goals
      refine ⟨(by show 8 ≤ sizeLine; decide), fun tp ntp => ?_⟩
      refine ⟨_, rfl, _, rfl, _, _, rfl, rfl, (by show (0 : Int) < 2147483647; decide), _, rfl, _, _, rfl, rfl, .inl ⟨by decide, by decide⟩, _, _, rfl, rfl, _, _, rfl, rfl, _, _, rfl, rfl, ⟨by decide, by decide, hcell _⟩, _, rfl, _, rfl, _, _, rfl, rfl, (by show (0 : Int) < 8; decide), tp, _, _, _, rfl, rfl, SqT.of (xs := primes.map V.int) upd_same, hat, _, _, rfl, rfl, pr0, (by show 2 ≤ sizeLine; decide), fun p np => ?_⟩
      refine q _ p ((same_upd ntp).trans (same_upd np)) ((same_upd ntp).free np) ⟨_, _, upd_same, ?_, Int.emod_nonneg _ (by omega), Int.lt_trans (Int.emod_lt_of_pos _ pr0) pr1⟩
      first | decide | (split <;> omega)

end
end My

set_option Elab.async false
set_option linter.all false
set_option maxRecDepth 100000
set_option maxHeartbeats 4000000
namespace My
open PySem PySem.Spec PyProof.Rows L2
/-! ### the dicts of the program -/
def enc (M : Mp) : List (Key × V) := M.map fun p => (Sum.inl p.1, V.int p.2)
def encT (tr : List Int) : List (Key × V) := tr.map fun h => (Sum.inl h, V.bl true)
theorem inl_eq {a b : Int} : ((Sum.inl a : Key) = Sum.inl b) ↔ a = b := ⟨fun e => Sum.inl.inj e, fun e => congrArg _ e⟩
theorem valV_enc (M : Mp) (h : Int) : valV (enc M) (Sum.inl h : Key) = (get M h).map V.int := by
  induction M with
  | nil => rfl
  | cons p M ih =>
    show valV ((Sum.inl p.1, V.int p.2) :: enc M) (Sum.inl h : Key) = _
    rw [get_cons]
    by_cases e : p.1 = h
    · rw [valV_pos (inl_eq.mpr e), if_pos e]; rfl
    · rw [valV_neg (fun c => e (inl_eq.mp c)), if_neg e, ih]
theorem putK_enc (M : Mp) (h w : Int) : putK (enc M) (Sum.inl h : Key) (V.int w) = enc (put M h w) := by
  unfold putK put
  rw [valV_any, valV_enc, any_get, Option.isSome_map]
  by_cases c : (get M h).isSome = true
  · rw [if_pos c, if_pos c]
    unfold enc
    rw [List.map_map, List.map_map]
    apply List.map_congr_left
    intro p _
    show (if (Sum.inl p.1 : Key) = Sum.inl h then ((Sum.inl p.1 : Key), V.int w) else (Sum.inl p.1, V.int p.2)) = (Sum.inl (if p.1 = h then (p.1, w) else p).1, V.int (if p.1 = h then (p.1, w) else p).2)
    by_cases e : p.1 = h
    · rw [if_pos (inl_eq.mpr e), if_pos e]
    · rw [if_neg (fun c => e (inl_eq.mp c)), if_neg e]
  · rw [if_neg c, if_neg c]
    unfold enc
    rw [List.map_append]
    rfl
theorem valV_encT (tr : List Int) (h : Int) : (valV (encT tr) (Sum.inl h : Key)).isSome = decide (h ∈ tr) := by
  induction tr with
  | nil => rfl
  | cons p M ih =>
    show (valV ((Sum.inl p, V.bl true) :: encT M) (Sum.inl h : Key)).isSome = _
    by_cases e : p = h
    · rw [valV_pos (inl_eq.mpr e)]
      simp [e]
    · rw [valV_neg (fun c => e (inl_eq.mp c)), ih]
      have : ¬ h = p := fun c => e c.symm
      simp [this]
theorem putK_encT {tr : List Int} {h : Int} (nh : h ∉ tr) : putK (encT tr) (Sum.inl h : Key) (V.bl true) = encT (tr ++ [h]) := by
  unfold putK
  rw [valV_any, valV_encT, decide_eq_false nh, if_neg Bool.false_ne_true]
  unfold encT
  rw [List.map_append]
  rfl
/-! ### the wishes in the heap -/
def WsAt (H : Hp) (wa : Addr) (Ws : List (List Int)) : Prop := ∃ as : List Addr, H wa = some (.lst (as.map V.ref)) ∧ as.length = Ws.length ∧ ∀ (i : Nat) (a : Addr), as[i]? = some a → H a = some (.lst ((Ws.getD i []).map V.int))
/-- lists stand -/
def Lk (H H' : Hp) : Prop := ∀ b xs, H b = some (.lst xs) → H' b = some (.lst xs)
theorem WsAt.keep {H H' : Hp} {wa : Addr} {Ws : List (List Int)} (h : WsAt H wa Ws) (k : Lk H H') : WsAt H' wa Ws := by
  obtain ⟨as, e, hl, all⟩ := h
  exact ⟨as, k _ _ e, hl, fun i a q => k _ _ (all i a q)⟩
theorem Lk.trans {H H1 H2 : Hp} (a : Lk H H1) (b : Lk H1 H2) : Lk H H2 := fun c xs e => b c xs (a c xs e)
theorem Lk.same {H H' : Hp} (h : Same H H') : Lk H H' := fun b xs e => h b _ e
theorem Lk.dict {H : Hp} {d : Addr} {kvs : List (Key × V)} {o : HO} (e : H d = some (.dK kvs)) : Lk H (upd H d o) := fun b xs eb => by
  rw [upd_ne (fun c => by rw [c, e] at eb; cases eb)]
  exact eb
structure Wr (Ws : List (List Int)) : Prop where
  n : Ws.length ≤ 24
  len : ∀ x, (adj Ws x).length ≤ 60
  rg : ∀ x, ∀ h ∈ adj Ws x, 0 ≤ h ∧ h < 60
def all60 : List Int := (List.range 60).map fun (i : Nat) => (i : Int)
theorem mem60 {h : Int} (r : 0 ≤ h ∧ h < 60) : h ∈ all60 := List.mem_map.mpr ⟨h.toNat, List.mem_range.mpr (by omega), by omega⟩
theorem len60 : all60.length = 60 := by
  unfold all60
  rw [List.length_map, List.length_range]
theorem Tr.len {tr : List Int} (t : Tr tr) : tr.length ≤ 60 := by
  have := nd_le tr all60 t.nd fun x hx => mem60 (t.rg x hx)
  rw [len60] at this
  exact this
theorem Tr.full {tr : List Int} {h : Int} (t : Tr tr) (nh : h ∉ tr) (r : 0 ≤ h ∧ h < 60) : tr.length < 60 := by
  have := (t.snoc nh r).len
  rw [List.length_append] at this
  simp only [List.length_cons, List.length_nil] at this
  omega
theorem Okm.len {Ws : List (List Int)} {M : Mp} (ok : Okm Ws M) (W : Wr Ws) : M.length ≤ 60 := by
  have e : (keys M).length ≤ all60.length := nd_le (keys M) all60 ok.nd fun h hh => by
    cases q : get M h with
    | none => exact absurd hh (get_none_iff.mp q)
    | some w => exact mem60 (W.rg w h (ok.fit h w q).2.2)
  rw [len60, List.length_map] at e
  exact e
section
variable {P : Program} {w : World} {K : PySem.W.Frag} {mg : Str → Option Value} {base : Heap}
abbrev s_find_holder : Stmt := topS 2
abbrev N_find_holder : List Str := ["wishes", "wish_of", "wish", "tried", "holder"]
theorem sc_find_holder : FnScope N_find_holder ["wishes", "wish_of", "wish", "tried"] (defScope s_find_holder) := ⟨rfl, rfl, rfl, by decide +kernel, rfl, by decide +kernel, by decide +kernel⟩
def sp_find (n : Nat) : Sp := fun vs H Q _ => ∃ (wa da ta : Addr) (wish : Int) (Ws : List (List Int)) (M : Mp) (tr : List Int), vs = [.ref wa, .ref da, .int wish, .ref ta] ∧ WsAt H wa Ws ∧ Wr Ws ∧ H da = some (.dK (enc M)) ∧ H ta = some (.dK (encT tr)) ∧ da ≠ ta ∧
  0 ≤ wish ∧ wish < Ws.length ∧ Okm Ws M ∧ Tr tr ∧ 60 ≤ tr.length + n ∧
  (∀ M' tr' H', Succ Ws M tr wish M' tr' → H' da = some (.dK (enc M')) → H' ta = some (.dK (encT tr')) → (∀ b, b ≠ da → b ≠ ta → H' b = H b) → Q (.bl true) H') ∧
  (∀ tr' H', Fail Ws M tr wish tr' → H' da = some (.dK (enc M)) → H' ta = some (.dK (encT tr')) → (∀ b, b ≠ da → b ≠ ta → H' b = H b) → Q (.bl false) H')
def sp_findR : Nat → Sp
  | 0 => fun _ _ _ _ => False
  | n + 1 => sp_find n
theorem ok_find_step {f : Addr} {fd : FuncData} {n : Nat} (F : Fun K "find_holder" "find_holder" s_find_holder f fd) (C_find_holder : Cal P w K mg base n "find_holder" (sp_findR n)) : FnOk P w K mg base CX0 (n + 1) f fd ["wishes", "wish_of", "wish", "tried"] (sp_find n) := by
  refine F.ok sc_find_holder (fun vs H Q E h => ?_) (fun cdv A outer s H vs Q E hr h => ?_)
  · obtain ⟨wa, da, ta, wish, Ws, M, tr, rfl, _⟩ := h
    rfl
  · obtain ⟨wa, da, ta, wish, Ws, M, tr, rfl, hW, W, hd, ht, ndt, hw0, hw1, ok, tk, hn, qT, qF⟩ := h
    refine ⟨_, (pss_cons (ps_for PassesOwn.never rfl (pi_list (pe_ix ix_list (pv 0) (pv 2) (fun _ _ => rfl))) (pg_name (i := 4) sc_find_holder.nd rfl (.inl rfl))
        (pss_one (ps_if (pt_cmp (pc_dnotin (hu_of hr) (pv 4) (pv 3))) (pss_cons (ps_dput (hu_of hr) (pv 3) (pv 4) pe_bl rfl)
          (pss_one (ps_if (PW.pt (pw_or (pt_cmp (pc_dnotin (hu_of hr) (pv 4) (pv 1))) (pw_or1 (pt_val (pe_cal C_find_holder hr (Nat.le_refl _) (by rfl) (pa_cons (pv 0) (pa_cons (pv 1) (pa_cons (pe_dget (hu_of hr) (pv 1) (pv 4) (fun _ _ => rfl)) (pa_cons (pv 3) pa_nil))))))))) (pss_cons (ps_dput (hu_of hr) (pv 1) (pv 4) (pv 2) rfl)
            (pss_one (ps_ret pe_bl))) pss_nil))) pss_nil)))
      (pss_one (ps_ret pe_bl))), ?_⟩
    obtain ⟨as, hwa, hal, hat⟩ := hW
    have hwn : wish.toNat < as.length := by omega
    have hwl : as[wish.toNat]? = some as[wish.toNat] := List.getElem?_eq_getElem hwn
    have hll : H as[wish.toNat] = some (.lst ((adj Ws wish).map V.int)) := hat _ _ hwl
    generalize as[wish.toNat] = lw at hwl hll
    refine ⟨_, rfl, _, rfl, wa, _, wish, .ref lw, rfl, rfl, SqL.of hwa, atI_of hw0 (by rw [List.getElem?_map, hwl]; rfl), lw, rfl, ⟨_, SqL.of hll⟩, ?_⟩
    refine for_list (K := K) (a := lw) (xs := (adj Ws wish).map V.int) (fun i σ H' => (∃ y, σ = [some (.ref wa), some (.ref da), some (.int wish), some (.ref ta), y]) ∧ (∀ b, b ≠ da → b ≠ ta → H' b = H b) ∧ H' da = some (.dK (enc M)) ∧ ∃ ti, H' ta = some (.dK (encT ti)) ∧ Half Ws M tr ti ∧ ∀ h ∈ (adj Ws wish).take i, h ∈ ti)
      ⟨⟨_, rfl⟩, fun _ _ _ => rfl, hd, tr, ht, Half.refl tk, fun h hh => (by simp at hh)⟩ (fun i σ H' _ p => ?_) ?_ ?_
    · obtain ⟨_, fr, _⟩ := p
      refine SqL.of ?_
      rw [fr lw (fun c => by rw [c, hd] at hll; cases hll) (fun c => by rw [c, ht] at hll; cases hll)]
      exact hll
    · rintro i x σ H1 hx ⟨⟨y, rfl⟩, fr, hd1, ti, ht1, hf, hin⟩
      obtain ⟨h, hh, rfl⟩ : ∃ h : Int, (adj Ws wish)[i]? = some h ∧ x = .int h := by
        rw [List.getElem?_map] at hx
        cases e : (adj Ws wish)[i]? with
        | none => rw [e] at hx; cases hx
        | some v => rw [e] at hx; exact ⟨v, rfl, (Option.some.inj hx).symm⟩
      have hmem : h ∈ adj Ws wish := List.mem_of_getElem? hh
      have htake : (adj Ws wish).take (i + 1) = (adj Ws wish).take i ++ [h] := by
        rw [List.take_add_one, hh]
        rfl
      have hrg := W.rg wish h hmem
      refine ⟨_, rfl, _, rfl, ta, _, rfl, DGet.k (k := Sum.inl h) ht1, _, rfl, ?_⟩
      rw [valV_encT]
      by_cases hti : h ∈ ti
      · rw [decide_eq_true hti]
        refine iteF ?_
        refine ⟨⟨_, rfl⟩, fr, hd1, ti, ht1, hf, fun j hj => ?_⟩
        rw [htake] at hj
        rcases List.mem_append.mp hj with q | q
        · exact hin j q
        · have : j = h := by simpa using q
          exact this ▸ hti
      · rw [decide_eq_false hti]
        refine iteT ?_
        have hl60 : (encT ti).length < sizeLine := by
          unfold encT
          rw [List.length_map]
          exact Nat.lt_of_le_of_lt hf.tk.len (by decide)
        refine ⟨_, rfl, _, rfl, ta, _, rfl, DPut.k (k := Sum.inl h) ht1 hl60, ?_⟩
        rw [putK_encT hti]
        have hd2 : (upd H1 ta (.dK (encT (ti ++ [h])))) da = some (.dK (enc M)) := by
          rw [upd_ne ndt]
          exact hd1
        have ht2 : (upd H1 ta (.dK (encT (ti ++ [h])))) ta = some (.dK (encT (ti ++ [h]))) := upd_same
        have fr2 : ∀ b, b ≠ da → b ≠ ta → (upd H1 ta (.dK (encT (ti ++ [h])))) b = H b := fun b b1 b2 => by
          rw [upd_ne b2]
          exact fr b b1 b2
        generalize upd H1 ta (.dK (encT (ti ++ [h]))) = H2 at hd2 ht2 fr2
        have hlM : (enc M).length < sizeLine := by
          unfold enc
          rw [List.length_map]
          exact Nat.lt_of_le_of_lt (ok.len W) (by decide)
        refine ⟨_, rfl, _, rfl, da, _, rfl, DGet.k (k := Sum.inl h) hd2, _, rfl, ?_⟩
        rw [valV_enc]
        cases e : get M h with
        | none =>
          refine iteT ?_
          refine ⟨_, rfl, _, rfl, _, rfl, da, _, rfl, DPut.k (k := Sum.inl h) hd2 hlM, ?_⟩
          rw [putK_enc]
          refine qT _ _ _ (succ_free ok ⟨hw0, hw1⟩ hf hmem hti hrg e) upd_same (by rw [upd_ne ndt.symm]; exact ht2) (fun b b1 b2 => by rw [upd_ne b1]; exact fr2 b b1 b2)
        | some w2 =>
          refine iteF ?_
          have hlen := hf.tk.full hti hrg
          have hsub : tr.length ≤ ti.length := nd_le tr ti tk.nd hf.sub
          cases n with
          | zero => exact absurd hlen (by omega)
          | succ n =>
            have ft := ok.fit h w2 e
            have lk : Lk H H2 := fun b xs eb => by
              rw [fr2 b (fun c => by rw [c, hd] at eb; cases eb) (fun c => by rw [c, ht] at eb; cases eb)]
              exact eb
            have hW2 : WsAt H2 wa Ws := WsAt.keep ⟨as, hwa, hal, hat⟩ lk
            refine ⟨_, rfl, _, rfl, _, rfl, _, rfl, da, .int w2, rfl, ?_, _, rfl, wa, da, ta, w2, Ws, M, ti ++ [h], rfl, hW2, W, hd2, ht2, ndt, ft.1, ft.2.1, ok, hf.tk.snoc hti hrg, ?_, fun M' tr' H3 su hd3 ht3 fr3 => ?_, fun tr' H3 fa hd3 ht3 fr3 => ?_⟩
            · have g := DGet.k (k := Sum.inl h) hd2
              rw [valV_enc, e] at g
              exact g
            · rw [List.length_append]
              simp only [List.length_cons, List.length_nil]
              omega
            · refine ⟨true, rfl, iteT ?_⟩
              have hlM' : (enc M').length < sizeLine := by
                unfold enc
                rw [List.length_map]
                exact Nat.lt_of_le_of_lt (su.ok.len W) (by decide)
              refine ⟨_, rfl, _, rfl, _, rfl, da, _, rfl, DPut.k (k := Sum.inl h) hd3 hlM', ?_⟩
              rw [putK_enc]
              refine qT _ _ _ (succ_moved ok ⟨hw0, hw1⟩ hf hmem hti e su) upd_same (by rw [upd_ne ndt.symm]; exact ht3) (fun b b1 b2 => by rw [upd_ne b1, fr3 b b1 b2]; exact fr2 b b1 b2)
            · refine ⟨false, rfl, iteF ?_⟩
              refine ⟨⟨_, rfl⟩, fun b b1 b2 => (fr3 b b1 b2).trans (fr2 b b1 b2), hd3, tr', ht3, half_more hf e fa, fun j hj => ?_⟩
              rw [htake] at hj
              refine fa.hf.sub j ?_
              rcases List.mem_append.mp hj with q | q
              · exact List.mem_append_left _ (hin j q)
              · exact List.mem_append_right _ q
    · rintro σ H1 ⟨⟨y, rfl⟩, fr, hd1, ti, ht1, hf, hin⟩
      refine qF ti H1 ⟨hf, fun h hh => hin h ?_⟩ hd1 ht1 fr
      rw [List.length_map, List.take_length]
      exact hh
theorem ok_find {f : Addr} {fd : FuncData} (F : Fun K "find_holder" "find_holder" s_find_holder f fd) (g : mg "find_holder" = some (.ref f)) (kp : PySem.W.keepIn K (.ref f) = true) (b : Binds K fd ["wishes", "wish_of", "wish", "tried"] []) : ∀ n : Nat, Cal P w K mg base n "find_holder" (sp_findR n)
  | 0 => cal_mk ⟨fun _ _ _ _ h => h.elim, fun _ _ _ _ _ _ _ _ _ _ _ _ _ h => h.elim⟩ g kp b
  | n + 1 => cal_mk (ok_find_step F (ok_find F g kp b n)) g kp b
end
end My

set_option Elab.async false
set_option linter.all false
set_option maxRecDepth 100000
set_option maxHeartbeats 4000000
namespace My
open PySem PySem.Spec PyProof.Rows L2
def oV : Option Int → V
  | none => .non
  | some h => .int h
theorem free_succ (M : Mp) (i : Nat) : free M (i + 1) = free M i ++ if cnt M (i : Int) = 0 then [(i : Int)] else [] := by
  unfold free
  rw [List.range_succ, List.filter_append, List.map_append]
  congr 1
  by_cases c : cnt M (i : Int) = 0
  · rw [if_pos c]
    simp [c]
  · rw [if_neg c]
    simp [c]
theorem nd_range {B : List Int} {n : Nat} (nd : B.Nodup) (rg : ∀ w ∈ B, 0 ≤ w ∧ w < n) : B.length ≤ n := by
  have := nd_le B ((List.range n).map fun (i : Nat) => (i : Int)) nd fun w hw => List.mem_map.mpr ⟨w.toNat, List.mem_range.mpr (by have := rg w hw; omega), by have := rg w hw; omega⟩
  rw [List.length_map, List.length_range] at this
  exact this
theorem encT_int (B : List Int) : (encT B).map (·.1) = B.map (Sum.inl : Int → Key) := by
  unfold encT
  rw [List.map_map]
  rfl
section
variable {P : Program} {w : World} {K : PySem.W.Frag} {mg : Str → Option Value} {base : Heap}
abbrev s_band_of : Stmt := topS 3
abbrev N_band_of : List Str := ["wishes", "wish_of", "pairs", "band", "waiting", "wish", "holder"]
theorem sc_band_of : FnScope N_band_of ["wishes", "wish_of", "pairs"] (defScope s_band_of) := ⟨rfl, rfl, rfl, by decide +kernel, rfl, by decide +kernel, by decide +kernel⟩
def sp_band : Sp := fun vs H Q _ => ∃ (wa da pa : Addr) (Ws : List (List Int)) (M : Mp) (T : Int → Prop), vs = [.ref wa, .ref da, .ref pa] ∧ WsAt H wa Ws ∧ Wr Ws ∧ H da = some (.dK (enc M)) ∧ H pa = some (.lst (((List.range Ws.length).map (hol M)).map oV)) ∧ Got Ws M Ws.length T ∧
  ∀ H' p (B B0 : List Int), Same H H' → H p = none → H' p = some (.lst (B.map V.int)) → B.Perm B0 → B.Pairwise (· ≤ ·) → Bi Ws M T B0 [] → Q (.ref p) H'
theorem ok_band {f : Addr} {fd : FuncData} {k : Nat} (F : Fun K "band_of" "band_of" s_band_of f fd) (T : Txt mg) : FnOk P w K mg base CX0 (k + 1) f fd ["wishes", "wish_of", "pairs"] sp_band := by
  refine F.ok sc_band_of (fun vs H Q E h => ?_) (fun cdv A outer s H vs Q E hr h => ?_)
  · obtain ⟨wa, da, pa, Ws, M, Tc, rfl, _⟩ := h
    rfl
  · obtain ⟨wa, da, pa, Ws, M, Tc, rfl, hW, W, hd, hp, got, q⟩ := h
    refine ⟨_, (pss_cons (ps_set (i := 3) sc_band_of.nd rfl (.inl rfl) pe_dnewK)
      (pss_cons (ps_setLc (i := 4) (own := [("wish", 5), ("holder", 6)]) (g := gTup K 2 (gCons (gName 5) (gCons (gName 6) gNil))) (by rfl) sc_band_of.nd rfl rfl (sw_true rfl rfl rfl (by decide +kernel)) (pi_enum (by rfl) T.z_enumerate (pa_cons (pv 2) pa_nil)) (blkOk_by (own := [("wish", 5), ("holder", 6)]) (N := N_band_of) (sc := defScope s_band_of) (by decide +kernel)) (fun _ _ _ _ _ => (pg_tup rfl (pgs_cons (pg_name (i := 5) sc_band_of.nd rfl (.inl rfl)) (pgs_cons (pg_name (i := 6) sc_band_of.nd rfl (.inl rfl)) pgs_nil)))) (fun _ _ _ _ _ => (pts_one (pt_cmpR op_isN (pv 6) pe_non (nomark _)))) (fun _ _ _ _ _ => (pv 5)))
      (pss_cons (ps_while PassesOwn.never (pt_truth (pv 4) (by intro _; rfl))
        (pss_cons (ps_set (i := 5) sc_band_of.nd rfl (.inl rfl) (pe_bm0 PySem.F.plainAttrs_list PySem.F.slot_list_pop PySem.F.type_list_pop mt_pop (pv 4)))
        (pss_one (ps_if (pt_cmp (pc_dnotin (hu_of hr) (pv 5) (pv 3))) (pss_cons (ps_dput (hu_of hr) (pv 3) (pv 5) pe_bl rfl)
          (pss_one (ps_expr (pe_bm PySem.F.plainAttrs_list PySem.F.slot_list_extend PySem.F.type_list_extend mt_extend (pv 4) (pa_cons (pe_lc (own := [("holder", 6)]) (by rfl) sc_band_of.nd (pi_list (pe_ix ix_list (pv 0) (pv 5) (fun _ _ => rfl))) (blkOk_by (own := [("holder", 6)]) (N := N_band_of) (sc := defScope s_band_of) (by decide +kernel)) (fun _ _ _ _ _ => (pg_name (i := 6) sc_band_of.nd rfl (.inl rfl))) (fun _ _ _ _ _ => pts_nil) (fun _ _ _ _ _ => (pe_dget (hu_of hr) (pv 1) (pv 6) (fun _ _ => rfl)))) pa_nil))))) pss_nil))))
      (pss_one (ps_ret (pe_callB (call_sortedDI (by rfl)) (by rfl) T.z_sorted (by decide +kernel) (pa_cons (pv 3) pa_nil))))))), ?_⟩
    refine fun ba nba => ?_
    have S1 := same_upd (o := .dK []) nba
    have hb1 : (upd H ba (.dK [])) ba = some (.dK []) := upd_same
    generalize upd H ba (.dK []) = H1 at S1 hb1
    have hp1 := S1 _ _ hp
    refine ⟨_, rfl, pa, _, rfl, SqL.of hp1, fun D nD => ?_⟩
    have hnl : ((List.range Ws.length).map (hol M)).length = Ws.length := by rw [List.length_map, List.length_range]
    have ndb : ba ≠ D := ne_of_none hb1 nD
    refine ⟨fun i m H' => m = Ws.length - i ∧ i ≤ Ws.length ∧ Same H1 H' ∧ H' D = some (.lst ((free M i).map V.int)), ⟨_, rfl, Nat.zero_le _, same_upd nD, upd_same⟩, ?_⟩
    rintro i m H2 ⟨rfl, hi, sm2, hD⟩
    have hp2 := sm2 _ _ hp1
    by_cases hlt : i < Ws.length
    · refine .inr ⟨⟨_, _, SqL.of hp2, by rw [List.getElem?_map, List.getElem?_map, List.getElem?_range hlt]; rfl⟩, fun H' => Same H1 H' ∧ H' D = some (.lst ((free M (i + 1)).map V.int)), fun H' h' => ⟨_, by omega, rfl, hlt, h'.1, h'.2⟩, fun x H' hy => ?_⟩
      obtain ⟨Tt, x, rfl, nT, rfl, fx⟩ := hy
      have ex : x = oV (hol M i) := by
        have := fx _ (SqL.of hp2)
        rw [List.getElem?_map, List.getElem?_map, List.getElem?_range hlt] at this
        exact (Option.some.inj this).symm
      subst ex
      have sT := same_upd (o := .tup [.int (i : Nat), oV (hol M i)]) nT
      have hD2 := sT _ _ hD
      refine ⟨Tt, _, rfl, SqT.of upd_same, rfl, _, _, rfl, _, _, rfl, rfl, rfl, ?_⟩
      refine ⟨_, rfl, rfl, _, rfl, ?_⟩
      have hsz : ((free M i).map V.int).length < sizeLine := by
        rw [List.length_map]
        have := len_free M i
        have := W.n
        exact Nat.lt_of_le_of_lt (show (free M i).length ≤ 24 by omega) (by decide)
      have keepS : ∀ ys : List V, Same H1 (upd (upd H2 Tt (.tup [.int (i : Nat), oV (hol M i)])) D (.lst ys)) := fun ys b o eb => by
        rw [upd_ne (ne_of_none eb nD)]
        exact sT _ _ (sm2 b o eb)
      cases e : hol M i with
      | none =>
        refine (if_pos (by show decide (V.non = V.non) = true; exact decide_eq_true rfl)).mpr ?_
        rw [e] at hD2 keepS
        refine ⟨_, rfl, _, hD2, hsz, keepS _, ?_⟩
        rw [upd_same, free_succ, if_pos (hol_none.mp e), List.map_append]
        rfl
      | some h =>
        refine (if_neg (by show ¬ decide (V.int h = V.non) = true; rw [decide_eq_false (by intro z; cases z)]; exact Bool.false_ne_true)).mpr ?_
        rw [e] at hD2 sT
        refine ⟨sm2.trans sT, ?_⟩
        rw [free_succ, if_neg (fun c => by rw [hol_none.mpr c] at e; cases e), List.append_nil]
        exact hD2
    · have hin : i = Ws.length := by omega
      subst hin
      refine .inl ⟨⟨_, SqL.of hp2, by rw [List.length_map, hnl]; exact Nat.le_refl _⟩, ?_⟩
      have hb2 := sm2 _ _ hb1
      have hd2 := sm2 _ _ (S1 _ _ hd)
      have hW2 : WsAt H2 wa Ws := hW.keep (Lk.same (S1.trans sm2))
      have npD : H D = none := S1.free nD
      have sH2 : Same H H2 := S1.trans sm2
      clear hp2 hp1 sm2
      -- the loop
      refine ⟨fun m σ H' => ∃ B wt, (∃ y5 y6, σ = [some (.ref wa), some (.ref da), some (.ref pa), some (.ref ba), some (.ref D), y5, y6]) ∧ Same H H' ∧ H' ba = some (.dK (encT B)) ∧ H' D = some (.lst (wt.map V.int)) ∧ Bi Ws M Tc B wt ∧ m = (Ws.length - B.length) * 61 + wt.length, ⟨_, [], _, ⟨_, _, rfl⟩, sH2, hb2, hD, bi_start got, rfl⟩, ?_⟩
      rintro m σ H3 ⟨B, wt, ⟨y5, y6, rfl⟩, sm3, hb3, hD3, bi, rfl⟩
      refine ⟨_, rfl, !(wt.map V.int).isEmpty, .inl ⟨_, SqL.of hD3, rfl⟩, ?_⟩
      rcases List.eq_nil_or_concat wt with rfl | ⟨wt0, w, rfl⟩
      · refine iteF ?_
        have hBl : B.length ≤ 24 := Nat.le_trans (nd_range bi.nd fun w hw => bi.rg w (.inl hw)) W.n
        refine ⟨_, rfl, ba, _, B, rfl, .inl hb3, encT_int B, by omega, fun ys p pm pw np => ?_⟩
        exact q _ p ys B (sm3.trans (same_upd np)) (sm3.free np) upd_same pm pw bi
      · rw [List.concat_eq_append] at *
        have hne : (!((wt0 ++ [w]).map V.int).isEmpty) = true := by simp
        rw [hne]
        refine iteT ?_
        refine ⟨fun σ' H' => ∃ B' wt', (∃ y5 y6, σ' = [some (.ref wa), some (.ref da), some (.ref pa), some (.ref ba), some (.ref D), y5, y6]) ∧ Same H H' ∧ H' ba = some (.dK (encT B')) ∧ H' D = some (.lst (wt'.map V.int)) ∧ Bi Ws M Tc B' wt' ∧ (Ws.length - B'.length) * 61 + wt'.length < (Ws.length - B.length) * 61 + (wt0 ++ [w]).length, fun σ' H' ⟨B', wt', a1, a2, a3, a4, a5, a6⟩ => ⟨_, a6, B', wt', a1, a2, a3, a4, a5, rfl⟩, ?_⟩
        have hlast : ((wt0 ++ [w]).map V.int)[((wt0 ++ [w]).map V.int).length - 1]? = some (.int w) := by simp
        have hdrop : ((wt0 ++ [w]).map V.int).dropLast = wt0.map V.int := by simp
        refine ⟨_, rfl, .inl ⟨rfl, _, SqL.of hD3⟩, D, _, _, rfl, rfl, hD3, hlast, ?_⟩
        rw [hdrop]
        have fr4 : ∀ b, b ≠ D → (upd H3 D (.lst (wt0.map V.int))) b = H3 b := fun b hb => upd_ne hb
        have hD4 : (upd H3 D (.lst (wt0.map V.int))) D = some (.lst (wt0.map V.int)) := upd_same
        generalize upd H3 D (.lst (wt0.map V.int)) = H4 at fr4 hD4
        have hb4 : H4 ba = some (.dK (encT B)) := (fr4 ba ndb).trans hb3
        have sm4 : Same H H4 := fun b o eb => (fr4 b (ne_of_none eb npD)).trans (sm3 b o eb)
        refine ⟨_, rfl, _, rfl, ba, _, rfl, DGet.k (k := Sum.inl w) hb4, _, rfl, ?_⟩
        rw [valV_encT]
        by_cases hwB : w ∈ B
        · rw [decide_eq_true hwB]
          refine iteF ?_
          refine ⟨B, wt0, ⟨_, _, rfl⟩, sm4, hb4, hD4, bi_old bi hwB, ?_⟩
          rw [List.length_append]
          simp only [List.length_cons, List.length_nil]
          omega
        · rw [decide_eq_false hwB]
          refine iteT ?_
          have bn := bi_new got.cl got.ok W.len bi hwB
          have hBn : (B ++ [w]).length ≤ Ws.length := nd_range bn.nd fun w hw => bn.rg w (.inl hw)
          have hB24 : (B ++ [w]).length ≤ 24 := Nat.le_trans hBn W.n
          have hBl : (encT B).length < sizeLine := by
            unfold encT
            rw [List.length_map]
            rw [List.length_append] at hB24
            exact Nat.lt_of_le_of_lt (show B.length ≤ 24 by omega) (by decide)
          refine ⟨_, rfl, _, rfl, ba, _, rfl, DPut.k (k := Sum.inl w) hb4 hBl, ?_⟩
          rw [putK_encT hwB]
          have fr5 : ∀ b, b ≠ ba → (upd H4 ba (.dK (encT (B ++ [w])))) b = H4 b := fun b hb => upd_ne hb
          have hb5 : (upd H4 ba (.dK (encT (B ++ [w])))) ba = some (.dK (encT (B ++ [w]))) := upd_same
          generalize upd H4 ba (.dK (encT (B ++ [w]))) = H5 at fr5 hb5
          have hD5 : H5 D = some (.lst (wt0.map V.int)) := (fr5 D ndb.symm).trans hD4
          have sm5 : Same H H5 := fun b o eb => (fr5 b (ne_of_none eb nba)).trans (sm4 b o eb)
          have hW5 : WsAt H5 wa Ws := hW.keep (Lk.same sm5)
          have hd5 : H5 da = some (.dK (enc M)) := sm5 _ _ hd
          obtain ⟨as, hwa, hal, hat⟩ := hW5
          have hwr := bi.rg w (.inr (by simp))
          have hwn : w.toNat < as.length := by omega
          have hwl : as[w.toNat]? = some as[w.toNat] := List.getElem?_eq_getElem hwn
          have hll : H5 as[w.toNat] = some (.lst ((adj Ws w).map V.int)) := hat _ _ hwl
          generalize as[w.toNat] = lw at hwl hll
          refine ⟨_, rfl, .inl ⟨rfl, _, SqL.of hD5⟩, _, rfl, _, rfl, wa, _, w, .ref lw, rfl, rfl, SqL.of hwa, atI_of hwr.1 (by rw [List.getElem?_map, hwl]; rfl), lw, rfl, ⟨_, SqL.of hll⟩, fun D2 nD2 => ?_⟩
          have nDD : D ≠ D2 := ne_of_none hD5 nD2
          have nbD : ba ≠ D2 := ne_of_none hb5 nD2
          refine lc_list (K := K) (a := lw) (xs := (adj Ws w).map V.int) (fun j H' => (∀ b, b ≠ D2 → H' b = H5 b) ∧ H' D2 = some (.lst (((nexts Ws M w).take j).map V.int))) ⟨fun b hb => upd_ne hb, by rw [upd_same]; rfl⟩ (fun j H' _ p => SqL.of ((p.1 lw (ne_of_none hll nD2)).trans hll)) ?_ ?_
          · rintro j x H6 hx ⟨fr6, hD6⟩
            obtain ⟨h, hh, rfl⟩ : ∃ h : Int, (adj Ws w)[j]? = some h ∧ x = .int h := by
              rw [List.getElem?_map] at hx
              cases e : (adj Ws w)[j]? with
              | none => rw [e] at hx; cases hx
              | some v => rw [e] at hx; exact ⟨v, rfl, (Option.some.inj hx).symm⟩
            obtain ⟨w', hg, _⟩ := got.cl h (bi.tt w (.inr (by simp)) h (List.mem_of_getElem? hh))
            have hd6 : H6 da = some (.dK (enc M)) := (fr6 da (ne_of_none hd5 nD2)).trans hd5
            have hnext : (nexts Ws M w).take (j + 1) = (nexts Ws M w).take j ++ [w'] := by
              unfold nexts
              rw [List.take_add_one, List.getElem?_map, hh]
              show _ ++ [(get M h).getD 0] = _
              rw [hg]
              rfl
            have hjl : (((nexts Ws M w).take j).map V.int).length < sizeLine := by
              rw [List.length_map, List.length_take]
              unfold nexts
              rw [List.length_map]
              exact Nat.lt_of_le_of_lt (Nat.le_trans (Nat.min_le_right _ _) (W.len w)) (by decide)
            refine ⟨rfl, yesI ?_⟩
            refine ⟨_, rfl, _, rfl, da, .int w', rfl, ?_, _, hD6, hjl, fun b hb => ?_, ?_⟩
            · have g := DGet.k (k := Sum.inl h) hd6
              rw [valV_enc, hg] at g
              exact g
            · rw [upd_ne hb]
              exact fr6 b hb
            · rw [upd_same, hnext, List.map_append]
              rfl
          · rintro H6 ⟨fr6, hD6⟩
            have etk : (nexts Ws M w).take ((adj Ws w).map V.int).length = nexts Ws M w := List.take_of_length_le (by
              unfold nexts
              rw [List.length_map, List.length_map]
              exact Nat.le_refl _)
            rw [etk] at hD6
            have hD7 : H6 D = some (.lst (wt0.map V.int)) := (fr6 D nDD).trans hD5
            have hnl6 : (nexts Ws M w).length ≤ 60 := by
              unfold nexts
              rw [List.length_map]
              exact W.len w
            have hwl0 : wt0.length ≤ 2000 := by
              have := bi.len
              have := W.n
              rw [List.length_append] at *
              simp only [List.length_cons, List.length_nil] at *
              omega
            refine ⟨D, D2, _, _, rfl, rfl, hD7, hD6, ?_, ?_⟩
            · rw [List.length_map, List.length_map]
              exact Nat.le_trans (show _ ≤ 3000 by omega) (by decide)
            · refine ⟨B ++ [w], wt0 ++ nexts Ws M w, ⟨_, _, rfl⟩, fun b o eb => ?_, ?_, ?_, bn, ?_⟩
              · rw [upd_ne (ne_of_none eb npD), fr6 b (ne_of_none (sm5 b o eb) nD2)]
                exact sm5 b o eb
              · rw [upd_ne ndb, fr6 ba nbD]
                exact hb5
              · rw [upd_same, List.map_append]
              · rw [List.length_append] at hBn ⊢
                rw [List.length_append, List.length_append]
                simp only [List.length_cons, List.length_nil] at *
                omega
end
end My

set_option Elab.async false
set_option linter.all false
set_option maxRecDepth 100000
set_option maxHeartbeats 4000000
namespace My
open PySem PySem.Spec PyProof.Rows L2
theorem rep_non (n : Nat) : (List.replicate n [V.non]).flatten = (List.replicate n (none : Option Int)).map oV := by
  induction n with
  | zero => rfl
  | succ n ih =>
    rw [List.replicate_succ, List.flatten_cons, ih, List.replicate_succ, List.map_cons]
    rfl
def prf (M : Mp) (n i : Nat) : List (Option Int) := (M.take i).foldl (fun acc p => acc.set p.2.toNat (some p.1)) (List.replicate n none)
theorem prf_len (M : Mp) (n i : Nat) : (prf M n i).length = n := by
  unfold prf
  rw [fold_len, List.length_replicate]
theorem prf_succ {M : Mp} {n i : Nat} {p : Int × Int} (h : M[i]? = some p) : prf M n (i + 1) = (prf M n i).set p.2.toNat (some p.1) := by
  unfold prf
  rw [List.take_add_one, h, List.foldl_append]
  rfl
theorem prf_all (M : Mp) (n : Nat) : prf M n M.length = prs M n := by
  unfold prf prs
  rw [List.take_length]
section
variable {P : Program} {w : World} {K : PySem.W.Frag} {mg : Str → Option Value} {base : Heap}
abbrev s_paired : Stmt := topS 1
abbrev N_paired : List Str := ["wishes", "wish_of", "wish", "pairs", "holder"]
theorem sc_paired : FnScope N_paired ["wishes"] (defScope s_paired) := ⟨rfl, rfl, rfl, by decide +kernel, rfl, by decide +kernel, by decide +kernel⟩
/-- what paired tells -/
structure Told (H H' : Hp) (t pa ba : Addr) (Ws : List (List Int)) (M : Mp) (B : List Int) : Prop where
  same : Same H H'
  nt : H t = none
  np : H pa = none
  nb : H ba = none
  ntp : t ≠ pa
  ntb : t ≠ ba
  npb : pa ≠ ba
  et : H' t = some (.tup [.ref pa, .ref ba])
  ep : H' pa = some (.lst (((List.range Ws.length).map (hol M)).map oV))
  eb : H' ba = some (.lst (B.map V.int))
  ok : ∃ T B0, Got Ws M Ws.length T ∧ B.Perm B0 ∧ B.Pairwise (· ≤ ·) ∧ Bi Ws M T B0 []
def sp_paired : Sp := fun vs H Q _ => ∃ (wa : Addr) (Ws : List (List Int)), vs = [.ref wa] ∧ WsAt H wa Ws ∧ Wr Ws ∧ ∀ H' t pa ba M B, Told H H' t pa ba Ws M B → Q (.ref t) H'
theorem ok_paired {f : Addr} {fd : FuncData} (F : Fun K "paired" "paired" s_paired f fd) (T : Txt mg) (C_find_holder : Cal P w K mg base 61 "find_holder" (sp_find 60)) (C_band_of : Cal P w K mg base 1 "band_of" sp_band) : FnOk P w K mg base CX0 62 f fd ["wishes"] sp_paired := by
  refine F.ok sc_paired (fun vs H Q E h => ?_) (fun cdv A outer s H vs Q E hr h => ?_)
  · obtain ⟨wa, Ws, rfl, _⟩ := h
    rfl
  · obtain ⟨wa, Ws, rfl, hW, W, q⟩ := h
    refine ⟨_, (pss_cons (ps_set (i := 1) sc_paired.nd rfl (.inl rfl) pe_dnewK)
      (pss_cons (ps_for PassesOwn.never rfl (pi_range1 (by rfl) T.z_range (pa_cons (pe_callB call_len_seq (by rfl) T.z_len (by decide +kernel) (pa_cons (pv 0) pa_nil)) pa_nil)) (pg_name (i := 2) sc_paired.nd rfl (.inl rfl))
        (pss_one (ps_expr (pe_cal C_find_holder hr (by decide) (by rfl) (pa_cons (pv 0) (pa_cons (pv 1) (pa_cons (pv 2) (pa_cons pe_dnewK pa_nil))))))))
      (pss_cons (ps_set (i := 3) sc_paired.nd rfl (.inl rfl) (pe_op op_rep (pe_lst (pa_cons pe_non pa_nil)) (pe_callB call_len_seq (by rfl) T.z_len (by decide +kernel) (pa_cons (pv 0) pa_nil))))
      (pss_cons (ps_lock (ps_for PassesOwn.never rfl (pi_keys (pv 1)) (pg_name (i := 4) sc_paired.nd rfl (.inl rfl))
        (pss_one (ps_asg (pv 4) (pg_sub (pv 3) (pe_dget (hu_of hr) (pv 1) (pv 4) (fun _ _ => rfl)) set_list)))))
      (pss_one (ps_ret (pe_tup (pa_cons (pv 3) (pa_cons (pe_cal C_band_of hr (by decide) (by rfl) (pa_cons (pv 0) (pa_cons (pv 1) (pa_cons (pv 3) pa_nil)))) pa_nil))))))))), ?_⟩
    obtain ⟨as, hwa, hal, hat⟩ := hW
    have hW : WsAt H wa Ws := ⟨as, hwa, hal, hat⟩
    refine fun da nda => ?_
    have S1 := same_upd (o := .dK []) nda
    have hd1 : (upd H da (.dK [])) da = some (.dK (enc [])) := upd_same
    generalize upd H da (.dK []) = H1 at S1 hd1
    have lenW : ((as.map V.ref).length : Int) = (Ws.length : Int) := by rw [List.length_map, hal]
    refine ⟨_, rfl, wa, _, rfl, .inl (SqL.of (S1 _ _ hwa)), _, rfl, by have := W.n; omega, by have := W.n; omega, ?_⟩
    rw [lenW]
    have toN : ((Ws.length : Nat) : Int).toNat = Ws.length := rfl
    refine for_range (lo := 0) (n := ((Ws.length : Nat) : Int).toNat) (fun i σ H' => (∃ y, σ = [some (.ref wa), some (.ref da), y, none, none]) ∧ Same H H' ∧ ∃ M Tc, H' da = some (.dK (enc M)) ∧ Got Ws M i Tc) ⟨⟨_, rfl⟩, S1, [], _, hd1, got_start Ws⟩ ?_ ?_
    · rintro i σ H2 hi ⟨⟨y, rfl⟩, sm2, M, Tc, hd2, got⟩
      rw [toN] at hi
      refine ⟨_, rfl, _, rfl, _, rfl, fun ta nta => ?_⟩
      have hd3 : (upd H2 ta (.dK [])) da = some (.dK (enc M)) := by
        rw [upd_ne (ne_of_none hd2 nta)]
        exact hd2
      have S3 : Same H (upd H2 ta (.dK [])) := sm2.trans (same_upd nta)
      refine ⟨wa, da, ta, 0 + (i : Int), Ws, M, [], rfl, hW.keep (Lk.same S3), W, hd3, upd_same, ne_of_none hd2 nta, by omega, by omega, got.ok, ⟨List.nodup_nil, fun h hh => by cases hh⟩, by decide, fun M' tr' H4 su hd4 ht4 fr4 => ?_, fun tr' H4 fa hd4 ht4 fr4 => ?_⟩
      · have e0 : 0 + (i : Int) = (i : Int) := by omega
        rw [e0] at su
        refine ⟨⟨_, rfl⟩, fun b o eb => ?_, M', Tc, hd4, got_succ got su⟩
        rw [fr4 b (ne_of_none eb nda) (ne_of_none eb (sm2.free nta))]
        exact S3 b o eb
      · have e0 : 0 + (i : Int) = (i : Int) := by omega
        rw [e0] at fa
        refine ⟨⟨_, rfl⟩, fun b o eb => ?_, M, _, hd4, got_fail got fa⟩
        rw [fr4 b (ne_of_none eb nda) (ne_of_none eb (sm2.free nta))]
        exact S3 b o eb
    · rintro σ H2 ⟨⟨y, rfl⟩, sm2, M, Tc, hd2, got⟩
      rw [toN] at got
      -- the pairs
      refine ⟨by show 1 ≤ sizeLine; decide, fun l0 nl0 => ?_⟩
      have S3 := same_upd (o := .lst [.non]) nl0
      refine ⟨_, rfl, wa, _, rfl, .inl (SqL.of (S3 _ _ (sm2 _ _ hwa))), l0, _, _, rfl, rfl, upd_same, by rw [lenW]; omega, by rw [lenW]; have := W.n; omega, ?_, fun pa npa => ?_⟩
      · rw [lenW]
        have := W.n
        show 1 * Ws.length ≤ sizeLine
        exact Nat.le_trans (show _ ≤ 24 by omega) (by decide)
      rw [lenW]
      show tSeq _ _ _ _ (upd _ pa (.lst (List.replicate Ws.length [V.non]).flatten))
      rw [rep_non]
      have S4 := same_upd (o := .lst ((List.replicate Ws.length (none : Option Int)).map oV)) npa
      have npa2 : H2 pa = none := S3.free npa
      have npaH : H pa = none := sm2.free npa2
      have hp4 : (upd (upd H2 l0 (.lst [.non])) pa (.lst ((List.replicate Ws.length (none : Option Int)).map oV))) pa = some (.lst ((prf M Ws.length 0).map oV)) := upd_same
      have sm4 := (sm2.trans S3).trans S4
      have hd4 := S4 _ _ (S3 _ _ hd2)
      generalize upd (upd H2 l0 (.lst [.non])) pa (.lst ((List.replicate Ws.length (none : Option Int)).map oV)) = H4 at S4 hp4 sm4 hd4
      have dne : da ≠ pa := ne_of_none hd2 npa2
      refine ⟨da, _, hd4, trivial, fun od => ?_⟩
      refine ⟨_, rfl, da, od, rfl, .inl ⟨_, upd_same, ?_⟩⟩
      have hc := got.lo
      have h0 : ∀ p ∈ M, 0 ≤ p.2 := fun p hp => (got.ok.fit p.1 p.2 (mem_get got.ok.nd hp)).1
      have h1 : ∀ p ∈ M, p.2 < Ws.length := fun p hp => (got.ok.fit p.1 p.2 (mem_get got.ok.nd hp)).2.1
      have hel : (enc M).length = M.length := by
        unfold enc
        rw [List.length_map]
      refine ⟨fun i m σ H' => m = M.length - i ∧ i ≤ M.length ∧ (∃ y2 y4, σ = [some (.ref wa), some (.ref da), y2, some (.ref pa), y4]) ∧ (∀ b, b ≠ da → b ≠ pa → H' b = H4 b) ∧ H' da = some (.frz od (.dK (enc M))) ∧ H' pa = some (.lst ((prf M Ws.length i).map oV)),
        ⟨_, rfl, Nat.zero_le _, ⟨_, _, rfl⟩, fun b b1 b2 => upd_ne b1, upd_same, by rw [upd_ne dne.symm]; exact hp4⟩, ?_⟩
      rintro i m σ H5 ⟨rfl, hi, ⟨y2, y4, rfl⟩, fr5, hd5, hp5⟩
      by_cases hlt : i < M.length
      · refine .inr ⟨⟨hd5, by rw [hel]; exact hlt⟩, fun σ' H' => (∃ y2 y4, σ' = [some (.ref wa), some (.ref da), y2, some (.ref pa), y4]) ∧ (∀ b, b ≠ da → b ≠ pa → H' b = H4 b) ∧ H' da = some (.frz od (.dK (enc M))) ∧ H' pa = some (.lst ((prf M Ws.length (i + 1)).map oV)), fun σ' H' ⟨a1, a2, a3, a4⟩ => ⟨_, by omega, rfl, hlt, a1, a2, a3, a4⟩, fun x H' hy => ?_⟩
        obtain ⟨rfl, k, v, hk, rfl⟩ := hy
        have hMi : M[i]? = some M[i] := List.getElem?_eq_getElem hlt
        have hmem : M[i] ∈ M := List.getElem_mem hlt
        generalize M[i] = pr at hMi hmem
        have ek : (k, v) = (Sum.inl pr.1, V.int pr.2) := by
          unfold enc at hk
          rw [List.getElem?_map, hMi] at hk
          exact (Option.some.inj hk).symm
        cases ek
        have hg : get M pr.1 = some pr.2 := mem_get got.ok.nd hmem
        refine ⟨_, rfl, _, rfl, _, rfl, _, rfl, da, .int pr.2, rfl, .inl ⟨enc M, Sum.inl pr.1, .inr ⟨od, hd5⟩, rfl, ?_⟩, ?_⟩
        · rw [valV_enc, hg]
          rfl
        have hj : pr.2 = ((pr.2.toNat : Nat) : Int) := (Int.toNat_of_nonneg (h0 pr hmem)).symm
        have hjl : pr.2.toNat < Ws.length := by have := h1 pr hmem; have := h0 pr hmem; omega
        refine ⟨pa, _, pr.2, pr.2.toNat, rfl, rfl, hp5, ?_, ?_⟩
        · rw [List.length_map, prf_len]
          conv => lhs; rw [hj]
          exact ixN_nat hjl
        · refine ⟨⟨_, _, rfl⟩, fun b b1 b2 => by rw [upd_ne b2]; exact fr5 b b1 b2, by rw [upd_ne dne]; exact hd5, ?_⟩
          rw [upd_same, prf_succ hMi, List.map_set]
          rfl
      · have hie : i = M.length := by omega
        subst hie
        refine .inl ⟨⟨hd5, by rw [hel]; exact Nat.le_refl _⟩, hd5, ?_⟩
        rw [prf_all, prs_eq hc h0] at hp5
        have fr6 : ∀ b, b ≠ da → b ≠ pa → (upd H5 da (.dK (enc M))) b = H4 b := fun b b1 b2 => by
          rw [upd_ne b1]
          exact fr5 b b1 b2
        have hd6 : (upd H5 da (.dK (enc M))) da = some (.dK (enc M)) := upd_same
        have hp6 : (upd H5 da (.dK (enc M))) pa = some (.lst (((List.range Ws.length).map (hol M)).map oV)) := by
          rw [upd_ne dne.symm]
          exact hp5
        generalize upd H5 da (.dK (enc M)) = H6 at fr6 hd6 hp6
        have sm6 : Same H H6 := fun b o eb => by
          rw [fr6 b (ne_of_none eb nda) (ne_of_none eb npaH)]
          exact sm4 b o eb
        refine ⟨_, rfl, _, rfl, _, rfl, _, rfl, wa, da, pa, Ws, M, Tc, rfl, hW.keep (Lk.same sm6), W, hd6, hp6, got, fun H7 ba B B0 sm7 nba eb7 pm pw bi => ?_⟩
        refine ⟨by show 2 ≤ sizeLine; decide, fun t nt => ?_⟩
        have hp7 := sm7 _ _ hp6
        have npb : pa ≠ ba := ne_of_none hp6 nba
        have ntp : t ≠ pa := (ne_of_none hp7 nt).symm
        have ntb : t ≠ ba := (ne_of_none eb7 nt).symm
        refine q _ t pa ba M B ⟨(sm6.trans sm7).trans (same_upd nt), (sm6.trans sm7).free nt, npaH, sm6.free nba, ntp, ntb, npb, upd_same, by rw [upd_ne ntp.symm]; exact hp7, by rw [upd_ne ntb.symm]; exact eb7, Tc, B0, got, pm, pw, bi⟩
end
end My

set_option Elab.async false
set_option linter.all false
set_option maxRecDepth 100000
set_option maxHeartbeats 4000000
namespace My
open PySem PySem.Spec PyProof.Rows L2
theorem Bag.upd {p b : Addr} {H : Hp} {o : HO} (h : Bag H p) (n : p ≠ b) : Bag (L2.upd H b o) p := by
  obtain ⟨g, s, e, r⟩ := h
  exact ⟨g, s, by rw [upd_ne n]; exact e, r⟩
structure Wr6 (Ws : List (List Int)) : Prop where
  len : ∀ l ∈ Ws, l.length ≤ 6
  rg : ∀ l ∈ Ws, ∀ h ∈ l, 0 ≤ h ∧ h < 60
theorem adj_mem (Ws : List (List Int)) (x : Int) : adj Ws x = [] ∨ adj Ws x ∈ Ws := by
  unfold adj
  by_cases c : x.toNat < Ws.length
  · right
    rw [List.getD_eq_getElem?_getD, List.getElem?_eq_getElem c]
    exact List.getElem_mem c
  · left
    rw [List.getD_eq_getElem?_getD, List.getElem?_eq_none (by omega)]
    rfl
theorem Wr6.wr {Ws : List (List Int)} (h : Wr6 Ws) (n : Ws.length ≤ 24) : Wr Ws := by
  refine ⟨n, fun x => ?_, fun x j hj => ?_⟩
  · rcases adj_mem Ws x with e | e
    · rw [e]; decide
    · exact Nat.le_trans (h.len _ e) (by decide)
  · rcases adj_mem Ws x with e | e
    · rw [e] at hj; cases hj
    · exact h.rg _ e j hj
/-- wishes, none of whose lists is at p -/
def WsNp (p : Addr) (H : Hp) (wa : Addr) (Ws : List (List Int)) : Prop := ∃ as : List Addr, H wa = some (.lst (as.map V.ref)) ∧ wa ≠ p ∧ as.length = Ws.length ∧ ∀ (i : Nat) (a : Addr), as[i]? = some a → a ≠ p ∧ H a = some (.lst ((Ws.getD i []).map V.int))
theorem WsNp.wsAt {p : Addr} {H : Hp} {wa : Addr} {Ws : List (List Int)} (h : WsNp p H wa Ws) : WsAt H wa Ws := by
  obtain ⟨as, e, _, l, a⟩ := h
  exact ⟨as, e, l, fun i b q => (a i b q).2⟩
theorem WsNp.keep {p : Addr} {H H' : Hp} {wa : Addr} {Ws : List (List Int)} (h : WsNp p H wa Ws) (s : Sx p H H') : WsNp p H' wa Ws := by
  obtain ⟨as, e, n, l, a⟩ := h
  exact ⟨as, s _ _ n e, n, l, fun i b q => ⟨(a i b q).1, s _ _ (a i b q).1 (a i b q).2⟩⟩
section
variable {P : Program} {w : World} {K : PySem.W.Frag} {mg : Str → Option Value} {base : Heap}
abbrev s_law_wishes : Stmt := topS 7
abbrev N_law_wishes : List Str := ["_law_bag_here", "_law_most_here", "_law_kinds", "_law_first", "_law_found", "_law_wish", "_law_many", "_law_k"]
theorem sc_law_wishes : FnScope N_law_wishes ["_law_bag_here", "_law_most_here"] (defScope s_law_wishes) := ⟨rfl, rfl, rfl, by decide +kernel, rfl, by decide +kernel, by decide +kernel⟩
def sp_law_wishes : Sp := fun vs H Q _ => ∃ (p : Addr) (most : Int), vs = [.ref p, .int most] ∧ Bag H p ∧ 0 ≤ most ∧ most ≤ 24 ∧
  ∀ Ws H' wa, WsNp p H' wa Ws → (Ws.length : Int) ≤ most → Wr6 Ws → Bag H' p → Sx p H H' → Q (.ref wa) H'
theorem ok_law_wishes {f : Addr} {fd : FuncData} (F : Fun K "_law_wishes" "_law_wishes" s_law_wishes f fd) (T : Txt mg) (C_law_take : Cal P w K mg base 1 "_law_take" sp_law_take) : FnOk P w K mg base CX0 2 f fd ["_law_bag_here", "_law_most_here"] sp_law_wishes := by
  refine F.ok sc_law_wishes (fun vs H Q E h => ?_) (fun cdv A outer s H vs Q E hr h => ?_)
  · obtain ⟨p, m, rfl, _⟩ := h
    rfl
  · obtain ⟨p, most, rfl, hB, hm0, hm1, q⟩ := h
    refine ⟨_, (pss_cons (ps_asg (pe_tup (pa_cons (pe_ix ix_tup (pe_tup (pa_cons pe_int (pa_cons pe_int (pa_cons pe_int pa_nil)))) (pe_cal C_law_take hr (by decide) (by rfl) (pa_cons (pv 0) (pa_cons pe_int pa_nil))) (fun _ _ => rfl)) (pa_cons (pe_cal C_law_take hr (by decide) (by rfl) (pa_cons (pv 0) (pa_cons pe_int pa_nil))) pa_nil))) (pg_tup rfl (pgs_cons (pg_name (i := 2) sc_law_wishes.nd rfl (.inr rfl)) (pgs_cons (pg_name (i := 3) sc_law_wishes.nd rfl (.inr rfl)) pgs_nil))))
      (pss_cons (ps_set (i := 4) sc_law_wishes.nd rfl (.inl rfl) (pe_lst pa_nil))
      (pss_cons (ps_for PassesOwn.never rfl (pi_range1 (by rfl) T.z_range (pa_cons (pe_cal C_law_take hr (by decide) (by rfl) (pa_cons (pv 0) (pa_cons (pe_op op_add (pv 1) pe_int) pa_nil))) pa_nil)) (pg_name (i := 5) sc_law_wishes.nd rfl (.inl rfl))
        (pss_cons (ps_set (i := 6) sc_law_wishes.nd rfl (.inl rfl) (pe_cal C_law_take hr (by decide) (by rfl) (pa_cons (pv 0) (pa_cons (pe_ix ix_tup (pe_tup (pa_cons pe_int (pa_cons pe_int pa_nil))) (pe_cal C_law_take hr (by decide) (by rfl) (pa_cons (pv 0) (pa_cons pe_int pa_nil))) (fun _ _ => rfl)) pa_nil))))
        (pss_one (ps_expr (pe_bm PySem.F.plainAttrs_list PySem.F.slot_list_append PySem.F.type_list_append mt_append (pv 4) (pa_cons (pe_lc (own := [("_law_k", 7)]) (by rfl) sc_law_wishes.nd (pi_range1 (by rfl) T.z_range (pa_cons (pv 6) pa_nil)) (blkOk_by (own := [("_law_k", 7)]) (N := N_law_wishes) (sc := defScope s_law_wishes) (by decide +kernel)) (fun _ _ _ _ _ => (pg_name (i := 7) sc_law_wishes.nd rfl (.inl rfl))) (fun _ _ _ _ _ => pts_nil) (fun _ _ _ _ _ => (pe_op op_mod (pe_op op_add (pv 3) (pe_cal C_law_take hr (by decide) (by rfl) (pa_cons (pv 0) (pa_cons (pv 2) pa_nil)))) pe_int))) pa_nil))))))
      (pss_one (ps_ret (pv 4)))))), ?_⟩
    refine ⟨by show 3 ≤ sizeLine; decide, fun t1 n1 => ?_⟩
    have B1 := hB.same (same_upd (o := .tup [.int 3, .int 9, .int 60]) n1)
    refine ⟨_, rfl, p, 3, rfl, B1, by decide, by decide, fun d1 H2 a1 b1 B2 s2 => ?_⟩
    have ht1 : H2 t1 = some (.tup [.int 3, .int 9, .int 60]) := by
      rw [s2 t1 (hB.ne n1), upd_same]
    obtain ⟨kinds, hk0, hk1, hat⟩ : ∃ kinds : Int, 0 < kinds ∧ kinds < 1073741824 ∧ atI [V.int 3, .int 9, .int 60] d1 = some (.int kinds) := by
      have c : d1 = 0 ∨ d1 = 1 ∨ d1 = 2 := by omega
      rcases c with rfl | rfl | rfl
      · exact ⟨3, by decide, by decide, rfl⟩
      · exact ⟨9, by decide, by decide, rfl⟩
      · exact ⟨60, by decide, by decide, rfl⟩
    refine ⟨t1, _, d1, _, rfl, rfl, SqT.of ht1, hat, ?_⟩
    refine ⟨_, rfl, p, 52, rfl, B2, by decide, by decide, fun first H3 f0 f1 B3 s3 => ?_⟩
    refine ⟨by show 2 ≤ sizeLine; decide, fun t2 n2 => ?_⟩
    refine ⟨t2, _, rfl, SqT.of upd_same, rfl, _, _, rfl, _, _, rfl, rfl, ?_⟩
    have S4 : Sx p H (upd H3 t2 (.tup [.int kinds, .int first])) := (((Sx.same (same_upd n1)).trans (Sx.of s2)).trans (Sx.of s3)).trans (Sx.same (same_upd n2))
    have B4 := B3.same (same_upd (o := .tup [.int kinds, .int first]) n2)
    generalize upd H3 t2 (.tup [.int kinds, .int first]) = H4 at S4 B4
    refine ⟨Nat.zero_le _, fun fo nfo => ?_⟩
    have hfo : fo ≠ p := B4.ne nfo
    have S5 : Sx p H (upd H4 fo (.lst [])) := S4.trans (Sx.same (same_upd nfo))
    have B5 := B4.same (same_upd (o := .lst []) nfo)
    have nfH : H fo = none := by
      cases e : H fo with
      | none => rfl
      | some o => have := S4 fo o hfo e; rw [this] at nfo; cases nfo
    refine ⟨_, rfl, _, rfl, _, _, rfl, rfl, p, _, rfl, B5, by omega, by omega, fun many H6 m0 m1 B6 s6 => ?_⟩
    have hf6 : H6 fo = some (.lst []) := by rw [s6 fo hfo, upd_same]
    have S6 : Sx p H H6 := S5.trans (Sx.of s6)
    refine ⟨many, rfl, by omega, by omega, ?_⟩
    refine for_range (lo := 0) (n := many.toNat) (fun i σ H' => (∃ y5 y6 y7, σ = [some (.ref p), some (.int most), some (.int kinds), some (.int first), some (.ref fo), y5, y6, y7]) ∧ Sx p H H' ∧ Bag H' p ∧ ∃ (as : List Addr) (Ws : List (List Int)), H' fo = some (.lst (as.map V.ref)) ∧ as.length = i ∧ Ws.length = i ∧ Wr6 Ws ∧ ∀ (j : Nat) (a : Addr), as[j]? = some a → a ≠ fo ∧ a ≠ p ∧ H' a = some (.lst ((Ws.getD j []).map V.int)))
      ⟨⟨_, _, _, rfl⟩, S6, B6, [], [], hf6, rfl, rfl, ⟨fun l hl => (by cases hl), fun l hl => (by cases hl)⟩, fun j a e => (by cases e)⟩ ?_ ?_
    · rintro i σ H7 hi ⟨⟨y5, y6, y7, rfl⟩, S7, B7, as, Ws, hf7, hal, hwl, hw6, hat7⟩
      -- many
      refine ⟨_, rfl, by show 2 ≤ sizeLine; decide, fun t3 n3 => ?_⟩
      have B8 := B7.same (same_upd (o := .tup [.int 3, .int 7]) n3)
      refine ⟨_, rfl, p, 2, rfl, B8, by decide, by decide, fun d2 H9 a2 b2 B9 s9 => ?_⟩
      have ht3 : H9 t3 = some (.tup [.int 3, .int 7]) := by
        rw [s9 t3 (B7.ne n3), upd_same]
      obtain ⟨up, hu0, hu1, hatu⟩ : ∃ up : Int, 0 < up ∧ up ≤ 7 ∧ atI [V.int 3, .int 7] d2 = some (.int up) := by
        have c : d2 = 0 ∨ d2 = 1 := by omega
        rcases c with rfl | rfl
        · exact ⟨3, by decide, by decide, rfl⟩
        · exact ⟨7, by decide, by decide, rfl⟩
      refine ⟨t3, _, d2, _, rfl, rfl, SqT.of ht3, hatu, ?_⟩
      refine ⟨p, _, rfl, B9, hu0, by omega, fun mn H10 mn0 mn1 B10 s10 => ?_⟩
      have S10 : Sx p H7 H10 := ((Sx.same (same_upd n3)).trans (Sx.of s9)).trans (Sx.of s10)
      have hf10 : H10 fo = some (.lst (as.map V.ref)) := S10 _ _ hfo hf7
      refine ⟨_, rfl, .inl ⟨rfl, _, SqL.of hf10⟩, _, rfl, mn, rfl, by omega, by omega, fun D nD => ?_⟩
      have nDp : D ≠ p := B10.ne nD
      have nDf : D ≠ fo := (ne_of_none hf10 nD).symm
      refine lc_range (lo := 0) (n := mn.toNat) (fun j H' => Bag H' p ∧ (∀ b, b ≠ p → b ≠ D → H' b = H10 b) ∧ ∃ xs : List Int, H' D = some (.lst (xs.map V.int)) ∧ xs.length = j ∧ ∀ x ∈ xs, 0 ≤ x ∧ x < 60)
        ⟨B10.same (same_upd nD), fun b _ hb => upd_ne hb, [], upd_same, rfl, fun x hx => by cases hx⟩ ?_ ?_
      · rintro j H11 hj ⟨B11, fr11, xs, hD11, hxl, hxr⟩
        refine ⟨rfl, yesI ?_⟩
        refine ⟨_, rfl, _, rfl, _, rfl, p, kinds, rfl, B11, hk0, hk1, fun d H12 d0 d1' B12 s12 => ?_⟩
        have hD12 : H12 D = some (.lst (xs.map V.int)) := (s12 D nDp).trans hD11
        have e0 : 0 ≤ (first + d) % 60 := Int.emod_nonneg _ (by decide)
        have e1 : (first + d) % 60 < 60 := Int.emod_lt_of_pos _ (by decide)
        refine ⟨_, _, rfl, rfl, _, _, rfl, rfl, (by show (0 : Int) < 60; decide), _, hD12, ?_, B12.upd nDp.symm, fun b b1 b2 => ?_, xs ++ [(first + d) % 60], ?_, by rw [List.length_append, hxl]; rfl, fun x hx => ?_⟩
        · rw [List.length_map, hxl]
          exact Nat.lt_of_le_of_lt (show j ≤ 7 by omega) (by decide)
        · rw [upd_ne b2, s12 b b1]
          exact fr11 b b1 b2
        · rw [upd_same, List.map_append]
          rfl
        · rcases List.mem_append.mp hx with hx | hx
          · exact hxr x hx
          · have : x = (first + d) % 60 := by simpa using hx
            rw [this]
            exact ⟨e0, e1⟩
      · rintro H11 ⟨B11, fr11, xs, hD11, hxl, hxr⟩
        have hf11 : H11 fo = some (.lst (as.map V.ref)) := (fr11 fo hfo nDf.symm).trans hf10
        refine ⟨fo, _, _, rfl, rfl, hf11, ?_, ?_⟩
        · rw [List.length_map, hal]
          exact Nat.lt_of_le_of_lt (show i ≤ 100 by omega) (by decide)
        · refine ⟨⟨_, _, _, rfl⟩, fun b o hb eb => ?_, B11.upd hfo.symm, as ++ [D], Ws ++ [xs], ?_, ?_, ?_, ⟨fun l hl => ?_, fun l hl => ?_⟩, fun j a ea => ?_⟩
          · have e7 := S7 b o hb eb
            have e10 := S10 b o hb e7
            rw [upd_ne (ne_of_none eb nfH), fr11 b hb (ne_of_none e10 nD)]
            exact e10
          · rw [upd_same, List.map_append]
            rfl
          · rw [List.length_append, hal]; rfl
          · rw [List.length_append, hwl]; rfl
          · rcases List.mem_append.mp hl with hl | hl
            · exact hw6.len l hl
            · have : l = xs := by simpa using hl
              rw [this, hxl]
              omega
          · rcases List.mem_append.mp hl with hl | hl
            · exact hw6.rg l hl
            · have : l = xs := by simpa using hl
              rw [this]
              exact hxr
          · by_cases c : j < as.length
            · rw [List.getElem?_append_left c] at ea
              obtain ⟨n1', n2', e⟩ := hat7 j a ea
              have e10 := S10 _ _ n2' e
              refine ⟨n1', n2', ?_⟩
              rw [upd_ne n1', fr11 a n2' (ne_of_none e10 nD), e10, List.getD_eq_getElem?_getD, List.getD_eq_getElem?_getD, List.getElem?_append_left (by omega)]
            · have hjl : j = as.length := by
                have : j < (as ++ [D]).length := by
                  obtain ⟨h, _⟩ := List.getElem?_eq_some_iff.mp ea
                  exact h
                rw [List.length_append] at this
                simp only [List.length_cons, List.length_nil] at this
                omega
              subst hjl
              rw [List.getElem?_append_right (Nat.le_refl _), Nat.sub_self] at ea
              have : D = a := Option.some.inj ea
              subst this
              refine ⟨nDf, nDp, ?_⟩
              rw [upd_ne nDf, hD11, List.getD_eq_getElem?_getD, List.getElem?_append_right (by omega), show as.length - Ws.length = 0 by omega]
              rfl
    · rintro σ H7 ⟨⟨y5, y6, y7, rfl⟩, S7, B7, as, Ws, hf7, hal, hwl, hw6, hat7⟩
      refine ⟨_, rfl, q Ws H7 fo ⟨as, hf7, hfo, hal.trans hwl.symm, fun j a e => (hat7 j a e).2⟩ (by rw [hwl]; omega) hw6 B7 S7⟩
end
end My

set_option Elab.async false
set_option linter.all false
set_option maxRecDepth 100000
set_option maxHeartbeats 4000000
namespace My
open PySem PySem.Spec PyProof.Rows L2
open PySem.Builtin
/-- a set as it is made -/
def set0 (w : World) : Obj := { cls := .type "set", dict := none, data := .set #[] 0 (.fresh 0 0 (!w.params.followText "set-order")) }
section
variable {P : Program} {w : World} {A : Around} {E : Value → Shared → Prop} {s : Shared}
/-- set(l), l a list of ints -/
theorem call_set_ints {l : Addr} {items : Array Value} (ns : List Int) {Q : Value → Shared → Prop} (hh : A.handled = none) (hl : s.heap.IsList l items) (hit : IntsAre items.toList ns) (hb : ns.length + 1 < scanBound)
    (h : ∀ (h' : Heap) (tk c : Nat), SetR w h' s.heap.objs.size (fun j => decide (j ∈ ns)) c → c ≤ ns.length → (∀ b o, s.heap.get? b = some o → h'.get? b = some o) → Q (.ref s.heap.objs.size) { s with heap := h', toks := tk }) :
    wpAny (model P w) A (call (.type "set") [.ref l]) Q E s := by
  have ft := PySem.F.called_set
  obtain ⟨c0, tl, e0⟩ := ft.mro
  have e1 := ft.made
  have e2 := ft.sub
  have e3 := ft.notType
  have e4 := ft.canCreate
  have e5 := PySem.F.typeCall_set_1 (.ref l)
  have hS : (s.heap.push (set0 w)).get? s.heap.objs.size = some (set0 w) := Heap.get?_push_size _ rfl
  have hT : Shared.TypeIs { s with heap := s.heap.push (set0 w) } (.ref s.heap.objs.size) "set" := ⟨_, hS, rfl⟩
  have e6 := ft.init.lookup
  have e7 := ft.init.bind (.ref s.heap.objs.size)
  refine wpAny_call (codeAny_of_tree (wpAny_pure ⟨Code.quiet_builtin _ (by decide +kernel), codeAny_builtin PySem.F.entry_type_call ?_⟩))
  rw [Around.under_plain (weight_type_call_type "set" [.ref l] []) rfl]
  repeat (any_goals (first | assumption | wp_step))
  refine codeAny_mono (code_set_led1 (.ref l) (E := E) (Q₁ := fun obj s₁ => obj = .ref s.heap.objs.size ∧ s₁ = { s with heap := s.heap.push (set0 w) }) ⟨rfl, rfl⟩) fun r s₁ hr => ?_
  match r, hr with
  | .error _, hr => exact hr
  | .ok .next, hr => exact hr.elim
  | .ok .brk, hr => exact hr.elim
  | .ok .cont, hr => exact hr.elim
  | .ok (.ret obj), hr =>
  obtain ⟨rfl, rfl⟩ := hr
  repeat (any_goals (first | assumption | wp_step))
  refine codeAny_mono (codeAny_call_builtin (R := wants (fun r s₂ => r = .none ∧ Q (.ref s.heap.objs.size) s₂) E) ft.init.plain PySem.F.entry_set_init (check_set_init_1 hT ?_)) fun r s₂ hr => ?back
  case back =>
    match r, hr with
    | .error _, hr => exact hr
    | .ok .next, hr => exact hr.elim
    | .ok .brk, hr => exact hr.elim
    | .ok .cont, hr => exact hr.elim
    | .ok (.ret v), hr =>
    obtain ⟨rfl, hq⟩ := hr
    repeat (any_goals (first | assumption | wp_step))
  obtain ⟨ol, hol, hcl, nl, hdl⟩ := id hl
  obtain ⟨ocls, odict, odata, oslots⟩ := ol
  simp only at hcl hdl
  subst hcl
  subst hdl
  have hol' := Heap.get?_push_of_some (set0 w) hol
  have f1 := PySem.F.sub_list_set
  have f2 := PySem.F.sub_list_frozenset
  have f3 : (Value.type "list" == Value.type "dict") = false := by decide
  unfold Builtin.«set.__init__» noKeywords Builtin.Frozenset.updateFrom
  generalize hPI : pyIter = PI
  wp_walk
  subst hPI
  have hl1 : (s.heap.push (set0 w)).IsList l items := ⟨_, hol', rfl, nl, rfl⟩
  have hlS : l < s.heap.objs.size := Heap.lt_size hol
  have hsz : (s.heap.push (set0 w)).objs.size = s.heap.objs.size + 1 := Heap.size_push ..
  have hlen : items.size = ns.length := by
    have q := IntsAre.length hit
    rw [Array.length_toList] at q
    exact q
  refine wpAny_pyIter_list hl1 ?_
  refine wpAny_bind (wpAny_runValue ?_)
  refine set_update_ints ((Walks.list (by simp [hh]) _ l (by rw [hsz]; exact Nat.ne_of_lt (Nat.lt_succ_of_lt hlS)) items).toS) s.heap.objs.size (by rw [hsz]; simp only [List.mem_cons, List.not_mem_nil, or_false, not_or]; exact ⟨Nat.ne_of_lt (Nat.lt_succ_self _), Nat.ne_of_gt hlS⟩) ns hlen hb (fun i v hv => ?_) (items.size - 0) 0 _ (by omega) (Nat.zero_le _) ⟨⟨_, Heap.get?_push_size _ rfl, rfl, rfl⟩, hl1.push _⟩ ⟨0, Nat.le_refl 0, setR_new_at (Heap.get?_push_of_some _ hS)⟩ fun s' c' hm hc' hS' => ?_
  · have hi : i < ns.length := by rw [← hlen]; exact (Array.getElem?_eq_some_iff.mp hv).1
    obtain ⟨t, e⟩ := IntsAre.int_at hit i v (by rw [Array.getElem?_toList]; exact hv)
    refine ⟨ns[i], t, List.getElem?_eq_getElem hi, ?_⟩
    rw [e, List.getD_eq_getElem?_getD, List.getElem?_eq_getElem hi]
    rfl
  · obtain ⟨h', g2, d', tk', os'⟩ := s'
    obtain rfl : g2 = s.gens := hm.gens
    obtain rfl : d' = s.drawn := hm.drawn
    obtain rfl : os' = s.os := hm.os
    refine wpAny_pure (wpAny_pure ?_)
    refine ⟨rfl, h h' tk' c' hS' (by rw [← hlen]; exact hc') fun b o eb => ?_⟩
    have hb0 : b < s.heap.objs.size := Heap.lt_size eb
    refine hm.heap b o ?_ (Heap.get?_push_of_some _ (Heap.get?_push_of_some _ eb))
    rw [hsz]
    simp only [List.mem_cons, List.not_mem_nil, or_false, not_or]
    exact ⟨Nat.ne_of_lt hb0, Nat.ne_of_lt (Nat.lt_succ_of_lt hb0)⟩
end
section
variable {X : Cx}
theorem cr_setI (hc : X.calm = true) : CallR X (.type "set") (fun xs H Q => ∃ (l : Addr) (ns : List Int), xs = [V.ref l] ∧ SqL X.K H l (ns.map V.int) ∧ ns.length ≤ 60 ∧ ∀ p c, H p = none → c ≤ ns.length → Q (.ref p) (upd H p (SetO X.w p (fun j => decide (j ∈ ns)) c))) := by
  intro pins s σ H xs us Q I r h
  obtain ⟨l, ns, rfl, hq, hn, q⟩ := h
  obtain ⟨u, rfl, ru⟩ := vals1 r
  obtain rfl : u = Value.ref l := ru
  obtain ⟨its, rv, pl, hz⟩ := I.list hq
  refine call_set_ints ns (I.ok.hd hc) pl.isList (by simpa using rv.ints) (by unfold scanBound; omega) fun h' tk c hS hc' k => ?_
  exact ⟨.ref _, _, I.laid (t' := tk) k (Nat.le_refl _) (setO_new hS), rfl, q _ c (I.hok.fresh (Nat.le_refl _)) hc'⟩
def isN : Value → Bool
  | .none => true
  | _ => false
theorem rel_oV {o : Option Int} {y : Value} (r : RelV (oV o) y) : isN y = o.isNone := by
  cases o with
  | none =>
    obtain rfl : y = Value.none := r
    rfl
  | some h =>
    obtain ⟨t, rfl⟩ := r
    rfl
theorem count_oV : ∀ {os : List (Option Int)} {its : List Value}, Vals (os.map oV) its → its.countP isN = os.countP (·.isNone)
  | [], _, .nil => rfl
  | o :: os, _, .cons h t => by
    rw [List.countP_cons, List.countP_cons, count_oV t, rel_oV h]
theorem mem_oV : ∀ {os : List (Option Int)} {its : List Value} {y : Value}, Vals (os.map oV) its → y ∈ its → ∃ o : Option Int, RelV (oV o) y
  | [], _, _, .nil, m => by cases m
  | o :: os, _, y, .cons h t, m => by
    rcases List.mem_cons.mp m with e | e
    · exact ⟨o, e ▸ h⟩
    · exact mem_oV t e
/-- xs.count(None) -/
theorem mt_countN : MtR X "list.count" (fun x xs H Q => ∃ (p : Addr) (os : List (Option Int)), x = .ref p ∧ xs = [.non] ∧ SqL X.K H p (os.map oV) ∧ Q (.int (os.countP (·.isNone) : Nat)) H) := by
  intro pins s σ H x xs v us Q I rx rxs h
  obtain ⟨p, os, rfl, rfl, hs, q⟩ := h
  obtain rfl : v = Value.ref p := rx
  obtain ⟨u, rfl, ru⟩ := rxs.one
  obtain rfl : u = Value.none := ru
  obtain ⟨its, rv, ⟨⟨cls, dd, data, sl⟩, n, ho, hc, hdn, hd⟩, hlen⟩ := I.list hs
  simp only at hc hd
  subst hc hd
  refine call_meets PySem.F.slot_list_count ⟨_, ho, rfl⟩ PySem.F.entry_list_count (PySem.F.args_list_count_2 _ _) (SeqAt.list_countAt p its.toArray n dd sl .none isN) ⟨ho, fun y hy => ?_, ?_⟩
  · obtain ⟨o, ro⟩ := mem_oV rv (by simpa using hy)
    have e : eqV (oV o) .non = isN y := by
      rw [rel_oV ro]
      cases o <;> rfl
    rw [← e]
    exact eqAt_V ro rfl (by cases o <;> rfl) rfl
  · refine ⟨.int (os.countP (·.isNone) : Nat), H, I.tok _, ⟨s.toks, ?_⟩, q⟩
    show Value.int ((its.toArray.toList.countP isN : Nat) : Int) s.toks = _
    rw [show its.toArray.toList = its from rfl, count_oV rv]
end
end My

set_option Elab.async false
set_option linter.all false
set_option maxRecDepth 100000
set_option maxHeartbeats 4000000
namespace My
open PySem PySem.Spec PyProof.Rows L2
/-! ### data -/
theorem dp_ints {K : PySem.W.Frag} {H : Hp} : ∀ l : List Int, DpAll K H (l.map V.int) (l.map PyData.int)
  | [] => .nil
  | i :: l => .cons (.int i) (dp_ints l)
theorem dp_lists {K : PySem.W.Frag} {H : Hp} : ∀ (as : List Addr) (Ws : List (List Int)), as.length = Ws.length → (∀ (i : Nat) (a : Addr), as[i]? = some a → H a = some (.lst ((Ws.getD i []).map V.int))) → DpAll K H (as.map V.ref) (Ws.map fun l => PyData.list (l.map PyData.int))
  | [], [], _, _ => .nil
  | [], _ :: _, e, _ => by cases e
  | _ :: _, [], e, _ => by cases e
  | a :: as, l :: Ws, e, h => .cons (.lst (SqL.of (h 0 a rfl)) (dp_ints l)) (dp_lists as Ws (Nat.succ.inj e) fun i b q => h (i + 1) b q)
theorem lay_ints : ∀ l : List Int, PyData.canLayAll0 (l.map PyData.int) = true
  | [] => rfl
  | _ :: l => by
    show (true && PyData.canLayAll0 (l.map PyData.int)) = true
    rw [lay_ints l]
    rfl
theorem lay_lists : ∀ Ws : List (List Int), PyData.canLayAll0 (Ws.map fun l => PyData.list (l.map PyData.int)) = true
  | [] => rfl
  | l :: Ws => by
    show (PyData.canLayAll0 (l.map PyData.int) && PyData.canLayAll0 (Ws.map fun l => PyData.list (l.map PyData.int))) = true
    rw [lay_ints l, lay_lists Ws]
    rfl
theorem depth_ints : ∀ l : List Int, PyData.depthAll (l.map PyData.int) = 0
  | [] => rfl
  | _ :: l => by
    show max 0 (PyData.depthAll (l.map PyData.int)) = 0
    rw [depth_ints l]
    rfl
theorem depth_lists : ∀ Ws : List (List Int), PyData.depthAll (Ws.map fun l => PyData.list (l.map PyData.int)) ≤ 1
  | [] => Nat.zero_le _
  | l :: Ws => by
    show max (PyData.depthAll (l.map PyData.int) + 1) (PyData.depthAll (Ws.map fun l => PyData.list (l.map PyData.int))) ≤ 1
    rw [depth_ints l]
    exact Nat.max_le.mpr ⟨Nat.le_refl _, depth_lists Ws⟩
theorem shaped_lists (Ws : List (List Int)) : SeqAt.shaped (.list (Ws.map fun l => PyData.list (l.map PyData.int))) = true := by
  show (PyData.canLayAll0 (Ws.map fun l => PyData.list (l.map PyData.int)) && decide (PyData.depthAll (Ws.map fun l => PyData.list (l.map PyData.int)) + 1 ≤ 64)) = true
  have := depth_lists Ws
  rw [lay_lists, decide_eq_true (show _ + 1 ≤ 64 by omega)]
  rfl
theorem dp_ws {K : PySem.W.Frag} {H : Hp} {wa : Addr} {Ws : List (List Int)} (h : WsAt H wa Ws) : Dp K H (.ref wa) (.list (Ws.map fun l => PyData.list (l.map PyData.int))) := by
  obtain ⟨as, e, hl, all⟩ := h
  exact .lst (SqL.of e) (dp_lists as Ws hl all)
theorem inV_not {h : Int} {l : List Int} (m : inV (.int h) (l.map V.int) = false) : h ∉ l := fun c => by
  have : inV (.int h) (l.map V.int) = true := by
    unfold inV
    rw [List.any_eq_true]
    exact ⟨.int h, List.mem_map.mpr ⟨h, c, rfl⟩, beq_self_eq_true h⟩
  rw [m] at this
  cases this
theorem inV_yes {h : Int} {l : List Int} (m : inV (.int h) (l.map V.int) = true) : h ∈ l := by
  unfold inV at m
  rw [List.any_eq_true] at m
  obtain ⟨x, hx, e⟩ := m
  obtain ⟨i, hi, rfl⟩ := List.mem_map.mp hx
  have : h = i := by
    have e' : (i == h) = true := e
    have : i = h := by simpa using e'
    exact this.symm
  exact this ▸ hi
theorem flat_int (l : List Int) : (l.map V.int).all flatV = true := by
  rw [List.all_eq_true]
  intro x hx
  obtain ⟨i, _, rfl⟩ := List.mem_map.mp hx
  rfl
theorem cut_one (xs : List V) : cutV xs (some 1) none = xs.drop 1 := by
  unfold cutV
  cases xs with
  | nil => rfl
  | cons x xs =>
    have e : HT.sIx (x :: xs).length 0 (some 1) = 1 := by
      unfold HT.sIx
      simp
    rw [e]
    show ((x :: xs).drop 1).take ((x :: xs).length - 1) = _
    rw [List.take_of_length_le (by simp)]
theorem WsAt.tail {H : Hp} {p : Addr} {l : List Int} {Ws : List (List Int)} {as : List Addr} (hal : as.length = (l :: Ws).length) (hat : ∀ (i : Nat) (a : Addr), as[i]? = some a → H a = some (.lst (((l :: Ws).getD i []).map V.int))) (hp : H p = some (.lst ((as.map V.ref).drop 1))) : WsAt H p Ws := by
  match as, hal with
  | a :: as, hal => exact ⟨as, hp, Nat.succ.inj hal, fun i b e => hat (i + 1) b e⟩
theorem most_le {Ws : List (List Int)} {tk : List Int} {N : Nat} (m : IsMost Ws tk N) : N ≤ Ws.length := by
  obtain ⟨L, e, _, s⟩ := m.ex
  rw [← s, ← e, List.length_map]
  exact List.countP_le_length
end My

set_option Elab.async false
set_option linter.all false
set_option maxRecDepth 100000
set_option maxHeartbeats 4000000
namespace My
open PySem PySem.Spec PyProof.Rows L2
section
variable {P : Program} {w : World} {K : PySem.W.Frag} {mg : Str → Option Value} {base : Heap}
abbrev s_law_most : Stmt := topS 8
abbrev N_law_most : List Str := ["_law_wishes_here", "_law_taken", "_law_best", "_law_holder"]
theorem sc_law_most : FnScope N_law_most ["_law_wishes_here", "_law_taken"] (defScope s_law_most) := ⟨rfl, rfl, rfl, by decide +kernel, rfl, by decide +kernel, by decide +kernel⟩
def sp_most (n : Nat) : Sp := fun vs H Q _ => ∃ (wa ta : Addr) (Ws : List (List Int)) (tk : List Int), vs = [.ref wa, .ref ta] ∧ WsAt H wa Ws ∧ Ws.length ≤ n ∧ Wr6 Ws ∧ H ta = some (.lst (tk.map V.int)) ∧ tk.length + Ws.length ≤ 60 ∧
  ∀ N H', IsMost Ws tk N → Same H H' → Q (.int (N : Nat)) H'
def sp_mostR : Nat → Sp
  | 0 => fun _ _ _ _ => False
  | n + 1 => sp_most n
theorem ok_most_step {f : Addr} {fd : FuncData} {n : Nat} (F : Fun K "_law_most" "_law_most" s_law_most f fd) (T : Txt mg) (C_law_most : Cal P w K mg base n "_law_most" (sp_mostR n)) : FnOk P w K mg base CX0 (n + 1) f fd ["_law_wishes_here", "_law_taken"] (sp_most n) := by
  refine F.ok sc_law_most (fun vs H Q E h => ?_) (fun cdv A outer s H vs Q E hr h => ?_)
  · obtain ⟨wa, ta, Ws, tk, rfl, _⟩ := h
    rfl
  · obtain ⟨wa, ta, Ws, tk, rfl, hW, hn, W6, ht, h60, q⟩ := h
    refine ⟨_, (pss_cons (ps_if (pt_cmpR (op_eqD hr.units) (pv 0) (pe_lst pa_nil) (nomark _)) (pss_one (ps_ret pe_int)) pss_nil)
      (pss_cons (ps_set (i := 2) sc_law_most.nd rfl (.inl rfl) (pe_cal C_law_most hr (Nat.le_refl _) (by rfl) (pa_cons (pe_slice sl_list (pv 0) (po_some pe_int) po_none) (pa_cons (pv 1) pa_nil))))
      (pss_cons (ps_for PassesOwn.never rfl (pi_list (pe_callB (cr_sortedSet (by rfl)) (by rfl) T.z_sorted (by decide +kernel) (pa_cons (pe_callTy (cr_setI (by rfl)) (by rfl) T.z_set (by decide +kernel) (pa_cons (pe_ix ix_list (pv 0) pe_int (fun _ _ => rfl)) pa_nil)) pa_nil))) (pg_name (i := 3) sc_law_most.nd rfl (.inl rfl))
        (pss_one (ps_if (pt_cmpR op_notIn_seq (pv 3) (pv 1) rfl) (pss_one (ps_set (i := 2) sc_law_most.nd rfl (.inl rfl) (pe_callB (call_max2 rfl) (by rfl) T.z_max (by decide +kernel) (pa_cons (pv 2) (pa_cons (pe_op op_add pe_int (pe_cal C_law_most hr (Nat.le_refl _) (by rfl) (pa_cons (pe_slice sl_list (pv 0) (po_some pe_int) po_none) (pa_cons (pe_op op_cat (pv 1) (pe_lst (pa_cons (pv 3) pa_nil))) pa_nil)))) pa_nil))))) pss_nil)))
      (pss_one (ps_ret (pv 2)))))), ?_⟩
    refine ⟨_, rfl, Nat.zero_le _, fun e0 ne0 => ?_⟩
    have S0 := same_upd (o := .lst []) ne0
    have hW0 := hW.keep (Lk.same S0)
    have ht0 := S0 _ _ ht
    refine ⟨_, _, dp_ws hW0, .lst (SqL.of upd_same) .nil, shaped_lists Ws, rfl, _, rfl, ite2 (fun e => ?_) (fun e => ?_)⟩
    · have : Ws = [] := by
        cases Ws with
        | nil => rfl
        | cons l Ws => cases e
      subst this
      exact q 0 _ (most_nil tk) S0
    generalize upd H e0 (.lst []) = H0 at S0 hW0 ht0
    obtain ⟨l, Wt, rfl⟩ : ∃ l Wt, Ws = l :: Wt := by
      cases Ws with
      | nil => exact absurd rfl e
      | cons l Ws => exact ⟨l, Ws, rfl⟩
    clear e
    obtain ⟨m, rfl⟩ : ∃ m, n = m + 1 := ⟨n - 1, by rw [List.length_cons] at hn; omega⟩
    have W6' : Wr6 Wt := ⟨fun x hx => W6.len x (List.mem_cons_of_mem _ hx), fun x hx => W6.rg x (List.mem_cons_of_mem _ hx)⟩
    have hl6 := W6.len l (List.mem_cons_self ..)
    have hn' : Wt.length ≤ m := Nat.le_of_succ_le_succ hn
    rw [List.length_cons] at h60
    obtain ⟨as, hwa, hal, hat⟩ := hW0
    have hT : ∀ {H' : Hp} {p : Addr}, Same H0 H' → H' p = none → WsAt (upd H' p (.lst (cutV (as.map V.ref) (some 1) none))) p Wt := fun sm np => by
      refine WsAt.tail hal (fun i a e => same_upd np _ _ (sm _ _ (hat i a e))) ?_
      rw [upd_same, cut_one]
    refine ⟨_, rfl, 1, rfl, wa, _, rfl, SqL.of hwa, fun p1 np1 => ?_⟩
    have S1 := same_upd (o := .lst (cutV (as.map V.ref) (some 1) none)) np1
    refine ⟨_, rfl, p1, ta, Wt, tk, rfl, hT (Same.refl _) np1, hn', W6', S1 _ _ ht0, by omega, fun N1 H1 m1 sm1 => ?_⟩
    have S1' : Same H0 H1 := S1.trans sm1
    clear S1 sm1 np1 p1
    have hl0 : ∃ a0, as[0]? = some a0 := by
      cases as with
      | nil => cases hal
      | cons a as => exact ⟨a, rfl⟩
    obtain ⟨a0, ha0⟩ := hl0
    have hl := hat 0 a0 ha0
    refine ⟨_, rfl, wa, _, 0, .ref a0, rfl, rfl, SqL.of (S1' _ _ hwa), atI_nat (j := 0) (by rw [List.getElem?_map, ha0]; rfl), a0, l, rfl, SqL.of (S1' _ _ hl), by omega, fun p2 c np2 hc => ?_⟩
    refine ⟨p2, _, c, rfl, upd_same, by omega, fun ns p3 up mem hnl np3 => ?_⟩
    generalize hH3 : upd (upd H1 p2 _) p3 (.lst (ns.map V.int)) = H3
    have S3 : Same H0 H3 := by
      rw [← hH3]
      exact (S1'.trans (same_upd np2)).trans (same_upd np3)
    have hns : H3 p3 = some (.lst (ns.map V.int)) := by
      rw [← hH3]
      exact upd_same
    clear hH3
    have mem' : ∀ k : Int, k ∈ ns ↔ k ∈ l := fun k => (mem k).trans ⟨fun h => of_decide_eq_true h, fun h => decide_eq_true h⟩
    refine ⟨p3, rfl, ⟨_, SqL.of hns⟩, ?_⟩
    refine for_list (K := K) (a := p3) (xs := ns.map V.int) (fun i σ H' => Same H3 H' ∧ ∃ (y : Option V) (N : Nat), σ = [some (.ref wa), some (.ref ta), some (.int (N : Nat)), y] ∧ Best l Wt tk (ns.take i) N ∧ N ≤ 60)
      ⟨Same.refl _, _, N1, rfl, ?_, ?_⟩ (fun i σ H' _ p => SqL.of (p.1 _ _ hns)) ?_ ?_
    · rw [List.take_zero]
      exact best_start m1
    · have := most_le m1
      omega
    · rintro i x σ H4 hx ⟨sm4, y, N, rfl, bs, hN⟩
      obtain ⟨h, hh, rfl⟩ : ∃ h : Int, ns[i]? = some h ∧ x = .int h := by
        rw [List.getElem?_map] at hx
        cases e : ns[i]? with
        | none => rw [e] at hx; cases hx
        | some v => rw [e] at hx; exact ⟨v, rfl, (Option.some.inj hx).symm⟩
      have S4 : Same H0 H4 := S3.trans sm4
      have htk : ns.take (i + 1) = ns.take i ++ [h] := by
        rw [List.take_add_one, hh]
        rfl
      have hhl : h ∈ l := (mem' h).mp (List.mem_of_getElem? hh)
      refine ⟨_, rfl, _, rfl, ta, _, rfl, .inl (SqL.of (S4 _ _ ht0)), rfl, flat_int _, !inV (.int h) (tk.map V.int), rfl, ?_⟩
      cases hin : inV (.int h) (tk.map V.int) with
      | true =>
        refine iteF ?_
        exact ⟨sm4, _, N, rfl, htk ▸ best_skip bs (inV_yes hin), hN⟩
      | false =>
        refine iteT ?_
        have nh := inV_not hin
        refine ⟨_, rfl, _, rfl, 1, rfl, wa, _, rfl, SqL.of (S4 _ _ hwa), fun p5 np5 => ?_⟩
        have S5 := same_upd (o := .lst (cutV (as.map V.ref) (some 1) none)) np5
        have hT5 := hT S4 np5
        generalize upd H4 p5 (.lst (cutV (as.map V.ref) (some 1) none)) = H5 at S5 hT5
        refine ⟨_, rfl, _, rfl, by show 1 ≤ sizeLine; decide, fun p6 np6 => ?_⟩
        have S6 := same_upd (o := .lst [V.int h]) np6
        have e6 : (upd H5 p6 (.lst [V.int h])) p6 = some (.lst [V.int h]) := upd_same
        generalize upd H5 p6 (.lst [V.int h]) = H6 at S6 e6
        refine ⟨ta, p6, _, _, rfl, rfl, S6 _ _ (S5 _ _ (S4 _ _ ht0)), e6, ?_, fun p7 np7 => ?_⟩
        · rw [List.length_map]
          exact Nat.le_trans (show _ ≤ 100 by simp only [List.length_cons, List.length_nil]; omega) (by decide)
        have S7 := same_upd (o := .lst (tk.map V.int ++ [V.int h])) np7
        refine ⟨p5, p7, Wt, tk ++ [h], rfl, (hT5.keep (Lk.same S6)).keep (Lk.same S7), hn', W6', ?_, ?_, fun N' H8 m' sm8 => ?_⟩
        · rw [upd_same, List.map_append]
          rfl
        · rw [List.length_append]
          simp only [List.length_cons, List.length_nil]
          omega
        refine ⟨_, _, rfl, rfl, _, _, rfl, ?_⟩
        have hN' := most_le m'
        refine ⟨(((sm4.trans S5).trans S6).trans S7).trans sm8, some (.int h), max N (1 + N'), ?_, htk ▸ best_take bs hhl nh m', by omega⟩
        have : (if (1 : Int) + (N' : Nat) > (N : Nat) then (1 : Int) + (N' : Nat) else (N : Nat)) = ((max N (1 + N') : Nat) : Int) := by
          split <;> omega
        rw [← this]
        rfl
    · rintro σ H4 ⟨sm4, y, N, rfl, bs, hN⟩
      refine ⟨_, rfl, q N H4 (best_end bs fun h hh => ?_) ((S0.trans S3).trans sm4)⟩
      rw [List.length_map, List.take_length]
      exact (mem' h).mpr hh
theorem ok_most {f : Addr} {fd : FuncData} (F : Fun K "_law_most" "_law_most" s_law_most f fd) (T : Txt mg) (g : mg "_law_most" = some (.ref f)) (kp : PySem.W.keepIn K (.ref f) = true) (b : Binds K fd ["_law_wishes_here", "_law_taken"] []) : ∀ n : Nat, Cal P w K mg base n "_law_most" (sp_mostR n)
  | 0 => cal_mk ⟨fun _ _ _ _ h => h.elim, fun _ _ _ _ _ _ _ _ _ _ _ _ _ h => h.elim⟩ g kp b
  | n + 1 => cal_mk (ok_most_step F T (ok_most F T g kp b n)) g kp b
end
end My

set_option Elab.async false
set_option linter.all false
set_option maxRecDepth 100000
set_option maxHeartbeats 4000000
namespace My
open PySem PySem.Spec PyProof.Rows L2
/-! ### what is told has the most -/
theorem nd_filterMap {α β : Type} {f : α → Option β} : ∀ {l : List α}, l.Nodup → (∀ x ∈ l, ∀ y ∈ l, ∀ b, f x = some b → f y = some b → x = y) → (l.filterMap f).Nodup
  | [], _, _ => List.nodup_nil
  | a :: l, nd, inj => by
    have nd' := List.nodup_cons.mp nd
    have ih := nd_filterMap (f := f) nd'.2 fun x hx y hy b => inj x (List.mem_cons_of_mem _ hx) y (List.mem_cons_of_mem _ hy) b
    cases e : f a with
    | none => rw [List.filterMap_cons_none e]; exact ih
    | some b =>
      rw [List.filterMap_cons_some e]
      refine List.nodup_cons.mpr ⟨fun m => ?_, ih⟩
      obtain ⟨x, hx, ex⟩ := List.mem_filterMap.mp m
      have := inj a (List.mem_cons_self ..) x (List.mem_cons_of_mem _ hx) b e ex
      exact nd'.1 (this ▸ hx)
theorem somes_count (M : Mp) (n : Nat) : (((List.range n).map (hol M)).filterMap id).length + (free M n).length = n := by
  rw [List.filterMap_map]
  induction n with
  | zero => rfl
  | succ n ih =>
    rw [List.range_succ, List.filterMap_append, List.length_append, free_succ, List.length_append]
    cases e : hol M n with
    | none =>
      rw [if_pos (hol_none.mp e)]
      have : (List.filterMap (id ∘ hol M) [n]).length = 0 := by
        rw [List.filterMap_cons_none (by show hol M n = none; exact e)]
        rfl
      simp only [List.length_cons, List.length_nil] at *
      omega
    | some h =>
      rw [if_neg (fun c => by rw [hol_none.mpr c] at e; cases e)]
      have : (List.filterMap (id ∘ hol M) [n]).length = 1 := by
        rw [List.filterMap_cons_some (by show hol M n = some h; exact e)]
        rfl
      simp only [List.length_nil] at *
      omega
theorem nd60 : all60.Nodup := nd_map List.nodup_range fun x _ y _ e => by omega
theorem told_most {Ws Ws' : List (List Int)} {N : Nat} {M : Mp} {B : List Int} {T : Int → Prop} (m : IsMost Ws [] N) (al : Alike Ws Ws') (W : Wr Ws') (g : Got Ws' M Ws'.length T) (bi : Bi Ws' M T B []) :
    (((List.range Ws'.length).map (hol M)).length : Int) - (((List.range Ws'.length).map (hol M)).countP (·.isNone) : Nat) = (N : Nat) := by
  have at_ : ∀ i h, hol M i = some h → get M h = some (i : Int) := fun i h e => mem_get g.ok.nd (hol_some e)
  let ps := (List.range Ws'.length).map (hol M)
  have lps : ps.length = Ws'.length := by
    show ((List.range Ws'.length).map (hol M)).length = _
    rw [List.length_map, List.length_range]
  have e1 : (Ws'.zip ps).map Prod.fst = Ws' := List.map_fst_zip (by omega)
  have e2 : (Ws'.zip ps).map Prod.snd = ps := List.map_snd_zip (by omega)
  have one : (ps.filterMap id).Nodup := by
    show (((List.range Ws'.length).map (hol M)).filterMap id).Nodup
    rw [List.filterMap_map]
    refine nd_filterMap List.nodup_range fun x _ y _ b e1 e2 => ?_
    have := (at_ x b e1).symm.trans (at_ y b e2)
    have := Option.some.inj this
    omega
  have pa : Pa (Ws'.zip ps) := by
    refine ⟨fun p hp h e => ?_, ?_⟩
    · obtain ⟨i, hi⟩ := List.mem_iff_getElem?.mp hp
      rw [List.getElem?_zip_eq_some] at hi
      obtain ⟨h1, h2⟩ := hi
      have h2' : ((List.range Ws'.length).map (hol M))[i]? = some p.2 := h2
      have hlt : i < Ws'.length := (List.getElem?_eq_some_iff.mp h1).1
      rw [List.getElem?_map, List.getElem?_range hlt] at h2'
      have h3 : hol M i = p.2 := Option.some.inj h2'
      have := (g.ok.fit h i (at_ i h (h3.trans e))).2.2
      unfold adj at this
      rw [Int.toNat_natCast, List.getD_eq_getElem?_getD, h1] at this
      exact this
    · have : (Ws'.zip ps).filterMap Prod.snd = ps.filterMap id := by
        conv => rhs; rw [← e2, List.filterMap_map]
        rfl
      rw [this]
      exact one
  have s := somes_count M Ws'.length
  have hsz : sz (Ws'.zip ps) = (ps.filterMap id).length := by
    unfold sz
    have : (Ws'.zip ps).countP (fun p => p.2.isSome) = ps.countP (·.isSome) := by
      conv => rhs; rw [← e2, List.countP_map]
      rfl
    rw [this]
    generalize ps = l
    induction l with
    | nil => rfl
    | cons x l ih =>
      cases x with
      | none =>
        rw [List.filterMap_cons_none (by rfl), List.countP_cons, ih]
        rfl
      | some v =>
        rw [List.filterMap_cons_some (by rfl), List.countP_cons, ih, List.length_cons]
        rfl
  have hno : ps.countP (·.isNone) + (ps.filterMap id).length = ps.length := by
    generalize ps = l
    induction l with
    | nil => rfl
    | cons x l ih =>
      cases x with
      | none =>
        rw [List.filterMap_cons_none (by rfl), List.countP_cons, List.length_cons, ← ih]
        simp
        omega
      | some v =>
        rw [List.filterMap_cons_some (by rfl), List.countP_cons, List.length_cons, List.length_cons, ← ih]
        simp
        omega
  let D := all60.filter fun h => B.any fun w => decide (h ∈ adj Ws' w)
  have nD : D.Nodup := List.Nodup.sublist List.filter_sublist nd60
  have mD : ∀ h, h ∈ D ↔ ∃ w ∈ B, h ∈ adj Ws' w := fun h => by
    constructor
    · intro q
      have := (List.mem_filter.mp q).2
      rw [List.any_eq_true] at this
      obtain ⟨w, hw, e⟩ := this
      exact ⟨w, hw, of_decide_eq_true e⟩
    · rintro ⟨w, hw, e⟩
      exact List.mem_filter.mpr ⟨mem60 (W.rg w h e), List.any_eq_true.mpr ⟨w, hw, decide_eq_true e⟩⟩
  have bc := band_count g bi nD mD
  have := most_unique m al e1 pa fun L' e p => by
    have := band_top bi.nd (fun w hw => bi.rg w (.inl hw)) nD (fun w hw h hh => (mD h).mpr ⟨w, hw, hh⟩) e p
    rw [hsz]
    have s' : (ps.filterMap id).length + (free M Ws'.length).length = Ws'.length := s
    omega
  rw [this, hsz]
  have hno' : (((List.range Ws'.length).map (hol M)).countP (·.isNone)) + (ps.filterMap id).length = ps.length := hno
  show ((ps.length : Nat) : Int) - _ = _
  omega
/-! ### wishes with their lists -/
def WsP (H : Hp) (wa : Addr) (Ws : List (List Int)) : Prop := ∃ ps : List (Addr × List Int), H wa = some (.lst (ps.map fun p => V.ref p.1)) ∧ ps.map Prod.snd = Ws ∧ ∀ p ∈ ps, H p.1 = some (.lst (p.2.map V.int))
theorem WsP.wsAt {H : Hp} {wa : Addr} {Ws : List (List Int)} (h : WsP H wa Ws) : WsAt H wa Ws := by
  obtain ⟨ps, e, rfl, a⟩ := h
  refine ⟨ps.map Prod.fst, by rw [e, List.map_map]; rfl, by rw [List.length_map, List.length_map], fun i b q => ?_⟩
  rw [List.getElem?_map] at q
  cases c : ps[i]? with
  | none => rw [c] at q; cases q
  | some p =>
    rw [c] at q
    have : p.1 = b := Option.some.inj q
    rw [← this, List.getD_eq_getElem?_getD, List.getElem?_map, c]
    exact a p (List.mem_of_getElem? c)
theorem WsAt.wsP {H : Hp} {wa : Addr} {Ws : List (List Int)} (h : WsAt H wa Ws) : WsP H wa Ws := by
  obtain ⟨as, e, l, a⟩ := h
  refine ⟨as.zip Ws, ?_, List.map_snd_zip (by omega), fun p hp => ?_⟩
  · rw [e]
    conv => lhs; rw [← List.map_fst_zip (l₁ := as) (l₂ := Ws) (by omega), List.map_map]
    rfl
  · obtain ⟨i, hi⟩ := List.mem_iff_getElem?.mp hp
    rw [List.getElem?_zip_eq_some] at hi
    have := a i p.1 hi.1
    rw [List.getD_eq_getElem?_getD, hi.2] at this
    exact this
theorem WsP.keep {H H' : Hp} {wa : Addr} {Ws : List (List Int)} (h : WsP H wa Ws) (s : Same H H') : WsP H' wa Ws := by
  obtain ⟨ps, e, q, a⟩ := h
  exact ⟨ps, s _ _ e, q, fun p hp => s _ _ (a p hp)⟩
theorem cut_from (xs : List V) (k : Nat) (h : k ≤ xs.length) : cutV xs (some (k : Int)) none = xs.drop k := by
  unfold cutV
  rw [HT.sIx_nat, HT.sIx_none, Nat.min_eq_left h]
  rw [List.take_of_length_le (by rw [List.length_drop]; exact Nat.le_refl _)]
theorem cut_to (xs : List V) (k : Nat) (h : k ≤ xs.length) : cutV xs none (some (k : Int)) = xs.take k := by
  unfold cutV
  rw [HT.sIx_nat, HT.sIx_none, Nat.min_eq_left h, List.drop_zero, Nat.sub_zero]
theorem wr6_mem {Ws Ws' : List (List Int)} (h : Wr6 Ws) (s : ∀ l ∈ Ws', ∃ k ∈ Ws, l.length = k.length ∧ ∀ x ∈ l, x ∈ k) : Wr6 Ws' :=
  ⟨fun l hl => by
    obtain ⟨k, hk, e, _⟩ := s l hl
    rw [e]
    exact h.len k hk, fun l hl x hx => by
    obtain ⟨k, hk, _, e⟩ := s l hl
    exact h.rg k hk x (e x hx)⟩
end My

set_option Elab.async false
set_option linter.all false
set_option maxRecDepth 100000
set_option maxHeartbeats 4000000
namespace My
open PySem PySem.Spec PyProof.Rows L2
section
variable {P : Program} {w : World} {K : PySem.W.Frag} {mg : Str → Option Value} {base : Heap}
abbrev s_law : Stmt := topS 9
abbrev N_law : List Str := ["_law_script", "_law_k", "_law_bag_here", "_law_wishes_here", "_law_most_here", "_law_at", "_law_some", "_law_pairs", "_law_wish"]
theorem sc_law : FnScope N_law ["_law_script"] (defScope s_law) := ⟨rfl, rfl, rfl, by decide +kernel, rfl, by decide +kernel, by decide +kernel⟩
def sp_law (K : PySem.W.Frag) : Sp := fun vs H Q _ => ∃ (a : Addr) (ns : List Int), vs = [.ref a] ∧ SqL K H a (ns.map V.int) ∧ ns.length ≤ 63 ∧ ∀ H', Q (.bl true) H'
structure Way4 (Ws : List (List Int)) (H : Hp) (v : V) : Prop where
  is : ∃ (r : Addr) (Wz : List (List Int)), v = .ref r ∧ WsP H r Wz ∧ Wr6 Wz ∧ Wz.length ≤ 5 ∧ Alike Ws Wz
theorem ok_law {f : Addr} {fd : FuncData} (F : Fun K "law" "law" s_law f fd) (T : Txt mg) (C_law_bag : Cal P w K mg base 1 "_law_bag" (sp_law_bag K)) (C_law_take : Cal P w K mg base 1 "_law_take" sp_law_take) (C_law_wishes : Cal P w K mg base 2 "_law_wishes" sp_law_wishes)
    (C_law_most : Cal P w K mg base 6 "_law_most" (sp_most 5)) (C_paired : Cal P w K mg base 62 "paired" sp_paired) : FnOk P w K mg base CX0 63 f fd ["_law_script"] (sp_law K) := by
  refine F.ok sc_law (fun vs H Q E h => ?_) (fun cdv A outer s H vs Q E hr h => ?_)
  · obtain ⟨a, ns, rfl, _⟩ := h
    rfl
  · obtain ⟨a, ns, rfl, hS, hlen, q⟩ := h
    refine ⟨_, (pss_cons (ps_for PassesOwn.never rfl (pi_range1 (by rfl) T.z_range (pa_cons (pe_callB (call_max2 rfl) (by rfl) T.z_max (by decide +kernel) (pa_cons pe_int (pa_cons (pe_callB (call_min2 rfl) (by rfl) T.z_min (by decide +kernel) (pa_cons pe_int (pa_cons (pe_callB call_len_seq (by rfl) T.z_len (by decide +kernel) (pa_cons (pv 0) pa_nil)) pa_nil))) pa_nil))) pa_nil)) (pg_name (i := 1) sc_law.nd rfl (.inl rfl))
        (pss_cons (ps_set (i := 2) sc_law.nd rfl (.inl rfl) (pe_cal C_law_bag hr (by decide) (by rfl) (pa_cons (pv 0) (pa_cons (pv 1) pa_nil))))
        (pss_cons (ps_set (i := 3) sc_law.nd rfl (.inl rfl) (pe_cal C_law_wishes hr (by decide) (by rfl) (pa_cons (pv 2) (pa_cons pe_int pa_nil))))
        (pss_cons (ps_set (i := 4) sc_law.nd rfl (.inl rfl) (pe_cal C_law_most hr (by decide) (by rfl) (pa_cons (pv 3) (pa_cons (pe_lst pa_nil) pa_nil))))
        (pss_cons (ps_set (i := 5) sc_law.nd rfl (.inl rfl) (pe_cal C_law_take hr (by decide) (by rfl) (pa_cons (pv 2) (pa_cons (pe_op op_add (pe_callB call_len_seq (by rfl) T.z_len (by decide +kernel) (pa_cons (pv 3) pa_nil)) pe_int) pa_nil))))
        (pss_one (ps_for PassesOwn.never rfl (pi_tup (pe_tup (pa_cons (pv 3) (pa_cons (pe_revL (pv 3)) (pa_cons (pe_op op_cat (pe_slice sl_list (pv 3) (po_some (pv 5)) po_none) (pe_slice sl_list (pv 3) po_none (po_some (pv 5)))) (pa_cons (pe_lc (own := [("_law_wish", 8)]) (te := tRevL K (tVar 8)) (by rfl) sc_law.nd (pi_list (pv 3)) (blkOk_by (own := [("_law_wish", 8)]) (N := N_law) (sc := defScope s_law) (by decide +kernel)) (fun _ _ _ _ _ => (pg_name (i := 8) sc_law.nd rfl (.inl rfl))) (fun _ _ _ _ _ => pts_nil) (fun _ _ _ _ _ => (pe_revL (pv 8)))) pa_nil)))))) (pg_name (i := 6) sc_law.nd rfl (.inl rfl))
          (pss_cons (ps_set (i := 7) sc_law.nd rfl (.inl rfl) (pe_ix ix_tup (pe_cal C_paired hr (by decide) (by rfl) (pa_cons (pe_lc (own := [("_law_wish", 8)]) (te := tCB (fun xs H Q => ∃ p ys, xs = [V.ref p] ∧ (SqL K H p ys ∨ SqT K H p ys) ∧ ∀ l, H l = none → Q (V.ref l) (upd H l (.lst ys))) (tCons (tVar 8) tNil)) (by rfl) sc_law.nd (pi_list (pv 6)) (blkOk_by (own := [("_law_wish", 8)]) (N := N_law) (sc := defScope s_law) (by decide +kernel)) (fun _ _ _ _ _ => (pg_name (i := 8) sc_law.nd rfl (.inl rfl))) (fun _ _ _ _ _ => pts_nil) (fun _ _ _ _ _ => (pe_callTy call_list_of (by rfl) T.z_list (by decide +kernel) (pa_cons (pv 8) pa_nil)))) pa_nil)) pe_int (fun _ _ => rfl)))
          (pss_one (ps_if (pt_cmpR op_ne (pe_op op_sub (pe_callB call_len_seq (by rfl) T.z_len (by decide +kernel) (pa_cons (pv 7) pa_nil)) (pe_bm PySem.F.plainAttrs_list PySem.F.slot_list_count PySem.F.type_list_count mt_countN (pv 7) (pa_cons pe_non pa_nil))) (pv 4) (nomark _)) (pss_one (ps_ret pe_bl)) pss_nil))))))))))
      (pss_one (ps_ret pe_bl))), ?_⟩
    have nN : ∃ N : Int, (if (if ((ns.map V.int).length : Int) < 8 then ((ns.map V.int).length : Int) else 8) > 4 then (if ((ns.map V.int).length : Int) < 8 then ((ns.map V.int).length : Int) else 8) else 4) = N ∧ 0 ≤ N ∧ N ≤ 60 := ⟨_, rfl, by split <;> (try split) <;> omega, by split <;> (try split) <;> omega⟩
    obtain ⟨N, eN, hN0, hN1⟩ := nN
    refine ⟨_, rfl, a, _, rfl, .inl hS, _, _, rfl, _, _, rfl, N, ?_, by omega, by omega, ?_⟩
    · rw [← eN]
    refine for_range (lo := 0) (n := N.toNat) (fun i σ H' => (∃ x1 x2 x3 x4 x5 x6 x7 x8, σ = [some (.ref a), x1, x2, x3, x4, x5, x6, x7, x8]) ∧ Same H H') ⟨⟨_, _, _, _, _, _, _, _, rfl⟩, Same.refl _⟩ ?_ ?_
    · rintro i σ H1 hi ⟨⟨x1, x2, x3, x4, x5, x6, x7, x8, rfl⟩, sm1⟩
      refine ⟨_, rfl, _, rfl, a, ns, _, rfl, sm1.seq hS, by omega, by omega, fun H2 p sm2 np B2 => ?_⟩
      refine ⟨_, rfl, p, 5, rfl, B2, by decide, by decide, fun Ws H3 wa hW hWl hW6 B3 S3 => ?_⟩
      have W5 : Ws.length ≤ 5 := by omega
      refine ⟨_, rfl, Nat.zero_le _, fun e0 ne0 => ?_⟩
      have S4 := same_upd (o := .lst []) ne0
      refine ⟨wa, e0, Ws, [], rfl, (hW.wsAt).keep (Lk.same S4), W5, hW6, upd_same, by rw [List.length_nil]; omega, fun mN H5 mo sm5 => ?_⟩
      have S45 := S4.trans sm5
      have B5 := B3.same S45
      have hW5 := hW.keep (Sx.same S45)
      obtain ⟨as, hwa5, _, hal5, _⟩ := id hW5
      refine ⟨_, rfl, _, rfl, wa, _, rfl, .inl (SqL.of hwa5), _, _, rfl, rfl, p, _, rfl, B5, by rw [List.length_map]; omega, by rw [List.length_map]; omega, fun d H6 d0 d1 B6 s6 => ?_⟩
      rw [List.length_map, hal5] at d1
      have hW6' := (hW5.keep (Sx.of s6)).wsAt.wsP
      have sm6 : Same H H6 := (Sx.toSame ((sm1.trans sm2)) ((S3.trans (Sx.same S45)).trans (Sx.of s6)) (sm1.free np))
      obtain ⟨ps, hwa, hps, hall⟩ := hW6'
      have hpl : ps.length = Ws.length := by rw [← hps, List.length_map]
      obtain ⟨k, rfl⟩ : ∃ k : Nat, d = (k : Int) := ⟨d.toNat, by omega⟩
      have hk : k ≤ ps.length := by omega
      have hkx : k ≤ (ps.map fun p => V.ref p.1).length := by rw [List.length_map]; exact hk
      refine ⟨_, rfl, _, rfl, wa, _, rfl, SqL.of hwa, fun r1 nr1 => ?_⟩
      have A1 := same_upd (o := .lst (ps.map fun p => V.ref p.1).reverse) nr1
      have er1 : (upd H6 r1 (.lst (ps.map fun p => V.ref p.1).reverse)) r1 = some (.lst (ps.map fun p => V.ref p.1).reverse) := upd_same
      generalize upd H6 r1 (.lst (ps.map fun p => V.ref p.1).reverse) = G1 at A1 er1
      refine ⟨_, rfl, _, rfl, k, rfl, wa, _, rfl, SqL.of (A1 _ _ hwa), fun s1 ns1 => ?_⟩
      rw [cut_from _ _ hkx]
      have A2 := same_upd (o := .lst ((ps.map fun p => V.ref p.1).drop k)) ns1
      have es1 : (upd G1 s1 (.lst ((ps.map fun p => V.ref p.1).drop k))) s1 = some (.lst ((ps.map fun p => V.ref p.1).drop k)) := upd_same
      generalize upd G1 s1 (.lst ((ps.map fun p => V.ref p.1).drop k)) = G2 at A2 es1
      have A12 := A1.trans A2
      refine ⟨_, rfl, _, rfl, k, rfl, wa, _, rfl, SqL.of (A12 _ _ hwa), fun s2 ns2 => ?_⟩
      rw [cut_to _ _ hkx]
      have A3 := same_upd (o := .lst ((ps.map fun p => V.ref p.1).take k)) ns2
      have es2 : (upd G2 s2 (.lst ((ps.map fun p => V.ref p.1).take k))) s2 = some (.lst ((ps.map fun p => V.ref p.1).take k)) := upd_same
      generalize upd G2 s2 (.lst ((ps.map fun p => V.ref p.1).take k)) = G3 at A3 es2
      have A13 := A12.trans A3
      refine ⟨s1, s2, _, _, rfl, rfl, A3 _ _ es1, es2, ?_, fun r2 nr2 => ?_⟩
      · rw [List.length_drop, List.length_take, List.length_map]
        exact Nat.le_trans (show _ ≤ 100 by omega) (by decide)
      have A4 := same_upd (o := .lst ((ps.map fun p => V.ref p.1).drop k ++ (ps.map fun p => V.ref p.1).take k)) nr2
      have er2 : (upd G3 r2 (.lst ((ps.map fun p => V.ref p.1).drop k ++ (ps.map fun p => V.ref p.1).take k))) r2 = some (.lst ((ps.map fun p => V.ref p.1).drop k ++ (ps.map fun p => V.ref p.1).take k)) := upd_same
      generalize upd G3 r2 (.lst ((ps.map fun p => V.ref p.1).drop k ++ (ps.map fun p => V.ref p.1).take k)) = G4 at A4 er2
      have A14 := A13.trans A4
      refine ⟨_, rfl, wa, rfl, ⟨_, SqL.of (A14 _ _ hwa)⟩, fun r3 nr3 => ?_⟩
      refine lc_list (K := K) (a := wa) (xs := ps.map fun p => V.ref p.1) (fun j H' => Same G4 H' ∧ ∃ qs : List (Addr × List Int), H' r3 = some (.lst (qs.map fun p => V.ref p.1)) ∧ qs.map Prod.snd = ((ps.take j).map Prod.snd).map List.reverse ∧ ∀ p ∈ qs, p.1 ≠ r3 ∧ H' p.1 = some (.lst (p.2.map V.int))) ⟨same_upd nr3, [], upd_same, rfl, fun p hp => by cases hp⟩ (fun j H' _ p => SqL.of (p.1 _ _ (A14 _ _ hwa))) ?_ ?_
      · rintro j x G5 hx ⟨sm, qs, hr3, hqs, hqa⟩
        obtain ⟨pr, hpr, rfl⟩ : ∃ pr, ps[j]? = some pr ∧ x = .ref pr.1 := by
          rw [List.getElem?_map] at hx
          cases e : ps[j]? with
          | none => rw [e] at hx; cases hx
          | some v => rw [e] at hx; exact ⟨v, rfl, (Option.some.inj hx).symm⟩
        have hj : j < ps.length := (List.getElem?_eq_some_iff.mp hpr).1
        have hql : qs.length = j := by
          have := congrArg List.length hqs
          rw [List.length_map, List.length_map, List.length_map, List.length_take] at this
          omega
        refine ⟨rfl, yesI ?_⟩
        refine ⟨_, rfl, pr.1, _, rfl, SqL.of (sm _ _ (A14 _ _ (hall pr (List.mem_of_getElem? hpr)))), fun b nb => ⟨_, same_upd nb _ _ hr3, ?_, fun c o ec => ?_, qs ++ [(b, pr.2.reverse)], ?_, ?_, fun p hp => ?_⟩⟩
        · rw [List.length_map, hql]
          exact Nat.lt_of_le_of_lt (show _ ≤ 60 by omega) (by decide)
        · rw [upd_ne (ne_of_none ec nr3)]
          exact same_upd nb _ _ (sm c o ec)
        · rw [upd_same, List.map_append]
          rfl
        · rw [List.map_append, hqs, List.take_add_one, hpr, List.map_append, List.map_append]
          rfl
        · have br3 : b ≠ r3 := (ne_of_none hr3 nb).symm
          rcases List.mem_append.mp hp with c | c
          · refine ⟨(hqa p c).1, ?_⟩
            rw [upd_ne (hqa p c).1]
            exact same_upd nb _ _ (hqa p c).2
          · have : p = (b, pr.2.reverse) := by simpa using c
            rw [this]
            refine ⟨br3, ?_⟩
            rw [upd_ne br3, upd_same, List.map_reverse]
      rintro G5 ⟨sm, qs, hr3, hqs, hqa⟩
      rw [List.length_map, List.take_length, hps] at hqs
      have A15 := A14.trans sm
      refine ⟨by show 4 ≤ sizeLine; decide, fun tp ntp => ?_⟩
      have A6 := same_upd (o := .tup [V.ref wa, .ref r1, .ref r2, .ref r3]) ntp
      have etp : (upd G5 tp (.tup [V.ref wa, .ref r1, .ref r2, .ref r3])) tp = some (.tup [V.ref wa, .ref r1, .ref r2, .ref r3]) := upd_same
      generalize upd G5 tp (.tup [V.ref wa, .ref r1, .ref r2, .ref r3]) = G6 at A6 etp
      have A16 := A15.trans A6
      have all6 : ∀ p ∈ ps, G6 p.1 = some (.lst (p.2.map V.int)) := fun p hp => A16 _ _ (hall p hp)
      have four : ∀ (j : Nat) (x : V), [V.ref wa, .ref r1, .ref r2, .ref r3][j]? = some x → Way4 Ws G6 x := fun j x hx => by
        match j, hx with
        | 0, hx =>
          cases hx
          exact ⟨wa, Ws, rfl, ⟨ps, A16 _ _ hwa, hps, all6⟩, hW6, W5, alike_refl _⟩
        | 1, hx =>
          cases hx
          refine ⟨r1, Ws.reverse, rfl, ⟨ps.reverse, ?_, by rw [List.map_reverse, hps], fun p hp => all6 p (List.mem_reverse.mp hp)⟩, wr6_mem hW6 fun l hl => ⟨l, List.mem_reverse.mp hl, rfl, fun _ h => h⟩, by rw [List.length_reverse]; exact W5, alike_rev _⟩
          rw [List.map_reverse]
          exact A6 _ _ (sm _ _ (A4 _ _ (A3 _ _ (A2 _ _ er1))))
        | 2, hx =>
          cases hx
          refine ⟨r2, Ws.drop k ++ Ws.take k, rfl, ⟨ps.drop k ++ ps.take k, ?_, by rw [List.map_append, List.map_drop, List.map_take, hps], fun p hp => all6 p ?_⟩, wr6_mem hW6 fun l hl => ⟨l, ?_, rfl, fun _ h => h⟩, ?_, alike_rot _ _ (by omega)⟩
          · rw [List.map_append, List.map_drop, List.map_take]
            exact A6 _ _ (sm _ _ er2)
          · rcases List.mem_append.mp hp with c | c
            · exact List.mem_of_mem_drop c
            · exact List.mem_of_mem_take c
          · rcases List.mem_append.mp hl with c | c
            · exact List.mem_of_mem_drop c
            · exact List.mem_of_mem_take c
          · rw [List.length_append, List.length_drop, List.length_take]
            omega
        | 3, hx =>
          cases hx
          refine ⟨r3, Ws.map List.reverse, rfl, ⟨qs, A6 _ _ hr3, hqs, fun p hp => A6 _ _ (hqa p hp).2⟩, wr6_mem hW6 fun l hl => ?_, by rw [List.length_map]; exact W5, alike_in _⟩
          obtain ⟨l', hl', rfl⟩ := List.mem_map.mp hl
          exact ⟨l', hl', List.length_reverse, fun x hx => List.mem_reverse.mp hx⟩
      refine ⟨tp, rfl, ⟨_, SqT.of etp⟩, ?_⟩
      refine for_tup (K := K) (a := tp) (xs := [V.ref wa, .ref r1, .ref r2, .ref r3]) (fun j σ H' => (∃ y6 y7 y8, σ = [some (.ref a), some (.int (0 + i)), some (.ref p), some (.ref wa), some (.int (mN : Nat)), some (.int k), y6, y7, y8]) ∧ Same G6 H') ⟨⟨_, _, _, rfl⟩, Same.refl _⟩ (fun j σ H' _ p => SqT.of (p.2 _ _ etp)) ?_ ?_
      · rintro j x σ G7 hx ⟨⟨y6, y7, y8, rfl⟩, sm7⟩
        obtain ⟨r, Wz, rfl, hz, hz6, hz5, al⟩ := (four j x hx).is
        obtain ⟨zs, ez, hzs, zall⟩ := hz.keep sm7
        have hzl : zs.length ≤ 5 := by rw [← hzs, List.length_map] at hz5; exact hz5
        refine ⟨_, rfl, r, rfl, ⟨_, SqL.of ez⟩, fun D nD => ?_⟩
        refine lc_list (K := K) (a := r) (xs := zs.map fun p => V.ref p.1) (fun j H' => Same G7 H' ∧ ∃ qs : List (Addr × List Int), H' D = some (.lst (qs.map fun p => V.ref p.1)) ∧ qs.map Prod.snd = (zs.take j).map Prod.snd ∧ ∀ p ∈ qs, p.1 ≠ D ∧ H' p.1 = some (.lst (p.2.map V.int))) ⟨same_upd nD, [], upd_same, rfl, fun p hp => by cases hp⟩ (fun j H' _ p => SqL.of (p.1 _ _ ez)) ?_ ?_
        · rintro j x G8 hx ⟨sm, qs, hD, hqs, hqa⟩
          obtain ⟨pr, hpr, rfl⟩ : ∃ pr, zs[j]? = some pr ∧ x = .ref pr.1 := by
            rw [List.getElem?_map] at hx
            cases e : zs[j]? with
            | none => rw [e] at hx; cases hx
            | some v => rw [e] at hx; exact ⟨v, rfl, (Option.some.inj hx).symm⟩
          have hj : j < zs.length := (List.getElem?_eq_some_iff.mp hpr).1
          have hql : qs.length = j := by
            have := congrArg List.length hqs
            rw [List.length_map, List.length_map, List.length_take] at this
            omega
          refine ⟨rfl, yesI ?_⟩
          refine ⟨_, rfl, pr.1, _, rfl, .inl (SqL.of (sm _ _ (zall pr (List.mem_of_getElem? hpr)))), fun b nb => ⟨_, same_upd nb _ _ hD, ?_, fun c o ec => ?_, qs ++ [(b, pr.2)], ?_, ?_, fun p hp => ?_⟩⟩
          · rw [List.length_map, hql]
            exact Nat.lt_of_le_of_lt (show _ ≤ 60 by omega) (by decide)
          · rw [upd_ne (ne_of_none ec nD)]
            exact same_upd nb _ _ (sm c o ec)
          · rw [upd_same, List.map_append]
            rfl
          · rw [List.map_append, hqs, List.take_add_one, hpr, List.map_append]
            rfl
          · have bD : b ≠ D := (ne_of_none hD nb).symm
            rcases List.mem_append.mp hp with c | c
            · refine ⟨(hqa p c).1, ?_⟩
              rw [upd_ne (hqa p c).1]
              exact same_upd nb _ _ (hqa p c).2
            · have : p = (b, pr.2) := by simpa using c
              rw [this]
              refine ⟨bD, ?_⟩
              rw [upd_ne bD, upd_same]
        rintro G8 ⟨sm, qs, hD, hqs, hqa⟩
        rw [List.length_map, List.take_length, hzs] at hqs
        have Wz' := hz6.wr (by omega)
        refine ⟨D, Wz, rfl, WsP.wsAt ⟨qs, hD, hqs, fun p hp => (hqa p hp).2⟩, Wz', fun G9 t pa ba M B td => ?_⟩
        obtain ⟨Tc, B0, got, pm, pw, bi⟩ := td.ok
        refine ⟨t, _, 0, _, rfl, rfl, SqT.of td.et, atI_nat (j := 0) rfl, ?_⟩
        refine ⟨_, rfl, pa, _, rfl, .inl (SqL.of td.ep), _, rfl, .inl ⟨rfl, _, SqL.of td.ep⟩, pa, _, rfl, rfl, SqL.of td.ep, _, _, rfl, rfl, _, rfl, rfl, ?_⟩
        have key := told_most mo al Wz' got bi
        have e2 : (((((List.range Wz.length).map (hol M)).map oV).length : Nat) : Int) - ((((List.range Wz.length).map (hol M)).countP (·.isNone) : Nat) : Int) = (mN : Nat) := by
          rw [List.length_map]
          exact key
        refine ⟨false, ?_, iteF ?_⟩
        · show V.bl (!decide (V.int ((((((List.range Wz.length).map (hol M)).map oV).length : Nat) : Int) - ((((List.range Wz.length).map (hol M)).countP (·.isNone) : Nat) : Int)) = V.int (mN : Nat))) = V.bl false
          rw [e2]
          exact neF _
        exact ⟨⟨_, _, _, rfl⟩, sm7.trans (sm.trans td.same)⟩
      · rintro σ G7 ⟨⟨y6, y7, y8, rfl⟩, sm7⟩
        exact ⟨⟨_, _, _, _, _, _, _, _, rfl⟩, sm6.trans (A16.trans sm7)⟩
    · rintro σ H1 ⟨⟨x1, x2, x3, x4, x5, x6, x7, x8, rfl⟩, sm1⟩
      exact q _
end
end My

set_option Elab.async false
set_option linter.all false
set_option maxRecDepth 100000
set_option maxHeartbeats 4000000
namespace My
open PySem PySem.Spec PyProof.Rows L2
theorem all_mk {l : PySem.W.OpenLaw} {w : World} {K : PySem.W.Frag} {h : Heap} {mg : Str → Option Value} {fa f0 f1 f2 f3 f4 f5 f6 f7  : Addr} (X : K.In h) (G : h.Ns mainGlobals mg) (hfa : mg "law" = some (.ref fa))
    {od0 an0 od1 an1 od2 an2 od3 an3 od4 an4 od5 an5 od6 an6 od7 an7 : Option Addr} {sl0 sl1 sl2 sl3 sl4 sl5 sl6 sl7 : Array (Option Value)} {oc0 kV0 dc0 pm0 cd0 ct0 oc1 kV1 dc1 pm1 cd1 ct1 oc2 kV2 dc2 pm2 cd2 ct2 oc3 kV3 dc3 pm3 cd3 ct3 oc4 kV4 dc4 pm4 cd4 ct4 oc5 kV5 dc5 pm5 cd5 ct5 oc6 kV6 dc6 pm6 cd6 ct6 oc7 kV7 dc7 pm7 cd7 ct7 : Value} 
    (a0 : PySem.W.nsIn K mainGlobals "paired" = some (some (.ref f0))) (l0 : K.lookup f0 = some ⟨oc0, od0, .func (PySem.W.fnOf "paired" "paired" (defArgs s_paired) (defBody s_paired) (defScope s_paired) .none kV0 dc0 pm0 an0 cd0 ct0), sl0⟩) (c0 : PySem.W.codeIn K cd0 "paired" = true) (k0 : PySem.W.keepIn K (.ref f0) = true)
    (a1 : PySem.W.nsIn K mainGlobals "find_holder" = some (some (.ref f1))) (l1 : K.lookup f1 = some ⟨oc1, od1, .func (PySem.W.fnOf "find_holder" "find_holder" (defArgs s_find_holder) (defBody s_find_holder) (defScope s_find_holder) .none kV1 dc1 pm1 an1 cd1 ct1), sl1⟩) (c1 : PySem.W.codeIn K cd1 "find_holder" = true) (k1 : PySem.W.keepIn K (.ref f1) = true)
    (a2 : PySem.W.nsIn K mainGlobals "band_of" = some (some (.ref f2))) (l2 : K.lookup f2 = some ⟨oc2, od2, .func (PySem.W.fnOf "band_of" "band_of" (defArgs s_band_of) (defBody s_band_of) (defScope s_band_of) .none kV2 dc2 pm2 an2 cd2 ct2), sl2⟩) (c2 : PySem.W.codeIn K cd2 "band_of" = true) (k2 : PySem.W.keepIn K (.ref f2) = true)
    (a3 : PySem.W.nsIn K mainGlobals "_law_bag" = some (some (.ref f3))) (l3 : K.lookup f3 = some ⟨oc3, od3, .func (PySem.W.fnOf "_law_bag" "_law_bag" (defArgs s_law_bag) (defBody s_law_bag) (defScope s_law_bag) .none kV3 dc3 pm3 an3 cd3 ct3), sl3⟩) (c3 : PySem.W.codeIn K cd3 "_law_bag" = true) (k3 : PySem.W.keepIn K (.ref f3) = true)
    (a4 : PySem.W.nsIn K mainGlobals "_law_take" = some (some (.ref f4))) (l4 : K.lookup f4 = some ⟨oc4, od4, .func (PySem.W.fnOf "_law_take" "_law_take" (defArgs s_law_take) (defBody s_law_take) (defScope s_law_take) .none kV4 dc4 pm4 an4 cd4 ct4), sl4⟩) (c4 : PySem.W.codeIn K cd4 "_law_take" = true) (k4 : PySem.W.keepIn K (.ref f4) = true)
    (a5 : PySem.W.nsIn K mainGlobals "_law_wishes" = some (some (.ref f5))) (l5 : K.lookup f5 = some ⟨oc5, od5, .func (PySem.W.fnOf "_law_wishes" "_law_wishes" (defArgs s_law_wishes) (defBody s_law_wishes) (defScope s_law_wishes) .none kV5 dc5 pm5 an5 cd5 ct5), sl5⟩) (c5 : PySem.W.codeIn K cd5 "_law_wishes" = true) (k5 : PySem.W.keepIn K (.ref f5) = true)
    (a6 : PySem.W.nsIn K mainGlobals "_law_most" = some (some (.ref f6))) (l6 : K.lookup f6 = some ⟨oc6, od6, .func (PySem.W.fnOf "_law_most" "_law_most" (defArgs s_law_most) (defBody s_law_most) (defScope s_law_most) .none kV6 dc6 pm6 an6 cd6 ct6), sl6⟩) (c6 : PySem.W.codeIn K cd6 "_law_most" = true) (k6 : PySem.W.keepIn K (.ref f6) = true)
    (a7 : PySem.W.nsIn K mainGlobals "law" = some (some (.ref f7))) (l7 : K.lookup f7 = some ⟨oc7, od7, .func (PySem.W.fnOf "law" "law" (defArgs s_law) (defBody s_law) (defScope s_law) .none kV7 dc7 pm7 an7 cd7 ct7), sl7⟩) (c7 : PySem.W.codeIn K cd7 "law" = true) (k7 : PySem.W.keepIn K (.ref f7) = true)
    (z_len : PySem.W.nsIn K mainGlobals "len" = some none)
    (z_abs : PySem.W.nsIn K mainGlobals "abs" = some none)
    (z_range : PySem.W.nsIn K mainGlobals "range" = some none)
    (z_max : PySem.W.nsIn K mainGlobals "max" = some none)
    (z_min : PySem.W.nsIn K mainGlobals "min" = some none)
    (z_list : PySem.W.nsIn K mainGlobals "list" = some none)
    (z_enumerate : PySem.W.nsIn K mainGlobals "enumerate" = some none)
    (z_sorted : PySem.W.nsIn K mainGlobals "sorted" = some none)
    (z_set : PySem.W.nsIn K mainGlobals "set" = some none) :
    ∃ fd : FuncData, (∀ (s : Shared) (v : Value), BindsTo s fd ⟨[v], []⟩ [("_law_script", v)]) ∧ ∀ base : Heap, K.In base → base.Ns mainGlobals mg → FnOk l.prog w K mg base CX0 63 fa fd ["_law_script"] (sp_law K) := by
  have e := hfa.symm.trans (PySem.W.mg_of X G a7)
  cases e
  have F0 := fun_mk (st := s_paired) l0 c0 k0
  have b0 := F0.binds (ps := ["wishes"]) fun _ _ _ _ _ _ us hl => match us, hl with | [_], _ => rfl
  have g0 := PySem.W.mg_of X G a0
  have F1 := fun_mk (st := s_find_holder) l1 c1 k1
  have b1 := F1.binds (ps := ["wishes", "wish_of", "wish", "tried"]) fun _ _ _ _ _ _ us hl => match us, hl with | [_, _, _, _], _ => rfl
  have g1 := PySem.W.mg_of X G a1
  have F2 := fun_mk (st := s_band_of) l2 c2 k2
  have b2 := F2.binds (ps := ["wishes", "wish_of", "pairs"]) fun _ _ _ _ _ _ us hl => match us, hl with | [_, _, _], _ => rfl
  have g2 := PySem.W.mg_of X G a2
  have F3 := fun_mk (st := s_law_bag) l3 c3 k3
  have b3 := F3.binds (ps := ["_law_script", "_law_at"]) fun _ _ _ _ _ _ us hl => match us, hl with | [_, _], _ => rfl
  have g3 := PySem.W.mg_of X G a3
  have F4 := fun_mk (st := s_law_take) l4 c4 k4
  have b4 := F4.binds (ps := ["_law_bag_here", "_law_many"]) fun _ _ _ _ _ _ us hl => match us, hl with | [_, _], _ => rfl
  have g4 := PySem.W.mg_of X G a4
  have F5 := fun_mk (st := s_law_wishes) l5 c5 k5
  have b5 := F5.binds (ps := ["_law_bag_here", "_law_most_here"]) fun _ _ _ _ _ _ us hl => match us, hl with | [_, _], _ => rfl
  have g5 := PySem.W.mg_of X G a5
  have F6 := fun_mk (st := s_law_most) l6 c6 k6
  have b6 := F6.binds (ps := ["_law_wishes_here", "_law_taken"]) fun _ _ _ _ _ _ us hl => match us, hl with | [_, _], _ => rfl
  have g6 := PySem.W.mg_of X G a6
  have F7 := fun_mk (st := s_law) l7 c7 k7
  have b7 := F7.binds (ps := ["_law_script"]) fun _ _ _ _ _ _ us hl => match us, hl with | [_], _ => rfl
  have g7 := PySem.W.mg_of X G a7
  have T : Txt mg := { z_len := PySem.W.mg_none_of X G z_len, z_abs := PySem.W.mg_none_of X G z_abs, z_range := PySem.W.mg_none_of X G z_range, z_max := PySem.W.mg_none_of X G z_max, z_min := PySem.W.mg_none_of X G z_min, z_list := PySem.W.mg_none_of X G z_list, z_enumerate := PySem.W.mg_none_of X G z_enumerate, z_sorted := PySem.W.mg_none_of X G z_sorted, z_set := PySem.W.mg_none_of X G z_set }
  refine ⟨PySem.W.fnOf "law" "law" (defArgs s_law) (defBody s_law) (defScope s_law) .none kV7 dc7 pm7 an7 cd7 ct7, fun s v => .of_eq rfl, fun base _ _ => ?_⟩
  have C1 : Cal l.prog w K mg base 61 "find_holder" (sp_find 60) := ok_find F1 g1 k1 b1 61
  have C2 : Cal l.prog w K mg base 1 "band_of" sp_band := cal_mk (ok_band F2 T) g2 k2 b2
  have C0 : Cal l.prog w K mg base 62 "paired" sp_paired := cal_mk (ok_paired F0 T C1 C2) g0 k0 b0
  have C3 : Cal l.prog w K mg base 1 "_law_bag" (sp_law_bag K) := cal_mk (ok_law_bag F3 T) g3 k3 b3
  have C4 : Cal l.prog w K mg base 1 "_law_take" sp_law_take := cal_mk (ok_law_take F4) g4 k4 b4
  have C5 : Cal l.prog w K mg base 2 "_law_wishes" sp_law_wishes := cal_mk (ok_law_wishes F5 T C4) g5 k5 b5
  have C6 : Cal l.prog w K mg base 6 "_law_most" (sp_most 5) := ok_most F6 T g6 k6 b6 6
  exact ok_law F7 T C3 C4 C5 C6 C0
end My

set_option Elab.async false
set_option linter.all false
open PySem PySem.W PyProof.Rows
set_option maxRecDepth 100000 in
set_option maxHeartbeats 0 in
theorem PySem.Challenge.cw_whistleboard_k12_all_pairings_tried_holds : PySem.Challenge.rw_whistleboard_k12_all_pairings_tried.Holds := by
  w_on; o_law; k_head; (case hw => w_witness2)
  k_fill
  refine L2.walk_ofK (l := PySem.Challenge.rw_whistleboard_k12_all_pairings_tried) (n := 63) (k := 63) (x := "_law_script") (CX := L2.CX0) (sp := My.sp_law) rfl (by decide) rfl ⟨rfl, by decide, by decide⟩ (fun w h Y => PySem.W.kIn_of Y) ?F (fun _ _ a ns hl _ hS => ⟨a, ns, rfl, hS, hl, fun _ => rfl⟩) (fun _ _ _ _ h => h)
  case F =>
    intro w mg fa h KX G hmg
    refine' My.all_mk KX G hmg ?a0 ?l0 ?c0 ?k0 ?a1 ?l1 ?c1 ?k1 ?a2 ?l2 ?c2 ?k2 ?a3 ?l3 ?c3 ?k3 ?a4 ?l4 ?c4 ?k4 ?a5 ?l5 ?c5 ?k5 ?a6 ?l6 ?c6 ?k6 ?a7 ?l7 ?c7 ?k7 ?z_len ?z_abs ?z_range ?z_max ?z_min ?z_list ?z_enumerate ?z_sorted ?z_set
    (case a0 => k_is)
    (case l0 => k_is)
    (case c0 => k_is)
    (case k0 => k_is)
    (case a1 => k_is)
    (case l1 => k_is)
    (case c1 => k_is)
    (case k1 => k_is)
    (case a2 => k_is)
    (case l2 => k_is)
    (case c2 => k_is)
    (case k2 => k_is)
    (case a3 => k_is)
    (case l3 => k_is)
    (case c3 => k_is)
    (case k3 => k_is)
    (case a4 => k_is)
    (case l4 => k_is)
    (case c4 => k_is)
    (case k4 => k_is)
    (case a5 => k_is)
    (case l5 => k_is)
    (case c5 => k_is)
    (case k5 => k_is)
    (case a6 => k_is)
    (case l6 => k_is)
    (case c6 => k_is)
    (case k6 => k_is)
    (case a7 => k_is)
    (case l7 => k_is)
    (case c7 => k_is)
    (case k7 => k_is)
    (case z_len => k_is)
    (case z_abs => k_is)
    (case z_range => k_is)
    (case z_max => k_is)
    (case z_min => k_is)
    (case z_list => k_is)
    (case z_enumerate => k_is)
    (case z_sorted => k_is)
    (case z_set => k_is)
