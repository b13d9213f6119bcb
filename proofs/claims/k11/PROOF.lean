import PyProof.Rows.All
import Wide.All
import OpenK.AllK
import Wide.FinOn
import PySem.Challenge.RW_whistleboard_k11_paired
import HandS.ForMost
import HandS.ForExc
import HandS.Flow
import HandS.IsInst
import HandS.More
import HandS.SetFor
import HandS.Conv
import HandS.Zip
set_option linter.all false
namespace My
/-! ### the mathematics of pairs: a map of holders to wishes -/
abbrev Mp := List (Int × Int)
def get (M : Mp) (h : Int) : Option Int := (M.find? fun p => decide (p.1 = h)).map (·.2)
def put (M : Mp) (h w : Int) : Mp := if (M.any fun p => decide (p.1 = h)) = true then M.map fun p => if p.1 = h then (p.1, w) else p else M ++ [(h, w)]
def cnt (M : Mp) (w : Int) : Nat := M.countP fun p => decide (p.2 = w)
abbrev keys (M : Mp) : List Int := M.map (·.1)
theorem get_cons (p : Int × Int) (M : Mp) (h : Int) : get (p :: M) h = if p.1 = h then some p.2 else get M h := by
  unfold get
  by_cases e : p.1 = h
  · simp [List.find?_cons, e]
  · simp [List.find?_cons, e]
theorem get_none_iff {M : Mp} {h : Int} : get M h = none ↔ h ∉ keys M := by
  induction M with
  | nil => simp [get]
  | cons p M ih =>
    rw [get_cons]
    by_cases e : p.1 = h
    · simp [e]
    · rw [if_neg e, ih]
      simp only [keys, List.map_cons, List.mem_cons, not_or]
      exact ⟨fun q => ⟨fun z => e z.symm, q⟩, fun q => q.2⟩
theorem get_mem {M : Mp} {h w : Int} (e : get M h = some w) : (h, w) ∈ M := by
  induction M with
  | nil => simp [get] at e
  | cons p M ih =>
    rw [get_cons] at e
    by_cases c : p.1 = h
    · rw [if_pos c] at e
      have : p = (h, w) := by
        cases p
        simp only [Option.some.injEq] at e c ⊢
        rw [c, e]
      rw [this]
      exact List.mem_cons_self ..
    · rw [if_neg c] at e
      exact List.mem_cons_of_mem _ (ih e)
theorem mem_get {M : Mp} {h w : Int} (nd : (keys M).Nodup) (e : (h, w) ∈ M) : get M h = some w := by
  induction M with
  | nil => cases e
  | cons p M ih =>
    rw [get_cons]
    have nd' : p.1 ∉ keys M ∧ (keys M).Nodup := List.nodup_cons.mp nd
    rcases List.mem_cons.mp e with q | q
    · rw [← q, if_pos rfl]
    · rw [if_neg (fun c => nd'.1 (by rw [c]; exact List.mem_map.mpr ⟨_, q, rfl⟩)), ih nd'.2 q]
theorem any_get {M : Mp} {h : Int} : (M.any fun p => decide (p.1 = h)) = (get M h).isSome := by
  induction M with
  | nil => rfl
  | cons p M ih =>
    rw [get_cons, List.any_cons, ih]
    by_cases e : p.1 = h
    · simp [e]
    · simp [e]
theorem put_new {M : Mp} {h w : Int} (e : get M h = none) : put M h w = M ++ [(h, w)] := by
  unfold put
  rw [any_get, e]
  rfl
theorem put_old {M : Mp} {h w v : Int} (e : get M h = some v) : put M h w = M.map fun p => if p.1 = h then (p.1, w) else p := by
  unfold put
  rw [any_get, e]
  rfl
theorem get_snoc (M : Mp) (h w j : Int) : get M h = none → get (M ++ [(h, w)]) j = if j = h then some w else get M j := by
  intro e
  induction M with
  | nil =>
    show get [(h, w)] j = _
    rw [get_cons]
    by_cases c : h = j
    · rw [if_pos c, if_pos c.symm]
    · rw [if_neg c, if_neg (fun z => c z.symm)]
  | cons p M ih =>
    rw [get_cons] at e
    by_cases c : p.1 = h
    · rw [if_pos c] at e; cases e
    · rw [if_neg c] at e
      rw [List.cons_append, get_cons, ih e, get_cons]
      by_cases d : p.1 = j
      · rw [if_pos d, if_pos d, if_neg (fun z => c (d.trans z))]
      · rw [if_neg d, if_neg d]
theorem get_mapped (M : Mp) (h w j : Int) : get (M.map fun p => if p.1 = h then (p.1, w) else p) j = (get M j).map fun x => if j = h then w else x := by
  induction M with
  | nil => rfl
  | cons p M ih =>
    rw [List.map_cons, get_cons, get_cons, ih]
    by_cases c : p.1 = h
    · rw [if_pos c]
      by_cases d : p.1 = j
      · rw [if_pos d, if_pos d, Option.map_some, if_pos (d.symm.trans c)]
      · rw [if_neg d, if_neg d]
    · rw [if_neg c]
      by_cases d : p.1 = j
      · rw [if_pos d, if_pos d, Option.map_some, if_neg (fun z => c (d.trans z))]
      · rw [if_neg d, if_neg d]
theorem get_put (M : Mp) (h w j : Int) : get (put M h w) j = if j = h then some w else get M j := by
  cases e : get M h with
  | none => rw [put_new e, get_snoc M h w j e]
  | some v =>
    rw [put_old e, get_mapped]
    by_cases c : j = h
    · rw [if_pos c, c, e, Option.map_some, if_pos rfl]
    · rw [if_neg c]
      cases get M j with
      | none => rfl
      | some x => rw [Option.map_some, if_neg c]
theorem keys_old (M : Mp) (h w : Int) : keys (M.map fun p => if p.1 = h then (p.1, w) else p) = keys M := by
  unfold keys
  rw [List.map_map]
  apply List.map_congr_left
  intro p _
  show (if p.1 = h then (p.1, w) else p).1 = p.1
  by_cases c : p.1 = h
  · rw [if_pos c]
  · rw [if_neg c]
theorem nd_put {M : Mp} (h w : Int) (nd : (keys M).Nodup) : (keys (put M h w)).Nodup := by
  cases e : get M h with
  | none =>
    rw [put_new e]
    show (List.map _ (M ++ [(h, w)])).Nodup
    rw [List.map_append]
    refine List.nodup_append.mpr ⟨nd, by simp, fun a ha b hb => ?_⟩
    have : b = h := by simpa using hb
    rw [this]
    intro z
    exact get_none_iff.mp e (z ▸ ha)
  | some v => rw [put_old e, keys_old]; exact nd
theorem cnt_cons (p : Int × Int) (M : Mp) (w : Int) : cnt (p :: M) w = cnt M w + if p.2 = w then 1 else 0 := by
  unfold cnt
  rw [List.countP_cons]
  by_cases e : p.2 = w
  · simp [e]
  · simp [e]
theorem cnt_new {M : Mp} {h w : Int} (e : get M h = none) (x : Int) : cnt (put M h w) x = cnt M x + if w = x then 1 else 0 := by
  rw [put_new e]
  unfold cnt
  rw [List.countP_append]
  by_cases c : w = x
  · simp [c]
  · simp [c]
theorem cnt_mapped : ∀ (M : Mp) (h w v x : Int), (keys M).Nodup → get M h = some v → cnt (M.map fun p => if p.1 = h then (p.1, w) else p) x + (if v = x then 1 else 0) = cnt M x + if w = x then 1 else 0
  | [], h, w, v, x, _, e => by simp [get] at e
  | p :: M, h, w, v, x, nd, e => by
    have nd' : p.1 ∉ keys M ∧ (keys M).Nodup := List.nodup_cons.mp nd
    rw [List.map_cons, cnt_cons, cnt_cons]
    rw [get_cons] at e
    by_cases c : p.1 = h
    · rw [if_pos c] at e ⊢
      have ev : p.2 = v := Option.some.inj e
      have same : (M.map fun p => if p.1 = h then (p.1, w) else p) = M := by
        conv => rhs; rw [← List.map_id M]
        apply List.map_congr_left
        intro q hq
        exact if_neg (fun z => nd'.1 (by rw [c, ← z]; exact List.mem_map.mpr ⟨q, hq, rfl⟩))
      rw [same, ev]
      show cnt M x + (if w = x then 1 else 0) + (if v = x then 1 else 0) = _
      omega
    · rw [if_neg c] at e ⊢
      have ih := cnt_mapped M h w v x nd'.2 e
      omega
theorem cnt_old {M : Mp} {h w v : Int} (nd : (keys M).Nodup) (e : get M h = some v) (x : Int) : cnt (put M h w) x + (if v = x then 1 else 0) = cnt M x + if w = x then 1 else 0 := by
  rw [put_old e]
  exact cnt_mapped M h w v x nd e
/-! ### wishes -/
def adj (Ws : List (List Int)) (w : Int) : List Int := Ws.getD w.toNat []
/-- a map that may stand: keys once, holders that fit, wishes that there are -/
structure Okm (Ws : List (List Int)) (M : Mp) : Prop where
  nd : (keys M).Nodup
  fit : ∀ h w, get M h = some w → 0 ≤ w ∧ w < Ws.length ∧ h ∈ adj Ws w
def Closed (Ws : List (List Int)) (M : Mp) (T : Int → Prop) : Prop := ∀ h, T h → ∃ w, get M h = some w ∧ ∀ j ∈ adj Ws w, T j
structure Tr (tr : List Int) : Prop where
  nd : tr.Nodup
  rg : ∀ h ∈ tr, 0 ≤ h ∧ h < 60
structure Succ (Ws : List (List Int)) (M : Mp) (tr : List Int) (wish : Int) (M' : Mp) (tr' : List Int) : Prop where
  ok : Okm Ws M'
  cn : ∀ x, cnt M' x = cnt M x + if wish = x then 1 else 0
  kp : ∀ h ∈ tr, get M' h = get M h
  tk : Tr tr'
  sub : ∀ h ∈ tr, h ∈ tr'
  cl : ∀ T, Closed Ws M T → (∀ h, T h → get M' h = get M h) ∧ ¬ ∀ h ∈ adj Ws wish, T h
structure Half (Ws : List (List Int)) (M : Mp) (tr tr' : List Int) : Prop where
  tk : Tr tr'
  sub : ∀ h ∈ tr, h ∈ tr'
  cl : ∀ h ∈ tr', h ∈ tr ∨ ∃ w, get M h = some w ∧ ∀ j ∈ adj Ws w, j ∈ tr'
structure Fail (Ws : List (List Int)) (M : Mp) (tr : List Int) (wish : Int) (tr' : List Int) : Prop where
  hf : Half Ws M tr tr'
  all : ∀ h ∈ adj Ws wish, h ∈ tr'
theorem Half.refl {Ws : List (List Int)} {M : Mp} {tr : List Int} (h : Tr tr) : Half Ws M tr tr := ⟨h, fun _ q => q, fun _ q => .inl q⟩
theorem Tr.snoc {tr : List Int} {h : Int} (t : Tr tr) (nh : h ∉ tr) (r : 0 ≤ h ∧ h < 60) : Tr (tr ++ [h]) := by
  refine ⟨List.nodup_append.mpr ⟨t.nd, by simp, fun a ha b hb => ?_⟩, fun j hj => ?_⟩
  · have : b = h := by simpa using hb
    rw [this]
    intro z
    exact nh (z ▸ ha)
  · rcases List.mem_append.mp hj with q | q
    · exact t.rg j q
    · have : j = h := by simpa using q
      rw [this]; exact r
/-- a free holder is taken -/
theorem succ_free {Ws : List (List Int)} {M : Mp} {tr ti : List Int} {wish h : Int} (ok : Okm Ws M) (hw : 0 ≤ wish ∧ wish < Ws.length) (hf : Half Ws M tr ti) (hh : h ∈ adj Ws wish) (nh : h ∉ ti) (r : 0 ≤ h ∧ h < 60) (e : get M h = none) :
    Succ Ws M tr wish (put M h wish) (ti ++ [h]) := by
  refine ⟨⟨nd_put h wish ok.nd, fun j w q => ?_⟩, fun x => cnt_new e x, fun j hj => ?_, hf.tk.snoc nh r, fun j hj => List.mem_append_left _ (hf.sub j hj), fun T hT => ⟨fun j hj => ?_, fun all => ?_⟩⟩
  · rw [get_put] at q
    by_cases c : j = h
    · rw [if_pos c] at q
      have := Option.some.inj q
      subst this
      rw [c]
      exact ⟨hw.1, hw.2, hh⟩
    · rw [if_neg c] at q
      exact ok.fit j w q
  · rw [get_put, if_neg (fun (c : j = h) => nh (c ▸ hf.sub j hj))]
  · rw [get_put, if_neg (fun c => ?_)]
    obtain ⟨w, q, _⟩ := hT j hj
    rw [c, e] at q
    cases q
  · obtain ⟨w, q, _⟩ := hT h (all h hh)
    rw [e] at q
    cases q
/-- a holder is taken whose wish has found another one -/
theorem succ_moved {Ws : List (List Int)} {M M2 : Mp} {tr ti t2 : List Int} {wish h w2 : Int} (ok : Okm Ws M) (hw : 0 ≤ wish ∧ wish < Ws.length) (hf : Half Ws M tr ti) (hh : h ∈ adj Ws wish) (nh : h ∉ ti) (e : get M h = some w2) (s : Succ Ws M (ti ++ [h]) w2 M2 t2) :
    Succ Ws M tr wish (put M2 h wish) t2 := by
  have e2 : get M2 h = some w2 := (s.kp h (by simp)).trans e
  refine ⟨⟨nd_put h wish s.ok.nd, fun j w q => ?_⟩, fun x => ?_, fun j hj => ?_, s.tk, fun j hj => s.sub j (List.mem_append_left _ (hf.sub j hj)), fun T hT => ?_⟩
  · rw [get_put] at q
    by_cases c : j = h
    · rw [if_pos c] at q
      have := Option.some.inj q
      subst this
      rw [c]
      exact ⟨hw.1, hw.2, hh⟩
    · rw [if_neg c] at q
      exact s.ok.fit j w q
  · have a := cnt_old (w := wish) s.ok.nd e2 x
    have b := s.cn x
    omega
  · rw [get_put, if_neg (fun (c : j = h) => nh (c ▸ hf.sub j hj))]
    exact s.kp j (List.mem_append_left _ (hf.sub j hj))
  · obtain ⟨c1, c2⟩ := s.cl T hT
    have nT : ¬ T h := fun th => by
      obtain ⟨w, q, all⟩ := hT h th
      rw [e] at q
      have := Option.some.inj q
      subst this
      exact c2 all
    refine ⟨fun j hj => ?_, fun all => nT (all h hh)⟩
    rw [get_put, if_neg (fun (c : j = h) => nT (c ▸ hj))]
    exact c1 j hj
/-- .. or has found none -/
theorem half_more {Ws : List (List Int)} {M : Mp} {tr ti t2 : List Int} {h w2 : Int} (hf : Half Ws M tr ti) (e : get M h = some w2) (s : Fail Ws M (ti ++ [h]) w2 t2) : Half Ws M tr t2 := by
  refine ⟨s.hf.tk, fun j hj => s.hf.sub j (List.mem_append_left _ (hf.sub j hj)), fun j hj => ?_⟩
  rcases s.hf.cl j hj with q | q
  · rcases List.mem_append.mp q with q | q
    · rcases hf.cl j q with z | ⟨w, z, all⟩
      · exact .inl z
      · exact .inr ⟨w, z, fun k hk => s.hf.sub k (List.mem_append_left _ (all k hk))⟩
    · have : j = h := by simpa using q
      exact .inr ⟨w2, this ▸ e, s.all⟩
  · exact .inr q
/-- behind some wishes -/
structure Got (Ws : List (List Int)) (M : Mp) (i : Nat) (T : Int → Prop) : Prop where
  ok : Okm Ws M
  lo : ∀ w : Int, cnt M w ≤ 1
  hi : ∀ w : Int, (i : Int) ≤ w → cnt M w = 0
  cl : Closed Ws M T
  no : ∀ w : Int, 0 ≤ w → w < i → cnt M w = 0 → ∀ h ∈ adj Ws w, T h
theorem got_start (Ws : List (List Int)) : Got Ws [] 0 fun _ => False :=
  ⟨⟨List.nodup_nil, fun h w q => by simp [get] at q⟩, fun w => Nat.zero_le _, fun w _ => rfl, fun h q => q.elim, fun w h0 h1 => by omega⟩
theorem got_succ {Ws : List (List Int)} {M M' : Mp} {i : Nat} {T : Int → Prop} {tr' : List Int} (g : Got Ws M i T) (s : Succ Ws M [] i M' tr') : Got Ws M' (i + 1) T := by
  obtain ⟨c1, _⟩ := s.cl T g.cl
  refine ⟨s.ok, fun w => ?_, fun w hw => ?_, fun h hT => ?_, fun w h0 h1 e => ?_⟩
  · rw [s.cn]
    by_cases c : (i : Int) = w
    · rw [if_pos c, g.hi w (by omega)]; omega
    · rw [if_neg c]; exact g.lo w
  · rw [s.cn, if_neg (by omega), g.hi w (by omega)]
  · obtain ⟨w, q, all⟩ := g.cl h hT
    exact ⟨w, (c1 h hT).trans q, all⟩
  · rw [s.cn] at e
    by_cases c : (i : Int) = w
    · rw [if_pos c] at e; omega
    · exact g.no w h0 (by omega) (by omega)
theorem got_fail {Ws : List (List Int)} {M : Mp} {i : Nat} {T : Int → Prop} {tr' : List Int} (g : Got Ws M i T) (s : Fail Ws M [] i tr') : Got Ws M (i + 1) fun h => T h ∨ h ∈ tr' := by
  refine ⟨g.ok, g.lo, fun w hw => g.hi w (by omega), fun h hT => ?_, fun w h0 h1 e => ?_⟩
  · rcases hT with q | q
    · obtain ⟨w, z, all⟩ := g.cl h q
      exact ⟨w, z, fun j hj => .inl (all j hj)⟩
    · rcases s.hf.cl h q with z | ⟨w, z, all⟩
      · cases z
      · exact ⟨w, z, fun j hj => .inr (all j hj)⟩
  · intro h hh
    by_cases c : (i : Int) = w
    · exact .inr (s.all h (c ▸ hh))
    · exact .inl (g.no w h0 (by omega) e h hh)
end My

set_option linter.all false
namespace My
/-! ### the pairs of a map -/
def prs (M : Mp) (n : Nat) : List (Option Int) := M.foldl (fun acc p => acc.set p.2.toNat (some p.1)) (List.replicate n none)
def hol (M : Mp) (i : Nat) : Option Int := (M.find? fun p => decide (p.2 = (i : Int))).map (·.1)
theorem fold_len : ∀ (M : Mp) (acc : List (Option Int)), (M.foldl (fun acc p => acc.set p.2.toNat (some p.1)) acc).length = acc.length
  | [], acc => rfl
  | p :: M, acc => by
    rw [List.foldl_cons, fold_len M, List.length_set]
theorem prs_len (M : Mp) (n : Nat) : (prs M n).length = n := by
  unfold prs
  rw [fold_len, List.length_replicate]
theorem fold_miss : ∀ (M : Mp) (acc : List (Option Int)) (i : Nat), (∀ p ∈ M, p.2.toNat ≠ i) → (M.foldl (fun acc p => acc.set p.2.toNat (some p.1)) acc)[i]? = acc[i]?
  | [], acc, i, _ => rfl
  | p :: M, acc, i, h => by
    rw [List.foldl_cons, fold_miss M _ i fun q hq => h q (List.mem_cons_of_mem _ hq), List.getElem?_set_ne (h p (List.mem_cons_self ..))]
theorem cnt_zero {M : Mp} {w : Int} (h : cnt M w = 0) : ∀ p ∈ M, p.2 ≠ w := fun p hp e => by
  have := List.countP_eq_zero.mp h p hp
  simp [e] at this
theorem cnt_pos {M : Mp} {p : Int × Int} (h : p ∈ M) : 0 < cnt M p.2 := List.countP_pos_iff.mpr ⟨p, h, by simp⟩
theorem fold_hit : ∀ (M : Mp) (acc : List (Option Int)) (h w : Int), (∀ x, cnt M x ≤ 1) → (∀ p ∈ M, 0 ≤ p.2) → (h, w) ∈ M → w.toNat < acc.length → (M.foldl (fun acc p => acc.set p.2.toNat (some p.1)) acc)[w.toNat]? = some (some h)
  | [], acc, h, w, _, _, e, _ => by cases e
  | p :: M, acc, h, w, hc, h0, e, hl => by
    rw [List.foldl_cons]
    have hc' : ∀ x, cnt M x ≤ 1 := fun x => by
      have := hc x
      rw [cnt_cons] at this
      omega
    have h0' : ∀ q ∈ M, 0 ≤ q.2 := fun q hq => h0 q (List.mem_cons_of_mem _ hq)
    rcases List.mem_cons.mp e with q | q
    · rw [← q]
      have z : cnt M w = 0 := by
        have := hc w
        rw [cnt_cons, ← q, if_pos rfl] at this
        omega
      rw [fold_miss M _ _ fun r hr c => cnt_zero z r hr (by have := h0' r hr; have := h0 p (List.mem_cons_self ..); rw [← q] at this; have : (0:Int) ≤ w := this; omega)]
      rw [List.getElem?_set_self hl]
    · exact fold_hit M _ h w hc' h0' q (by rw [List.length_set]; exact hl)
theorem hol_none {M : Mp} {i : Nat} : hol M i = none ↔ cnt M i = 0 := by
  unfold hol cnt
  rw [Option.map_eq_none_iff, List.find?_eq_none, List.countP_eq_zero]
theorem hol_some {M : Mp} {i : Nat} {h : Int} (e : hol M i = some h) : (h, (i : Int)) ∈ M := by
  unfold hol at e
  cases q : M.find? fun p => decide (p.2 = (i : Int)) with
  | none => rw [q] at e; cases e
  | some p =>
    rw [q] at e
    have e1 : p.1 = h := Option.some.inj e
    have e2 : p.2 = (i : Int) := by simpa using List.find?_some q
    have := List.mem_of_find?_eq_some q
    rw [← e1, ← e2]
    exact this
theorem prs_at {M : Mp} {n i : Nat} (hc : ∀ x, cnt M x ≤ 1) (h0 : ∀ p ∈ M, 0 ≤ p.2) (hi : i < n) : (prs M n)[i]? = some (hol M i) := by
  unfold prs
  cases e : hol M i with
  | none =>
    rw [fold_miss]
    · rw [List.getElem?_replicate, if_pos hi]
    · intro p hp c
      have := cnt_zero (hol_none.mp e) p hp
      have := h0 p hp
      omega
  | some h =>
    have := fold_hit M (List.replicate n none) h i hc h0 (hol_some e) (by rw [List.length_replicate]; exact hi)
    exact this
theorem prs_eq {M : Mp} {n : Nat} (hc : ∀ x, cnt M x ≤ 1) (h0 : ∀ p ∈ M, 0 ≤ p.2) : prs M n = (List.range n).map (hol M) := by
  apply List.ext_getElem?
  intro i
  by_cases hi : i < n
  · rw [prs_at hc h0 hi, List.getElem?_map, List.getElem?_range hi]
    rfl
  · rw [List.getElem?_eq_none (by rw [prs_len]; omega), List.getElem?_eq_none (by rw [List.length_map, List.length_range]; omega)]
/-! ### lists without doubles -/
theorem nd_le {α : Type} [BEq α] [LawfulBEq α] : ∀ (A B : List α), A.Nodup → (∀ x ∈ A, x ∈ B) → A.length ≤ B.length
  | [], B, _, _ => Nat.zero_le _
  | a :: A, B, nd, h => by
    have nd' := List.nodup_cons.mp nd
    have ha : a ∈ B := h a (List.mem_cons_self ..)
    have ih := nd_le A (B.erase a) nd'.2 fun x hx => (List.mem_erase_of_ne (fun (c : x = a) => nd'.1 (c ▸ hx))).mpr (h x (List.mem_cons_of_mem _ hx))
    rw [List.length_erase_of_mem ha] at ih
    have : 0 < B.length := List.length_pos_of_mem ha
    rw [List.length_cons]
    omega
theorem nd_eq {α : Type} [BEq α] [LawfulBEq α] {A B : List α} (ha : A.Nodup) (hb : B.Nodup) (h : ∀ x, x ∈ A ↔ x ∈ B) : A.length = B.length :=
  Nat.le_antisymm (nd_le A B ha fun x q => (h x).mp q) (nd_le B A hb fun x q => (h x).mpr q)
theorem nd_map {α β : Type} {f : α → β} : ∀ {l : List α}, l.Nodup → (∀ x ∈ l, ∀ y ∈ l, f x = f y → x = y) → (l.map f).Nodup
  | [], _, _ => List.nodup_nil
  | a :: l, nd, inj => by
    have nd' := List.nodup_cons.mp nd
    rw [List.map_cons]
    refine List.nodup_cons.mpr ⟨fun m => ?_, nd_map nd'.2 fun x hx y hy => inj x (List.mem_cons_of_mem _ hx) y (List.mem_cons_of_mem _ hy)⟩
    obtain ⟨x, hx, e⟩ := List.mem_map.mp m
    have := inj x (List.mem_cons_of_mem _ hx) a (List.mem_cons_self ..) e
    exact nd'.1 (this ▸ hx)
/-! ### the band -/
structure Bi (Ws : List (List Int)) (M : Mp) (T : Int → Prop) (B wt : List Int) : Prop where
  nd : B.Nodup
  rg : ∀ w, w ∈ B ∨ w ∈ wt → 0 ≤ w ∧ w < Ws.length
  un : ∀ w : Int, 0 ≤ w → w < Ws.length → cnt M w = 0 → w ∈ B ∨ w ∈ wt
  cl : ∀ w ∈ B, ∀ h ∈ adj Ws w, ∃ w', get M h = some w' ∧ (w' ∈ B ∨ w' ∈ wt)
  src : ∀ w, w ∈ B ∨ w ∈ wt → cnt M w = 0 ∨ ∃ w1 ∈ B, ∃ h ∈ adj Ws w1, get M h = some w
  tt : ∀ w, w ∈ B ∨ w ∈ wt → ∀ h ∈ adj Ws w, T h
  em : (∃ w : Int, 0 ≤ w ∧ w < Ws.length ∧ cnt M w = 0) ∨ (B = [] ∧ wt = [])
  len : wt.length ≤ Ws.length + 60 * B.length
def free (M : Mp) (n : Nat) : List Int := ((List.range n).filter fun (i : Nat) => decide (cnt M (i : Int) = 0)).map fun (i : Nat) => (i : Int)
theorem mem_free {M : Mp} {n : Nat} {w : Int} : w ∈ free M n ↔ 0 ≤ w ∧ w < n ∧ cnt M w = 0 := by
  unfold free
  rw [List.mem_map]
  constructor
  · rintro ⟨i, hi, rfl⟩
    rw [List.mem_filter, List.mem_range, decide_eq_true_eq] at hi
    exact ⟨by omega, by omega, hi.2⟩
  · rintro ⟨h0, h1, h2⟩
    refine ⟨w.toNat, ?_, by omega⟩
    rw [List.mem_filter, List.mem_range, decide_eq_true_eq]
    refine ⟨by omega, ?_⟩
    rw [Int.toNat_of_nonneg h0]
    exact h2
theorem nd_free (M : Mp) (n : Nat) : (free M n).Nodup := nd_map (List.Nodup.sublist List.filter_sublist List.nodup_range) fun x _ y _ e => by omega
theorem len_free (M : Mp) (n : Nat) : (free M n).length ≤ n := by
  unfold free
  rw [List.length_map]
  have := List.length_filter_le (fun i => decide (cnt M ((i : Nat) : Int) = 0)) (List.range n)
  rw [List.length_range] at this
  exact this
theorem bi_start {Ws : List (List Int)} {M : Mp} {T : Int → Prop} (g : Got Ws M Ws.length T) : Bi Ws M T [] (free M Ws.length) := by
  refine ⟨List.nodup_nil, fun w h => ?_, fun w h0 h1 h2 => .inr (mem_free.mpr ⟨h0, h1, h2⟩), fun w h => (by cases h), fun w h => ?_, fun w h => ?_, ?_, ?_⟩
  · rcases h with h | h
    · cases h
    · have := mem_free.mp h
      exact ⟨this.1, this.2.1⟩
  · rcases h with h | h
    · cases h
    · exact .inl (mem_free.mp h).2.2
  · rcases h with h | h
    · cases h
    · have := mem_free.mp h
      exact g.no w this.1 this.2.1 this.2.2
  · cases e : free M Ws.length with
    | nil => exact .inr ⟨rfl, rfl⟩
    | cons a l =>
      have := mem_free.mp (e ▸ List.mem_cons_self .. : a ∈ free M Ws.length)
      exact .inl ⟨a, this⟩
  · have := len_free M Ws.length
    omega
theorem bi_old {Ws : List (List Int)} {M : Mp} {T : Int → Prop} {B wt : List Int} {w : Int} (b : Bi Ws M T B (wt ++ [w])) (hw : w ∈ B) : Bi Ws M T B wt := by
  have up : ∀ x, x ∈ B ∨ x ∈ wt → x ∈ B ∨ x ∈ wt ++ [w] := fun x h => h.imp id (List.mem_append_left _)
  have down : ∀ x, x ∈ B ∨ x ∈ wt ++ [w] → x ∈ B ∨ x ∈ wt := fun x h => by
    rcases h with h | h
    · exact .inl h
    · rcases List.mem_append.mp h with h | h
      · exact .inr h
      · have : x = w := by simpa using h
        exact .inl (this ▸ hw)
  refine ⟨b.nd, fun x h => b.rg x (up x h), fun x h0 h1 h2 => down x (b.un x h0 h1 h2), fun x hx h hh => ?_, fun x h => b.src x (up x h), fun x h => b.tt x (up x h), ?_, ?_⟩
  · obtain ⟨w', q, r⟩ := b.cl x hx h hh
    exact ⟨w', q, down w' r⟩
  · rcases b.em with q | q
    · exact .inl q
    · exact absurd q.2 (by simp)
  · have := b.len
    rw [List.length_append] at this
    omega
def nexts (Ws : List (List Int)) (M : Mp) (w : Int) : List Int := (adj Ws w).map fun h => (get M h).getD 0
theorem bi_new {Ws : List (List Int)} {M : Mp} {T : Int → Prop} {B wt : List Int} {w : Int} (hcl : Closed Ws M T) (ok : Okm Ws M) (h60 : ∀ x, (adj Ws x).length ≤ 60) (b : Bi Ws M T B (wt ++ [w])) (hw : w ∉ B) : Bi Ws M T (B ++ [w]) (wt ++ nexts Ws M w) := by
  have hwm : w ∈ wt ++ [w] := List.mem_append_right _ (by simp)
  have nx : ∀ x ∈ nexts Ws M w, ∃ h ∈ adj Ws w, get M h = some x ∧ (∀ j ∈ adj Ws x, T j) := fun x hx => by
    obtain ⟨h, hh, e⟩ := List.mem_map.mp hx
    obtain ⟨w', q, all⟩ := hcl h (b.tt w (.inr hwm) h hh)
    rw [q] at e
    have : w' = x := e
    subst this
    exact ⟨h, hh, q, all⟩
  have old : ∀ x, x ∈ B ++ [w] ∨ x ∈ wt ++ nexts Ws M w → (x ∈ B ∨ x ∈ wt ++ [w]) ∨ x ∈ nexts Ws M w := fun x h => by
    rcases h with h | h
    · rcases List.mem_append.mp h with h | h
      · exact .inl (.inl h)
      · exact .inl (.inr (List.mem_append_right _ h))
    · rcases List.mem_append.mp h with h | h
      · exact .inl (.inr (List.mem_append_left _ h))
      · exact .inr h
  have on : ∀ x, x ∈ B ∨ x ∈ wt ++ [w] → x ∈ B ++ [w] ∨ x ∈ wt ++ nexts Ws M w := fun x h => by
    rcases h with h | h
    · exact .inl (List.mem_append_left _ h)
    · rcases List.mem_append.mp h with h | h
      · exact .inr (List.mem_append_left _ h)
      · exact .inl (List.mem_append_right _ h)
  refine ⟨List.nodup_append.mpr ⟨b.nd, by simp, fun x hx y hy => ?_⟩, fun x h => ?_, fun x h0 h1 h2 => on x (b.un x h0 h1 h2), fun x hx h hh => ?_, fun x h => ?_, fun x h => ?_, ?_, ?_⟩
  · have : y = w := by simpa using hy
    rw [this]
    intro c
    exact hw (c ▸ hx)
  · rcases old x h with h | h
    · exact b.rg x h
    · obtain ⟨j, hj, q, _⟩ := nx x h
      have := ok.fit j x q
      exact ⟨this.1, this.2.1⟩
  · rcases List.mem_append.mp hx with hx | hx
    · obtain ⟨w', q, r⟩ := b.cl x hx h hh
      exact ⟨w', q, on w' r⟩
    · have : x = w := by simpa using hx
      rw [this] at hh
      obtain ⟨w', q, _⟩ := hcl h (b.tt w (.inr hwm) h hh)
      refine ⟨w', q, .inr (List.mem_append_right _ (List.mem_map.mpr ⟨h, hh, ?_⟩))⟩
      rw [q]
      rfl
  · rcases old x h with h | h
    · rcases b.src x h with q | ⟨w1, h1, j, hj, q⟩
      · exact .inl q
      · exact .inr ⟨w1, List.mem_append_left _ h1, j, hj, q⟩
    · obtain ⟨j, hj, q, _⟩ := nx x h
      exact .inr ⟨w, List.mem_append_right _ (by simp), j, hj, q⟩
  · rcases old x h with h | h
    · exact b.tt x h
    · obtain ⟨j, hj, q, all⟩ := nx x h
      exact all
  · rcases b.em with q | q
    · exact .inl q
    · exact absurd q.2 (by simp)
  · have := b.len
    have := h60 w
    rw [List.length_append] at *
    rw [List.length_append]
    unfold nexts
    rw [List.length_map]
    simp only [List.length_cons, List.length_nil] at *
    omega
/-- as many wishes are without a holder as the band has more than holders that fit -/
theorem band_count {Ws : List (List Int)} {M : Mp} {T : Int → Prop} {B D : List Int} (g : Got Ws M Ws.length T) (b : Bi Ws M T B []) (nd : D.Nodup) (hD : ∀ h, h ∈ D ↔ ∃ w ∈ B, h ∈ adj Ws w) : (free M Ws.length).length + D.length = B.length := by
  have inj : ∀ x ∈ D, ∀ y ∈ D, (get M x).getD 0 = (get M y).getD 0 → x = y := fun x hx y hy e => by
    obtain ⟨w, hw, hh⟩ := (hD x).mp hx
    obtain ⟨v, hv, hk⟩ := (hD y).mp hy
    obtain ⟨x', qx, _⟩ := b.cl w hw x hh
    obtain ⟨y', qy, _⟩ := b.cl v hv y hk
    rw [qx, qy] at e
    have e' : x' = y' := e
    subst e'
    have m1 := get_mem qx
    have m2 := get_mem qy
    by_cases c : x = y
    · exact c
    · exfalso
      have l := g.lo x'
      unfold cnt at l
      have two : ∀ (L : Mp), (x, x') ∈ L → (y, x') ∈ L → 2 ≤ L.countP fun p => decide (p.2 = x') := by
        intro L
        induction L with
        | nil => intro h; cases h
        | cons p L ih =>
          intro h1 h2
          rw [List.countP_cons]
          rcases List.mem_cons.mp h1 with e1 | e1
          · rcases List.mem_cons.mp h2 with e2 | e2
            · exact absurd (congrArg Prod.fst (e1.trans e2.symm)) c
            · have := List.countP_pos_iff (p := fun p : Int × Int => decide (p.2 = x')) |>.mpr ⟨_, e2, by simp⟩
              rw [← e1]
              simp only [decide_true, if_true]
              omega
          · rcases List.mem_cons.mp h2 with e2 | e2
            · have := List.countP_pos_iff (p := fun p : Int × Int => decide (p.2 = x')) |>.mpr ⟨_, e1, by simp⟩
              rw [← e2]
              simp only [decide_true, if_true]
              omega
            · have := ih e1 e2
              omega
      have := two M m1 m2
      omega
  have ndm : (D.map fun h => (get M h).getD 0).Nodup := nd_map nd inj
  have key : ∀ x, x ∈ free M Ws.length ++ D.map (fun h => (get M h).getD 0) ↔ x ∈ B := fun x => by
    rw [List.mem_append]
    constructor
    · rintro (h | h)
      · have := mem_free.mp h
        exact (b.un x this.1 this.2.1 this.2.2).resolve_right (by simp)
      · obtain ⟨h', hh, e⟩ := List.mem_map.mp h
        obtain ⟨w, hw, hf⟩ := (hD h').mp hh
        obtain ⟨w', q, r⟩ := b.cl w hw h' hf
        rw [q] at e
        have : w' = x := e
        exact this ▸ r.resolve_right (by simp)
    · intro hx
      rcases b.src x (.inl hx) with q | ⟨w1, hw1, h, hh, q⟩
      · have := b.rg x (.inl hx)
        exact .inl (mem_free.mpr ⟨this.1, this.2, q⟩)
      · refine .inr (List.mem_map.mpr ⟨h, (hD h).mpr ⟨w1, hw1, hh⟩, ?_⟩)
        rw [q]
        rfl
  have nda : (free M Ws.length ++ D.map (fun h => (get M h).getD 0)).Nodup := by
    refine List.nodup_append.mpr ⟨nd_free _ _, ndm, fun x hx y hy c => ?_⟩
    subst c
    obtain ⟨h', hh, e⟩ := List.mem_map.mp hy
    obtain ⟨w, hw, hf⟩ := (hD h').mp hh
    obtain ⟨w', q, r⟩ := b.cl w hw h' hf
    rw [q] at e
    have : w' = x := e
    subst this
    have := cnt_pos (get_mem q)
    have z := (mem_free.mp hx).2.2
    have : 0 < cnt M w' := this
    omega
  have := nd_eq nda b.nd key
  rw [List.length_append, List.length_map] at this
  exact this
end My

set_option Elab.async false
set_option linter.all false
set_option maxRecDepth 100000
set_option maxHeartbeats 4000000
namespace My
open PySem PySem.Spec PyProof.Rows L2
/-! ### own words over the layer -/
/-- a def that is called by its name and lets nothing out -/
def Cal (P : Program) (w : World) (K : PySem.W.Frag) (mg : Str → Option Value) (base : Heap) (k : Nat) (x : Str) (sp : Sp) : Prop :=
  ∃ (f : Addr) (fd : FuncData) (ps : List Str), FnOk P w K mg base CX0 k f fd ps sp ∧ mg x = some (.ref f) ∧ PySem.W.keepIn K (.ref f) = true ∧ Binds K fd ps []
theorem pe_cal {X : Cx} {k j : Nat} {x : Str} {sp : Sp} {p pos : Pos} {e : Expr} {es : List Expr} {t : TA} (c : Cal X.prog X.w X.K X.mg X.base k x sp) (hr : Room j X.A) (hk : k ≤ j) (hg : Gl X x) (ha : PA X (e :: es) t)
    (hdb : (x == ("__debug__" : Str)) = false := by decide) (he : starEach (e :: es) X.env = (false, eval e X.env) :: starEach es X.env := by rfl) (hpl : (backTo pos (starEach es X.env)).any (·.1) = false := by rfl) :
    PE X (.Call (.Name x p) (e :: es) [] pos) (tCall sp [] E0 t) := by
  obtain ⟨f, fd, ps, F, hm, kp, b⟩ := c
  exact pe_call F (hr.mono hk) hg hm kp b .nil pass0 ha hdb he hpl
theorem same_upd {H : Hp} {p : Addr} {o : HO} (h : H p = none) : Same H (upd H p o) := fun b x e => by
  rw [upd_ne (ne_of_none e h)]
  exact e
/-- a list or tuple of the given values, by its places -/
theorem atI_of {xs : List V} {z : Int} {v : V} (h0 : 0 ≤ z) (h : xs[z.toNat]? = some v) : atI xs z = some v := by
  have e : z = (z.toNat : Int) := (Int.toNat_of_nonneg h0).symm
  rw [e]
  exact atI_nat h
theorem ixN_nat {n : Nat} {j : Nat} (h : j < n) : ixN n (j : Int) = some j := by
  unfold ixN
  simp
  omega
/-! ### the bag -/
def Bag (H : Hp) (p : Addr) : Prop := ∃ g s : Int, H p = some (.lst [.int g, .int s]) ∧ 0 ≤ g ∧ 0 ≤ s ∧ s < 2147483648
/-- all stands but the bag at p -/
def Sx (p : Addr) (H H' : Hp) : Prop := ∀ b o, b ≠ p → H b = some o → H' b = some o
def topS (i : Nat) : Stmt := PySem.Challenge.pw_whistleboard_k11_paired.main.body.getD i (.Pass ⟨0, 0, 0, 0⟩)
structure Txt (mg : Str → Option Value) : Prop where
  z_len : mg "len" = none
  z_abs : mg "abs" = none
  z_all : mg "all" = none
  z_str : mg "str" = none
  z_int : mg "int" = none
  z_isinstance : mg "isinstance" = none
  z_range : mg "range" = none
  z_max : mg "max" = none
  z_min : mg "min" = none
  z_bool : mg "bool" = none
  z_list : mg "list" = none
  z_tuple : mg "tuple" = none
  z_enumerate : mg "enumerate" = none
  z_zip : mg "zip" = none
  z_sorted : mg "sorted" = none
theorem Sx.of {p : Addr} {H H' : Hp} (h : ∀ b, b ≠ p → H' b = H b) : Sx p H H' := fun b o hb e => by
  rw [h b hb]
  exact e
theorem Sx.trans {p : Addr} {H H1 H2 : Hp} (a : Sx p H H1) (b : Sx p H1 H2) : Sx p H H2 := fun c o hc e => b c o hc (a c o hc e)
theorem Sx.same {p : Addr} {H H' : Hp} (h : Same H H') : Sx p H H' := fun b o _ e => h b o e
theorem Sx.toSame {p : Addr} {H H1 H2 : Hp} (a : Same H H1) (b : Sx p H1 H2) (np : H p = none) : Same H H2 := fun c o e => b c o (ne_of_none e np) (a c o e)
theorem Bag.some {p : Addr} {H : Hp} (h : Bag H p) : ∃ o, H p = some o := by
  obtain ⟨g, s, e, _⟩ := h
  exact ⟨_, e⟩
theorem Bag.same {p : Addr} {H H' : Hp} (h : Bag H p) (sm : Same H H') : Bag H' p := by
  obtain ⟨g, s, e, r⟩ := h
  exact ⟨g, s, sm _ _ e, r⟩
theorem Bag.ne {p l : Addr} {H : Hp} (h : Bag H p) (hl : H l = none) : l ≠ p := fun e => by
  obtain ⟨o, q⟩ := h.some
  rw [e, q] at hl
  cases hl
theorem neF (v : V) : V.bl (!decide (v = v)) = V.bl false := by
  rw [decide_eq_true rfl]
  rfl
theorem isF' {v : V} (h : v ≠ .non) : V.bl (decide (v = V.non)) = V.bl false := by
  rw [decide_eq_false h]
/-- no test in a comprehension -/
theorem yesI {σ : L2.St} {H : Hp} {A B : Hp → Prop} (h : A H) : tYes σ H (fun b H3 => if b = true then A H3 else B H3) := by
  show if true = true then A H else B H
  exact iteT h
theorem cal_mk {P : Program} {w : World} {K : PySem.W.Frag} {mg : Str → Option Value} {base : Heap} {k : Nat} {x : Str} {sp : Sp} {f : Addr} {fd : FuncData} {ps : List Str} (F : FnOk P w K mg base CX0 k f fd ps sp) (g : mg x = some (.ref f)) (kp : PySem.W.keepIn K (.ref f) = true) (b : Binds K fd ps []) : Cal P w K mg base k x sp := ⟨f, fd, ps, F, g, kp, b⟩
theorem pe_glob' {X : Cx} {x : Str} {pos : Pos} {i : Int} (h : ∃ t, X.mg x = some (.int i t)) (hg : Gl X x) (hd : (x == ("__debug__" : Str)) = false := by decide) : PE X (.Name x pos) (tC (.int i)) := by
  obtain ⟨t, e⟩ := h
  exact pe_glob hg e ⟨_, rfl⟩ (hd := hd)
theorem pe_globS {X : Cx} {x : Str} {pos : Pos} {i : Str} (h : ∃ t, X.mg x = some (.str i t)) (hg : Gl X x) (hd : (x == ("__debug__" : Str)) = false := by decide) : PE X (.Name x pos) (tC (.str i)) := by
  obtain ⟨t, e⟩ := h
  exact pe_glob hg e ⟨_, rfl⟩ (hd := hd)
section
variable {P : Program} {w : World} {K : PySem.W.Frag} {mg : Str → Option Value} {base : Heap}
/-! ### _law_take -/
abbrev s_law_take : Stmt := topS 6
abbrev N_law_take : List Str := ["_law_bag_here", "_law_many", "_law_digit"]
theorem sc_law_take : FnScope N_law_take ["_law_bag_here", "_law_many"] (defScope s_law_take) := ⟨rfl, rfl, rfl, by decide +kernel, rfl, by decide +kernel, by decide +kernel⟩
def sp_law_take : Sp := fun vs H Q _ => ∃ (p : Addr) (m : Int), vs = [.ref p, .int m] ∧ Bag H p ∧ 0 < m ∧ m < 1073741824 ∧
  ∀ d H', 0 ≤ d → d < m → Bag H' p → (∀ b, b ≠ p → H' b = H b) → Q (.int d) H'
theorem ok_law_take {f : Addr} {fd : FuncData} {k : Nat} (F : Fun K "_law_take" "_law_take" s_law_take f fd) : FnOk P w K mg base CX0 (k + 1) f fd ["_law_bag_here", "_law_many"] sp_law_take := by
  refine F.ok sc_law_take (fun vs H Q E h => ?_) (fun cdv A outer s H vs Q E hr h => ?_)
  · obtain ⟨p, m, rfl, _⟩ := h
    rfl
  · obtain ⟨p, m, rfl, ⟨g, sd, hp, hg, h0, h1⟩, hm0, hm1, q⟩ := h
    refine ⟨_, (pss_cons (ps_if (pt_cmpR op_gt (pe_ix ix_list (pv 0) pe_int (fun _ _ => rfl)) pe_int (nomark _)) (pss_cons (ps_set (i := 2) sc_law_take.nd rfl (.inl rfl) (pe_op op_mod (pe_ix ix_list (pv 0) pe_int (fun _ _ => rfl)) (pv 1)))
        (pss_cons (ps_asg (pe_op op_fdiv (pe_ix ix_list (pv 0) pe_int (fun _ _ => rfl)) (pv 1)) (pg_sub (pv 0) pe_int set_list))
        (pss_one (ps_ret (pv 2))))) pss_nil)
      (pss_cons (ps_asg (pe_op op_mod (pe_op op_add (pe_op op_mul (pe_ix ix_list (pv 0) pe_int (fun _ _ => rfl)) pe_int) pe_int) pe_int) (pg_sub (pv 0) pe_int set_list))
      (pss_one (ps_ret (pe_op op_mod (pe_op op_mod (pe_op op_pow (pe_op op_fdiv (pe_ix ix_list (pv 0) pe_int (fun _ _ => rfl)) pe_int) pe_int) pe_int) (pv 1)))))), ?_⟩
    have hL : SqL K H p [.int g, .int sd] := SqL.of hp
    refine ⟨_, rfl, p, _, 0, .int g, rfl, rfl, hL, atI_nat (j := 0) rfl, _, _, rfl, rfl, _, rfl, ite2 (fun e => ?_) (fun e => ?_)⟩
    · have eg : (0 : Int) < g := of_decide_eq_true e
      refine ⟨_, rfl, p, _, 0, .int g, rfl, rfl, hL, atI_nat (j := 0) rfl, _, rfl, _, _, rfl, rfl, hm0, ?_⟩
      refine ⟨_, rfl, p, _, 0, .int g, rfl, rfl, hL, atI_nat (j := 0) rfl, _, rfl, _, _, rfl, rfl, ⟨hm0, hm1⟩, ?_⟩
      refine ⟨_, rfl, p, _, 0, 0, rfl, rfl, hp, rfl, ?_⟩
      refine ⟨_, rfl, ?_⟩
      refine q _ _ (Int.emod_nonneg _ (by omega)) (Int.emod_lt_of_pos _ hm0) ⟨g / m, sd, upd_same, Int.ediv_nonneg hg (by omega), h0, h1⟩ (fun b hb => upd_ne hb)
    · refine ⟨_, rfl, p, _, 1, .int sd, rfl, rfl, hL, atI_nat (j := 1) rfl, _, _, rfl, rfl, .inl ⟨by omega, by omega⟩, _, _, rfl, rfl, _, _, rfl, rfl, (by show (0 : Int) < 2147483647; decide), ?_⟩
      refine ⟨_, rfl, p, _, 1, 1, rfl, rfl, hp, rfl, ?_⟩
      have e0 : 0 ≤ (sd * 48271 + 11) % 2147483647 := Int.emod_nonneg _ (by decide)
      have e1 : (sd * 48271 + 11) % 2147483647 < 2147483647 := Int.emod_lt_of_pos _ (by decide)
      refine ⟨_, rfl, p, _, 1, .int ((sd * 48271 + 11) % 2147483647), rfl, rfl, SqL.of upd_same, atI_nat (j := 1) rfl, _, _, rfl, rfl, ⟨by decide, by decide⟩, _, _, rfl, rfl, ⟨by decide, by decide, by omega⟩, _, _, rfl, rfl, (by show (0 : Int) < 2147483629; decide), _, rfl, _, _, rfl, rfl, hm0, ?_⟩
      refine q _ _ (Int.emod_nonneg _ (by omega)) (Int.emod_lt_of_pos _ hm0) ⟨g, _, upd_same, hg, e0, by omega⟩ (fun b hb => upd_ne hb)
/-! ### _law_bag -/
abbrev s_law_bag : Stmt := topS 5
abbrev N_law_bag : List Str := ["_law_script", "_law_at", "_law_cell", "_law_great", "_law_primes"]
theorem sc_law_bag : FnScope N_law_bag ["_law_script", "_law_at"] (defScope s_law_bag) := ⟨rfl, rfl, rfl, by decide +kernel, rfl, by decide +kernel, by decide +kernel⟩
def primes : List Int := [2147483629, 2147483587, 2147483579, 2147483563, 2147483549, 2147483543, 2147483497, 2147483489]
theorem primes_at (j : Nat) (h : j < 8) : ∃ p : Int, primes[j]? = some p ∧ 0 < p ∧ p < 2147483648 := by
  have q : ∀ j : Nat, j < 8 → ∃ p : Int, primes[j]? = some p ∧ 0 < p ∧ p < 2147483648 := fun j h =>
    match j, h with
    | 0, _ => ⟨_, rfl, by decide, by decide⟩ | 1, _ => ⟨_, rfl, by decide, by decide⟩ | 2, _ => ⟨_, rfl, by decide, by decide⟩ | 3, _ => ⟨_, rfl, by decide, by decide⟩
    | 4, _ => ⟨_, rfl, by decide, by decide⟩ | 5, _ => ⟨_, rfl, by decide, by decide⟩ | 6, _ => ⟨_, rfl, by decide, by decide⟩ | 7, _ => ⟨_, rfl, by decide, by decide⟩
    | n + 8, h => absurd h (by omega)
  exact q j h
def sp_law_bag (K : PySem.W.Frag) : Sp := fun vs H Q _ => ∃ (a : Addr) (ns : List Int) (at_ : Int), vs = [.ref a, .int at_] ∧ SqL K H a (ns.map V.int) ∧ 0 ≤ at_ ∧ at_ < 1000000 ∧
  ∀ H' p, Same H H' → H p = none → Bag H' p → Q (.ref p) H'
theorem ok_law_bag {f : Addr} {fd : FuncData} {k : Nat} (F : Fun K "_law_bag" "_law_bag" s_law_bag f fd) (T : Txt mg) : FnOk P w K mg base CX0 (k + 1) f fd ["_law_script", "_law_at"] (sp_law_bag K) := by
  refine F.ok sc_law_bag (fun vs H Q E h => ?_) (fun cdv A outer s H vs Q E hr h => ?_)
  · obtain ⟨a, ns, m, rfl, _⟩ := h
    rfl
  · obtain ⟨a, ns, m, rfl, hS, hm0, hm1, q⟩ := h
    refine ⟨_, (pss_cons (ps_set (i := 2) sc_law_bag.nd rfl (.inl rfl) pe_int)
      (pss_cons (ps_if (pt_cmpR op_gt (pe_callB call_len_seq (by rfl) T.z_len (by decide +kernel) (pa_cons (pv 0) pa_nil)) pe_int (nomark _)) (pss_one (ps_set (i := 2) sc_law_bag.nd rfl (.inl rfl) (pe_ix ix_list (pv 0) (pe_op op_mod (pv 1) (pe_callB call_len_seq (by rfl) T.z_len (by decide +kernel) (pa_cons (pv 0) pa_nil))) (fun _ _ => rfl)))) pss_nil)
      (pss_cons (ps_set (i := 3) sc_law_bag.nd rfl (.inl rfl) pe_int)
      (pss_cons (ps_if (PW.pt (pw_and (pt_cmpR op_ge (pe_callB call_abs (by rfl) T.z_abs (by decide +kernel) (pa_cons (pv 2) pa_nil)) (pe_op op_pow pe_int pe_int) (nomark _)) (pw_and1 (pt_cmpR op_lt (pv 1) (pe_callB call_len_seq (by rfl) T.z_len (by decide +kernel) (pa_cons (pv 0) pa_nil)) (nomark _))))) (pss_one (ps_set (i := 3) sc_law_bag.nd rfl (.inl rfl) (pe_callB call_abs (by rfl) T.z_abs (by decide +kernel) (pa_cons (pv 2) pa_nil)))) pss_nil)
      (pss_cons (ps_set (i := 4) sc_law_bag.nd rfl (.inl rfl) (pe_tup (pa_cons pe_int (pa_cons pe_int (pa_cons pe_int (pa_cons pe_int (pa_cons pe_int (pa_cons pe_int (pa_cons pe_int (pa_cons pe_int pa_nil))))))))))
      (pss_one (ps_ret (pe_lst (pa_cons (pv 3) (pa_cons (pe_op op_mod (pe_op op_pow (pe_op op_add (pe_op op_add (pe_op op_mod (pv 2) pe_int) (pe_op op_mul pe_int (pv 1))) pe_int) pe_int) (pe_ix ix_tup (pv 4) (pe_op op_mod (pv 1) pe_int) (fun _ _ => rfl))) pa_nil)))))))))), ?_⟩
    have nat8 : (m % 8).toNat < 8 := by omega
    obtain ⟨pr, hpr, pr0, pr1⟩ := primes_at _ nat8
    have hat : atI (primes.map V.int) (m % 8) = some (.int pr) := atI_of (by omega) (by rw [List.getElem?_map, hpr]; rfl)
    -- the way's last part, for any cell and great
    have hcell : ∀ x : Int, (x % 2147483647 + 104729 * m + 7).natAbs < 2 ^ 64 := fun x => by omega
    have two : ∀ {A B : Prop} {b : Bool}, (b = true → A) → (b = false → B) → if b = true then A else B := fun {A B b} h1 h2 => by
      cases b
      · exact iteF (h2 rfl)
      · exact iteT (h1 rfl)
    refine ⟨_, rfl, a, _, rfl, .inl hS, _, _, rfl, rfl, _, rfl, ite2 (fun e => ?g1) (fun e => ?g2)⟩
    case' g1 =>
      have e0 : 0 < ns.length := by
        have z : (0 : Int) < ((ns.map V.int).length : Nat) := of_decide_eq_true e
        rw [List.length_map] at z
        omega
      have hl : (m % ((ns.map V.int).length : Nat)).toNat < ns.length := by
        rw [List.length_map]
        have z1 : 0 ≤ m % (ns.length : Int) := Int.emod_nonneg _ (by omega)
        have z2 : m % (ns.length : Int) < (ns.length : Int) := Int.emod_lt_of_pos _ (by omega)
        omega
      have hc : atI (ns.map V.int) (m % ((ns.map V.int).length : Nat)) = some (.int (ns[(m % ((ns.map V.int).length : Nat)).toNat])) := atI_of (Int.emod_nonneg _ (by rw [List.length_map]; omega)) (by rw [List.getElem?_map, List.getElem?_eq_getElem hl]; rfl)
      refine ⟨_, rfl, _, rfl, _, rfl, a, _, rfl, .inl hS, _, _, rfl, rfl, (by show (0 : Int) < _; rw [List.length_map]; omega), a, _, _, _, rfl, rfl, hS, hc, ?_⟩
      generalize ns[(m % ((ns.map V.int).length : Nat)).toNat] = c
    all_goals
      refine ⟨_, rfl, _, rfl, _, _, rfl, rfl, ⟨by decide, by decide, by decide⟩, _, _, rfl, rfl, _, rfl, ite2 (fun e1 => ?_) (fun e1 => ?_)⟩
    all_goals first
      | refine ⟨_, rfl, _, rfl, a, _, rfl, .inl hS, _, _, rfl, rfl, _, rfl, ite2 (fun e2 => ?_) (fun e2 => ?_)⟩
      | refine iteF ?_
    all_goals try refine ⟨_, rfl, _, rfl, ?_⟩
    all_goals
      refine ⟨(by show 8 ≤ sizeLine; decide), fun tp ntp => ?_⟩
      refine ⟨_, rfl, _, rfl, _, _, rfl, rfl, (by show (0 : Int) < 2147483647; decide), _, rfl, _, _, rfl, rfl, .inl ⟨by decide, by decide⟩, _, _, rfl, rfl, _, _, rfl, rfl, _, _, rfl, rfl, ⟨by decide, by decide, hcell _⟩, _, rfl, _, rfl, _, _, rfl, rfl, (by show (0 : Int) < 8; decide), tp, _, _, _, rfl, rfl, SqT.of (xs := primes.map V.int) upd_same, hat, _, _, rfl, rfl, pr0, (by show 2 ≤ sizeLine; decide), fun p np => ?_⟩
      refine q _ p ((same_upd ntp).trans (same_upd np)) ((same_upd ntp).free np) ⟨_, _, upd_same, ?_, Int.emod_nonneg _ (by omega), Int.lt_trans (Int.emod_lt_of_pos _ pr0) pr1⟩
      first | decide | (split <;> omega)

end
end My

set_option Elab.async false
set_option linter.all false
set_option maxRecDepth 100000
set_option maxHeartbeats 4000000
namespace My
open PySem PySem.Spec PyProof.Rows L2
/-! ### the dicts of the program -/
def enc (M : Mp) : List (Key × V) := M.map fun p => (Sum.inl p.1, V.int p.2)
def encT (tr : List Int) : List (Key × V) := tr.map fun h => (Sum.inl h, V.bl true)
theorem inl_eq {a b : Int} : ((Sum.inl a : Key) = Sum.inl b) ↔ a = b := ⟨fun e => Sum.inl.inj e, fun e => congrArg _ e⟩
theorem valV_enc (M : Mp) (h : Int) : valV (enc M) (Sum.inl h : Key) = (get M h).map V.int := by
  induction M with
  | nil => rfl
  | cons p M ih =>
    show valV ((Sum.inl p.1, V.int p.2) :: enc M) (Sum.inl h : Key) = _
    rw [get_cons]
    by_cases e : p.1 = h
    · rw [valV_pos (inl_eq.mpr e), if_pos e]; rfl
    · rw [valV_neg (fun c => e (inl_eq.mp c)), if_neg e, ih]
theorem putK_enc (M : Mp) (h w : Int) : putK (enc M) (Sum.inl h : Key) (V.int w) = enc (put M h w) := by
  unfold putK put
  rw [valV_any, valV_enc, any_get, Option.isSome_map]
  by_cases c : (get M h).isSome = true
  · rw [if_pos c, if_pos c]
    unfold enc
    rw [List.map_map, List.map_map]
    apply List.map_congr_left
    intro p _
    show (if (Sum.inl p.1 : Key) = Sum.inl h then ((Sum.inl p.1 : Key), V.int w) else (Sum.inl p.1, V.int p.2)) = (Sum.inl (if p.1 = h then (p.1, w) else p).1, V.int (if p.1 = h then (p.1, w) else p).2)
    by_cases e : p.1 = h
    · rw [if_pos (inl_eq.mpr e), if_pos e]
    · rw [if_neg (fun c => e (inl_eq.mp c)), if_neg e]
  · rw [if_neg c, if_neg c]
    unfold enc
    rw [List.map_append]
    rfl
theorem valV_encT (tr : List Int) (h : Int) : (valV (encT tr) (Sum.inl h : Key)).isSome = decide (h ∈ tr) := by
  induction tr with
  | nil => rfl
  | cons p M ih =>
    show (valV ((Sum.inl p, V.bl true) :: encT M) (Sum.inl h : Key)).isSome = _
    by_cases e : p = h
    · rw [valV_pos (inl_eq.mpr e)]
      simp [e]
    · rw [valV_neg (fun c => e (inl_eq.mp c)), ih]
      have : ¬ h = p := fun c => e c.symm
      simp [this]
theorem putK_encT {tr : List Int} {h : Int} (nh : h ∉ tr) : putK (encT tr) (Sum.inl h : Key) (V.bl true) = encT (tr ++ [h]) := by
  unfold putK
  rw [valV_any, valV_encT, decide_eq_false nh, if_neg Bool.false_ne_true]
  unfold encT
  rw [List.map_append]
  rfl
/-! ### the wishes in the heap -/
def WsAt (H : Hp) (wa : Addr) (Ws : List (List Int)) : Prop := ∃ as : List Addr, H wa = some (.lst (as.map V.ref)) ∧ as.length = Ws.length ∧ ∀ (i : Nat) (a : Addr), as[i]? = some a → H a = some (.lst ((Ws.getD i []).map V.int))
/-- lists stand -/
def Lk (H H' : Hp) : Prop := ∀ b xs, H b = some (.lst xs) → H' b = some (.lst xs)
theorem WsAt.keep {H H' : Hp} {wa : Addr} {Ws : List (List Int)} (h : WsAt H wa Ws) (k : Lk H H') : WsAt H' wa Ws := by
  obtain ⟨as, e, hl, all⟩ := h
  exact ⟨as, k _ _ e, hl, fun i a q => k _ _ (all i a q)⟩
theorem Lk.trans {H H1 H2 : Hp} (a : Lk H H1) (b : Lk H1 H2) : Lk H H2 := fun c xs e => b c xs (a c xs e)
theorem Lk.same {H H' : Hp} (h : Same H H') : Lk H H' := fun b xs e => h b _ e
theorem Lk.dict {H : Hp} {d : Addr} {kvs : List (Key × V)} {o : HO} (e : H d = some (.dK kvs)) : Lk H (upd H d o) := fun b xs eb => by
  rw [upd_ne (fun c => by rw [c, e] at eb; cases eb)]
  exact eb
structure Wr (Ws : List (List Int)) : Prop where
  n : Ws.length ≤ 24
  len : ∀ x, (adj Ws x).length ≤ 60
  rg : ∀ x, ∀ h ∈ adj Ws x, 0 ≤ h ∧ h < 60
def all60 : List Int := (List.range 60).map fun (i : Nat) => (i : Int)
theorem mem60 {h : Int} (r : 0 ≤ h ∧ h < 60) : h ∈ all60 := List.mem_map.mpr ⟨h.toNat, List.mem_range.mpr (by omega), by omega⟩
theorem len60 : all60.length = 60 := by
  unfold all60
  rw [List.length_map, List.length_range]
theorem Tr.len {tr : List Int} (t : Tr tr) : tr.length ≤ 60 := by
  have := nd_le tr all60 t.nd fun x hx => mem60 (t.rg x hx)
  rw [len60] at this
  exact this
theorem Tr.full {tr : List Int} {h : Int} (t : Tr tr) (nh : h ∉ tr) (r : 0 ≤ h ∧ h < 60) : tr.length < 60 := by
  have := (t.snoc nh r).len
  rw [List.length_append] at this
  simp only [List.length_cons, List.length_nil] at this
  omega
theorem Okm.len {Ws : List (List Int)} {M : Mp} (ok : Okm Ws M) (W : Wr Ws) : M.length ≤ 60 := by
  have e : (keys M).length ≤ all60.length := nd_le (keys M) all60 ok.nd fun h hh => by
    cases q : get M h with
    | none => exact absurd hh (get_none_iff.mp q)
    | some w => exact mem60 (W.rg w h (ok.fit h w q).2.2)
  rw [len60, List.length_map] at e
  exact e
section
variable {P : Program} {w : World} {K : PySem.W.Frag} {mg : Str → Option Value} {base : Heap}
abbrev s_find_holder : Stmt := topS 2
abbrev N_find_holder : List Str := ["wishes", "wish_of", "wish", "tried", "holder"]
theorem sc_find_holder : FnScope N_find_holder ["wishes", "wish_of", "wish", "tried"] (defScope s_find_holder) := ⟨rfl, rfl, rfl, by decide +kernel, rfl, by decide +kernel, by decide +kernel⟩
def sp_find (n : Nat) : Sp := fun vs H Q _ => ∃ (wa da ta : Addr) (wish : Int) (Ws : List (List Int)) (M : Mp) (tr : List Int), vs = [.ref wa, .ref da, .int wish, .ref ta] ∧ WsAt H wa Ws ∧ Wr Ws ∧ H da = some (.dK (enc M)) ∧ H ta = some (.dK (encT tr)) ∧ da ≠ ta ∧
  0 ≤ wish ∧ wish < Ws.length ∧ Okm Ws M ∧ Tr tr ∧ 60 ≤ tr.length + n ∧
  (∀ M' tr' H', Succ Ws M tr wish M' tr' → H' da = some (.dK (enc M')) → H' ta = some (.dK (encT tr')) → (∀ b, b ≠ da → b ≠ ta → H' b = H b) → Q (.bl true) H') ∧
  (∀ tr' H', Fail Ws M tr wish tr' → H' da = some (.dK (enc M)) → H' ta = some (.dK (encT tr')) → (∀ b, b ≠ da → b ≠ ta → H' b = H b) → Q (.bl false) H')
def sp_findR : Nat → Sp
  | 0 => fun _ _ _ _ => False
  | n + 1 => sp_find n
theorem ok_find_step {f : Addr} {fd : FuncData} {n : Nat} (F : Fun K "find_holder" "find_holder" s_find_holder f fd) (C_find_holder : Cal P w K mg base n "find_holder" (sp_findR n)) : FnOk P w K mg base CX0 (n + 1) f fd ["wishes", "wish_of", "wish", "tried"] (sp_find n) := by
  refine F.ok sc_find_holder (fun vs H Q E h => ?_) (fun cdv A outer s H vs Q E hr h => ?_)
  · obtain ⟨wa, da, ta, wish, Ws, M, tr, rfl, _⟩ := h
    rfl
  · obtain ⟨wa, da, ta, wish, Ws, M, tr, rfl, hW, W, hd, ht, ndt, hw0, hw1, ok, tk, hn, qT, qF⟩ := h
    refine ⟨_, (pss_cons (ps_for PassesOwn.never rfl (pi_list (pe_ix ix_list (pv 0) (pv 2) (fun _ _ => rfl))) (pg_name (i := 4) sc_find_holder.nd rfl (.inl rfl))
        (pss_one (ps_if (pt_cmp (pc_dnotin (hu_of hr) (pv 4) (pv 3))) (pss_cons (ps_dput (hu_of hr) (pv 3) (pv 4) pe_bl rfl)
          (pss_one (ps_if (PW.pt (pw_or (pt_cmp (pc_dnotin (hu_of hr) (pv 4) (pv 1))) (pw_or1 (pt_val (pe_cal C_find_holder hr (Nat.le_refl _) (by rfl) (pa_cons (pv 0) (pa_cons (pv 1) (pa_cons (pe_dget (hu_of hr) (pv 1) (pv 4) (fun _ _ => rfl)) (pa_cons (pv 3) pa_nil))))))))) (pss_cons (ps_dput (hu_of hr) (pv 1) (pv 4) (pv 2) rfl)
            (pss_one (ps_ret pe_bl))) pss_nil))) pss_nil)))
      (pss_one (ps_ret pe_bl))), ?_⟩
    obtain ⟨as, hwa, hal, hat⟩ := hW
    have hwn : wish.toNat < as.length := by omega
    have hwl : as[wish.toNat]? = some as[wish.toNat] := List.getElem?_eq_getElem hwn
    have hll : H as[wish.toNat] = some (.lst ((adj Ws wish).map V.int)) := hat _ _ hwl
    generalize as[wish.toNat] = lw at hwl hll
    refine ⟨_, rfl, _, rfl, wa, _, wish, .ref lw, rfl, rfl, SqL.of hwa, atI_of hw0 (by rw [List.getElem?_map, hwl]; rfl), lw, rfl, ⟨_, SqL.of hll⟩, ?_⟩
    refine for_list (K := K) (a := lw) (xs := (adj Ws wish).map V.int) (fun i σ H' => (∃ y, σ = [some (.ref wa), some (.ref da), some (.int wish), some (.ref ta), y]) ∧ (∀ b, b ≠ da → b ≠ ta → H' b = H b) ∧ H' da = some (.dK (enc M)) ∧ ∃ ti, H' ta = some (.dK (encT ti)) ∧ Half Ws M tr ti ∧ ∀ h ∈ (adj Ws wish).take i, h ∈ ti)
      ⟨⟨_, rfl⟩, fun _ _ _ => rfl, hd, tr, ht, Half.refl tk, fun h hh => (by simp at hh)⟩ (fun i σ H' _ p => ?_) ?_ ?_
    · obtain ⟨_, fr, _⟩ := p
      refine SqL.of ?_
      rw [fr lw (fun c => by rw [c, hd] at hll; cases hll) (fun c => by rw [c, ht] at hll; cases hll)]
      exact hll
    · rintro i x σ H1 hx ⟨⟨y, rfl⟩, fr, hd1, ti, ht1, hf, hin⟩
      obtain ⟨h, hh, rfl⟩ : ∃ h : Int, (adj Ws wish)[i]? = some h ∧ x = .int h := by
        rw [List.getElem?_map] at hx
        cases e : (adj Ws wish)[i]? with
        | none => rw [e] at hx; cases hx
        | some v => rw [e] at hx; exact ⟨v, rfl, (Option.some.inj hx).symm⟩
      have hmem : h ∈ adj Ws wish := List.mem_of_getElem? hh
      have htake : (adj Ws wish).take (i + 1) = (adj Ws wish).take i ++ [h] := by
        rw [List.take_add_one, hh]
        rfl
      have hrg := W.rg wish h hmem
      refine ⟨_, rfl, _, rfl, ta, _, rfl, DGet.k (k := Sum.inl h) ht1, _, rfl, ?_⟩
      rw [valV_encT]
      by_cases hti : h ∈ ti
      · rw [decide_eq_true hti]
        refine iteF ?_
        refine ⟨⟨_, rfl⟩, fr, hd1, ti, ht1, hf, fun j hj => ?_⟩
        rw [htake] at hj
        rcases List.mem_append.mp hj with q | q
        · exact hin j q
        · have : j = h := by simpa using q
          exact this ▸ hti
      · rw [decide_eq_false hti]
        refine iteT ?_
        have hl60 : (encT ti).length < sizeLine := by
          unfold encT
          rw [List.length_map]
          exact Nat.lt_of_le_of_lt hf.tk.len (by decide)
        refine ⟨_, rfl, _, rfl, ta, _, rfl, DPut.k (k := Sum.inl h) ht1 hl60, ?_⟩
        rw [putK_encT hti]
        have hd2 : (upd H1 ta (.dK (encT (ti ++ [h])))) da = some (.dK (enc M)) := by
          rw [upd_ne ndt]
          exact hd1
        have ht2 : (upd H1 ta (.dK (encT (ti ++ [h])))) ta = some (.dK (encT (ti ++ [h]))) := upd_same
        have fr2 : ∀ b, b ≠ da → b ≠ ta → (upd H1 ta (.dK (encT (ti ++ [h])))) b = H b := fun b b1 b2 => by
          rw [upd_ne b2]
          exact fr b b1 b2
        generalize upd H1 ta (.dK (encT (ti ++ [h]))) = H2 at hd2 ht2 fr2
        have hlM : (enc M).length < sizeLine := by
          unfold enc
          rw [List.length_map]
          exact Nat.lt_of_le_of_lt (ok.len W) (by decide)
        refine ⟨_, rfl, _, rfl, da, _, rfl, DGet.k (k := Sum.inl h) hd2, _, rfl, ?_⟩
        rw [valV_enc]
        cases e : get M h with
        | none =>
          refine iteT ?_
          refine ⟨_, rfl, _, rfl, _, rfl, da, _, rfl, DPut.k (k := Sum.inl h) hd2 hlM, ?_⟩
          rw [putK_enc]
          refine qT _ _ _ (succ_free ok ⟨hw0, hw1⟩ hf hmem hti hrg e) upd_same (by rw [upd_ne ndt.symm]; exact ht2) (fun b b1 b2 => by rw [upd_ne b1]; exact fr2 b b1 b2)
        | some w2 =>
          refine iteF ?_
          have hlen := hf.tk.full hti hrg
          have hsub : tr.length ≤ ti.length := nd_le tr ti tk.nd hf.sub
          cases n with
          | zero => exact absurd hlen (by omega)
          | succ n =>
            have ft := ok.fit h w2 e
            have lk : Lk H H2 := fun b xs eb => by
              rw [fr2 b (fun c => by rw [c, hd] at eb; cases eb) (fun c => by rw [c, ht] at eb; cases eb)]
              exact eb
            have hW2 : WsAt H2 wa Ws := WsAt.keep ⟨as, hwa, hal, hat⟩ lk
            refine ⟨_, rfl, _, rfl, _, rfl, _, rfl, da, .int w2, rfl, ?_, _, rfl, wa, da, ta, w2, Ws, M, ti ++ [h], rfl, hW2, W, hd2, ht2, ndt, ft.1, ft.2.1, ok, hf.tk.snoc hti hrg, ?_, fun M' tr' H3 su hd3 ht3 fr3 => ?_, fun tr' H3 fa hd3 ht3 fr3 => ?_⟩
            · have g := DGet.k (k := Sum.inl h) hd2
              rw [valV_enc, e] at g
              exact g
            · rw [List.length_append]
              simp only [List.length_cons, List.length_nil]
              omega
            · refine ⟨true, rfl, iteT ?_⟩
              have hlM' : (enc M').length < sizeLine := by
                unfold enc
                rw [List.length_map]
                exact Nat.lt_of_le_of_lt (su.ok.len W) (by decide)
              refine ⟨_, rfl, _, rfl, _, rfl, da, _, rfl, DPut.k (k := Sum.inl h) hd3 hlM', ?_⟩
              rw [putK_enc]
              refine qT _ _ _ (succ_moved ok ⟨hw0, hw1⟩ hf hmem hti e su) upd_same (by rw [upd_ne ndt.symm]; exact ht3) (fun b b1 b2 => by rw [upd_ne b1, fr3 b b1 b2]; exact fr2 b b1 b2)
            · refine ⟨false, rfl, iteF ?_⟩
              refine ⟨⟨_, rfl⟩, fun b b1 b2 => (fr3 b b1 b2).trans (fr2 b b1 b2), hd3, tr', ht3, half_more hf e fa, fun j hj => ?_⟩
              rw [htake] at hj
              refine fa.hf.sub j ?_
              rcases List.mem_append.mp hj with q | q
              · exact List.mem_append_left _ (hin j q)
              · exact List.mem_append_right _ q
    · rintro σ H1 ⟨⟨y, rfl⟩, fr, hd1, ti, ht1, hf, hin⟩
      refine qF ti H1 ⟨hf, fun h hh => hin h ?_⟩ hd1 ht1 fr
      rw [List.length_map, List.take_length]
      exact hh
theorem ok_find {f : Addr} {fd : FuncData} (F : Fun K "find_holder" "find_holder" s_find_holder f fd) (g : mg "find_holder" = some (.ref f)) (kp : PySem.W.keepIn K (.ref f) = true) (b : Binds K fd ["wishes", "wish_of", "wish", "tried"] []) : ∀ n : Nat, Cal P w K mg base n "find_holder" (sp_findR n)
  | 0 => cal_mk ⟨fun _ _ _ _ h => h.elim, fun _ _ _ _ _ _ _ _ _ _ _ _ _ h => h.elim⟩ g kp b
  | n + 1 => cal_mk (ok_find_step F (ok_find F g kp b n)) g kp b
end
end My

set_option Elab.async false
set_option linter.all false
set_option maxRecDepth 100000
set_option maxHeartbeats 4000000
namespace My
open PySem PySem.Spec PyProof.Rows L2
def oV : Option Int → V
  | none => .non
  | some h => .int h
theorem free_succ (M : Mp) (i : Nat) : free M (i + 1) = free M i ++ if cnt M (i : Int) = 0 then [(i : Int)] else [] := by
  unfold free
  rw [List.range_succ, List.filter_append, List.map_append]
  congr 1
  by_cases c : cnt M (i : Int) = 0
  · rw [if_pos c]
    simp [c]
  · rw [if_neg c]
    simp [c]
theorem nd_range {B : List Int} {n : Nat} (nd : B.Nodup) (rg : ∀ w ∈ B, 0 ≤ w ∧ w < n) : B.length ≤ n := by
  have := nd_le B ((List.range n).map fun (i : Nat) => (i : Int)) nd fun w hw => List.mem_map.mpr ⟨w.toNat, List.mem_range.mpr (by have := rg w hw; omega), by have := rg w hw; omega⟩
  rw [List.length_map, List.length_range] at this
  exact this
theorem encT_int (B : List Int) : (encT B).map (·.1) = B.map (Sum.inl : Int → Key) := by
  unfold encT
  rw [List.map_map]
  rfl
section
variable {P : Program} {w : World} {K : PySem.W.Frag} {mg : Str → Option Value} {base : Heap}
abbrev s_band_of : Stmt := topS 3
abbrev N_band_of : List Str := ["wishes", "wish_of", "pairs", "band", "waiting", "wish", "holder"]
theorem sc_band_of : FnScope N_band_of ["wishes", "wish_of", "pairs"] (defScope s_band_of) := ⟨rfl, rfl, rfl, by decide +kernel, rfl, by decide +kernel, by decide +kernel⟩
def sp_band : Sp := fun vs H Q _ => ∃ (wa da pa : Addr) (Ws : List (List Int)) (M : Mp) (T : Int → Prop), vs = [.ref wa, .ref da, .ref pa] ∧ WsAt H wa Ws ∧ Wr Ws ∧ H da = some (.dK (enc M)) ∧ H pa = some (.lst (((List.range Ws.length).map (hol M)).map oV)) ∧ Got Ws M Ws.length T ∧
  ∀ H' p (B B0 : List Int), Same H H' → H p = none → H' p = some (.lst (B.map V.int)) → B.Perm B0 → B.Pairwise (· ≤ ·) → Bi Ws M T B0 [] → Q (.ref p) H'
theorem ok_band {f : Addr} {fd : FuncData} {k : Nat} (F : Fun K "band_of" "band_of" s_band_of f fd) (T : Txt mg) : FnOk P w K mg base CX0 (k + 1) f fd ["wishes", "wish_of", "pairs"] sp_band := by
  refine F.ok sc_band_of (fun vs H Q E h => ?_) (fun cdv A outer s H vs Q E hr h => ?_)
  · obtain ⟨wa, da, pa, Ws, M, Tc, rfl, _⟩ := h
    rfl
  · obtain ⟨wa, da, pa, Ws, M, Tc, rfl, hW, W, hd, hp, got, q⟩ := h
    refine ⟨_, (pss_cons (ps_set (i := 3) sc_band_of.nd rfl (.inl rfl) pe_dnewK)
      (pss_cons (ps_setLc (i := 4) (own := [("wish", 5), ("holder", 6)]) (g := gTup K 2 (gCons (gName 5) (gCons (gName 6) gNil))) (by rfl) sc_band_of.nd rfl rfl (sw_true rfl rfl rfl (by decide +kernel)) (pi_enum (by rfl) T.z_enumerate (pa_cons (pv 2) pa_nil)) (blkOk_by (own := [("wish", 5), ("holder", 6)]) (N := N_band_of) (sc := defScope s_band_of) (by decide +kernel)) (fun _ _ _ _ _ => (pg_tup rfl (pgs_cons (pg_name (i := 5) sc_band_of.nd rfl (.inl rfl)) (pgs_cons (pg_name (i := 6) sc_band_of.nd rfl (.inl rfl)) pgs_nil)))) (fun _ _ _ _ _ => (pts_one (pt_cmpR op_isN (pv 6) pe_non (nomark _)))) (fun _ _ _ _ _ => (pv 5)))
      (pss_cons (ps_while PassesOwn.never (pt_truth (pv 4) (by intro _; rfl))
        (pss_cons (ps_set (i := 5) sc_band_of.nd rfl (.inl rfl) (pe_bm0 PySem.F.plainAttrs_list PySem.F.slot_list_pop PySem.F.type_list_pop mt_pop (pv 4)))
        (pss_one (ps_if (pt_cmp (pc_dnotin (hu_of hr) (pv 5) (pv 3))) (pss_cons (ps_dput (hu_of hr) (pv 3) (pv 5) pe_bl rfl)
          (pss_one (ps_expr (pe_bm PySem.F.plainAttrs_list PySem.F.slot_list_extend PySem.F.type_list_extend mt_extend (pv 4) (pa_cons (pe_lc (own := [("holder", 6)]) (by rfl) sc_band_of.nd (pi_list (pe_ix ix_list (pv 0) (pv 5) (fun _ _ => rfl))) (blkOk_by (own := [("holder", 6)]) (N := N_band_of) (sc := defScope s_band_of) (by decide +kernel)) (fun _ _ _ _ _ => (pg_name (i := 6) sc_band_of.nd rfl (.inl rfl))) (fun _ _ _ _ _ => pts_nil) (fun _ _ _ _ _ => (pe_dget (hu_of hr) (pv 1) (pv 6) (fun _ _ => rfl)))) pa_nil))))) pss_nil))))
      (pss_one (ps_ret (pe_callB (call_sortedDI (by rfl)) (by rfl) T.z_sorted (by decide +kernel) (pa_cons (pv 3) pa_nil))))))), ?_⟩
    refine fun ba nba => ?_
    have S1 := same_upd (o := .dK []) nba
    have hb1 : (upd H ba (.dK [])) ba = some (.dK []) := upd_same
    generalize upd H ba (.dK []) = H1 at S1 hb1
    have hp1 := S1 _ _ hp
    refine ⟨_, rfl, pa, _, rfl, SqL.of hp1, fun D nD => ?_⟩
    have hnl : ((List.range Ws.length).map (hol M)).length = Ws.length := by rw [List.length_map, List.length_range]
    have ndb : ba ≠ D := ne_of_none hb1 nD
    refine ⟨fun i m H' => m = Ws.length - i ∧ i ≤ Ws.length ∧ Same H1 H' ∧ H' D = some (.lst ((free M i).map V.int)), ⟨_, rfl, Nat.zero_le _, same_upd nD, upd_same⟩, ?_⟩
    rintro i m H2 ⟨rfl, hi, sm2, hD⟩
    have hp2 := sm2 _ _ hp1
    by_cases hlt : i < Ws.length
    · refine .inr ⟨⟨_, _, SqL.of hp2, by rw [List.getElem?_map, List.getElem?_map, List.getElem?_range hlt]; rfl⟩, fun H' => Same H1 H' ∧ H' D = some (.lst ((free M (i + 1)).map V.int)), fun H' h' => ⟨_, by omega, rfl, hlt, h'.1, h'.2⟩, fun x H' hy => ?_⟩
      obtain ⟨Tt, x, rfl, nT, rfl, fx⟩ := hy
      have ex : x = oV (hol M i) := by
        have := fx _ (SqL.of hp2)
        rw [List.getElem?_map, List.getElem?_map, List.getElem?_range hlt] at this
        exact (Option.some.inj this).symm
      subst ex
      have sT := same_upd (o := .tup [.int (i : Nat), oV (hol M i)]) nT
      have hD2 := sT _ _ hD
      refine ⟨Tt, _, rfl, SqT.of upd_same, rfl, _, _, rfl, _, _, rfl, rfl, rfl, ?_⟩
      refine ⟨_, rfl, rfl, _, rfl, ?_⟩
      have hsz : ((free M i).map V.int).length < sizeLine := by
        rw [List.length_map]
        have := len_free M i
        have := W.n
        exact Nat.lt_of_le_of_lt (show (free M i).length ≤ 24 by omega) (by decide)
      have keepS : ∀ ys : List V, Same H1 (upd (upd H2 Tt (.tup [.int (i : Nat), oV (hol M i)])) D (.lst ys)) := fun ys b o eb => by
        rw [upd_ne (ne_of_none eb nD)]
        exact sT _ _ (sm2 b o eb)
      cases e : hol M i with
      | none =>
        refine (if_pos (by show decide (V.non = V.non) = true; exact decide_eq_true rfl)).mpr ?_
        rw [e] at hD2 keepS
        refine ⟨_, rfl, _, hD2, hsz, keepS _, ?_⟩
        rw [upd_same, free_succ, if_pos (hol_none.mp e), List.map_append]
        rfl
      | some h =>
        refine (if_neg (by show ¬ decide (V.int h = V.non) = true; rw [decide_eq_false (by intro z; cases z)]; exact Bool.false_ne_true)).mpr ?_
        rw [e] at hD2 sT
        refine ⟨sm2.trans sT, ?_⟩
        rw [free_succ, if_neg (fun c => by rw [hol_none.mpr c] at e; cases e), List.append_nil]
        exact hD2
    · have hin : i = Ws.length := by omega
      subst hin
      refine .inl ⟨⟨_, SqL.of hp2, by rw [List.length_map, hnl]; exact Nat.le_refl _⟩, ?_⟩
      have hb2 := sm2 _ _ hb1
      have hd2 := sm2 _ _ (S1 _ _ hd)
      have hW2 : WsAt H2 wa Ws := hW.keep (Lk.same (S1.trans sm2))
      have npD : H D = none := S1.free nD
      have sH2 : Same H H2 := S1.trans sm2
      clear hp2 hp1 sm2
      -- the loop
      refine ⟨fun m σ H' => ∃ B wt, (∃ y5 y6, σ = [some (.ref wa), some (.ref da), some (.ref pa), some (.ref ba), some (.ref D), y5, y6]) ∧ Same H H' ∧ H' ba = some (.dK (encT B)) ∧ H' D = some (.lst (wt.map V.int)) ∧ Bi Ws M Tc B wt ∧ m = (Ws.length - B.length) * 61 + wt.length, ⟨_, [], _, ⟨_, _, rfl⟩, sH2, hb2, hD, bi_start got, rfl⟩, ?_⟩
      rintro m σ H3 ⟨B, wt, ⟨y5, y6, rfl⟩, sm3, hb3, hD3, bi, rfl⟩
      refine ⟨_, rfl, !(wt.map V.int).isEmpty, .inl ⟨_, SqL.of hD3, rfl⟩, ?_⟩
      rcases List.eq_nil_or_concat wt with rfl | ⟨wt0, w, rfl⟩
      · refine iteF ?_
        have hBl : B.length ≤ 24 := Nat.le_trans (nd_range bi.nd fun w hw => bi.rg w (.inl hw)) W.n
        refine ⟨_, rfl, ba, _, B, rfl, .inl hb3, encT_int B, by omega, fun ys p pm pw np => ?_⟩
        exact q _ p ys B (sm3.trans (same_upd np)) (sm3.free np) upd_same pm pw bi
      · rw [List.concat_eq_append] at *
        have hne : (!((wt0 ++ [w]).map V.int).isEmpty) = true := by simp
        rw [hne]
        refine iteT ?_
        refine ⟨fun σ' H' => ∃ B' wt', (∃ y5 y6, σ' = [some (.ref wa), some (.ref da), some (.ref pa), some (.ref ba), some (.ref D), y5, y6]) ∧ Same H H' ∧ H' ba = some (.dK (encT B')) ∧ H' D = some (.lst (wt'.map V.int)) ∧ Bi Ws M Tc B' wt' ∧ (Ws.length - B'.length) * 61 + wt'.length < (Ws.length - B.length) * 61 + (wt0 ++ [w]).length, fun σ' H' ⟨B', wt', a1, a2, a3, a4, a5, a6⟩ => ⟨_, a6, B', wt', a1, a2, a3, a4, a5, rfl⟩, ?_⟩
        have hlast : ((wt0 ++ [w]).map V.int)[((wt0 ++ [w]).map V.int).length - 1]? = some (.int w) := by simp
        have hdrop : ((wt0 ++ [w]).map V.int).dropLast = wt0.map V.int := by simp
        refine ⟨_, rfl, .inl ⟨rfl, _, SqL.of hD3⟩, D, _, _, rfl, rfl, hD3, hlast, ?_⟩
        rw [hdrop]
        have fr4 : ∀ b, b ≠ D → (upd H3 D (.lst (wt0.map V.int))) b = H3 b := fun b hb => upd_ne hb
        have hD4 : (upd H3 D (.lst (wt0.map V.int))) D = some (.lst (wt0.map V.int)) := upd_same
        generalize upd H3 D (.lst (wt0.map V.int)) = H4 at fr4 hD4
        have hb4 : H4 ba = some (.dK (encT B)) := (fr4 ba ndb).trans hb3
        have sm4 : Same H H4 := fun b o eb => (fr4 b (ne_of_none eb npD)).trans (sm3 b o eb)
        refine ⟨_, rfl, _, rfl, ba, _, rfl, DGet.k (k := Sum.inl w) hb4, _, rfl, ?_⟩
        rw [valV_encT]
        by_cases hwB : w ∈ B
        · rw [decide_eq_true hwB]
          refine iteF ?_
          refine ⟨B, wt0, ⟨_, _, rfl⟩, sm4, hb4, hD4, bi_old bi hwB, ?_⟩
          rw [List.length_append]
          simp only [List.length_cons, List.length_nil]
          omega
        · rw [decide_eq_false hwB]
          refine iteT ?_
          have bn := bi_new got.cl got.ok W.len bi hwB
          have hBn : (B ++ [w]).length ≤ Ws.length := nd_range bn.nd fun w hw => bn.rg w (.inl hw)
          have hB24 : (B ++ [w]).length ≤ 24 := Nat.le_trans hBn W.n
          have hBl : (encT B).length < sizeLine := by
            unfold encT
            rw [List.length_map]
            rw [List.length_append] at hB24
            exact Nat.lt_of_le_of_lt (show B.length ≤ 24 by omega) (by decide)
          refine ⟨_, rfl, _, rfl, ba, _, rfl, DPut.k (k := Sum.inl w) hb4 hBl, ?_⟩
          rw [putK_encT hwB]
          have fr5 : ∀ b, b ≠ ba → (upd H4 ba (.dK (encT (B ++ [w])))) b = H4 b := fun b hb => upd_ne hb
          have hb5 : (upd H4 ba (.dK (encT (B ++ [w])))) ba = some (.dK (encT (B ++ [w]))) := upd_same
          generalize upd H4 ba (.dK (encT (B ++ [w]))) = H5 at fr5 hb5
          have hD5 : H5 D = some (.lst (wt0.map V.int)) := (fr5 D ndb.symm).trans hD4
          have sm5 : Same H H5 := fun b o eb => (fr5 b (ne_of_none eb nba)).trans (sm4 b o eb)
          have hW5 : WsAt H5 wa Ws := hW.keep (Lk.same sm5)
          have hd5 : H5 da = some (.dK (enc M)) := sm5 _ _ hd
          obtain ⟨as, hwa, hal, hat⟩ := hW5
          have hwr := bi.rg w (.inr (by simp))
          have hwn : w.toNat < as.length := by omega
          have hwl : as[w.toNat]? = some as[w.toNat] := List.getElem?_eq_getElem hwn
          have hll : H5 as[w.toNat] = some (.lst ((adj Ws w).map V.int)) := hat _ _ hwl
          generalize as[w.toNat] = lw at hwl hll
          refine ⟨_, rfl, .inl ⟨rfl, _, SqL.of hD5⟩, _, rfl, _, rfl, wa, _, w, .ref lw, rfl, rfl, SqL.of hwa, atI_of hwr.1 (by rw [List.getElem?_map, hwl]; rfl), lw, rfl, ⟨_, SqL.of hll⟩, fun D2 nD2 => ?_⟩
          have nDD : D ≠ D2 := ne_of_none hD5 nD2
          have nbD : ba ≠ D2 := ne_of_none hb5 nD2
          refine lc_list (K := K) (a := lw) (xs := (adj Ws w).map V.int) (fun j H' => (∀ b, b ≠ D2 → H' b = H5 b) ∧ H' D2 = some (.lst (((nexts Ws M w).take j).map V.int))) ⟨fun b hb => upd_ne hb, by rw [upd_same]; rfl⟩ (fun j H' _ p => SqL.of ((p.1 lw (ne_of_none hll nD2)).trans hll)) ?_ ?_
          · rintro j x H6 hx ⟨fr6, hD6⟩
            obtain ⟨h, hh, rfl⟩ : ∃ h : Int, (adj Ws w)[j]? = some h ∧ x = .int h := by
              rw [List.getElem?_map] at hx
              cases e : (adj Ws w)[j]? with
              | none => rw [e] at hx; cases hx
              | some v => rw [e] at hx; exact ⟨v, rfl, (Option.some.inj hx).symm⟩
            obtain ⟨w', hg, _⟩ := got.cl h (bi.tt w (.inr (by simp)) h (List.mem_of_getElem? hh))
            have hd6 : H6 da = some (.dK (enc M)) := (fr6 da (ne_of_none hd5 nD2)).trans hd5
            have hnext : (nexts Ws M w).take (j + 1) = (nexts Ws M w).take j ++ [w'] := by
              unfold nexts
              rw [List.take_add_one, List.getElem?_map, hh]
              show _ ++ [(get M h).getD 0] = _
              rw [hg]
              rfl
            have hjl : (((nexts Ws M w).take j).map V.int).length < sizeLine := by
              rw [List.length_map, List.length_take]
              unfold nexts
              rw [List.length_map]
              exact Nat.lt_of_le_of_lt (Nat.le_trans (Nat.min_le_right _ _) (W.len w)) (by decide)
            refine ⟨rfl, yesI ?_⟩
            refine ⟨_, rfl, _, rfl, da, .int w', rfl, ?_, _, hD6, hjl, fun b hb => ?_, ?_⟩
            · have g := DGet.k (k := Sum.inl h) hd6
              rw [valV_enc, hg] at g
              exact g
            · rw [upd_ne hb]
              exact fr6 b hb
            · rw [upd_same, hnext, List.map_append]
              rfl
          · rintro H6 ⟨fr6, hD6⟩
            have etk : (nexts Ws M w).take ((adj Ws w).map V.int).length = nexts Ws M w := List.take_of_length_le (by
              unfold nexts
              rw [List.length_map, List.length_map]
              exact Nat.le_refl _)
            rw [etk] at hD6
            have hD7 : H6 D = some (.lst (wt0.map V.int)) := (fr6 D nDD).trans hD5
            have hnl6 : (nexts Ws M w).length ≤ 60 := by
              unfold nexts
              rw [List.length_map]
              exact W.len w
            have hwl0 : wt0.length ≤ 2000 := by
              have := bi.len
              have := W.n
              rw [List.length_append] at *
              simp only [List.length_cons, List.length_nil] at *
              omega
            refine ⟨D, D2, _, _, rfl, rfl, hD7, hD6, ?_, ?_⟩
            · rw [List.length_map, List.length_map]
              exact Nat.le_trans (show _ ≤ 3000 by omega) (by decide)
            · refine ⟨B ++ [w], wt0 ++ nexts Ws M w, ⟨_, _, rfl⟩, fun b o eb => ?_, ?_, ?_, bn, ?_⟩
              · rw [upd_ne (ne_of_none eb npD), fr6 b (ne_of_none (sm5 b o eb) nD2)]
                exact sm5 b o eb
              · rw [upd_ne ndb, fr6 ba nbD]
                exact hb5
              · rw [upd_same, List.map_append]
              · rw [List.length_append] at hBn ⊢
                rw [List.length_append, List.length_append]
                simp only [List.length_cons, List.length_nil] at *
                omega
end
end My

set_option Elab.async false
set_option linter.all false
set_option maxRecDepth 100000
set_option maxHeartbeats 4000000
namespace My
open PySem PySem.Spec PyProof.Rows L2
theorem rep_non (n : Nat) : (List.replicate n [V.non]).flatten = (List.replicate n (none : Option Int)).map oV := by
  induction n with
  | zero => rfl
  | succ n ih =>
    rw [List.replicate_succ, List.flatten_cons, ih, List.replicate_succ, List.map_cons]
    rfl
def prf (M : Mp) (n i : Nat) : List (Option Int) := (M.take i).foldl (fun acc p => acc.set p.2.toNat (some p.1)) (List.replicate n none)
theorem prf_len (M : Mp) (n i : Nat) : (prf M n i).length = n := by
  unfold prf
  rw [fold_len, List.length_replicate]
theorem prf_succ {M : Mp} {n i : Nat} {p : Int × Int} (h : M[i]? = some p) : prf M n (i + 1) = (prf M n i).set p.2.toNat (some p.1) := by
  unfold prf
  rw [List.take_add_one, h, List.foldl_append]
  rfl
theorem prf_all (M : Mp) (n : Nat) : prf M n M.length = prs M n := by
  unfold prf prs
  rw [List.take_length]
section
variable {P : Program} {w : World} {K : PySem.W.Frag} {mg : Str → Option Value} {base : Heap}
abbrev s_paired : Stmt := topS 1
abbrev N_paired : List Str := ["wishes", "wish_of", "wish", "pairs", "holder"]
theorem sc_paired : FnScope N_paired ["wishes"] (defScope s_paired) := ⟨rfl, rfl, rfl, by decide +kernel, rfl, by decide +kernel, by decide +kernel⟩
/-- what paired tells -/
structure Told (H H' : Hp) (t pa ba : Addr) (Ws : List (List Int)) (M : Mp) (B : List Int) : Prop where
  same : Same H H'
  nt : H t = none
  np : H pa = none
  nb : H ba = none
  ntp : t ≠ pa
  ntb : t ≠ ba
  npb : pa ≠ ba
  et : H' t = some (.tup [.ref pa, .ref ba])
  ep : H' pa = some (.lst (((List.range Ws.length).map (hol M)).map oV))
  eb : H' ba = some (.lst (B.map V.int))
  ok : ∃ T B0, Got Ws M Ws.length T ∧ B.Perm B0 ∧ B.Pairwise (· ≤ ·) ∧ Bi Ws M T B0 []
def sp_paired : Sp := fun vs H Q _ => ∃ (wa : Addr) (Ws : List (List Int)), vs = [.ref wa] ∧ WsAt H wa Ws ∧ Wr Ws ∧ ∀ H' t pa ba M B, Told H H' t pa ba Ws M B → Q (.ref t) H'
theorem ok_paired {f : Addr} {fd : FuncData} (F : Fun K "paired" "paired" s_paired f fd) (T : Txt mg) (C_find_holder : Cal P w K mg base 61 "find_holder" (sp_find 60)) (C_band_of : Cal P w K mg base 1 "band_of" sp_band) : FnOk P w K mg base CX0 62 f fd ["wishes"] sp_paired := by
  refine F.ok sc_paired (fun vs H Q E h => ?_) (fun cdv A outer s H vs Q E hr h => ?_)
  · obtain ⟨wa, Ws, rfl, _⟩ := h
    rfl
  · obtain ⟨wa, Ws, rfl, hW, W, q⟩ := h
    refine ⟨_, (pss_cons (ps_set (i := 1) sc_paired.nd rfl (.inl rfl) pe_dnewK)
      (pss_cons (ps_for PassesOwn.never rfl (pi_range1 (by rfl) T.z_range (pa_cons (pe_callB call_len_seq (by rfl) T.z_len (by decide +kernel) (pa_cons (pv 0) pa_nil)) pa_nil)) (pg_name (i := 2) sc_paired.nd rfl (.inl rfl))
        (pss_one (ps_expr (pe_cal C_find_holder hr (by decide) (by rfl) (pa_cons (pv 0) (pa_cons (pv 1) (pa_cons (pv 2) (pa_cons pe_dnewK pa_nil))))))))
      (pss_cons (ps_set (i := 3) sc_paired.nd rfl (.inl rfl) (pe_op op_rep (pe_lst (pa_cons pe_non pa_nil)) (pe_callB call_len_seq (by rfl) T.z_len (by decide +kernel) (pa_cons (pv 0) pa_nil))))
      (pss_cons (ps_lock (ps_for PassesOwn.never rfl (pi_keys (pv 1)) (pg_name (i := 4) sc_paired.nd rfl (.inl rfl))
        (pss_one (ps_asg (pv 4) (pg_sub (pv 3) (pe_dget (hu_of hr) (pv 1) (pv 4) (fun _ _ => rfl)) set_list)))))
      (pss_one (ps_ret (pe_tup (pa_cons (pv 3) (pa_cons (pe_cal C_band_of hr (by decide) (by rfl) (pa_cons (pv 0) (pa_cons (pv 1) (pa_cons (pv 3) pa_nil)))) pa_nil))))))))), ?_⟩
    obtain ⟨as, hwa, hal, hat⟩ := hW
    have hW : WsAt H wa Ws := ⟨as, hwa, hal, hat⟩
    refine fun da nda => ?_
    have S1 := same_upd (o := .dK []) nda
    have hd1 : (upd H da (.dK [])) da = some (.dK (enc [])) := upd_same
    generalize upd H da (.dK []) = H1 at S1 hd1
    have lenW : ((as.map V.ref).length : Int) = (Ws.length : Int) := by rw [List.length_map, hal]
    refine ⟨_, rfl, wa, _, rfl, .inl (SqL.of (S1 _ _ hwa)), _, rfl, by have := W.n; omega, by have := W.n; omega, ?_⟩
    rw [lenW]
    have toN : ((Ws.length : Nat) : Int).toNat = Ws.length := rfl
    refine for_range (lo := 0) (n := ((Ws.length : Nat) : Int).toNat) (fun i σ H' => (∃ y, σ = [some (.ref wa), some (.ref da), y, none, none]) ∧ Same H H' ∧ ∃ M Tc, H' da = some (.dK (enc M)) ∧ Got Ws M i Tc) ⟨⟨_, rfl⟩, S1, [], _, hd1, got_start Ws⟩ ?_ ?_
    · rintro i σ H2 hi ⟨⟨y, rfl⟩, sm2, M, Tc, hd2, got⟩
      rw [toN] at hi
      refine ⟨_, rfl, _, rfl, _, rfl, fun ta nta => ?_⟩
      have hd3 : (upd H2 ta (.dK [])) da = some (.dK (enc M)) := by
        rw [upd_ne (ne_of_none hd2 nta)]
        exact hd2
      have S3 : Same H (upd H2 ta (.dK [])) := sm2.trans (same_upd nta)
      refine ⟨wa, da, ta, 0 + (i : Int), Ws, M, [], rfl, hW.keep (Lk.same S3), W, hd3, upd_same, ne_of_none hd2 nta, by omega, by omega, got.ok, ⟨List.nodup_nil, fun h hh => by cases hh⟩, by decide, fun M' tr' H4 su hd4 ht4 fr4 => ?_, fun tr' H4 fa hd4 ht4 fr4 => ?_⟩
      · have e0 : 0 + (i : Int) = (i : Int) := by omega
        rw [e0] at su
        refine ⟨⟨_, rfl⟩, fun b o eb => ?_, M', Tc, hd4, got_succ got su⟩
        rw [fr4 b (ne_of_none eb nda) (ne_of_none eb (sm2.free nta))]
        exact S3 b o eb
      · have e0 : 0 + (i : Int) = (i : Int) := by omega
        rw [e0] at fa
        refine ⟨⟨_, rfl⟩, fun b o eb => ?_, M, _, hd4, got_fail got fa⟩
        rw [fr4 b (ne_of_none eb nda) (ne_of_none eb (sm2.free nta))]
        exact S3 b o eb
    · rintro σ H2 ⟨⟨y, rfl⟩, sm2, M, Tc, hd2, got⟩
      rw [toN] at got
      -- the pairs
      refine ⟨by show 1 ≤ sizeLine; decide, fun l0 nl0 => ?_⟩
      have S3 := same_upd (o := .lst [.non]) nl0
      refine ⟨_, rfl, wa, _, rfl, .inl (SqL.of (S3 _ _ (sm2 _ _ hwa))), l0, _, _, rfl, rfl, upd_same, by rw [lenW]; omega, by rw [lenW]; have := W.n; omega, ?_, fun pa npa => ?_⟩
      · rw [lenW]
        have := W.n
        show 1 * Ws.length ≤ sizeLine
        exact Nat.le_trans (show _ ≤ 24 by omega) (by decide)
      rw [lenW]
      show tSeq _ _ _ _ (upd _ pa (.lst (List.replicate Ws.length [V.non]).flatten))
      rw [rep_non]
      have S4 := same_upd (o := .lst ((List.replicate Ws.length (none : Option Int)).map oV)) npa
      have npa2 : H2 pa = none := S3.free npa
      have npaH : H pa = none := sm2.free npa2
      have hp4 : (upd (upd H2 l0 (.lst [.non])) pa (.lst ((List.replicate Ws.length (none : Option Int)).map oV))) pa = some (.lst ((prf M Ws.length 0).map oV)) := upd_same
      have sm4 := (sm2.trans S3).trans S4
      have hd4 := S4 _ _ (S3 _ _ hd2)
      generalize upd (upd H2 l0 (.lst [.non])) pa (.lst ((List.replicate Ws.length (none : Option Int)).map oV)) = H4 at S4 hp4 sm4 hd4
      have dne : da ≠ pa := ne_of_none hd2 npa2
      refine ⟨da, _, hd4, trivial, fun od => ?_⟩
      refine ⟨_, rfl, da, od, rfl, .inl ⟨_, upd_same, ?_⟩⟩
      have hc := got.lo
      have h0 : ∀ p ∈ M, 0 ≤ p.2 := fun p hp => (got.ok.fit p.1 p.2 (mem_get got.ok.nd hp)).1
      have h1 : ∀ p ∈ M, p.2 < Ws.length := fun p hp => (got.ok.fit p.1 p.2 (mem_get got.ok.nd hp)).2.1
      have hel : (enc M).length = M.length := by
        unfold enc
        rw [List.length_map]
      refine ⟨fun i m σ H' => m = M.length - i ∧ i ≤ M.length ∧ (∃ y2 y4, σ = [some (.ref wa), some (.ref da), y2, some (.ref pa), y4]) ∧ (∀ b, b ≠ da → b ≠ pa → H' b = H4 b) ∧ H' da = some (.frz od (.dK (enc M))) ∧ H' pa = some (.lst ((prf M Ws.length i).map oV)),
        ⟨_, rfl, Nat.zero_le _, ⟨_, _, rfl⟩, fun b b1 b2 => upd_ne b1, upd_same, by rw [upd_ne dne.symm]; exact hp4⟩, ?_⟩
      rintro i m σ H5 ⟨rfl, hi, ⟨y2, y4, rfl⟩, fr5, hd5, hp5⟩
      by_cases hlt : i < M.length
      · refine .inr ⟨⟨hd5, by rw [hel]; exact hlt⟩, fun σ' H' => (∃ y2 y4, σ' = [some (.ref wa), some (.ref da), y2, some (.ref pa), y4]) ∧ (∀ b, b ≠ da → b ≠ pa → H' b = H4 b) ∧ H' da = some (.frz od (.dK (enc M))) ∧ H' pa = some (.lst ((prf M Ws.length (i + 1)).map oV)), fun σ' H' ⟨a1, a2, a3, a4⟩ => ⟨_, by omega, rfl, hlt, a1, a2, a3, a4⟩, fun x H' hy => ?_⟩
        obtain ⟨rfl, k, v, hk, rfl⟩ := hy
        have hMi : M[i]? = some M[i] := List.getElem?_eq_getElem hlt
        have hmem : M[i] ∈ M := List.getElem_mem hlt
        generalize M[i] = pr at hMi hmem
        have ek : (k, v) = (Sum.inl pr.1, V.int pr.2) := by
          unfold enc at hk
          rw [List.getElem?_map, hMi] at hk
          exact (Option.some.inj hk).symm
        cases ek
        have hg : get M pr.1 = some pr.2 := mem_get got.ok.nd hmem
        refine ⟨_, rfl, _, rfl, _, rfl, _, rfl, da, .int pr.2, rfl, .inl ⟨enc M, Sum.inl pr.1, .inr ⟨od, hd5⟩, rfl, ?_⟩, ?_⟩
        · rw [valV_enc, hg]
          rfl
        have hj : pr.2 = ((pr.2.toNat : Nat) : Int) := (Int.toNat_of_nonneg (h0 pr hmem)).symm
        have hjl : pr.2.toNat < Ws.length := by have := h1 pr hmem; have := h0 pr hmem; omega
        refine ⟨pa, _, pr.2, pr.2.toNat, rfl, rfl, hp5, ?_, ?_⟩
        · rw [List.length_map, prf_len]
          conv => lhs; rw [hj]
          exact ixN_nat hjl
        · refine ⟨⟨_, _, rfl⟩, fun b b1 b2 => by rw [upd_ne b2]; exact fr5 b b1 b2, by rw [upd_ne dne]; exact hd5, ?_⟩
          rw [upd_same, prf_succ hMi, List.map_set]
          rfl
      · have hie : i = M.length := by omega
        subst hie
        refine .inl ⟨⟨hd5, by rw [hel]; exact Nat.le_refl _⟩, hd5, ?_⟩
        rw [prf_all, prs_eq hc h0] at hp5
        have fr6 : ∀ b, b ≠ da → b ≠ pa → (upd H5 da (.dK (enc M))) b = H4 b := fun b b1 b2 => by
          rw [upd_ne b1]
          exact fr5 b b1 b2
        have hd6 : (upd H5 da (.dK (enc M))) da = some (.dK (enc M)) := upd_same
        have hp6 : (upd H5 da (.dK (enc M))) pa = some (.lst (((List.range Ws.length).map (hol M)).map oV)) := by
          rw [upd_ne dne.symm]
          exact hp5
        generalize upd H5 da (.dK (enc M)) = H6 at fr6 hd6 hp6
        have sm6 : Same H H6 := fun b o eb => by
          rw [fr6 b (ne_of_none eb nda) (ne_of_none eb npaH)]
          exact sm4 b o eb
        refine ⟨_, rfl, _, rfl, _, rfl, _, rfl, wa, da, pa, Ws, M, Tc, rfl, hW.keep (Lk.same sm6), W, hd6, hp6, got, fun H7 ba B B0 sm7 nba eb7 pm pw bi => ?_⟩
        refine ⟨by show 2 ≤ sizeLine; decide, fun t nt => ?_⟩
        have hp7 := sm7 _ _ hp6
        have npb : pa ≠ ba := ne_of_none hp6 nba
        have ntp : t ≠ pa := (ne_of_none hp7 nt).symm
        have ntb : t ≠ ba := (ne_of_none eb7 nt).symm
        refine q _ t pa ba M B ⟨(sm6.trans sm7).trans (same_upd nt), (sm6.trans sm7).free nt, npaH, sm6.free nba, ntp, ntb, npb, upd_same, by rw [upd_ne ntp.symm]; exact hp7, by rw [upd_ne ntb.symm]; exact eb7, Tc, B0, got, pm, pw, bi⟩
end
end My

set_option Elab.async false
set_option linter.all false
set_option maxRecDepth 100000
set_option maxHeartbeats 4000000
namespace My
open PySem PySem.Spec PyProof.Rows L2
theorem Bag.upd {p b : Addr} {H : Hp} {o : HO} (h : Bag H p) (n : p ≠ b) : Bag (L2.upd H b o) p := by
  obtain ⟨g, s, e, r⟩ := h
  exact ⟨g, s, by rw [upd_ne n]; exact e, r⟩
structure Wr6 (Ws : List (List Int)) : Prop where
  len : ∀ l ∈ Ws, l.length ≤ 6
  rg : ∀ l ∈ Ws, ∀ h ∈ l, 0 ≤ h ∧ h < 60
theorem adj_mem (Ws : List (List Int)) (x : Int) : adj Ws x = [] ∨ adj Ws x ∈ Ws := by
  unfold adj
  by_cases c : x.toNat < Ws.length
  · right
    rw [List.getD_eq_getElem?_getD, List.getElem?_eq_getElem c]
    exact List.getElem_mem c
  · left
    rw [List.getD_eq_getElem?_getD, List.getElem?_eq_none (by omega)]
    rfl
theorem Wr6.wr {Ws : List (List Int)} (h : Wr6 Ws) (n : Ws.length ≤ 24) : Wr Ws := by
  refine ⟨n, fun x => ?_, fun x j hj => ?_⟩
  · rcases adj_mem Ws x with e | e
    · rw [e]; decide
    · exact Nat.le_trans (h.len _ e) (by decide)
  · rcases adj_mem Ws x with e | e
    · rw [e] at hj; cases hj
    · exact h.rg _ e j hj
section
variable {P : Program} {w : World} {K : PySem.W.Frag} {mg : Str → Option Value} {base : Heap}
abbrev s_law_wishes : Stmt := topS 7
abbrev N_law_wishes : List Str := ["_law_bag_here", "_law_most", "_law_kinds", "_law_first", "_law_found", "_law_wish", "_law_many", "_law_k"]
theorem sc_law_wishes : FnScope N_law_wishes ["_law_bag_here", "_law_most"] (defScope s_law_wishes) := ⟨rfl, rfl, rfl, by decide +kernel, rfl, by decide +kernel, by decide +kernel⟩
def sp_law_wishes : Sp := fun vs H Q _ => ∃ (p : Addr) (most : Int), vs = [.ref p, .int most] ∧ Bag H p ∧ 0 ≤ most ∧ most ≤ 24 ∧
  ∀ Ws H' wa, WsAt H' wa Ws → (Ws.length : Int) ≤ most → Wr6 Ws → Bag H' p → Sx p H H' → Q (.ref wa) H'
theorem ok_law_wishes {f : Addr} {fd : FuncData} (F : Fun K "_law_wishes" "_law_wishes" s_law_wishes f fd) (T : Txt mg) (C_law_take : Cal P w K mg base 1 "_law_take" sp_law_take) : FnOk P w K mg base CX0 2 f fd ["_law_bag_here", "_law_most"] sp_law_wishes := by
  refine F.ok sc_law_wishes (fun vs H Q E h => ?_) (fun cdv A outer s H vs Q E hr h => ?_)
  · obtain ⟨p, m, rfl, _⟩ := h
    rfl
  · obtain ⟨p, most, rfl, hB, hm0, hm1, q⟩ := h
    refine ⟨_, (pss_cons (ps_asg (pe_tup (pa_cons (pe_ix ix_tup (pe_tup (pa_cons pe_int (pa_cons pe_int (pa_cons pe_int pa_nil)))) (pe_cal C_law_take hr (by decide) (by rfl) (pa_cons (pv 0) (pa_cons pe_int pa_nil))) (fun _ _ => rfl)) (pa_cons (pe_cal C_law_take hr (by decide) (by rfl) (pa_cons (pv 0) (pa_cons pe_int pa_nil))) pa_nil))) (pg_tup rfl (pgs_cons (pg_name (i := 2) sc_law_wishes.nd rfl (.inr rfl)) (pgs_cons (pg_name (i := 3) sc_law_wishes.nd rfl (.inr rfl)) pgs_nil))))
      (pss_cons (ps_set (i := 4) sc_law_wishes.nd rfl (.inl rfl) (pe_lst pa_nil))
      (pss_cons (ps_for PassesOwn.never rfl (pi_range1 (by rfl) T.z_range (pa_cons (pe_cal C_law_take hr (by decide) (by rfl) (pa_cons (pv 0) (pa_cons (pe_op op_add (pv 1) pe_int) pa_nil))) pa_nil)) (pg_name (i := 5) sc_law_wishes.nd rfl (.inl rfl))
        (pss_cons (ps_set (i := 6) sc_law_wishes.nd rfl (.inl rfl) (pe_cal C_law_take hr (by decide) (by rfl) (pa_cons (pv 0) (pa_cons (pe_ix ix_tup (pe_tup (pa_cons pe_int (pa_cons pe_int pa_nil))) (pe_cal C_law_take hr (by decide) (by rfl) (pa_cons (pv 0) (pa_cons pe_int pa_nil))) (fun _ _ => rfl)) pa_nil))))
        (pss_one (ps_expr (pe_bm PySem.F.plainAttrs_list PySem.F.slot_list_append PySem.F.type_list_append mt_append (pv 4) (pa_cons (pe_lc (own := [("_law_k", 7)]) (by rfl) sc_law_wishes.nd (pi_range1 (by rfl) T.z_range (pa_cons (pv 6) pa_nil)) (blkOk_by (own := [("_law_k", 7)]) (N := N_law_wishes) (sc := defScope s_law_wishes) (by decide +kernel)) (fun _ _ _ _ _ => (pg_name (i := 7) sc_law_wishes.nd rfl (.inl rfl))) (fun _ _ _ _ _ => pts_nil) (fun _ _ _ _ _ => (pe_op op_mod (pe_op op_add (pv 3) (pe_cal C_law_take hr (by decide) (by rfl) (pa_cons (pv 0) (pa_cons (pv 2) pa_nil)))) pe_int))) pa_nil))))))
      (pss_one (ps_ret (pv 4)))))), ?_⟩
    refine ⟨by show 3 ≤ sizeLine; decide, fun t1 n1 => ?_⟩
    have B1 := hB.same (same_upd (o := .tup [.int 3, .int 9, .int 60]) n1)
    refine ⟨_, rfl, p, 3, rfl, B1, by decide, by decide, fun d1 H2 a1 b1 B2 s2 => ?_⟩
    have ht1 : H2 t1 = some (.tup [.int 3, .int 9, .int 60]) := by
      rw [s2 t1 (hB.ne n1), upd_same]
    obtain ⟨kinds, hk0, hk1, hat⟩ : ∃ kinds : Int, 0 < kinds ∧ kinds < 1073741824 ∧ atI [V.int 3, .int 9, .int 60] d1 = some (.int kinds) := by
      have c : d1 = 0 ∨ d1 = 1 ∨ d1 = 2 := by omega
      rcases c with rfl | rfl | rfl
      · exact ⟨3, by decide, by decide, rfl⟩
      · exact ⟨9, by decide, by decide, rfl⟩
      · exact ⟨60, by decide, by decide, rfl⟩
    refine ⟨t1, _, d1, _, rfl, rfl, SqT.of ht1, hat, ?_⟩
    refine ⟨_, rfl, p, 52, rfl, B2, by decide, by decide, fun first H3 f0 f1 B3 s3 => ?_⟩
    refine ⟨by show 2 ≤ sizeLine; decide, fun t2 n2 => ?_⟩
    refine ⟨t2, _, rfl, SqT.of upd_same, rfl, _, _, rfl, _, _, rfl, rfl, ?_⟩
    have S4 : Sx p H (upd H3 t2 (.tup [.int kinds, .int first])) := (((Sx.same (same_upd n1)).trans (Sx.of s2)).trans (Sx.of s3)).trans (Sx.same (same_upd n2))
    have B4 := B3.same (same_upd (o := .tup [.int kinds, .int first]) n2)
    generalize upd H3 t2 (.tup [.int kinds, .int first]) = H4 at S4 B4
    refine ⟨Nat.zero_le _, fun fo nfo => ?_⟩
    have hfo : fo ≠ p := B4.ne nfo
    have S5 : Sx p H (upd H4 fo (.lst [])) := S4.trans (Sx.same (same_upd nfo))
    have B5 := B4.same (same_upd (o := .lst []) nfo)
    have nfH : H fo = none := by
      cases e : H fo with
      | none => rfl
      | some o => have := S4 fo o hfo e; rw [this] at nfo; cases nfo
    refine ⟨_, rfl, _, rfl, _, _, rfl, rfl, p, _, rfl, B5, by omega, by omega, fun many H6 m0 m1 B6 s6 => ?_⟩
    have hf6 : H6 fo = some (.lst []) := by rw [s6 fo hfo, upd_same]
    have S6 : Sx p H H6 := S5.trans (Sx.of s6)
    refine ⟨many, rfl, by omega, by omega, ?_⟩
    refine for_range (lo := 0) (n := many.toNat) (fun i σ H' => (∃ y5 y6 y7, σ = [some (.ref p), some (.int most), some (.int kinds), some (.int first), some (.ref fo), y5, y6, y7]) ∧ Sx p H H' ∧ Bag H' p ∧ ∃ (as : List Addr) (Ws : List (List Int)), H' fo = some (.lst (as.map V.ref)) ∧ as.length = i ∧ Ws.length = i ∧ Wr6 Ws ∧ ∀ (j : Nat) (a : Addr), as[j]? = some a → a ≠ fo ∧ a ≠ p ∧ H' a = some (.lst ((Ws.getD j []).map V.int)))
      ⟨⟨_, _, _, rfl⟩, S6, B6, [], [], hf6, rfl, rfl, ⟨fun l hl => (by cases hl), fun l hl => (by cases hl)⟩, fun j a e => (by cases e)⟩ ?_ ?_
    · rintro i σ H7 hi ⟨⟨y5, y6, y7, rfl⟩, S7, B7, as, Ws, hf7, hal, hwl, hw6, hat7⟩
      -- many
      refine ⟨_, rfl, by show 2 ≤ sizeLine; decide, fun t3 n3 => ?_⟩
      have B8 := B7.same (same_upd (o := .tup [.int 3, .int 7]) n3)
      refine ⟨_, rfl, p, 2, rfl, B8, by decide, by decide, fun d2 H9 a2 b2 B9 s9 => ?_⟩
      have ht3 : H9 t3 = some (.tup [.int 3, .int 7]) := by
        rw [s9 t3 (B7.ne n3), upd_same]
      obtain ⟨up, hu0, hu1, hatu⟩ : ∃ up : Int, 0 < up ∧ up ≤ 7 ∧ atI [V.int 3, .int 7] d2 = some (.int up) := by
        have c : d2 = 0 ∨ d2 = 1 := by omega
        rcases c with rfl | rfl
        · exact ⟨3, by decide, by decide, rfl⟩
        · exact ⟨7, by decide, by decide, rfl⟩
      refine ⟨t3, _, d2, _, rfl, rfl, SqT.of ht3, hatu, ?_⟩
      refine ⟨p, _, rfl, B9, hu0, by omega, fun mn H10 mn0 mn1 B10 s10 => ?_⟩
      have S10 : Sx p H7 H10 := ((Sx.same (same_upd n3)).trans (Sx.of s9)).trans (Sx.of s10)
      have hf10 : H10 fo = some (.lst (as.map V.ref)) := S10 _ _ hfo hf7
      refine ⟨_, rfl, .inl ⟨rfl, _, SqL.of hf10⟩, _, rfl, mn, rfl, by omega, by omega, fun D nD => ?_⟩
      have nDp : D ≠ p := B10.ne nD
      have nDf : D ≠ fo := (ne_of_none hf10 nD).symm
      refine lc_range (lo := 0) (n := mn.toNat) (fun j H' => Bag H' p ∧ (∀ b, b ≠ p → b ≠ D → H' b = H10 b) ∧ ∃ xs : List Int, H' D = some (.lst (xs.map V.int)) ∧ xs.length = j ∧ ∀ x ∈ xs, 0 ≤ x ∧ x < 60)
        ⟨B10.same (same_upd nD), fun b _ hb => upd_ne hb, [], upd_same, rfl, fun x hx => by cases hx⟩ ?_ ?_
      · rintro j H11 hj ⟨B11, fr11, xs, hD11, hxl, hxr⟩
        refine ⟨rfl, yesI ?_⟩
        refine ⟨_, rfl, _, rfl, _, rfl, p, kinds, rfl, B11, hk0, hk1, fun d H12 d0 d1' B12 s12 => ?_⟩
        have hD12 : H12 D = some (.lst (xs.map V.int)) := (s12 D nDp).trans hD11
        have e0 : 0 ≤ (first + d) % 60 := Int.emod_nonneg _ (by decide)
        have e1 : (first + d) % 60 < 60 := Int.emod_lt_of_pos _ (by decide)
        refine ⟨_, _, rfl, rfl, _, _, rfl, rfl, (by show (0 : Int) < 60; decide), _, hD12, ?_, B12.upd nDp.symm, fun b b1 b2 => ?_, xs ++ [(first + d) % 60], ?_, by rw [List.length_append, hxl]; rfl, fun x hx => ?_⟩
        · rw [List.length_map, hxl]
          exact Nat.lt_of_le_of_lt (show j ≤ 7 by omega) (by decide)
        · rw [upd_ne b2, s12 b b1]
          exact fr11 b b1 b2
        · rw [upd_same, List.map_append]
          rfl
        · rcases List.mem_append.mp hx with hx | hx
          · exact hxr x hx
          · have : x = (first + d) % 60 := by simpa using hx
            rw [this]
            exact ⟨e0, e1⟩
      · rintro H11 ⟨B11, fr11, xs, hD11, hxl, hxr⟩
        have hf11 : H11 fo = some (.lst (as.map V.ref)) := (fr11 fo hfo nDf.symm).trans hf10
        refine ⟨fo, _, _, rfl, rfl, hf11, ?_, ?_⟩
        · rw [List.length_map, hal]
          exact Nat.lt_of_le_of_lt (show i ≤ 100 by omega) (by decide)
        · refine ⟨⟨_, _, _, rfl⟩, fun b o hb eb => ?_, B11.upd hfo.symm, as ++ [D], Ws ++ [xs], ?_, ?_, ?_, ⟨fun l hl => ?_, fun l hl => ?_⟩, fun j a ea => ?_⟩
          · have e7 := S7 b o hb eb
            have e10 := S10 b o hb e7
            rw [upd_ne (ne_of_none eb nfH), fr11 b hb (ne_of_none e10 nD)]
            exact e10
          · rw [upd_same, List.map_append]
            rfl
          · rw [List.length_append, hal]; rfl
          · rw [List.length_append, hwl]; rfl
          · rcases List.mem_append.mp hl with hl | hl
            · exact hw6.len l hl
            · have : l = xs := by simpa using hl
              rw [this, hxl]
              omega
          · rcases List.mem_append.mp hl with hl | hl
            · exact hw6.rg l hl
            · have : l = xs := by simpa using hl
              rw [this]
              exact hxr
          · by_cases c : j < as.length
            · rw [List.getElem?_append_left c] at ea
              obtain ⟨n1', n2', e⟩ := hat7 j a ea
              have e10 := S10 _ _ n2' e
              refine ⟨n1', n2', ?_⟩
              rw [upd_ne n1', fr11 a n2' (ne_of_none e10 nD), e10, List.getD_eq_getElem?_getD, List.getD_eq_getElem?_getD, List.getElem?_append_left (by omega)]
            · have hjl : j = as.length := by
                have : j < (as ++ [D]).length := by
                  obtain ⟨h, _⟩ := List.getElem?_eq_some_iff.mp ea
                  exact h
                rw [List.length_append] at this
                simp only [List.length_cons, List.length_nil] at this
                omega
              subst hjl
              rw [List.getElem?_append_right (Nat.le_refl _), Nat.sub_self] at ea
              have : D = a := Option.some.inj ea
              subst this
              refine ⟨nDf, nDp, ?_⟩
              rw [upd_ne nDf, hD11, List.getD_eq_getElem?_getD, List.getElem?_append_right (by omega), show as.length - Ws.length = 0 by omega]
              rfl
    · rintro σ H7 ⟨⟨y5, y6, y7, rfl⟩, S7, B7, as, Ws, hf7, hal, hwl, hw6, hat7⟩
      refine ⟨_, rfl, q Ws H7 fo ⟨as, hf7, hal.trans hwl.symm, fun j a e => (hat7 j a e).2.2⟩ (by rw [hwl]; omega) hw6 B7 S7⟩
end
end My

set_option Elab.async false
set_option linter.all false
set_option maxRecDepth 100000
set_option maxHeartbeats 4000000
namespace My
open PySem PySem.Spec PyProof.Rows L2
section
variable {X : Cx} {pins : List (Addr × Obj)} {σ : L2.St} {H : Hp} {s : Shared} {A : Around} {E : Value → Shared → Prop}
/-- d.update(l), l a list of pairs -/
theorem d_update {Q : Value → Shared → Prop} {d l : Addr} {ps : List Addr} {kvs more : List (Key × V)} (hh : A.handled = none) (I : Inv X pins σ H s) (e : H d = some (.dK kvs)) (hq : SqL X.K H l (ps.map V.ref)) (hp : Paired (fun p kv => SqT X.K H p [kV kv.1, kv.2]) ps more)
    (hz : kvs.length + more.length ≤ sizeLine) (h : ∀ s', Inv X pins σ (upd H d (.dK (mergeK kvs more))) s' → Q .none s') : wpAny (model X.prog X.w) A (call (.builtin "dict.update") [.ref d, .ref l]) Q E s := by
  obtain ⟨its, rv, pl, _⟩ := I.list hq
  have ei := refs_at rv
  subst ei
  obtain ⟨prs, rel, hl, hpr⟩ := pairs_of I hp
  obtain ⟨o, n, ho, hc, hd, hdat⟩ := pl
  obtain ⟨_, hds, vs, relv, dd⟩ := dk_of I.hok e
  obtain ⟨od, hod, hcd⟩ : ∃ od, s.heap.get? d = some od ∧ od.cls = .type "dict" := dd.typeIs
  have ld : l ≠ d := fun c => by
    rw [c, hod] at ho
    cases ho
    rw [hcd] at hc
    exact absurd hc (by decide)
  have hln : vs.length + prs.length ≤ sizeLine := by
    rw [← relv.length, ← rel.length]
    exact hz
  refine wpAny_call (codeAny_call_builtin PySem.F.slot_dict_update.plain PySem.F.entry_dict_update (PySem.F.slot_dict_update.check _ _ _ _ _ _ _ _ dd.typeIs (PySem.F.args_dict_update_2 _ _) ?_))
  unfold Builtin.«dict.update»
  refine wpAny_bind ?_
  unfold Builtin.Dict.selfAndRest
  refine wpAny_bind (wpAny_notOrdered_dict dd.typeIs ?_)
  show wpAny _ _ (pure (d, [Value.ref l])) _ _ _
  refine wpAny_pure ?_
  show wpAny _ _ (Builtin.Dict.updateFrom "dict.update" d (.ref l) [] .none) _ _ _
  unfold Builtin.Dict.updateFrom
  refine wpAny_bind (wpAny_typeOf (T := "list") ⟨o, ho, hc⟩ ?_)
  rw [if_pos (by decide)]
  refine wpAny_bind (miss_list ho hc hdat hd hh fun h1 tk1 hk1 => ?_)
  rw [if_pos (show (none : Option Value).isNone = true from rfl)]
  refine wpAny_bind (wpAny_rule ?_)
  have hl1 : h1.IsList l (ps.map Value.ref).toArray := ⟨o, hk1 _ _ ho, hc, n, hdat⟩
  refine wpAny_bind (wpAny_pyIter_list hl1 ?_)
  have k2 : ∀ b ob, h1.get? b = some ob → (h1.push { cls := .type "list_iterator", data := .fields #[.ref l, .int 0 0] }).get? b = some ob := fun b ob z => Heap.get?_push_of_some _ z
  have old : ∀ b ob, s.heap.get? b = some ob → b ≠ h1.objs.size := fun b ob z => Nat.ne_of_lt (Heap.lt_size (hk1 _ _ z))
  have key := upd_loop (prog := X.prog) (w := X.w) (A := A) (R := fun r s' => match r with | .ok (.ret v) => Q v s' | .ok _ => False | .error e => E e s') (S := d) (I := h1.objs.size) (l := l) (items := (ps.map Value.ref).toArray) (res := Value.none) hh
    (old _ _ ho) (old _ _ hod) ld.symm prs 0 vs 0 0
    { s with heap := h1.push { cls := .type "list_iterator", data := .fields #[.ref l, .int 0 0] }, toks := tk1 } (by rw [Nat.zero_add, hl]; simp) hln
    (fun j q ej => by
      obtain ⟨b, u, e1, e2, e3⟩ := hpr j q ej
      obtain ⟨ob, hob, hcb, _⟩ := id e2
      refine ⟨b, u, by rw [Nat.zero_add]; simp [e1], fun c => ?_, old _ _ hob, e2.keeps fun c ob z => k2 _ _ (hk1 _ _ z), e3⟩
      rw [c, hod] at hob
      cases hob
      rw [hcd] at hcb
      exact absurd hcb (by decide))
    ⟨_, Heap.get?_push_size _ rfl, rfl, rfl⟩ (hl1.at fun ob z => k2 _ _ z) ((dd.at fun ob z => hk1 _ _ z).at fun ob z => k2 _ _ z)
    (fun h' tk hd' k => by
      have he : ∃ q, h'.get? d = some q := let ⟨q, _, _, hq, _⟩ := hd'; ⟨q, hq⟩
      have hzz : (mergeK kvs more).length ≤ sizeLine := Nat.le_trans (length_mergeK more kvs) hz
      exact h _ (I.write (x := d) (e := d) (t' := tk) (by rw [e]; exact True.intro) (.inl rfl) (fun b q hb z => k b q hb (old _ _ z) (k2 _ _ (hk1 _ _ z))) he (dk_new hzz hds (KV.merge rel relv) hd')))
  first
    | exact wpAny_pure ⟨plainId_quiet ud_plain _, key⟩
    | exact wpAny_bind (wpAny_pure (wpAny_pure ⟨plainId_quiet ud_plain _, key⟩))
/-- .. as a method's rule -/
def rDUpd (K : PySem.W.Frag) : V → List V → Hp → VK → Prop := fun x vs H Q => ∃ (d l : Addr) (ps : List Addr) (kvs more : List (Key × V)), x = .ref d ∧ vs = [.ref l] ∧ H d = some (.dK kvs) ∧ SqL K H l (ps.map V.ref) ∧ Paired (fun p kv => SqT K H p [kV kv.1, kv.2]) ps more ∧ kvs.length + more.length ≤ sizeLine ∧ Q .non (upd H d (.dK (mergeK kvs more)))
theorem mtd_update (hc : X.calm = true) : MtR X "dict.update" (rDUpd X.K) := by
  intro pins s σ H x vs v us Q I rx rv h
  obtain ⟨d, l, ps, kvs, more, ex, ev, e, hq, hp, hz, q⟩ := h
  subst ex
  subst ev
  obtain rfl : v = Value.ref d := rx
  obtain ⟨u, eu, ru⟩ := vals1 rv
  subst eu
  obtain rfl : u = Value.ref l := ru
  exact d_update (I.ok.hd hc) I e hq hp hz fun s' I' => ⟨.non, _, I', rfl, q⟩
end
end My

set_option Elab.async false
set_option linter.all false
set_option maxRecDepth 100000
set_option maxHeartbeats 4000000
namespace My
open PySem PySem.Spec PyProof.Rows L2
/-! ### a dict used as a set -/
def ins (D : List Int) (h : Int) : List Int := if h ∈ D then D else D ++ [h]
theorem putK_ins (D : List Int) (h : Int) : putK (encT D) (Sum.inl h : Key) (V.bl true) = encT (ins D h) := by
  unfold ins
  by_cases c : h ∈ D
  · rw [if_pos c]
    unfold putK
    rw [valV_any, valV_encT, decide_eq_true c, if_pos rfl]
    unfold encT
    rw [List.map_map]
    apply List.map_congr_left
    intro x _
    show (if (Sum.inl x : Key) = Sum.inl h then ((Sum.inl x : Key), V.bl true) else (Sum.inl x, V.bl true)) = _
    by_cases e : (Sum.inl x : Key) = Sum.inl h
    · rw [if_pos e]
    · rw [if_neg e]
  · rw [if_neg c, putK_encT c]
theorem merge_ins : ∀ (l D : List Int), mergeK (encT D) (encT l) = encT (l.foldl ins D)
  | [], D => rfl
  | h :: l, D => by
    show mergeK (putK (encT D) (Sum.inl h : Key) (V.bl true)) (encT l) = _
    rw [putK_ins, merge_ins l, List.foldl_cons]
theorem mem_ins {D : List Int} {h x : Int} : x ∈ ins D h ↔ x ∈ D ∨ x = h := by
  unfold ins
  by_cases c : h ∈ D
  · rw [if_pos c]
    exact ⟨.inl, fun q => q.elim id fun e => e ▸ c⟩
  · rw [if_neg c]
    simp
theorem mem_foldins : ∀ {l D : List Int} {x : Int}, x ∈ l.foldl ins D ↔ x ∈ D ∨ x ∈ l
  | [], D, x => by simp
  | h :: l, D, x => by
    rw [List.foldl_cons, mem_foldins, mem_ins, List.mem_cons, or_assoc]
theorem nd_ins {D : List Int} {h : Int} (nd : D.Nodup) : (ins D h).Nodup := by
  unfold ins
  by_cases c : h ∈ D
  · rw [if_pos c]; exact nd
  · rw [if_neg c]
    exact nd_snoc nd c
theorem nd_foldins : ∀ {l D : List Int}, D.Nodup → (l.foldl ins D).Nodup
  | [], D, nd => nd
  | h :: l, D, nd => by
    rw [List.foldl_cons]
    exact nd_foldins (nd_ins nd)
/-- what a right paper is -/
structure Good (Ws : List (List Int)) (ps : List (Option Int)) (B : List Int) : Prop where
  len : ps.length = Ws.length
  fit : ∀ (i : Nat) (h : Int), ps[i]? = some (some h) → h ∈ Ws.getD i []
  one : (ps.filterMap id).Nodup
  rg : ∀ w ∈ B, 0 ≤ w ∧ w < Ws.length
  up : B.Pairwise (· < ·)
  cn : ∀ D : List Int, D.Nodup → (∀ h, h ∈ D ↔ ∃ w ∈ B, h ∈ adj Ws w) → (ps.length : Int) - ((ps.filterMap id).length : Nat) = (B.length : Int) - (D.length : Nat)
theorem foldins_len : ∀ (l D : List Int), (l.foldl ins D).length ≤ D.length + l.length
  | [], D => Nat.le_refl _
  | h :: l, D => by
    rw [List.foldl_cons]
    have a := foldins_len l (ins D h)
    have b : (ins D h).length ≤ D.length + 1 := by
      unfold ins
      by_cases c : h ∈ D
      · rw [if_pos c]; exact Nat.le_succ _
      · rw [if_neg c, List.length_append]; exact Nat.le_refl _
    rw [List.length_cons]
    omega
theorem paired_of {K : PySem.W.Frag} {H : Hp} : ∀ (as : List Addr) (l : List Int), as.length = l.length → (∀ (j : Nat) (a : Addr) (h : Int), as[j]? = some a → l[j]? = some h → SqT K H a [.int h, .bl true]) → Paired (fun p kv => SqT K H p [kV kv.1, kv.2]) as (encT l)
  | [], [], _, _ => .nil
  | [], _ :: _, e, _ => by cases e
  | _ :: _, [], e, _ => by cases e
  | a :: as, h :: l, e, all => .cons (all 0 a h rfl rfl) (paired_of as l (Nat.succ.inj e) fun j b k e1 e2 => all (j + 1) b k e1 e2)
def foldD (Ws : List (List Int)) (l : List Int) : List Int := l.foldl (fun D w => (adj Ws w).foldl ins D) []
theorem foldD_snoc (Ws : List (List Int)) (l : List Int) (w : Int) : foldD Ws (l ++ [w]) = (adj Ws w).foldl ins (foldD Ws l) := by
  unfold foldD
  rw [List.foldl_append]
  rfl
theorem nd_foldD (Ws : List (List Int)) : ∀ l : List Int, (foldD Ws l).Nodup := fun l => by
  unfold foldD
  suffices h : ∀ (l D : List Int), D.Nodup → (l.foldl (fun D w => (adj Ws w).foldl ins D) D).Nodup from h l [] List.nodup_nil
  intro l
  induction l with
  | nil => exact fun D nd => nd
  | cons w l ih => exact fun D nd => ih _ (nd_foldins nd)
theorem mem_foldD (Ws : List (List Int)) (l : List Int) (h : Int) : h ∈ foldD Ws l ↔ ∃ w ∈ l, h ∈ adj Ws w := by
  unfold foldD
  suffices k : ∀ (l D : List Int), h ∈ l.foldl (fun D w => (adj Ws w).foldl ins D) D ↔ h ∈ D ∨ ∃ w ∈ l, h ∈ adj Ws w by
    rw [k l []]
    simp
  intro l
  induction l with
  | nil => intro D; simp
  | cons w l ih =>
    intro D
    rw [List.foldl_cons, ih, mem_foldins, or_assoc]
    refine or_congr Iff.rfl ?_
    constructor
    · rintro (q | ⟨v, hv, q⟩)
      · exact ⟨w, List.mem_cons_self .., q⟩
      · exact ⟨v, List.mem_cons_of_mem _ hv, q⟩
    · rintro ⟨v, hv, q⟩
      rcases List.mem_cons.mp hv with e | e
      · exact .inl (e ▸ q)
      · exact .inr ⟨v, e, q⟩
theorem somes_take (ps : List (Option Int)) (i : Nat) {x : Option Int} (h : ps[i]? = some x) : (ps.take (i + 1)).filterMap id = (ps.take i).filterMap id ++ x.toList := by
  rw [List.take_add_one, h, List.filterMap_append]
  congr 1
theorem count_one : ∀ {l : List Int} {h : Int}, l.Nodup → h ∈ l → l.count h = 1
  | [], h, _, m => by cases m
  | a :: l, h, nd, m => by
    have nd' := List.nodup_cons.mp nd
    rw [List.count_cons]
    by_cases c : a = h
    · have : l.count h = 0 := List.count_eq_zero.mpr (fun q => nd'.1 (c ▸ q))
      simp [c, this]
    · rcases List.mem_cons.mp m with e | e
      · exact absurd e.symm c
      · rw [count_one nd'.2 e]
        simp [c]
theorem inV_int {h : Int} {l : List Int} (m : h ∈ l) : inV (.int h) (l.map V.int) = true := by
  unfold inV
  rw [List.any_eq_true]
  refine ⟨.int h, List.mem_map.mpr ⟨h, m, rfl⟩, ?_⟩
  show (h == h) = true
  exact beq_self_eq_true h
theorem flat_int (l : List Int) : (l.map V.int).all flatV = true := by
  rw [List.all_eq_true]
  intro x hx
  obtain ⟨i, _, rfl⟩ := List.mem_map.mp hx
  rfl
theorem all_true (n : Nat) : (List.replicate n true).all id = true := by
  induction n with
  | zero => rfl
  | succ n ih => rw [List.replicate_succ, List.all_cons, ih]; rfl
theorem rep_bl (n : Nat) : (List.replicate n true).map V.bl = List.replicate n (V.bl true) := List.map_replicate
section
variable {P : Program} {w : World} {K : PySem.W.Frag} {mg : Str → Option Value} {base : Heap}
abbrev s_law_whole : Stmt := topS 9
abbrev N_law_whole : List Str := ["_law_given"]
theorem sc_law_whole : FnScope N_law_whole ["_law_given"] (defScope s_law_whole) := ⟨rfl, rfl, rfl, by decide +kernel, rfl, by decide +kernel, by decide +kernel⟩
def sp_law_whole : Sp := fun vs H Q _ => ∃ i : Int, vs = [.int i] ∧ Q (.bl true) H
theorem ok_law_whole {f : Addr} {fd : FuncData} {k : Nat} (F : Fun K "_law_whole" "_law_whole" s_law_whole f fd) (T : Txt mg) : FnOk P w K mg base CX0 (k + 1) f fd ["_law_given"] sp_law_whole := by
  refine F.ok sc_law_whole (fun vs H Q E h => ?_) (fun cdv A outer s H vs Q E hr h => ?_)
  · obtain ⟨i, rfl, _⟩ := h
    rfl
  · obtain ⟨i, rfl, q⟩ := h
    refine ⟨_, (pss_one (ps_ret (pe_and (pe_callB call_isi (by rfl) T.z_isinstance (by decide +kernel) (pa_cons (pv 0) (pa_cons (pe_bltn (v := .ty "int") (by rfl) T.z_int (by decide +kernel) rfl) pa_nil))) (pe_one (pe_not (pe_callB call_isi (by rfl) T.z_isinstance (by decide +kernel) (pa_cons (pv 0) (pa_cons (pe_bltn (v := .ty "bool") (by rfl) T.z_bool (by decide +kernel) rfl) pa_nil)))))))), ?_⟩
    refine ⟨_, rfl, _, _, _, _, true, rfl, .ty "int", .base (.int _), kit_ty (by decide +kernel), true, rfl, iteT ?_⟩
    exact ⟨_, rfl, _, _, _, _, false, rfl, .ty "bool", .base (.int _), kit_ty (by decide +kernel), false, rfl, q⟩
abbrev s_law_where : Stmt := topS 8
abbrev N_law_where : List Str := ["_law_wants", "_law_given", "_law_pairs", "_law_band", "_law_wish", "_law_holder", "_law_some", "_law_fit", "_law_one", "_law_k"]
theorem sc_law_where : FnScope N_law_where ["_law_wants", "_law_given"] (defScope s_law_where) := ⟨rfl, rfl, rfl, by decide +kernel, rfl, by decide +kernel, by decide +kernel⟩
def sp_law_where (K : PySem.W.Frag) : Sp := fun vs H Q _ => ∃ (wa t pa ba : Addr) (Ws : List (List Int)) (ps : List (Option Int)) (B : List Int), vs = [.ref wa, .ref t] ∧ WsAt H wa Ws ∧ Wr Ws ∧ H t = some (.tup [.ref pa, .ref ba]) ∧ H pa = some (.lst (ps.map oV)) ∧ H ba = some (.lst (B.map V.int)) ∧ Good Ws ps B ∧
  ∀ H', Same H H' → Q (.str (Str.ofString "")) H'
theorem ok_law_where {f : Addr} {fd : FuncData} (F : Fun K "_law_where" "_law_where" s_law_where f fd) (T : Txt mg) (C_law_whole : Cal P w K mg base 1 "_law_whole" sp_law_whole) : FnOk P w K mg base CX0 2 f fd ["_law_wants", "_law_given"] (sp_law_where K) := by
  refine F.ok sc_law_where (fun vs H Q E h => ?_) (fun cdv A outer s H vs Q E hr h => ?_)
  · obtain ⟨wa, t, pa, ba, Ws, ps, B, rfl, _⟩ := h
    rfl
  · obtain ⟨wa, t, pa, ba, Ws, ps, B, rfl, hW, W, ht, hp, hb, good, q⟩ := h
    refine ⟨_, (pss_cons (ps_if (PW.pt (pw_or (pt_not (pt_val (pe_callB call_isi (by rfl) T.z_isinstance (by decide +kernel) (pa_cons (pv 1) (pa_cons (pe_bltn (v := .ty "tuple") (by rfl) T.z_tuple (by decide +kernel) rfl) pa_nil))))) (pw_or1 (pt_cmpR op_ne (pe_callB call_len_seq (by rfl) T.z_len (by decide +kernel) (pa_cons (pv 1) pa_nil)) pe_int (nomark _))))) (pss_one (ps_ret pe_str)) pss_nil)
      (pss_cons (ps_if (pt_not (pt_val (pe_callB (cr_all (by rfl)) (by rfl) T.z_all (by decide +kernel) (pa_cons (pe_lc (own := [("_law_one", 8)]) (te := tCB (rIsi K) (tCons (tVar 8) (tCons (tC (.ty "list")) tNil))) (by rfl) sc_law_where.nd (pi_tup (pv 1)) (blkOk_by (own := [("_law_one", 8)]) (N := N_law_where) (sc := defScope s_law_where) (by decide +kernel)) (fun _ _ _ _ _ => (pg_name (i := 8) sc_law_where.nd rfl (.inl rfl))) (fun _ _ _ _ _ => pts_nil) (fun _ _ _ _ _ => (pe_callB call_isi (by rfl) T.z_isinstance (by decide +kernel) (pa_cons (pv 8) (pa_cons (pe_bltn (v := .ty "list") (by rfl) T.z_list (by decide +kernel) rfl) pa_nil))))) pa_nil)))) (pss_one (ps_ret pe_str)) pss_nil)
      (pss_cons (ps_asg (pv 1) (pg_tup rfl (pgs_cons (pg_name (i := 2) sc_law_where.nd rfl (.inl rfl)) (pgs_cons (pg_name (i := 3) sc_law_where.nd rfl (.inr rfl)) pgs_nil))))
      (pss_cons (ps_if (pt_cmpR op_ne (pe_callB call_len_seq (by rfl) T.z_len (by decide +kernel) (pa_cons (pv 2) pa_nil)) (pe_callB call_len_seq (by rfl) T.z_len (by decide +kernel) (pa_cons (pv 0) pa_nil)) (nomark _)) (pss_one (ps_ret pe_str)) pss_nil)
      (pss_cons (ps_for PassesOwn.never rfl (pi_zip (by rfl) T.z_zip (pa_cons (pv 0) (pa_cons (pv 2) pa_nil))) (pg_tup rfl (pgs_cons (pg_name (i := 4) sc_law_where.nd rfl (.inl rfl)) (pgs_cons (pg_name (i := 5) sc_law_where.nd rfl (.inl rfl)) pgs_nil)))
        (pss_one (ps_if (PW.pt (pw_and (pt_cmpR op_notN (pv 5) pe_non (nomark _)) (pw_and1 (PW.pt (pw_or (pt_not (pt_val (pe_cal C_law_whole hr (by decide) (by rfl) (pa_cons (pv 5) pa_nil)))) (pw_or1 (pt_cmpR op_notIn_seq (pv 5) (pv 4) rfl))))))) (pss_one (ps_ret pe_str)) pss_nil)))
      (pss_cons (ps_set (i := 6) sc_law_where.nd rfl (.inr rfl) (pe_lc (own := [("_law_holder", 5)]) (by rfl) sc_law_where.nd (pi_list (pv 2)) (blkOk_by (own := [("_law_holder", 5)]) (N := N_law_where) (sc := defScope s_law_where) (by decide +kernel)) (fun _ _ _ _ _ => (pg_name (i := 5) sc_law_where.nd rfl (.inl rfl))) (fun _ _ _ _ _ => (pts_one (pt_cmpR op_notN (pv 5) pe_non (nomark _)))) (fun _ _ _ _ _ => (pv 5))))
      (pss_cons (ps_if (pt_not (pt_val (pe_callB (cr_all (by rfl)) (by rfl) T.z_all (by decide +kernel) (pa_cons (pe_lc (own := [("_law_holder", 5)]) (te := tOp rEq (tBM K "list" (rCntI K) (tVar 6) (tCons (tVar 5) tNil)) (tC (.int 1))) (by rfl) sc_law_where.nd (pi_list (pv 6)) (blkOk_by (own := [("_law_holder", 5)]) (N := N_law_where) (sc := defScope s_law_where) (by decide +kernel)) (fun _ _ _ _ _ => (pg_name (i := 5) sc_law_where.nd rfl (.inl rfl))) (fun _ _ _ _ _ => pts_nil) (fun _ _ _ _ _ => (pe_cmpR op_eq (pe_bm PySem.F.plainAttrs_list PySem.F.slot_list_count PySem.F.type_list_count mt_lcount (pv 6) (pa_cons (pv 5) pa_nil)) pe_int (nomark _)))) pa_nil)))) (pss_one (ps_ret pe_str)) pss_nil)
      (pss_cons (ps_if (pt_not (pt_val (pe_callB (cr_all (by rfl)) (by rfl) T.z_all (by decide +kernel) (pa_cons (pe_lc (own := [("_law_wish", 4)]) (te := tAndV (tCall sp_law_whole [] E0 (tCons (tVar 4) tNil)) (tChain (rI0 fun i j => .bl (decide (i ≤ j))) (rI0 fun i j => .bl (decide (i < j))) (tC (.int 0)) (tVar 4) (tCB (fun xs H Q => ∃ p ys, xs = [V.ref p] ∧ (SqL K H p ys ∨ SqT K H p ys) ∧ Q (V.int (ys.length : Nat)) H) (tCons (tVar 0) tNil)))) (by rfl) sc_law_where.nd (pi_list (pv 3)) (blkOk_by (own := [("_law_wish", 4)]) (N := N_law_where) (sc := defScope s_law_where) (by decide +kernel)) (fun _ _ _ _ _ => (pg_name (i := 4) sc_law_where.nd rfl (.inl rfl))) (fun _ _ _ _ _ => pts_nil) (fun _ _ _ _ _ => (pe_and (pe_cal C_law_whole hr (by decide) (by rfl) (pa_cons (pv 4) pa_nil)) (pe_one (pe_chain op_le op_lt pe_int (pv 4) (pe_callB call_len_seq (by rfl) T.z_len (by decide +kernel) (pa_cons (pv 0) pa_nil))))))) pa_nil)))) (pss_one (ps_ret pe_str)) pss_nil)
      (pss_cons (ps_if (pt_not (pt_val (pe_callB (cr_all (by rfl)) (by rfl) T.z_all (by decide +kernel) (pa_cons (pe_lc (own := [("_law_k", 9)]) (te := tOp (rI0 fun i j => .bl (decide (i < j))) (tOp (rIxL K) (tVar 3) (tVar 9)) (tOp (rIxL K) (tVar 3) (tOp (rI0 fun i j => .int (i + j)) (tVar 9) (tC (.int 1))))) (by rfl) sc_law_where.nd (pi_range1 (by rfl) T.z_range (pa_cons (pe_op op_sub (pe_callB call_len_seq (by rfl) T.z_len (by decide +kernel) (pa_cons (pv 3) pa_nil)) pe_int) pa_nil)) (blkOk_by (own := [("_law_k", 9)]) (N := N_law_where) (sc := defScope s_law_where) (by decide +kernel)) (fun _ _ _ _ _ => (pg_name (i := 9) sc_law_where.nd rfl (.inl rfl))) (fun _ _ _ _ _ => pts_nil) (fun _ _ _ _ _ => (pe_cmpR op_lt (pe_ix ix_list (pv 3) (pv 9) (fun _ _ => rfl)) (pe_ix ix_list (pv 3) (pe_op op_add (pv 9) pe_int) (fun _ _ => rfl)) (nomark _)))) pa_nil)))) (pss_one (ps_ret pe_str)) pss_nil)
      (pss_cons (ps_set (i := 7) sc_law_where.nd rfl (.inl rfl) pe_dnewK)
      (pss_cons (ps_for PassesOwn.never rfl (pi_list (pv 3)) (pg_name (i := 4) sc_law_where.nd rfl (.inl rfl))
        (pss_one (ps_expr (pe_bm PySem.F.plainAttrs_dict PySem.F.slot_dict_update PySem.F.type_dict_update (mtd_update (by rfl)) (pv 7) (pa_cons (pe_lc (own := [("_law_holder", 5)]) (by rfl) sc_law_where.nd (pi_list (pe_ix ix_list (pv 0) (pv 4) (fun _ _ => rfl))) (blkOk_by (own := [("_law_holder", 5)]) (N := N_law_where) (sc := defScope s_law_where) (by decide +kernel)) (fun _ _ _ _ _ => (pg_name (i := 5) sc_law_where.nd rfl (.inl rfl))) (fun _ _ _ _ _ => pts_nil) (fun _ _ _ _ _ => (pe_tup (pa_cons (pv 5) (pa_cons pe_bl pa_nil))))) pa_nil)))))
      (pss_one (ps_ret (pe_ifExp (pt_cmpR op_eq (pe_op op_sub (pe_callB call_len_seq (by rfl) T.z_len (by decide +kernel) (pa_cons (pv 2) pa_nil)) (pe_callB call_len_seq (by rfl) T.z_len (by decide +kernel) (pa_cons (pv 6) pa_nil))) (pe_op op_sub (pe_callB call_len_seq (by rfl) T.z_len (by decide +kernel) (pa_cons (pv 3) pa_nil)) (pe_callB call_lenD (by rfl) T.z_len (by decide +kernel) (pa_cons (pv 7) pa_nil))) (nomark _)) pe_str pe_str)))))))))))))), ?_⟩
    obtain ⟨as, hwa, hal, hat⟩ := hW
    have hs100 : 100 < sizeLine := by decide
    have hpl24 : ps.length ≤ 24 := by rw [good.len]; exact W.n
    -- a tuple of two
    refine ⟨_, rfl, _, _, _, _, true, rfl, .ty "tuple", .base (.tup ht), kit_ty (by decide +kernel), true, rfl, iteF ?_⟩
    refine ⟨_, rfl, t, _, rfl, .inr (SqT.of ht), rfl, false, neF _, iteF ?_⟩
    -- two lists
    refine ⟨_, rfl, t, rfl, ⟨_, SqT.of ht⟩, fun D1 nD1 => ?_⟩
    refine lc_tup (K := K) (a := t) (xs := [.ref pa, .ref ba]) (fun i H' => Same H H' ∧ H' D1 = some (.lst (List.replicate i (V.bl true)))) ⟨same_upd nD1, upd_same⟩ (fun i H' _ p => SqT.of (p.1 _ _ ht)) ?_ ?_
    · rintro i x H1 hx ⟨sm, hD⟩
      have hi : i < 2 := by
        obtain ⟨h, _⟩ := List.getElem?_eq_some_iff.mp hx
        exact h
      obtain ⟨xs, hxl⟩ : ∃ (a : Addr) , x = .ref a ∧ ∃ ys, H1 a = some (.lst ys) := by
        match i, hx with
        | 0, hx => exact ⟨pa, (Option.some.inj hx).symm, _, sm _ _ hp⟩
        | 1, hx => exact ⟨ba, (Option.some.inj hx).symm, _, sm _ _ hb⟩
      obtain ⟨rfl, ys, hys⟩ := hxl
      refine ⟨rfl, yesI ?_⟩
      refine ⟨_, rfl, _, _, _, _, true, rfl, .ty "list", .base (.lst hys), kit_ty (by decide +kernel), _, hD, ?_, fun b o eb => ?_, ?_⟩
      · rw [List.length_replicate]; omega
      · rw [upd_ne (ne_of_none eb nD1)]
        exact sm b o eb
      · rw [upd_same, List.replicate_succ']
    rintro H1 ⟨sm1, hD1⟩
    refine ⟨D1, List.replicate 2 true, rfl, SqL.of hD1, true, rfl, iteF ?_⟩
    clear hD1
    -- pairs, band = given
    refine ⟨_, rfl, t, _, rfl, SqT.of (sm1 _ _ ht), rfl, _, _, rfl, _, _, rfl, rfl, ?_⟩
    refine ⟨_, rfl, pa, _, rfl, .inl (SqL.of (sm1 _ _ hp)), _, rfl, wa, _, rfl, .inl (SqL.of (sm1 _ _ hwa)), rfl, false, ?_, iteF ?_⟩
    · rw [List.length_map, List.length_map, hal, good.len]
      exact neF _
    -- each fits
    refine ⟨_, rfl, _, rfl, wa, pa, _, _, rfl, SqL.of (sm1 _ _ hwa), SqL.of (sm1 _ _ hp), ?_⟩
    refine RZ.for_zipL (K := K) (a := wa) (b := pa) (xs := as.map V.ref) (ys := ps.map oV) (by rw [List.length_map, List.length_map, hal, good.len]) (fun i σ H' => (∃ y4 y5, σ = [some (.ref wa), some (.ref t), some (.ref pa), some (.ref ba), y4, y5, none, none, none, none]) ∧ Same H H') ⟨⟨_, _, rfl⟩, sm1⟩ (fun i σ H' p => ⟨SqL.of (p.2 _ _ hwa), SqL.of (p.2 _ _ hp)⟩) ?_ ?_
    · rintro i x y Tz σ H2 hx hy ⟨⟨y4, y5, rfl⟩, sm2⟩ nT
      obtain ⟨a, ha, rfl⟩ : ∃ a, as[i]? = some a ∧ x = .ref a := by
        rw [List.getElem?_map] at hx
        cases e : as[i]? with
        | none => rw [e] at hx; cases hx
        | some v => rw [e] at hx; exact ⟨v, rfl, (Option.some.inj hx).symm⟩
      obtain ⟨o, ho, rfl⟩ : ∃ o, ps[i]? = some o ∧ y = oV o := by
        rw [List.getElem?_map] at hy
        cases e : ps[i]? with
        | none => rw [e] at hy; cases hy
        | some v => rw [e] at hy; exact ⟨v, rfl, (Option.some.inj hy).symm⟩
      have sT := same_upd (o := .tup [.ref a, oV o]) nT
      refine ⟨Tz, _, rfl, SqT.of upd_same, rfl, _, _, rfl, _, _, rfl, rfl, ?_⟩
      cases o with
      | none =>
        refine ⟨_, rfl, rfl, false, rfl, iteF ?_⟩
        exact ⟨⟨_, _, rfl⟩, sm2.trans sT⟩
      | some h =>
        refine ⟨_, rfl, rfl, true, ?_, iteT ?_⟩
        · show V.bl (!decide (V.int h = V.non)) = _
          rw [decide_eq_false (by intro z; cases z)]
          rfl
        refine ⟨_, rfl, h, rfl, true, rfl, iteF ?_⟩
        have hla := (sm2.trans sT) _ _ (hat i a ha)
        refine ⟨_, rfl, _, rfl, a, _, rfl, .inl (SqL.of hla), rfl, flat_int _, false, ?_, iteF ?_⟩
        · show V.bl (!inV (V.int h) _) = V.bl false
          rw [inV_int (good.fit i h ho)]
          rfl
        exact ⟨⟨_, _, rfl⟩, sm2.trans sT⟩
    rintro σ H2 ⟨⟨y4, y5, rfl⟩, sm2⟩
    -- the holders
    refine ⟨_, rfl, pa, rfl, ⟨_, SqL.of (sm2 _ _ hp)⟩, fun D2 nD2 => ?_⟩
    refine lc_list (K := K) (a := pa) (xs := ps.map oV) (fun i H' => Same H2 H' ∧ H' D2 = some (.lst (((ps.take i).filterMap id).map V.int))) ⟨same_upd nD2, upd_same⟩ (fun i H' _ p => SqL.of (p.1 _ _ (sm2 _ _ hp))) ?_ ?_
    · rintro i x H3 hx ⟨sm, hD⟩
      obtain ⟨o, ho, rfl⟩ : ∃ o, ps[i]? = some o ∧ x = oV o := by
        rw [List.getElem?_map] at hx
        cases e : ps[i]? with
        | none => rw [e] at hx; cases hx
        | some v => rw [e] at hx; exact ⟨v, rfl, (Option.some.inj hx).symm⟩
      refine ⟨rfl, _, rfl, rfl, ?_⟩
      cases o with
      | none =>
        refine ⟨false, rfl, iteF ⟨sm, ?_⟩⟩
        rw [somes_take ps i ho]
        simpa using hD
      | some h =>
        refine ⟨true, ?_, iteT ?_⟩
        · show V.bl (!decide (V.int h = V.non)) = _
          rw [decide_eq_false (by intro z; cases z)]
          rfl
        refine ⟨_, rfl, _, hD, ?_, fun b o eb => ?_, ?_⟩
        · rw [List.length_map]
          have a1 := List.length_filterMap_le id (ps.take i)
          rw [List.length_take] at a1
          omega
        · rw [upd_ne (ne_of_none eb nD2)]
          exact sm b o eb
        · rw [upd_same, somes_take ps i ho, List.map_append]
          rfl
    rintro H3 ⟨sm3, hD3⟩
    rw [List.length_map, List.take_length] at hD3
    have so : ((ps.filterMap id).map V.int).length ≤ 24 := by
      rw [List.length_map]
      exact Nat.le_trans (List.length_filterMap_le id ps) hpl24
    have hso := good.one
    have sH3 : Same H H3 := sm2.trans sm3
    -- none twice
    refine ⟨_, rfl, D2, rfl, ⟨_, SqL.of hD3⟩, fun D4 nD4 => ?_⟩
    refine lc_list (K := K) (a := D2) (xs := (ps.filterMap id).map V.int) (fun i H' => Same H3 H' ∧ H' D4 = some (.lst (List.replicate i (V.bl true)))) ⟨same_upd nD4, upd_same⟩ (fun i H' _ p => SqL.of (p.1 _ _ hD3)) ?_ ?_
    · rintro i x H4 hx ⟨sm, hD⟩
      have hi : i < ((ps.filterMap id).map V.int).length := by
        obtain ⟨h, _⟩ := List.getElem?_eq_some_iff.mp hx
        exact h
      obtain ⟨h, hh, rfl⟩ : ∃ h : Int, (ps.filterMap id)[i]? = some h ∧ x = .int h := by
        rw [List.getElem?_map] at hx
        cases e : (ps.filterMap id)[i]? with
        | none => rw [e] at hx; cases hx
        | some v => rw [e] at hx; exact ⟨v, rfl, (Option.some.inj hx).symm⟩
      have hone : (ps.filterMap id).count h = 1 := count_one hso (List.mem_of_getElem? hh)
      refine ⟨rfl, yesI ?_⟩
      refine ⟨_, rfl, .inl ⟨rfl, _, SqL.of (sm _ _ hD3)⟩, _, rfl, D2, _, h, rfl, rfl, SqL.of (sm _ _ hD3), rfl, _, hD, ?_, fun b o eb => ?_, ?_⟩
      · rw [List.length_replicate]; omega
      · rw [upd_ne (ne_of_none eb nD4)]
        exact sm b o eb
      · rw [upd_same, List.replicate_succ', hone]
        rfl
    rintro H4 ⟨sm4, hD4⟩
    refine ⟨D4, List.replicate ((ps.filterMap id).map V.int).length true, rfl, by rw [rep_bl]; exact SqL.of hD4, true, by rw [all_true], iteF ?_⟩
    clear hD4
    have sH4 : Same H H4 := sH3.trans sm4
    have hB24 : B.length ≤ 24 := Nat.le_trans (nd_range (good.up.imp fun h => Int.ne_of_lt h) good.rg) W.n
    -- the band's places
    refine ⟨_, rfl, ba, rfl, ⟨_, SqL.of (sH4 _ _ hb)⟩, fun D5 nD5 => ?_⟩
    refine lc_list (K := K) (a := ba) (xs := B.map V.int) (fun i H' => Same H4 H' ∧ H' D5 = some (.lst (List.replicate i (V.bl true)))) ⟨same_upd nD5, upd_same⟩ (fun i H' _ p => SqL.of (p.1 _ _ (sH4 _ _ hb))) ?_ ?_
    · rintro i x H5 hx ⟨sm, hD⟩
      have hi : i < (B.map V.int).length := by
        obtain ⟨h, _⟩ := List.getElem?_eq_some_iff.mp hx
        exact h
      rw [List.length_map] at hi
      obtain ⟨v, hv, rfl⟩ : ∃ h : Int, B[i]? = some h ∧ x = .int h := by
        rw [List.getElem?_map] at hx
        cases e : B[i]? with
        | none => rw [e] at hx; cases hx
        | some v => rw [e] at hx; exact ⟨v, rfl, (Option.some.inj hx).symm⟩
      have hr := good.rg v (List.mem_of_getElem? hv)
      refine ⟨rfl, yesI ?_⟩
      refine ⟨_, rfl, v, rfl, true, rfl, iteT ?_⟩
      refine ⟨_, rfl, _, _, rfl, rfl, true, (by show V.bl (decide ((0 : Int) ≤ v)) = _; rw [decide_eq_true hr.1]), iteT ?_⟩
      refine ⟨_, rfl, wa, _, rfl, .inl (SqL.of (sm _ _ (sH4 _ _ hwa))), _, _, rfl, rfl, _, hD, ?_, fun b o eb => ?_, ?_⟩
      · rw [List.length_replicate]; omega
      · rw [upd_ne (ne_of_none eb nD5)]
        exact sm b o eb
      · rw [upd_same, List.replicate_succ', List.length_map, hal]
        dsimp only
        rw [decide_eq_true hr.2]
    rintro H5 ⟨sm5, hD5⟩
    refine ⟨D5, List.replicate (B.map V.int).length true, rfl, by rw [rep_bl]; exact SqL.of hD5, true, by rw [all_true], iteF ?_⟩
    clear hD5
    have sH5 : Same H H5 := sH4.trans sm5
    -- rising
    have hbl : ((B.map V.int).length : Int) - 1 = (B.length : Int) - 1 := by rw [List.length_map]
    refine ⟨_, rfl, ba, _, rfl, .inl (SqL.of (sH5 _ _ hb)), _, _, rfl, rfl, _, rfl, by rw [hbl]; omega, by rw [hbl]; omega, fun D6 nD6 => ?_⟩
    rw [hbl]
    refine lc_range (lo := 0) (n := ((B.length : Int) - 1).toNat) (fun i H' => Same H5 H' ∧ H' D6 = some (.lst (List.replicate i (V.bl true)))) ⟨same_upd nD6, upd_same⟩ ?_ ?_
    · rintro i H6 hi ⟨sm, hD⟩
      have hi1 : i + 1 < B.length := by omega
      have hlt : B[i] < B[i + 1] := List.pairwise_iff_getElem.mp good.up i (i + 1) (by omega) hi1 (by omega)
      have g0 : atI (B.map V.int) (0 + (i : Int)) = some (.int B[i]) := atI_of (by omega) (by rw [show (0 + (i : Int)).toNat = i by omega, List.getElem?_map, List.getElem?_eq_getElem (by omega)]; rfl)
      have g1 : atI (B.map V.int) (0 + (i : Int) + 1) = some (.int B[i + 1]) := atI_of (by omega) (by rw [show (0 + (i : Int) + 1).toNat = i + 1 by omega, List.getElem?_map, List.getElem?_eq_getElem hi1]; rfl)
      have hbb := SqL.of (K := K) (sm _ _ (sH5 _ _ hb))
      refine ⟨rfl, yesI ?_⟩
      refine ⟨_, rfl, _, rfl, ba, _, _, _, rfl, rfl, hbb, g0, _, rfl, _, rfl, _, _, rfl, rfl, ba, _, _, _, rfl, rfl, hbb, g1, _, _, rfl, rfl, _, hD, ?_, fun b o eb => ?_, ?_⟩
      · rw [List.length_replicate]; omega
      · rw [upd_ne (ne_of_none eb nD6)]
        exact sm b o eb
      · rw [upd_same, List.replicate_succ']
        dsimp only
        rw [decide_eq_true hlt]
    rintro H6 ⟨sm6, hD6⟩
    refine ⟨D6, List.replicate ((B.length : Int) - 1).toNat true, rfl, by rw [rep_bl]; exact SqL.of hD6, true, by rw [all_true], iteF ?_⟩
    clear hD6
    have sH6 : Same H H6 := sH5.trans sm6
    have hD36 := sm6 _ _ (sm5 _ _ (sm4 _ _ hD3))
    -- what fits
    refine fun fd0 nfd => ?_
    have sH7 : Same H (upd H6 fd0 (.dK [])) := sH6.trans (same_upd nfd)
    have hD37 := same_upd (o := .dK []) nfd _ _ hD36
    have nfH : H fd0 = none := sH6.free nfd
    have nfD : D2 ≠ fd0 := ne_of_none hD36 nfd
    refine ⟨_, rfl, ba, rfl, ⟨_, SqL.of (sH7 _ _ hb)⟩, ?_⟩
    refine for_list (K := K) (a := ba) (xs := B.map V.int) (fun i σ H' => (∃ y4, σ = [some (.ref wa), some (.ref t), some (.ref pa), some (.ref ba), y4, y5, some (.ref D2), some (.ref fd0), none, none]) ∧ Same H H' ∧ H' D2 = some (.lst ((ps.filterMap id).map V.int)) ∧ H' fd0 = some (.dK (encT (foldD Ws (B.take i)))) ∧ (foldD Ws (B.take i)).length ≤ i * 60)
      ⟨⟨_, rfl⟩, sH7, hD37, upd_same, Nat.zero_le _⟩ (fun i σ H' _ p => SqL.of (p.2.1 _ _ hb)) ?_ ?_
    · rintro i x σ H8 hx ⟨⟨z4, rfl⟩, sm8, hD8, hf8, hfl⟩
      have hi : i < (B.map V.int).length := by
        obtain ⟨h, _⟩ := List.getElem?_eq_some_iff.mp hx
        exact h
      rw [List.length_map] at hi
      obtain ⟨v, hv, rfl⟩ : ∃ h : Int, B[i]? = some h ∧ x = .int h := by
        rw [List.getElem?_map] at hx
        cases e : B[i]? with
        | none => rw [e] at hx; cases hx
        | some v => rw [e] at hx; exact ⟨v, rfl, (Option.some.inj hx).symm⟩
      have hr := good.rg v (List.mem_of_getElem? hv)
      have hvn : v.toNat < as.length := by omega
      have hvl : as[v.toNat]? = some as[v.toNat] := List.getElem?_eq_getElem hvn
      have hll : H8 as[v.toNat] = some (.lst ((adj Ws v).map V.int)) := sm8 _ _ (hat _ _ hvl)
      generalize as[v.toNat] = lw at hvl hll
      refine ⟨_, rfl, .inr (.inr (.inl ⟨rfl, .inl ⟨_, hf8⟩⟩)), _, rfl, _, rfl, wa, _, v, .ref lw, rfl, rfl, SqL.of (sm8 _ _ hwa), atI_of hr.1 (by rw [List.getElem?_map, hvl]; rfl), lw, rfl, ⟨_, SqL.of hll⟩, fun D9 nD9 => ?_⟩
      refine lc_list (K := K) (a := lw) (xs := (adj Ws v).map V.int) (fun j H' => Same H8 H' ∧ ∃ ts : List Addr, H' D9 = some (.lst (ts.map V.ref)) ∧ ts.length = j ∧ ∀ (k : Nat) (a : Addr) (h : Int), ts[k]? = some a → (adj Ws v)[k]? = some h → a ≠ D9 ∧ H' a = some (.tup [.int h, .bl true])) ⟨same_upd nD9, [], upd_same, rfl, fun k a h e => by cases e⟩ (fun j H' _ p => SqL.of (p.1 _ _ hll)) ?_ ?_
      · rintro j x H9 hx9 ⟨sm9, ts, hD9, htl, htt⟩
        obtain ⟨h, hh, rfl⟩ : ∃ h : Int, (adj Ws v)[j]? = some h ∧ x = .int h := by
          rw [List.getElem?_map] at hx9
          cases e : (adj Ws v)[j]? with
          | none => rw [e] at hx9; cases hx9
          | some v => rw [e] at hx9; exact ⟨v, rfl, (Option.some.inj hx9).symm⟩
        have hj60 : j < 60 := by
          obtain ⟨h1, _⟩ := List.getElem?_eq_some_iff.mp hh
          have := W.len v
          omega
        refine ⟨rfl, yesI ?_⟩
        refine ⟨_, rfl, by show 2 ≤ sizeLine; decide, fun tt ntt => ?_⟩
        have sT := same_upd (o := .tup [.int h, .bl true]) ntt
        have ttD : tt ≠ D9 := (ne_of_none hD9 ntt).symm
        refine ⟨_, sT _ _ hD9, ?_, fun b o eb => ?_, ts ++ [tt], ?_, ?_, fun k a h' e1 e2 => ?_⟩
        · rw [List.length_map, htl]; omega
        · rw [upd_ne (ne_of_none eb nD9)]
          exact sT _ _ (sm9 b o eb)
        · rw [upd_same, List.map_append]
          rfl
        · rw [List.length_append, htl]; rfl
        · by_cases c : k < ts.length
          · rw [List.getElem?_append_left c] at e1
            obtain ⟨n1, e3⟩ := htt k a h' e1 e2
            refine ⟨n1, ?_⟩
            rw [upd_ne n1]
            exact sT _ _ e3
          · have hkl : k = ts.length := by
              obtain ⟨h1, _⟩ := List.getElem?_eq_some_iff.mp e1
              rw [List.length_append] at h1
              simp only [List.length_cons, List.length_nil] at h1
              omega
            subst hkl
            rw [List.getElem?_append_right (Nat.le_refl _), Nat.sub_self] at e1
            have : tt = a := Option.some.inj e1
            subst this
            rw [htl, hh] at e2
            cases e2
            refine ⟨ttD, ?_⟩
            rw [upd_ne ttD, upd_same]
      rintro H9 ⟨sm9, ts, hD9, htl, htt⟩
      rw [List.length_map] at htl
      have hf9 := sm9 _ _ hf8
      have hadl := W.len v
      have hel : (encT (foldD Ws (B.take i))).length + (encT (adj Ws v)).length ≤ sizeLine := by
        unfold encT
        rw [List.length_map, List.length_map]
        exact Nat.le_trans (show _ ≤ 1500 by omega) (by decide)
      refine ⟨fd0, D9, ts, _, encT (adj Ws v), rfl, rfl, hf9, SqL.of hD9, paired_of ts (adj Ws v) htl (fun k a h e1 e2 => SqT.of (htt k a h e1 e2).2), hel, ?_⟩
      rw [merge_ins]
      have htk : B.take (i + 1) = B.take i ++ [v] := by
        rw [List.take_add_one, hv]
        rfl
      refine ⟨⟨_, rfl⟩, fun b o eb => ?_, ?_, ?_, ?_⟩
      · rw [upd_ne (ne_of_none eb nfH)]
        exact sm9 _ _ (sm8 b o eb)
      · rw [upd_ne nfD]
        exact sm9 _ _ hD8
      · rw [upd_same, htk, foldD_snoc]
      · rw [htk, foldD_snoc]
        have := foldins_len (adj Ws v) (foldD Ws (B.take i))
        omega
    rintro σ H8 ⟨⟨z4, rfl⟩, sm8, hD8, hf8, hfl⟩
    rw [List.length_map, List.take_length] at hf8
    refine ⟨_, rfl, pa, _, rfl, .inl (SqL.of (sm8 _ _ hp)), _, rfl, D2, _, rfl, .inl (SqL.of hD8), _, _, rfl, rfl, _, rfl, ba, _, rfl, .inl (SqL.of (sm8 _ _ hb)), _, rfl, fd0, _, rfl, hf8, _, _, rfl, rfl, rfl, true, ?_, iteT ?_⟩
    · have := good.cn (foldD Ws B) (nd_foldD Ws B) (mem_foldD Ws B)
      have e1 : (encT (foldD Ws B)).length = (foldD Ws B).length := by
        unfold encT
        rw [List.length_map]
      rw [List.length_map, List.length_map, List.length_map, e1]
      exact congrArg V.bl (decide_eq_true (congrArg V.int this))
    exact q _ sm8
end
end My

set_option Elab.async false
set_option linter.all false
set_option maxRecDepth 100000
set_option maxHeartbeats 4000000
namespace My
open PySem PySem.Spec PyProof.Rows L2
theorem vals_app : ∀ {vs : List V} {us : List Value} {zs : List V} {ws : List Value}, Vals vs us → Vals zs ws → Vals (vs ++ zs) (us ++ ws)
  | _, _, _, _, .nil, r => r
  | _, _, _, _, .cons h t, r => .cons h (vals_app t r)
/-- f(k = v, ..), nothing by place -/
theorem pe_calK0 {X : Cx} {k j : Nat} {f : Addr} {fd : FuncData} {ps ks : List Str} {sp : Sp} {x : Str} {p pos : Pos} {kws : List Keyword} {tk : TA} {g : List Value → List Value → List Value} {gV : List V → List V → List V}
    (F : FnOk X.prog X.w X.K X.mg X.base CX0 k f fd ps sp) (hr : Room j X.A) (hj : k ≤ j) (hg : Gl X x) (hm : X.mg x = some (.ref f)) (hk : PySem.W.keepIn X.K (.ref f) = true) (hb : KBinds X.K fd ps ks g gV) (hkw : PK X kws tk)
    (hall : (backToKw pos (keywordEach kws X.env)).all (·.1.isSome) = true := by rfl) (hks : (backToKw pos (keywordEach kws X.env)).filterMap (·.1) = ks := by rfl) (hdb : (x == ("__debug__" : Str)) = false := by decide)
    (hpl : ((backTo pos (starEach [] X.env)).any (·.1) || (backToKw pos (keywordEach kws X.env)).any (·.1.isNone)) = false := by rfl) :
    PE X (.Call (.Name x p) [] kws pos) (fun σ H Q => tk σ H fun zs H2 => sp (gV [] zs) H2 Q E0) := by
  refine ⟨fun pins s σ H Q I h => ?_⟩
  refine wpAny_Call_Name_kw (ld_glob I hg hm ?_ hdb)
  refine PySem.W.callWith_KW0 (h₀ := X.base) I.ok.mod.kin hk hall ?_ hpl
  refine thn (hkw.run pos pins s σ H _ I h) fun ws s2 ⟨zs, H2, I2, rz, q2⟩ => ⟨I2.kIn, ?_⟩
  rw [hks]
  exact run_fnk (us := []) (vs := []) F (hr.mono hj) hb pass0 I2 .nil rz q2
theorem kit_no {K : PySem.W.Frag} : PySem.W.kitAny K (.type "int") [.type "list", .type "tuple"] = some false :=
  kitAny_cons (b := false) (kit_ty (by decide +kernel)) (fun _ => kitAny_cons (b := false) (kit_ty (by decide +kernel)) (fun _ => rfl) (fun z => by cases z)) (fun z => by cases z)
theorem kit_yes {K : PySem.W.Frag} : PySem.W.kitAny K (.type "list") [.type "list", .type "tuple"] = some true :=
  kitAny_cons (b := true) (kit_ty (by decide +kernel)) (fun z => by cases z) (fun _ => rfl)
section
variable {P : Program} {w : World} {K : PySem.W.Frag} {mg : Str → Option Value} {base : Heap}
abbrev s_law_copied : Stmt := topS 10
abbrev N_law_copied : List Str := ["_law_given", "_law_found", "_law_one"]
theorem sc_law_copied : FnScope N_law_copied ["_law_given"] (defScope s_law_copied) := ⟨rfl, rfl, rfl, by decide +kernel, rfl, by decide +kernel, by decide +kernel⟩
def spF : Sp := fun _ _ _ _ => False
def sp_cop0 : Sp := fun vs H Q _ => ∃ i : Int, vs = [.int i] ∧ ∀ H', Same H H' → Q (.int i) H'
def sp_cop1 : Sp := fun vs H Q _ => ∃ (a : Addr) (l : List Int), vs = [.ref a] ∧ H a = some (.lst (l.map V.int)) ∧ l.length ≤ 60 ∧ ∀ H' p, Same H H' → H p = none → H' p = some (.lst (l.map V.int)) → Q (.ref p) H'
def sp_cop2 : Sp := fun vs H Q _ => ∃ (wa : Addr) (Ws : List (List Int)), vs = [.ref wa] ∧ WsAt H wa Ws ∧ Wr Ws ∧ ∀ H' p, Same H H' → WsAt H' p Ws → Q (.ref p) H'
theorem cop_term {f : Addr} {cdv : Value} {A : Around} {outer : List Env} {s : Shared} {H : Hp} {E : XK} {k n : Nat} {sp : Sp} (T : Txt mg) (hr : Room k (A.deeper (envOfC "_law_copied" (defScope s_law_copied) s.heap.objs.size f cdv))) (hn : n ≤ k) (C_law_copied : Cal P w K mg base n "_law_copied" sp) :
    PSs (cxOf CX0 P w K mg base N_law_copied "_law_copied" (defScope s_law_copied) f cdv A outer s H E).nox (defBody s_law_copied)
      (tSeq (tIfS (tB (tCB (rIsiT K) (tCons (tVar 0) (tCons (tTup (tCons (tC (.ty "list")) (tCons (tC (.ty "tuple")) tNil))) tNil))))
        (tSeq (tAsg (tLc (iList K (tVar 0)) (gName 2) tYes (tCall sp [] E0 (tCons (tVar 2) tNil)) [2]) (gName 1))
          (tRet (tIf (tB (tCB (rIsi K) (tCons (tVar 0) (tCons (tC (.ty "list")) tNil)))) (tVar 1) (tCB (fun xs H Q => ∃ p ys, xs = [V.ref p] ∧ ((SqL K H p ys ∧ ∀ l, H l = none → Q (.ref l) (upd H l (.tup ys))) ∨ (SqT K H p ys ∧ Q (.ref p) H))) (tCons (tVar 1) tNil))))) tNext) (tRet (tVar 0))) := by
  exact (pss_cons (ps_if (pt_val (pe_callB call_isiT (by rfl) T.z_isinstance (by decide +kernel) (pa_cons (pv 0) (pa_cons (pe_tup (pa_cons (pe_bltn (v := .ty "list") (by rfl) T.z_list (by decide +kernel) rfl) (pa_cons (pe_bltn (v := .ty "tuple") (by rfl) T.z_tuple (by decide +kernel) rfl) pa_nil))) pa_nil)))) (pss_cons (ps_setLc (i := 1) (own := [("_law_one", 2)]) (by rfl) sc_law_copied.nd rfl rfl (sw_true rfl rfl rfl (by decide +kernel)) (pi_list (pv 0)) (blkOk_by (own := [("_law_one", 2)]) (N := N_law_copied) (sc := defScope s_law_copied) (by decide +kernel)) (fun _ _ _ _ _ => (pg_name (i := 2) sc_law_copied.nd rfl (.inl rfl))) (fun _ _ _ _ _ => pts_nil) (fun _ _ _ _ _ => (pe_cal C_law_copied hr hn (by rfl) (pa_cons (pv 2) pa_nil))))
        (pss_one (ps_ret (pe_ifExp (pt_val (pe_callB call_isi (by rfl) T.z_isinstance (by decide +kernel) (pa_cons (pv 0) (pa_cons (pe_bltn (v := .ty "list") (by rfl) T.z_list (by decide +kernel) rfl) pa_nil)))) (pv 1) (pe_callTy call_tuple_of (by rfl) T.z_tuple (by decide +kernel) (pa_cons (pv 1) pa_nil)))))) pss_nil)
      (pss_one (ps_ret (pv 0))))
theorem cls2 : Paired ClsV [V.ty "list", V.ty "tuple"] [.type "list", .type "tuple"] := .cons (.ty _) (.cons (.ty _) .nil)
theorem ok_cop0 {f : Addr} {fd : FuncData} (F : Fun K "_law_copied" "_law_copied" s_law_copied f fd) (T : Txt mg) (C : Cal P w K mg base 0 "_law_copied" spF) : FnOk P w K mg base CX0 1 f fd ["_law_given"] sp_cop0 := by
  refine F.ok sc_law_copied (fun vs H Q E h => ?_) (fun cdv A outer s H vs Q E hr h => ?_)
  · obtain ⟨i, rfl, _⟩ := h
    rfl
  · obtain ⟨i, rfl, q⟩ := h
    refine ⟨_, cop_term T hr (Nat.le_refl _) C, ?_⟩
    refine ⟨_, rfl, by show 2 ≤ sizeLine; decide, fun tp ntp => ?_⟩
    refine ⟨_, tp, _, _, _, false, rfl, upd_same, cls2, .base (.int _), kit_no, false, rfl, iteF ?_⟩
    exact ⟨_, rfl, q _ (same_upd ntp)⟩
theorem ok_cop1 {f : Addr} {fd : FuncData} (F : Fun K "_law_copied" "_law_copied" s_law_copied f fd) (T : Txt mg) (C : Cal P w K mg base 1 "_law_copied" sp_cop0) : FnOk P w K mg base CX0 2 f fd ["_law_given"] sp_cop1 := by
  refine F.ok sc_law_copied (fun vs H Q E h => ?_) (fun cdv A outer s H vs Q E hr h => ?_)
  · obtain ⟨a, l, rfl, _⟩ := h
    rfl
  · obtain ⟨a, l, rfl, ha, hl, q⟩ := h
    refine ⟨_, cop_term T hr (Nat.le_refl _) C, ?_⟩
    refine ⟨_, rfl, by show 2 ≤ sizeLine; decide, fun tp ntp => ?_⟩
    have S1 := same_upd (o := .tup [V.ty "list", V.ty "tuple"]) ntp
    refine ⟨_, tp, _, _, _, true, rfl, upd_same, cls2, .base (.lst (S1 _ _ ha)), kit_yes, true, rfl, iteT ?_⟩
    generalize upd H tp (.tup [V.ty "list", V.ty "tuple"]) = H1 at S1
    refine ⟨_, rfl, a, rfl, ⟨_, SqL.of (S1 _ _ ha)⟩, fun D nD => ?_⟩
    refine lc_list (K := K) (a := a) (xs := l.map V.int) (fun i H' => Same H1 H' ∧ H' D = some (.lst ((l.take i).map V.int))) ⟨same_upd nD, upd_same⟩ (fun i H' _ p => SqL.of (p.1 _ _ (S1 _ _ ha))) ?_ ?_
    · rintro i x H2 hx ⟨sm, hD⟩
      obtain ⟨h, hh, rfl⟩ : ∃ h : Int, l[i]? = some h ∧ x = .int h := by
        rw [List.getElem?_map] at hx
        cases e : l[i]? with
        | none => rw [e] at hx; cases hx
        | some v => rw [e] at hx; exact ⟨v, rfl, (Option.some.inj hx).symm⟩
      refine ⟨rfl, yesI ?_⟩
      refine ⟨_, rfl, h, rfl, fun H3 sm3 => ⟨_, sm3 _ _ hD, ?_, fun b o eb => ?_, ?_⟩⟩
      · rw [List.length_map, List.length_take]
        exact Nat.lt_of_le_of_lt (show _ ≤ 60 by omega) (by decide)
      · rw [upd_ne (ne_of_none eb nD)]
        exact sm3 _ _ (sm b o eb)
      · rw [upd_same, List.take_add_one, hh, List.map_append]
        rfl
    · rintro H2 ⟨sm, hD⟩
      rw [List.length_map, List.take_length] at hD
      refine ⟨_, rfl, _, _, _, _, true, rfl, .ty "list", .base (.lst (sm _ _ (S1 _ _ ha))), kit_ty (by decide +kernel), true, rfl, iteT ?_⟩
      exact ⟨_, rfl, q _ D (S1.trans sm) (S1.free nD) hD⟩
theorem ok_cop2 {f : Addr} {fd : FuncData} (F : Fun K "_law_copied" "_law_copied" s_law_copied f fd) (T : Txt mg) (C : Cal P w K mg base 2 "_law_copied" sp_cop1) : FnOk P w K mg base CX0 3 f fd ["_law_given"] sp_cop2 := by
  refine F.ok sc_law_copied (fun vs H Q E h => ?_) (fun cdv A outer s H vs Q E hr h => ?_)
  · obtain ⟨a, l, rfl, _⟩ := h
    rfl
  · obtain ⟨wa, Ws, rfl, ⟨as, hwa, hal, hat⟩, W, q⟩ := h
    refine ⟨_, cop_term T hr (Nat.le_refl _) C, ?_⟩
    refine ⟨_, rfl, by show 2 ≤ sizeLine; decide, fun tp ntp => ?_⟩
    have S1 := same_upd (o := .tup [V.ty "list", V.ty "tuple"]) ntp
    refine ⟨_, tp, _, _, _, true, rfl, upd_same, cls2, .base (.lst (S1 _ _ hwa)), kit_yes, true, rfl, iteT ?_⟩
    generalize upd H tp (.tup [V.ty "list", V.ty "tuple"]) = H1 at S1
    refine ⟨_, rfl, wa, rfl, ⟨_, SqL.of (S1 _ _ hwa)⟩, fun D nD => ?_⟩
    refine lc_list (K := K) (a := wa) (xs := as.map V.ref) (fun i H' => Same H1 H' ∧ ∃ bs : List Addr, H' D = some (.lst (bs.map V.ref)) ∧ bs.length = i ∧ ∀ (j : Nat) (b : Addr), bs[j]? = some b → b ≠ D ∧ H' b = some (.lst ((Ws.getD j []).map V.int))) ⟨same_upd nD, [], upd_same, rfl, fun j b e => by cases e⟩ (fun i H' _ p => SqL.of (p.1 _ _ (S1 _ _ hwa))) ?_ ?_
    · rintro i x H2 hx ⟨sm, bs, hD, hbl, hbb⟩
      obtain ⟨a, ha, rfl⟩ : ∃ a : Addr, as[i]? = some a ∧ x = .ref a := by
        rw [List.getElem?_map] at hx
        cases e : as[i]? with
        | none => rw [e] at hx; cases hx
        | some v => rw [e] at hx; exact ⟨v, rfl, (Option.some.inj hx).symm⟩
      have hi : i < as.length := (List.getElem?_eq_some_iff.mp ha).1
      have hWn := W.n
      have hll : (Ws.getD i []).length ≤ 60 := by
        have := W.len (i : Int)
        exact this
      refine ⟨rfl, yesI ?_⟩
      refine ⟨_, rfl, a, _, rfl, sm _ _ (S1 _ _ (hat i a ha)), hll, fun H3 b sm3 nb3 eb3 => ⟨_, sm3 _ _ hD, ?_, fun c o ec => ?_, bs ++ [b], ?_, ?_, fun j c ec => ?_⟩⟩
      · rw [List.length_map, hbl]
        exact Nat.lt_of_le_of_lt (show _ ≤ 60 by omega) (by decide)
      · rw [upd_ne (ne_of_none ec nD)]
        exact sm3 _ _ (sm c o ec)
      · rw [upd_same, List.map_append]
        rfl
      · rw [List.length_append, hbl]; rfl
      · have bD : b ≠ D := (ne_of_none hD nb3).symm
        by_cases c1 : j < bs.length
        · rw [List.getElem?_append_left c1] at ec
          obtain ⟨n1, e3⟩ := hbb j c ec
          refine ⟨n1, ?_⟩
          rw [upd_ne n1]
          exact sm3 _ _ e3
        · have hkl : j = bs.length := by
            obtain ⟨h1, _⟩ := List.getElem?_eq_some_iff.mp ec
            rw [List.length_append] at h1
            simp only [List.length_cons, List.length_nil] at h1
            omega
          subst hkl
          rw [List.getElem?_append_right (Nat.le_refl _), Nat.sub_self] at ec
          have : b = c := Option.some.inj ec
          subst this
          refine ⟨bD, ?_⟩
          rw [upd_ne bD, hbl]
          exact eb3
    · rintro H2 ⟨sm, bs, hD, hbl, hbb⟩
      refine ⟨_, rfl, _, _, _, _, true, rfl, .ty "list", .base (.lst (sm _ _ (S1 _ _ hwa))), kit_ty (by decide +kernel), true, rfl, iteT ?_⟩
      refine ⟨_, rfl, q _ D (S1.trans sm) ⟨bs, hD, ?_, fun j b e => (hbb j b e).2⟩⟩
      rw [List.length_map] at hbl
      omega
end
end My

set_option Elab.async false
set_option linter.all false
set_option maxRecDepth 100000
set_option maxHeartbeats 4000000
namespace My
open PySem PySem.Spec PyProof.Rows L2
/-! ### what is told is a right paper -/
theorem nd_filterMap {α β : Type} {f : α → Option β} : ∀ {l : List α}, l.Nodup → (∀ x ∈ l, ∀ y ∈ l, ∀ b, f x = some b → f y = some b → x = y) → (l.filterMap f).Nodup
  | [], _, _ => List.nodup_nil
  | a :: l, nd, inj => by
    have nd' := List.nodup_cons.mp nd
    have ih := nd_filterMap (f := f) nd'.2 fun x hx y hy b => inj x (List.mem_cons_of_mem _ hx) y (List.mem_cons_of_mem _ hy) b
    cases e : f a with
    | none => rw [List.filterMap_cons_none e]; exact ih
    | some b =>
      rw [List.filterMap_cons_some e]
      refine List.nodup_cons.mpr ⟨fun m => ?_, ih⟩
      obtain ⟨x, hx, ex⟩ := List.mem_filterMap.mp m
      have := inj a (List.mem_cons_self ..) x (List.mem_cons_of_mem _ hx) b e ex
      exact nd'.1 (this ▸ hx)
theorem somes_count (M : Mp) (n : Nat) : (((List.range n).map (hol M)).filterMap id).length + (free M n).length = n := by
  rw [List.filterMap_map]
  induction n with
  | zero => rfl
  | succ n ih =>
    rw [List.range_succ, List.filterMap_append, List.length_append, free_succ, List.length_append]
    cases e : hol M n with
    | none =>
      rw [if_pos (hol_none.mp e)]
      have : (List.filterMap (id ∘ hol M) [n]).length = 0 := by
        rw [List.filterMap_cons_none (by show hol M n = none; exact e)]
        rfl
      simp only [List.length_cons, List.length_nil] at *
      omega
    | some h =>
      rw [if_neg (fun c => by rw [hol_none.mpr c] at e; cases e)]
      have : (List.filterMap (id ∘ hol M) [n]).length = 1 := by
        rw [List.filterMap_cons_some (by show hol M n = some h; exact e)]
        rfl
      simp only [List.length_nil] at *
      omega
theorem good_of {Ws : List (List Int)} {M : Mp} {B B0 : List Int} {T : Int → Prop} (g : Got Ws M Ws.length T) (pm : B.Perm B0) (pw : B.Pairwise (· ≤ ·)) (bi : Bi Ws M T B0 []) : Good Ws ((List.range Ws.length).map (hol M)) B := by
  have at_ : ∀ i h, hol M i = some h → get M h = some (i : Int) := fun i h e => mem_get g.ok.nd (hol_some e)
  refine ⟨by rw [List.length_map, List.length_range], fun i h e => ?_, ?_, fun w hw => bi.rg w (.inl (pm.mem_iff.mp hw)), ?_, fun D nd hD => ?_⟩
  · rw [List.getElem?_map] at e
    by_cases c : i < Ws.length
    · rw [List.getElem?_range c] at e
      have := (g.ok.fit h i (at_ i h (Option.some.inj e))).2.2
      exact this
    · rw [List.getElem?_eq_none (by rw [List.length_range]; omega)] at e
      cases e
  · rw [List.filterMap_map]
    refine nd_filterMap List.nodup_range fun x _ y _ b e1 e2 => ?_
    have := (at_ x b e1).symm.trans (at_ y b e2)
    have := Option.some.inj this
    omega
  · have nd : B.Nodup := pm.nodup_iff.mpr bi.nd
    exact (List.pairwise_and_iff.mpr ⟨pw, nd⟩).imp fun h => by omega
  · have c := band_count g bi nd fun h => (hD h).trans ⟨fun ⟨w, hw, q⟩ => ⟨w, pm.mem_iff.mp hw, q⟩, fun ⟨w, hw, q⟩ => ⟨w, pm.mem_iff.mpr hw, q⟩⟩
    have s := somes_count M Ws.length
    have l := pm.length_eq
    rw [List.length_map, List.length_range]
    omega
theorem band_empty {Ws : List (List Int)} {M : Mp} {B B0 : List Int} {T : Int → Prop} (pm : B.Perm B0) (bi : Bi Ws M T B0 []) (h : inV V.non (((List.range Ws.length).map (hol M)).map oV) = false) : B = [] := by
  rcases bi.em with ⟨w, h0, h1, h2⟩ | ⟨e, _⟩
  · exfalso
    have : inV V.non (((List.range Ws.length).map (hol M)).map oV) = true := by
      unfold inV
      rw [List.any_eq_true]
      refine ⟨V.non, ?_, rfl⟩
      rw [List.map_map]
      refine List.mem_map.mpr ⟨w.toNat, List.mem_range.mpr (by omega), ?_⟩
      show oV (hol M w.toNat) = V.non
      rw [hol_none.mpr (by rw [Int.toNat_of_nonneg h0]; exact h2)]
      rfl
    rw [h] at this
    cases this
  · rw [e] at pm
    exact List.Perm.eq_nil pm
theorem flat_oV (l : List (Option Int)) : (l.map oV).all flatV = true := by
  rw [List.all_eq_true]
  intro x hx
  obtain ⟨o, _, rfl⟩ := List.mem_map.mp hx
  cases o <;> rfl
/-! ### data -/
theorem dp_ints {K : PySem.W.Frag} {H : Hp} : ∀ l : List Int, DpAll K H (l.map V.int) (l.map PyData.int)
  | [] => .nil
  | i :: l => .cons (.int i) (dp_ints l)
theorem dp_lists {K : PySem.W.Frag} {H : Hp} : ∀ (as : List Addr) (Ws : List (List Int)), as.length = Ws.length → (∀ (i : Nat) (a : Addr), as[i]? = some a → H a = some (.lst ((Ws.getD i []).map V.int))) → DpAll K H (as.map V.ref) (Ws.map fun l => PyData.list (l.map PyData.int))
  | [], [], _, _ => .nil
  | [], _ :: _, e, _ => by cases e
  | _ :: _, [], e, _ => by cases e
  | a :: as, l :: Ws, e, h => .cons (.lst (SqL.of (h 0 a rfl)) (dp_ints l)) (dp_lists as Ws (Nat.succ.inj e) fun i b q => h (i + 1) b q)
theorem lay_ints : ∀ l : List Int, PyData.canLayAll0 (l.map PyData.int) = true
  | [] => rfl
  | _ :: l => by
    show (true && PyData.canLayAll0 (l.map PyData.int)) = true
    rw [lay_ints l]
    rfl
theorem lay_lists : ∀ Ws : List (List Int), PyData.canLayAll0 (Ws.map fun l => PyData.list (l.map PyData.int)) = true
  | [] => rfl
  | l :: Ws => by
    show (PyData.canLayAll0 (l.map PyData.int) && PyData.canLayAll0 (Ws.map fun l => PyData.list (l.map PyData.int))) = true
    rw [lay_ints l, lay_lists Ws]
    rfl
end My

set_option Elab.async false
set_option linter.all false
set_option maxRecDepth 100000
set_option maxHeartbeats 4000000
namespace My
open PySem PySem.Spec PyProof.Rows L2
theorem depth_ints : ∀ l : List Int, PyData.depthAll (l.map PyData.int) = 0
  | [] => rfl
  | _ :: l => by
    show max 0 (PyData.depthAll (l.map PyData.int)) = 0
    rw [depth_ints l]
    rfl
theorem depth_lists : ∀ Ws : List (List Int), PyData.depthAll (Ws.map fun l => PyData.list (l.map PyData.int)) ≤ 1
  | [] => Nat.zero_le _
  | l :: Ws => by
    show max (PyData.depthAll (l.map PyData.int) + 1) (PyData.depthAll (Ws.map fun l => PyData.list (l.map PyData.int))) ≤ 1
    rw [depth_ints l]
    exact Nat.max_le.mpr ⟨Nat.le_refl _, depth_lists Ws⟩
theorem shaped_ints (l : List Int) : SeqAt.shaped (.list (l.map PyData.int)) = true := by
  show (PyData.canLayAll0 (l.map PyData.int) && decide (PyData.depthAll (l.map PyData.int) + 1 ≤ 64)) = true
  rw [lay_ints, depth_ints]
  rfl
theorem shaped_lists (Ws : List (List Int)) : SeqAt.shaped (.list (Ws.map fun l => PyData.list (l.map PyData.int))) = true := by
  show (PyData.canLayAll0 (Ws.map fun l => PyData.list (l.map PyData.int)) && decide (PyData.depthAll (Ws.map fun l => PyData.list (l.map PyData.int)) + 1 ≤ 64)) = true
  have := depth_lists Ws
  rw [lay_lists, decide_eq_true (show _ + 1 ≤ 64 by omega)]
  rfl
theorem eqv_self {d : PyData} (h : SeqAt.shaped d = true) : V.bl (!PyData.eqv d d) = V.bl false := by
  rw [SeqAt.eqv_refl d (SeqAt.canLay_of_shaped h)]
  rfl
theorem dp_ws {K : PySem.W.Frag} {H : Hp} {wa : Addr} {Ws : List (List Int)} (h : WsAt H wa Ws) : Dp K H (.ref wa) (.list (Ws.map fun l => PyData.list (l.map PyData.int))) := by
  obtain ⟨as, e, hl, all⟩ := h
  exact .lst (SqL.of e) (dp_lists as Ws hl all)
theorem wr_nil : Wr [] := ⟨by decide, fun x => by
  show (([] : List (List Int)).getD x.toNat []).length ≤ 60
  rw [List.getD_eq_getElem?_getD]
  simp, fun x h hh => by
  have e : adj [] x = [] := by
    unfold adj
    rw [List.getD_eq_getElem?_getD]
    simp
  rw [e] at hh
  cases hh⟩
theorem wr_seven : Wr [[], [7]] := (Wr6.wr ⟨fun l hl => by
  simp only [List.mem_cons, List.not_mem_nil, or_false] at hl
  rcases hl with rfl | rfl <;> decide, fun l hl h hh => by
  simp only [List.mem_cons, List.not_mem_nil, or_false] at hl
  rcases hl with rfl | rfl
  · cases hh
  · have : h = 7 := by simpa using hh
    omega⟩ (by decide))
theorem Told.good {H H' : Hp} {t pa ba : Addr} {Ws : List (List Int)} {M : Mp} {B : List Int} (h : Told H H' t pa ba Ws M B) : Good Ws ((List.range Ws.length).map (hol M)) B := by
  obtain ⟨T, B0, g, pm, pw, bi⟩ := h.ok
  exact good_of g pm pw bi
section
variable {P : Program} {w : World} {K : PySem.W.Frag} {mg : Str → Option Value} {base : Heap}
abbrev s_law : Stmt := topS 11
abbrev N_law : List Str := ["_law_script", "_law_k", "_law_wants", "_law_turn", "_law_handed", "_law_told", "_law_kept"]
theorem sc_law : FnScope N_law ["_law_script"] (defScope s_law) := ⟨rfl, rfl, rfl, by decide +kernel, rfl, by decide +kernel, by decide +kernel⟩
def sp_law (K : PySem.W.Frag) : Sp := fun vs H Q _ => ∃ (a : Addr) (ns : List Int), vs = [.ref a] ∧ SqL K H a (ns.map V.int) ∧ ns.length ≤ 63 ∧ ∀ H', Q (.bl true) H'
theorem ok_law {f fP : Addr} {fd fdP : FuncData} (F : Fun K "law" "law" s_law f fd) (T : Txt mg) (C_law_bag : Cal P w K mg base 1 "_law_bag" (sp_law_bag K)) (C_law_wishes : Cal P w K mg base 2 "_law_wishes" sp_law_wishes) (C_law_copied : Cal P w K mg base 3 "_law_copied" sp_cop2)
    (C_law_where : Cal P w K mg base 2 "_law_where" (sp_law_where K)) (C_paired : Cal P w K mg base 62 "paired" sp_paired) (GP : FnOk P w K mg base CX0 62 fP fdP ["wishes"] sp_paired) (gP : mg "paired" = some (.ref fP)) (kP : PySem.W.keepIn K (.ref fP) = true)
    (kb : KBinds K fdP ["wishes"] ["wishes"] (fun us ws => us ++ ws) (fun vs zs => vs ++ zs)) : FnOk P w K mg base CX0 63 f fd ["_law_script"] (sp_law K) := by
  refine F.ok sc_law (fun vs H Q E h => ?_) (fun cdv A outer s H vs Q E hr h => ?_)
  · obtain ⟨a, ns, rfl, _⟩ := h
    rfl
  · obtain ⟨a, ns, rfl, hS, hlen, q⟩ := h
    refine ⟨_, (pss_cons (ps_for PassesOwn.never rfl (pi_range1 (by rfl) T.z_range (pa_cons (pe_callB (call_max2 rfl) (by rfl) T.z_max (by decide +kernel) (pa_cons pe_int (pa_cons (pe_callB (call_min2 rfl) (by rfl) T.z_min (by decide +kernel) (pa_cons pe_int (pa_cons (pe_callB call_len_seq (by rfl) T.z_len (by decide +kernel) (pa_cons (pv 0) pa_nil)) pa_nil))) pa_nil))) pa_nil)) (pg_name (i := 1) sc_law.nd rfl (.inl rfl))
        (pss_cons (ps_set (i := 2) sc_law.nd rfl (.inl rfl) (pe_cal C_law_wishes hr (by decide) (by rfl) (pa_cons (pe_cal C_law_bag hr (by decide) (by rfl) (pa_cons (pv 0) (pa_cons (pv 1) pa_nil))) (pa_cons pe_int pa_nil))))
        (pss_one (ps_for PassesOwn.never rfl (pi_range1 (by rfl) T.z_range (pa_cons pe_int pa_nil)) (pg_name (i := 3) sc_law.nd rfl (.inl rfl))
          (pss_cons (ps_set (i := 4) sc_law.nd rfl (.inl rfl) (pe_cal C_law_copied hr (by decide) (by rfl) (pa_cons (pv 2) pa_nil)))
          (pss_cons (ps_set (i := 5) sc_law.nd rfl (.inl rfl) (pe_ifExp (pt_cmpR op_eq (pv 3) pe_int (nomark _)) (pe_cal C_paired hr (by decide) (by rfl) (pa_cons (pv 4) pa_nil)) (pe_calK0 GP hr (by decide) (by rfl) gP kP kb (pk_cons (pv 4) pk_nil))))
          (pss_cons (ps_if (PW.pt (pw_or (pt_cmpR op_ne (pe_cal C_law_where hr (by decide) (by rfl) (pa_cons (pv 2) (pa_cons (pv 5) pa_nil))) pe_str (nomark _)) (pw_or1 (pt_cmpR (op_neD hr.units) (pv 4) (pv 2) (nomark _))))) (pss_one (ps_ret pe_bl)) pss_nil)
          (pss_cons (ps_if (PW.pt (pw_and (pt_cmpR op_notIn_seq pe_non (pe_ix ix_tup (pv 5) pe_int (fun _ _ => rfl)) rfl) (pw_and1 (pt_cmpR (op_neD hr.units) (pe_ix ix_tup (pv 5) pe_int (fun _ _ => rfl)) (pe_lst pa_nil) (nomark _))))) (pss_one (ps_ret pe_bl)) pss_nil)
          (pss_cons (ps_set (i := 6) sc_law.nd rfl (.inl rfl) (pe_callTy call_list_of (by rfl) T.z_list (by decide +kernel) (pa_cons (pe_ix ix_tup (pv 5) pe_int (fun _ _ => rfl)) pa_nil)))
          (pss_cons (ps_expr (pe_bm PySem.F.plainAttrs_list PySem.F.slot_list_append PySem.F.type_list_append mt_append (pe_ix ix_tup (pv 5) pe_int (fun _ _ => rfl)) (pa_cons pe_non pa_nil)))
          (pss_cons (ps_if (pt_cmpR (op_neD hr.units) (pe_ix ix_tup (pv 5) pe_int (fun _ _ => rfl)) (pv 6) (nomark _)) (pss_one (ps_ret pe_bl)) pss_nil)
          (pss_one (ps_expr (pe_bm PySem.F.plainAttrs_list PySem.F.slot_list_append PySem.F.type_list_append mt_append (pe_ix ix_tup (pv 5) pe_int (fun _ _ => rfl)) (pa_cons pe_int pa_nil)))))))))))))))
      (pss_one (ps_ret (pe_and (pe_cmpR op_eq (pe_cal C_law_where hr (by decide) (by rfl) (pa_cons (pe_lst pa_nil) (pa_cons (pe_cal C_paired hr (by decide) (by rfl) (pa_cons (pe_lst pa_nil) pa_nil)) pa_nil))) pe_str (nomark _)) (pe_one (pe_cmpR op_eq (pe_cal C_law_where hr (by decide) (by rfl) (pa_cons (pe_lst (pa_cons (pe_lst pa_nil) (pa_cons (pe_lst (pa_cons pe_int pa_nil)) pa_nil))) (pa_cons (pe_cal C_paired hr (by decide) (by rfl) (pa_cons (pe_lst (pa_cons (pe_lst pa_nil) (pa_cons (pe_lst (pa_cons pe_int pa_nil)) pa_nil))) pa_nil)) pa_nil))) pe_str (nomark _))))))), ?_⟩
    have nN : ∃ N : Int, (if (if ((ns.map V.int).length : Int) < 8 then ((ns.map V.int).length : Int) else 8) > 4 then (if ((ns.map V.int).length : Int) < 8 then ((ns.map V.int).length : Int) else 8) else 4) = N ∧ 0 ≤ N ∧ N ≤ 60 := ⟨_, rfl, by split <;> (try split) <;> omega, by split <;> (try split) <;> omega⟩
    obtain ⟨N, eN, hN0, hN1⟩ := nN
    refine ⟨_, rfl, a, _, rfl, .inl hS, _, _, rfl, _, _, rfl, N, ?_, by omega, by omega, ?_⟩
    · rw [← eN]
    refine for_range (lo := 0) (n := N.toNat) (fun i σ H' => (∃ x1 x2 x3 x4 x5 x6, σ = [some (.ref a), x1, x2, x3, x4, x5, x6]) ∧ Same H H') ⟨⟨_, _, _, _, _, _, rfl⟩, Same.refl _⟩ ?_ ?_
    · rintro i σ H1 hi ⟨⟨x1, x2, x3, x4, x5, x6, rfl⟩, sm1⟩
      refine ⟨_, rfl, _, rfl, a, ns, _, rfl, sm1.seq hS, by omega, by omega, fun H2 p sm2 np B2 => ?_⟩
      refine ⟨p, 24, rfl, B2, by decide, by decide, fun Ws H3 wa hW hWl hW6 B3 S3 => ?_⟩
      have W : Wr Ws := hW6.wr (by omega)
      have sm3 : Same H H3 := Sx.toSame (sm1.trans sm2) S3 (sm1.free np)
      refine ⟨2, rfl, by decide, by decide, ?_⟩
      refine for_range (lo := 0) (n := 2) (fun j σ H' => (∃ y3 y4 y5 y6, σ = [some (.ref a), some (.int (0 + i)), some (.ref wa), y3, y4, y5, y6]) ∧ Same H H' ∧ WsAt H' wa Ws) ⟨⟨_, _, _, _, rfl⟩, sm3, hW⟩ ?_ ?_
      · rintro j σ H4 hj ⟨⟨y3, y4, y5, y6, rfl⟩, sm4, hW4⟩
        refine ⟨_, rfl, wa, Ws, rfl, hW4, W, fun H5 ha sm5 hA5 => ?_⟩
        have hW5 : WsAt H5 wa Ws := hW4.keep (Lk.same sm5)
        -- told
        refine ⟨_, rfl, rfl, _, rfl, ite2 (fun e => ?g1) (fun e => ?g2)⟩
        case' g1 => refine ⟨_, rfl, ha, Ws, rfl, hA5, W, fun H6 t pa ba M B td => ?_⟩
        case' g2 => refine ⟨_, rfl, ha, Ws, rfl, hA5, W, fun H6 t pa ba M B td => ?_⟩
        all_goals
          have sm6 := td.same
          have good := td.good
          obtain ⟨Tc, B0, got, pm, pw, bi⟩ := td.ok
          refine ⟨_, rfl, _, rfl, wa, t, pa, ba, Ws, _, B, rfl, hW5.keep (Lk.same sm6), W, td.et, td.ep, td.eb, good, fun H7 sm7 => ?_⟩
          refine ⟨rfl, false, neF _, iteF ?_⟩
          have hA7 : WsAt H7 ha Ws := hA5.keep (Lk.same (sm6.trans sm7))
          have hW7 : WsAt H7 wa Ws := hW5.keep (Lk.same (sm6.trans sm7))
          have et7 := sm7 _ _ td.et
          have ep7 := sm7 _ _ td.ep
          have eb7 := sm7 _ _ td.eb
          refine ⟨_, rfl, _, rfl, _, _, dp_ws hA7, dp_ws hW7, shaped_lists Ws, shaped_lists Ws, false, eqv_self (shaped_lists Ws), iteF ?_⟩
          -- where none is None the band is empty
          refine ⟨_, rfl, t, _, 0, _, rfl, rfl, SqT.of et7, atI_nat (j := 0) rfl, pa, _, rfl, .inl (SqL.of ep7), rfl, flat_oV _, !inV V.non (((List.range Ws.length).map (hol M)).map oV), rfl, ?_⟩
          have hB24 : B.length ≤ 24 := Nat.le_trans (nd_range (good.up.imp fun h => Int.ne_of_lt h) good.rg) W.n
          cases hin : inV V.non (((List.range Ws.length).map (hol M)).map oV) with
          | true =>
            refine iteF ?_
            have sm78 := Same.refl H7
            have et8 := et7
            have ep8 := ep7
            have eb8 := eb7
            generalize h78 : H7 = H8 at et8 ep8 eb8 sm78 ⊢
            rw [← h78] at sm78
            simp only [h78] at *
            -- told lists are the asker's own
            refine ⟨_, rfl, t, _, 1, _, rfl, rfl, SqT.of et8, atI_nat (j := 1) rfl, ba, _, rfl, .inl (SqL.of eb8), fun kl nkl => ?_⟩
            have S9 := same_upd (o := .lst (B.map V.int)) nkl
            have ek9 : (upd H8 kl (.lst (B.map V.int))) kl = some (.lst (B.map V.int)) := upd_same
            have et9 := S9 _ _ et8
            have ep9 := S9 _ _ ep8
            have eb9 := S9 _ _ eb8
            have nkp : kl ≠ pa := (ne_of_none ep8 nkl).symm
            have nkb : kl ≠ ba := (ne_of_none eb8 nkl).symm
            generalize upd H8 kl (.lst (B.map V.int)) = H9 at S9 ek9 et9 ep9 eb9
            refine ⟨_, rfl, t, _, 0, _, rfl, rfl, SqT.of et9, atI_nat (j := 0) rfl, .inl ⟨rfl, _, SqL.of ep9⟩, pa, _, _, rfl, rfl, ep9, ?_, ?_⟩
            · rw [List.length_map, List.length_map, List.length_range]
              exact Nat.lt_of_le_of_lt W.n (by decide)
            have fr10 : ∀ b, b ≠ pa → (upd H9 pa (.lst (((List.range Ws.length).map (hol M)).map oV ++ [.non]))) b = H9 b := fun b hb => upd_ne hb
            generalize upd H9 pa (.lst (((List.range Ws.length).map (hol M)).map oV ++ [.non])) = H10 at fr10
            have et10 := (fr10 t td.ntp).trans et9
            have eb10 := (fr10 ba td.npb.symm).trans eb9
            have ek10 := (fr10 kl nkp).trans ek9
            refine ⟨_, rfl, t, _, 1, _, rfl, rfl, SqT.of et10, atI_nat (j := 1) rfl, _, rfl, _, _, .lst (SqL.of eb10) (dp_ints B), .lst (SqL.of ek10) (dp_ints B), shaped_ints B, shaped_ints B, false, eqv_self (shaped_ints B), iteF ?_⟩
            refine ⟨_, rfl, t, _, 1, _, rfl, rfl, SqT.of et10, atI_nat (j := 1) rfl, .inl ⟨rfl, _, SqL.of eb10⟩, ba, _, _, rfl, rfl, eb10, ?_, ?_⟩
            · rw [List.length_map]
              exact Nat.lt_of_le_of_lt hB24 (by decide)
            have sm11 : Same H4 (upd H10 ba (.lst (B.map V.int ++ [.int 0]))) := fun b o eb => by
              have e5 := sm5 b o eb
              rw [upd_ne (ne_of_none e5 td.nb), fr10 b (ne_of_none e5 td.np)]
              exact S9 _ _ ((sm7 _ _ (sm6 _ _ e5)))
            exact ⟨⟨_, _, _, _, rfl⟩, sm4.trans sm11, hW4.keep (Lk.same sm11)⟩
          | false =>
            have eB := band_empty pm bi hin
            refine iteT ?_
            refine ⟨_, rfl, t, _, 1, _, rfl, rfl, SqT.of et7, atI_nat (j := 1) rfl, Nat.zero_le _, fun el nel => ?_⟩
            have sm78 := same_upd (o := .lst []) nel
            have ee8 : (upd H7 el (.lst [])) el = some (.lst (([] : List Int).map V.int)) := upd_same
            have et8 := sm78 _ _ et7
            have ep8 := sm78 _ _ ep7
            have eb8 := sm78 _ _ eb7
            generalize upd H7 el (.lst []) = H8 at sm78 ee8 et8 ep8 eb8
            refine ⟨_, _, .lst (SqL.of eb8) (dp_ints B), .lst (SqL.of ee8) (dp_ints []), shaped_ints B, shaped_ints [], false, ?_, iteF ?_⟩
            · rw [eB]
              exact eqv_self (shaped_ints [])
            -- told lists are the asker's own
            refine ⟨_, rfl, t, _, 1, _, rfl, rfl, SqT.of et8, atI_nat (j := 1) rfl, ba, _, rfl, .inl (SqL.of eb8), fun kl nkl => ?_⟩
            have S9 := same_upd (o := .lst (B.map V.int)) nkl
            have ek9 : (upd H8 kl (.lst (B.map V.int))) kl = some (.lst (B.map V.int)) := upd_same
            have et9 := S9 _ _ et8
            have ep9 := S9 _ _ ep8
            have eb9 := S9 _ _ eb8
            have nkp : kl ≠ pa := (ne_of_none ep8 nkl).symm
            have nkb : kl ≠ ba := (ne_of_none eb8 nkl).symm
            generalize upd H8 kl (.lst (B.map V.int)) = H9 at S9 ek9 et9 ep9 eb9
            refine ⟨_, rfl, t, _, 0, _, rfl, rfl, SqT.of et9, atI_nat (j := 0) rfl, .inl ⟨rfl, _, SqL.of ep9⟩, pa, _, _, rfl, rfl, ep9, ?_, ?_⟩
            · rw [List.length_map, List.length_map, List.length_range]
              exact Nat.lt_of_le_of_lt W.n (by decide)
            have fr10 : ∀ b, b ≠ pa → (upd H9 pa (.lst (((List.range Ws.length).map (hol M)).map oV ++ [.non]))) b = H9 b := fun b hb => upd_ne hb
            generalize upd H9 pa (.lst (((List.range Ws.length).map (hol M)).map oV ++ [.non])) = H10 at fr10
            have et10 := (fr10 t td.ntp).trans et9
            have eb10 := (fr10 ba td.npb.symm).trans eb9
            have ek10 := (fr10 kl nkp).trans ek9
            refine ⟨_, rfl, t, _, 1, _, rfl, rfl, SqT.of et10, atI_nat (j := 1) rfl, _, rfl, _, _, .lst (SqL.of eb10) (dp_ints B), .lst (SqL.of ek10) (dp_ints B), shaped_ints B, shaped_ints B, false, eqv_self (shaped_ints B), iteF ?_⟩
            refine ⟨_, rfl, t, _, 1, _, rfl, rfl, SqT.of et10, atI_nat (j := 1) rfl, .inl ⟨rfl, _, SqL.of eb10⟩, ba, _, _, rfl, rfl, eb10, ?_, ?_⟩
            · rw [List.length_map]
              exact Nat.lt_of_le_of_lt hB24 (by decide)
            have sm11 : Same H4 (upd H10 ba (.lst (B.map V.int ++ [.int 0]))) := fun b o eb => by
              have e5 := sm5 b o eb
              rw [upd_ne (ne_of_none e5 td.nb), fr10 b (ne_of_none e5 td.np)]
              exact S9 _ _ (sm78 _ _ (sm7 _ _ (sm6 _ _ e5)))
            exact ⟨⟨_, _, _, _, rfl⟩, sm4.trans sm11, hW4.keep (Lk.same sm11)⟩
      · rintro σ H4 ⟨⟨y3, y4, y5, y6, rfl⟩, sm4, hW4⟩
        exact ⟨⟨_, _, _, _, _, _, rfl⟩, sm4⟩
    · rintro σ H1 ⟨_, sm1⟩
      refine ⟨Nat.zero_le _, fun l1 n1 => ?_⟩
      refine ⟨Nat.zero_le _, fun l2 n2 => ?_⟩
      have w1 : WsAt (upd (upd H1 l1 (.lst [])) l2 (.lst [])) l1 [] := ⟨[], same_upd n2 _ _ upd_same, rfl, fun i a e => by cases e⟩
      have w2 : WsAt (upd (upd H1 l1 (.lst [])) l2 (.lst [])) l2 [] := ⟨[], upd_same, rfl, fun i a e => by cases e⟩
      refine ⟨l2, [], rfl, w2, wr_nil, fun H2 t pa ba M B td => ?_⟩
      refine ⟨l1, t, pa, ba, [], _, B, rfl, w1.keep (Lk.same td.same), wr_nil, td.et, td.ep, td.eb, td.good, fun H3 sm3 => ?_⟩
      refine ⟨rfl, true, congrArg V.bl (decide_eq_true rfl), iteT ?_⟩
      clear w1 w2 td sm3
      refine ⟨Nat.zero_le _, fun a1 m1 => ?_⟩
      have Sa1 := same_upd (o := .lst []) m1
      have ea1 : (upd H3 a1 (.lst [])) a1 = some (.lst (([] : List Int).map V.int)) := upd_same
      generalize upd H3 a1 (.lst []) = G1 at Sa1 ea1
      refine ⟨by show 1 ≤ sizeLine; decide, fun a2 m2 => ?_⟩
      have Sa2 := same_upd (o := .lst [.int 7]) m2
      have ea2 : (upd G1 a2 (.lst [.int 7])) a2 = some (.lst (([7] : List Int).map V.int)) := upd_same
      generalize upd G1 a2 (.lst [.int 7]) = G2 at Sa2 ea2
      refine ⟨by show 2 ≤ sizeLine; decide, fun a3 m3 => ?_⟩
      have Sa3 := same_upd (o := .lst [.ref a1, .ref a2]) m3
      have ea3 : (upd G2 a3 (.lst [.ref a1, .ref a2])) a3 = some (.lst ([a1, a2].map V.ref)) := upd_same
      generalize upd G2 a3 (.lst [.ref a1, .ref a2]) = G3 at Sa3 ea3
      have wA : WsAt G3 a3 [[], [7]] := ⟨[a1, a2], ea3, rfl, fun i a e => by
        match i, e with
        | 0, e => cases e; exact Sa3 _ _ (Sa2 _ _ ea1)
        | 1, e => cases e; exact Sa3 _ _ ea2⟩
      refine ⟨Nat.zero_le _, fun b1 k1 => ?_⟩
      have Sb1 := same_upd (o := .lst []) k1
      have eb1 : (upd G3 b1 (.lst [])) b1 = some (.lst (([] : List Int).map V.int)) := upd_same
      generalize upd G3 b1 (.lst []) = G4 at Sb1 eb1
      refine ⟨by show 1 ≤ sizeLine; decide, fun b2 k2 => ?_⟩
      have Sb2 := same_upd (o := .lst [.int 7]) k2
      have eb2 : (upd G4 b2 (.lst [.int 7])) b2 = some (.lst (([7] : List Int).map V.int)) := upd_same
      generalize upd G4 b2 (.lst [.int 7]) = G5 at Sb2 eb2
      refine ⟨by show 2 ≤ sizeLine; decide, fun b3 k3 => ?_⟩
      have Sb3 := same_upd (o := .lst [.ref b1, .ref b2]) k3
      have eb3 : (upd G5 b3 (.lst [.ref b1, .ref b2])) b3 = some (.lst ([b1, b2].map V.ref)) := upd_same
      generalize upd G5 b3 (.lst [.ref b1, .ref b2]) = G6 at Sb3 eb3
      have wB : WsAt G6 b3 [[], [7]] := ⟨[b1, b2], eb3, rfl, fun i a e => by
        match i, e with
        | 0, e => cases e; exact Sb3 _ _ (Sb2 _ _ eb1)
        | 1, e => cases e; exact Sb3 _ _ eb2⟩
      have wA6 : WsAt G6 a3 [[], [7]] := wA.keep (Lk.same ((Sb1.trans Sb2).trans Sb3))
      refine ⟨b3, [[], [7]], rfl, wB, wr_seven, fun H4 t pa ba M B td => ?_⟩
      refine ⟨a3, t, pa, ba, [[], [7]], _, B, rfl, wA6.keep (Lk.same td.same), wr_seven, td.et, td.ep, td.eb, td.good, fun H5 sm5 => ?_⟩
      refine ⟨rfl, ?_⟩
      rw [show decide (V.str (Str.ofString "") = V.str (Str.ofString "")) = true from decide_eq_true rfl]
      exact q _
theorem kb_paired {f : Addr} {fd : FuncData} (F0 : Fun K "paired" "paired" s_paired f fd) : KBinds K fd ["wishes"] ["wishes"] (fun us ws => us ++ ws) (fun vs zs => vs ++ zs) := by
  obtain ⟨oc, od, kV, doc, pm, an, cdv, ct, osl, rfl, lk, hcd⟩ := F0.ex
  refine ⟨fun s us ws _ hl => ?_, fun r1 r2 => vals_app r1 r2⟩
  match us, ws, hl with
  | [u], [], _ => exact .of_eq rfl
  | [], [v], _ => exact .of_eq rfl
  | _ :: _ :: _, _, hl => simp at hl
  | [_], _ :: _, hl => simp at hl
  | [], _ :: _ :: _, hl => simp at hl
  | [], [], hl => simp at hl
end
end My

set_option Elab.async false
set_option linter.all false
set_option maxRecDepth 100000
set_option maxHeartbeats 4000000
namespace My
open PySem PySem.Spec PyProof.Rows L2
theorem all_mk {l : PySem.W.OpenLaw} {w : World} {K : PySem.W.Frag} {h : Heap} {mg : Str → Option Value} {fa f0 f1 f2 f3 f4 f5 f6 f7 f8 f9  : Addr} (X : K.In h) (G : h.Ns mainGlobals mg) (hfa : mg "law" = some (.ref fa))
    {od0 an0 od1 an1 od2 an2 od3 an3 od4 an4 od5 an5 od6 an6 od7 an7 od8 an8 od9 an9 : Option Addr} {sl0 sl1 sl2 sl3 sl4 sl5 sl6 sl7 sl8 sl9 : Array (Option Value)} {oc0 kV0 dc0 pm0 cd0 ct0 oc1 kV1 dc1 pm1 cd1 ct1 oc2 kV2 dc2 pm2 cd2 ct2 oc3 kV3 dc3 pm3 cd3 ct3 oc4 kV4 dc4 pm4 cd4 ct4 oc5 kV5 dc5 pm5 cd5 ct5 oc6 kV6 dc6 pm6 cd6 ct6 oc7 kV7 dc7 pm7 cd7 ct7 oc8 kV8 dc8 pm8 cd8 ct8 oc9 kV9 dc9 pm9 cd9 ct9 : Value} 
    (a0 : PySem.W.nsIn K mainGlobals "paired" = some (some (.ref f0))) (l0 : K.lookup f0 = some ⟨oc0, od0, .func (PySem.W.fnOf "paired" "paired" (defArgs s_paired) (defBody s_paired) (defScope s_paired) .none kV0 dc0 pm0 an0 cd0 ct0), sl0⟩) (c0 : PySem.W.codeIn K cd0 "paired" = true) (k0 : PySem.W.keepIn K (.ref f0) = true)
    (a1 : PySem.W.nsIn K mainGlobals "find_holder" = some (some (.ref f1))) (l1 : K.lookup f1 = some ⟨oc1, od1, .func (PySem.W.fnOf "find_holder" "find_holder" (defArgs s_find_holder) (defBody s_find_holder) (defScope s_find_holder) .none kV1 dc1 pm1 an1 cd1 ct1), sl1⟩) (c1 : PySem.W.codeIn K cd1 "find_holder" = true) (k1 : PySem.W.keepIn K (.ref f1) = true)
    (a2 : PySem.W.nsIn K mainGlobals "band_of" = some (some (.ref f2))) (l2 : K.lookup f2 = some ⟨oc2, od2, .func (PySem.W.fnOf "band_of" "band_of" (defArgs s_band_of) (defBody s_band_of) (defScope s_band_of) .none kV2 dc2 pm2 an2 cd2 ct2), sl2⟩) (c2 : PySem.W.codeIn K cd2 "band_of" = true) (k2 : PySem.W.keepIn K (.ref f2) = true)
    (a3 : PySem.W.nsIn K mainGlobals "_law_bag" = some (some (.ref f3))) (l3 : K.lookup f3 = some ⟨oc3, od3, .func (PySem.W.fnOf "_law_bag" "_law_bag" (defArgs s_law_bag) (defBody s_law_bag) (defScope s_law_bag) .none kV3 dc3 pm3 an3 cd3 ct3), sl3⟩) (c3 : PySem.W.codeIn K cd3 "_law_bag" = true) (k3 : PySem.W.keepIn K (.ref f3) = true)
    (a4 : PySem.W.nsIn K mainGlobals "_law_take" = some (some (.ref f4))) (l4 : K.lookup f4 = some ⟨oc4, od4, .func (PySem.W.fnOf "_law_take" "_law_take" (defArgs s_law_take) (defBody s_law_take) (defScope s_law_take) .none kV4 dc4 pm4 an4 cd4 ct4), sl4⟩) (c4 : PySem.W.codeIn K cd4 "_law_take" = true) (k4 : PySem.W.keepIn K (.ref f4) = true)
    (a5 : PySem.W.nsIn K mainGlobals "_law_wishes" = some (some (.ref f5))) (l5 : K.lookup f5 = some ⟨oc5, od5, .func (PySem.W.fnOf "_law_wishes" "_law_wishes" (defArgs s_law_wishes) (defBody s_law_wishes) (defScope s_law_wishes) .none kV5 dc5 pm5 an5 cd5 ct5), sl5⟩) (c5 : PySem.W.codeIn K cd5 "_law_wishes" = true) (k5 : PySem.W.keepIn K (.ref f5) = true)
    (a6 : PySem.W.nsIn K mainGlobals "_law_where" = some (some (.ref f6))) (l6 : K.lookup f6 = some ⟨oc6, od6, .func (PySem.W.fnOf "_law_where" "_law_where" (defArgs s_law_where) (defBody s_law_where) (defScope s_law_where) .none kV6 dc6 pm6 an6 cd6 ct6), sl6⟩) (c6 : PySem.W.codeIn K cd6 "_law_where" = true) (k6 : PySem.W.keepIn K (.ref f6) = true)
    (a7 : PySem.W.nsIn K mainGlobals "_law_whole" = some (some (.ref f7))) (l7 : K.lookup f7 = some ⟨oc7, od7, .func (PySem.W.fnOf "_law_whole" "_law_whole" (defArgs s_law_whole) (defBody s_law_whole) (defScope s_law_whole) .none kV7 dc7 pm7 an7 cd7 ct7), sl7⟩) (c7 : PySem.W.codeIn K cd7 "_law_whole" = true) (k7 : PySem.W.keepIn K (.ref f7) = true)
    (a8 : PySem.W.nsIn K mainGlobals "_law_copied" = some (some (.ref f8))) (l8 : K.lookup f8 = some ⟨oc8, od8, .func (PySem.W.fnOf "_law_copied" "_law_copied" (defArgs s_law_copied) (defBody s_law_copied) (defScope s_law_copied) .none kV8 dc8 pm8 an8 cd8 ct8), sl8⟩) (c8 : PySem.W.codeIn K cd8 "_law_copied" = true) (k8 : PySem.W.keepIn K (.ref f8) = true)
    (a9 : PySem.W.nsIn K mainGlobals "law" = some (some (.ref f9))) (l9 : K.lookup f9 = some ⟨oc9, od9, .func (PySem.W.fnOf "law" "law" (defArgs s_law) (defBody s_law) (defScope s_law) .none kV9 dc9 pm9 an9 cd9 ct9), sl9⟩) (c9 : PySem.W.codeIn K cd9 "law" = true) (k9 : PySem.W.keepIn K (.ref f9) = true)
    (z_len : PySem.W.nsIn K mainGlobals "len" = some none)
    (z_abs : PySem.W.nsIn K mainGlobals "abs" = some none)
    (z_all : PySem.W.nsIn K mainGlobals "all" = some none)
    (z_str : PySem.W.nsIn K mainGlobals "str" = some none)
    (z_int : PySem.W.nsIn K mainGlobals "int" = some none)
    (z_isinstance : PySem.W.nsIn K mainGlobals "isinstance" = some none)
    (z_range : PySem.W.nsIn K mainGlobals "range" = some none)
    (z_max : PySem.W.nsIn K mainGlobals "max" = some none)
    (z_min : PySem.W.nsIn K mainGlobals "min" = some none)
    (z_bool : PySem.W.nsIn K mainGlobals "bool" = some none)
    (z_list : PySem.W.nsIn K mainGlobals "list" = some none)
    (z_tuple : PySem.W.nsIn K mainGlobals "tuple" = some none)
    (z_enumerate : PySem.W.nsIn K mainGlobals "enumerate" = some none)
    (z_zip : PySem.W.nsIn K mainGlobals "zip" = some none)
    (z_sorted : PySem.W.nsIn K mainGlobals "sorted" = some none) :
    ∃ fd : FuncData, (∀ (s : Shared) (v : Value), BindsTo s fd ⟨[v], []⟩ [("_law_script", v)]) ∧ ∀ base : Heap, K.In base → base.Ns mainGlobals mg → FnOk l.prog w K mg base CX0 63 fa fd ["_law_script"] (sp_law K) := by
  have e := hfa.symm.trans (PySem.W.mg_of X G a9)
  cases e
  have F0 := fun_mk (st := s_paired) l0 c0 k0
  have b0 := F0.binds (ps := ["wishes"]) fun _ _ _ _ _ _ us hl => match us, hl with | [_], _ => rfl
  have g0 := PySem.W.mg_of X G a0
  have F1 := fun_mk (st := s_find_holder) l1 c1 k1
  have b1 := F1.binds (ps := ["wishes", "wish_of", "wish", "tried"]) fun _ _ _ _ _ _ us hl => match us, hl with | [_, _, _, _], _ => rfl
  have g1 := PySem.W.mg_of X G a1
  have F2 := fun_mk (st := s_band_of) l2 c2 k2
  have b2 := F2.binds (ps := ["wishes", "wish_of", "pairs"]) fun _ _ _ _ _ _ us hl => match us, hl with | [_, _, _], _ => rfl
  have g2 := PySem.W.mg_of X G a2
  have F3 := fun_mk (st := s_law_bag) l3 c3 k3
  have b3 := F3.binds (ps := ["_law_script", "_law_at"]) fun _ _ _ _ _ _ us hl => match us, hl with | [_, _], _ => rfl
  have g3 := PySem.W.mg_of X G a3
  have F4 := fun_mk (st := s_law_take) l4 c4 k4
  have b4 := F4.binds (ps := ["_law_bag_here", "_law_many"]) fun _ _ _ _ _ _ us hl => match us, hl with | [_, _], _ => rfl
  have g4 := PySem.W.mg_of X G a4
  have F5 := fun_mk (st := s_law_wishes) l5 c5 k5
  have b5 := F5.binds (ps := ["_law_bag_here", "_law_most"]) fun _ _ _ _ _ _ us hl => match us, hl with | [_, _], _ => rfl
  have g5 := PySem.W.mg_of X G a5
  have F6 := fun_mk (st := s_law_where) l6 c6 k6
  have b6 := F6.binds (ps := ["_law_wants", "_law_given"]) fun _ _ _ _ _ _ us hl => match us, hl with | [_, _], _ => rfl
  have g6 := PySem.W.mg_of X G a6
  have F7 := fun_mk (st := s_law_whole) l7 c7 k7
  have b7 := F7.binds (ps := ["_law_given"]) fun _ _ _ _ _ _ us hl => match us, hl with | [_], _ => rfl
  have g7 := PySem.W.mg_of X G a7
  have F8 := fun_mk (st := s_law_copied) l8 c8 k8
  have b8 := F8.binds (ps := ["_law_given"]) fun _ _ _ _ _ _ us hl => match us, hl with | [_], _ => rfl
  have g8 := PySem.W.mg_of X G a8
  have F9 := fun_mk (st := s_law) l9 c9 k9
  have b9 := F9.binds (ps := ["_law_script"]) fun _ _ _ _ _ _ us hl => match us, hl with | [_], _ => rfl
  have g9 := PySem.W.mg_of X G a9
  have T : Txt mg := { z_len := PySem.W.mg_none_of X G z_len, z_abs := PySem.W.mg_none_of X G z_abs, z_all := PySem.W.mg_none_of X G z_all, z_str := PySem.W.mg_none_of X G z_str, z_int := PySem.W.mg_none_of X G z_int, z_isinstance := PySem.W.mg_none_of X G z_isinstance, z_range := PySem.W.mg_none_of X G z_range, z_max := PySem.W.mg_none_of X G z_max, z_min := PySem.W.mg_none_of X G z_min, z_bool := PySem.W.mg_none_of X G z_bool, z_list := PySem.W.mg_none_of X G z_list, z_tuple := PySem.W.mg_none_of X G z_tuple, z_enumerate := PySem.W.mg_none_of X G z_enumerate, z_zip := PySem.W.mg_none_of X G z_zip, z_sorted := PySem.W.mg_none_of X G z_sorted }
  refine ⟨PySem.W.fnOf "law" "law" (defArgs s_law) (defBody s_law) (defScope s_law) .none kV9 dc9 pm9 an9 cd9 ct9, fun s v => .of_eq rfl, fun base _ _ => ?_⟩
  have C1 : Cal l.prog w K mg base 61 "find_holder" (sp_find 60) := ok_find F1 g1 k1 b1 61
  have C2 : Cal l.prog w K mg base 1 "band_of" sp_band := cal_mk (ok_band F2 T) g2 k2 b2
  have G0 := ok_paired (P := l.prog) (w := w) (base := base) F0 T C1 C2
  have C0 : Cal l.prog w K mg base 62 "paired" sp_paired := cal_mk G0 g0 k0 b0
  have C3 : Cal l.prog w K mg base 1 "_law_bag" (sp_law_bag K) := cal_mk (ok_law_bag F3 T) g3 k3 b3
  have C4 : Cal l.prog w K mg base 1 "_law_take" sp_law_take := cal_mk (ok_law_take F4) g4 k4 b4
  have C5 : Cal l.prog w K mg base 2 "_law_wishes" sp_law_wishes := cal_mk (ok_law_wishes F5 T C4) g5 k5 b5
  have C7 : Cal l.prog w K mg base 1 "_law_whole" sp_law_whole := cal_mk (ok_law_whole F7 T) g7 k7 b7
  have C6 : Cal l.prog w K mg base 2 "_law_where" (sp_law_where K) := cal_mk (ok_law_where F6 T C7) g6 k6 b6
  have Q0 : Cal l.prog w K mg base 0 "_law_copied" spF := cal_mk ⟨fun _ _ _ _ h => h.elim, fun _ _ _ _ _ _ _ _ _ _ _ _ _ h => h.elim⟩ g8 k8 b8
  have Q1 : Cal l.prog w K mg base 1 "_law_copied" sp_cop0 := cal_mk (ok_cop0 F8 T Q0) g8 k8 b8
  have Q2 : Cal l.prog w K mg base 2 "_law_copied" sp_cop1 := cal_mk (ok_cop1 F8 T Q1) g8 k8 b8
  have C8 : Cal l.prog w K mg base 3 "_law_copied" sp_cop2 := cal_mk (ok_cop2 F8 T Q2) g8 k8 b8
  exact ok_law F9 T C3 C5 C8 C6 C0 G0 g0 k0 (kb_paired F0)
end My

set_option Elab.async false
set_option linter.all false
open PySem PySem.W PyProof.Rows
set_option maxRecDepth 100000 in
set_option maxHeartbeats 0 in
theorem PySem.Challenge.cw_whistleboard_k11_paired_holds : PySem.Challenge.rw_whistleboard_k11_paired.Holds := by
  w_on; o_law; k_head; (case hw => w_witness2)
  k_fill
  refine L2.walk_ofK (l := PySem.Challenge.rw_whistleboard_k11_paired) (n := 63) (k := 63) (x := "_law_script") (CX := L2.CX0) (sp := My.sp_law) rfl (by decide) rfl ⟨rfl, by decide, by decide⟩ (fun w h Y => PySem.W.kIn_of Y) ?F (fun _ _ a ns hl _ hS => ⟨a, ns, rfl, hS, hl, fun _ => rfl⟩) (fun _ _ _ _ h => h)
  case F =>
    intro w mg fa h KX G hmg
    refine' My.all_mk KX G hmg ?a0 ?l0 ?c0 ?k0 ?a1 ?l1 ?c1 ?k1 ?a2 ?l2 ?c2 ?k2 ?a3 ?l3 ?c3 ?k3 ?a4 ?l4 ?c4 ?k4 ?a5 ?l5 ?c5 ?k5 ?a6 ?l6 ?c6 ?k6 ?a7 ?l7 ?c7 ?k7 ?a8 ?l8 ?c8 ?k8 ?a9 ?l9 ?c9 ?k9 ?z_len ?z_abs ?z_all ?z_str ?z_int ?z_isinstance ?z_range ?z_max ?z_min ?z_bool ?z_list ?z_tuple ?z_enumerate ?z_zip ?z_sorted
    (case a0 => k_is)
    (case l0 => k_is)
    (case c0 => k_is)
    (case k0 => k_is)
    (case a1 => k_is)
    (case l1 => k_is)
    (case c1 => k_is)
    (case k1 => k_is)
    (case a2 => k_is)
    (case l2 => k_is)
    (case c2 => k_is)
    (case k2 => k_is)
    (case a3 => k_is)
    (case l3 => k_is)
    (case c3 => k_is)
    (case k3 => k_is)
    (case a4 => k_is)
    (case l4 => k_is)
    (case c4 => k_is)
    (case k4 => k_is)
    (case a5 => k_is)
    (case l5 => k_is)
    (case c5 => k_is)
    (case k5 => k_is)
    (case a6 => k_is)
    (case l6 => k_is)
    (case c6 => k_is)
    (case k6 => k_is)
    (case a7 => k_is)
    (case l7 => k_is)
    (case c7 => k_is)
    (case k7 => k_is)
    (case a8 => k_is)
    (case l8 => k_is)
    (case c8 => k_is)
    (case k8 => k_is)
    (case a9 => k_is)
    (case l9 => k_is)
    (case c9 => k_is)
    (case k9 => k_is)
    (case z_len => k_is)
    (case z_abs => k_is)
    (case z_all => k_is)
    (case z_str => k_is)
    (case z_int => k_is)
    (case z_isinstance => k_is)
    (case z_range => k_is)
    (case z_max => k_is)
    (case z_min => k_is)
    (case z_bool => k_is)
    (case z_list => k_is)
    (case z_tuple => k_is)
    (case z_enumerate => k_is)
    (case z_zip => k_is)
    (case z_sorted => k_is)
