import PyProof.Rows.All
import Wide.All
import OpenK.AllK
import Wide.FinOn
import PySem.Challenge.RW_whistleboard_k24_rows
import HandS.Text
import PyProof.Rows.StrCase
import HandS.OwnEq
import HandS.IsInst
import KE.KFmtOwn
import PyProof.InstNe
import PyProof.NeKinds
import HandS.ForMost
import HandS.ForExc
import HandS.Flow
import HandS.More
import HandS.Walk
import HandS.Zip
import HandS.Defaults
import HandS.CallSlots
import HandS.MakeKw
import HandS.FStr
import HandS.Deep
import HandS.TupAny
import HandS.RaiseMore
import HandS.Style
import KE.DataCmp
set_option Elab.async false
set_option linter.all false
set_option maxRecDepth 100000
set_option maxHeartbeats 4000000
namespace My
open PySem PySem.Spec PyProof.Rows TL
/-! ### words between blanks -/
abbrev WSt := List (List Nat) × List Nat
def wst (st : WSt) (c : Nat) : WSt := if c = 32 then (if st.2 = [] then st else (st.1 ++ [st.2], [])) else (st.1, st.2 ++ [c])
def wfn (st : WSt) : List (List Nat) := if st.2 = [] then st.1 else st.1 ++ [st.2]
def wds (l : List Nat) : List (List Nat) := wfn (l.foldl wst ([], []))
theorem pre32 (c : Nat) (r : List Nat) : pre [32] (c :: r) = decide (c = 32) := by
  unfold pre
  show ([c] == [32]) = decide (c = 32)
  by_cases h : c = 32
  · rw [h]; rfl
  · rw [decide_eq_false h]
    exact beq_eq_false_iff_ne.mpr fun z => h (List.cons.inj z).1
theorem spl_step (acc : List Nat) (c : Nat) (r : List Nat) : spl [32] 0 acc (c :: r) = if c = 32 then acc :: spl [32] 0 [] r else spl [32] 0 (acc ++ [c]) r := by
  by_cases h : c = 32
  · rw [if_pos h, spl_hit (by rw [pre32, decide_eq_true h])]
    rfl
  · rw [if_neg h, spl_miss (by rw [pre32, decide_eq_false h])]
def ne0 (x : List Nat) : Bool := !x.isEmpty
theorem ne0_nil : ne0 [] = false := rfl
theorem ne0_iff {x : List Nat} : ne0 x = true ↔ x ≠ [] := by
  cases x <;> simp [ne0]
theorem spl_wds : ∀ (l acc : List Nat) (D : List (List Nat)), D ++ (spl [32] 0 acc l).filter ne0 = wfn (l.foldl wst (D, acc))
  | [], acc, D => by
    rw [spl_nil]
    show D ++ [acc].filter ne0 = wfn (D, acc)
    unfold wfn
    by_cases h : acc = []
    · rw [if_pos h, h]
      show D ++ [] = D
      rw [List.append_nil]
    · rw [if_neg h, List.filter_cons_of_pos (ne0_iff.mpr h)]
      rfl
  | c :: r, acc, D => by
    rw [spl_step, List.foldl_cons]
    by_cases h : c = 32
    · rw [if_pos h]
      unfold wst
      rw [if_pos h]
      by_cases e : acc = []
      · show D ++ (acc :: spl [32] 0 [] r).filter ne0 = wfn (r.foldl wst (if acc = [] then (D, acc) else (D ++ [acc], [])))
        rw [if_pos e, List.filter_cons_of_neg (by rw [e]; decide), ← spl_wds r acc D, e]
      · show D ++ (acc :: spl [32] 0 [] r).filter ne0 = wfn (r.foldl wst (if acc = [] then (D, acc) else (D ++ [acc], [])))
        rw [if_neg e, List.filter_cons_of_pos (ne0_iff.mpr e), ← spl_wds r [] (D ++ [acc]), List.append_assoc]
        rfl
    · rw [if_neg h]
      have e : wst (D, acc) c = (D, acc ++ [c]) := by
        unfold wst
        rw [if_neg h]
      rw [e, ← spl_wds r (acc ++ [c]) D]
theorem spl_mem : ∀ (l acc : List Nat) (p : List Nat), p ∈ spl [32] 0 acc l → ∀ c ∈ p, c ∈ acc ∨ c ∈ l
  | [], acc, p, hp, c, hc => by
    rw [spl_nil] at hp
    have := List.mem_singleton.mp hp
    subst this
    exact .inl hc
  | a :: r, acc, p, hp, c, hc => by
    rw [spl_step] at hp
    by_cases h : a = 32
    · rw [if_pos h] at hp
      rcases List.mem_cons.mp hp with e | e
      · subst e
        exact .inl hc
      · rcases spl_mem r [] p e c hc with q | q
        · cases q
        · exact .inr (List.mem_cons_of_mem _ q)
    · rw [if_neg h] at hp
      rcases spl_mem r (acc ++ [a]) p hp c hc with q | q
      · rcases List.mem_append.mp q with q | q
        · exact .inl q
        · exact .inr (List.mem_cons.mpr (.inl (List.mem_singleton.mp q)))
      · exact .inr (List.mem_cons_of_mem _ q)
theorem spl_free : ∀ (l acc : List Nat) (p : List Nat), 32 ∉ acc → p ∈ spl [32] 0 acc l → 32 ∉ p
  | [], acc, p, ha, hp => by
    rw [spl_nil] at hp
    have := List.mem_singleton.mp hp
    subst this
    exact ha
  | a :: r, acc, p, ha, hp => by
    rw [spl_step] at hp
    by_cases h : a = 32
    · rw [if_pos h] at hp
      rcases List.mem_cons.mp hp with e | e
      · subst e
        exact ha
      · exact spl_free r [] p (fun z => by cases z) e
    · rw [if_neg h] at hp
      refine spl_free r (acc ++ [a]) p (fun z => ?_) hp
      rcases List.mem_append.mp z with q | q
      · exact ha q
      · exact h (List.mem_singleton.mp q).symm
theorem lo1_blank (c : Nat) : lo1 c = 32 ↔ c = 32 := by
  unfold lo1
  split <;> omega
theorem spl_low : ∀ (l acc : List Nat), spl [32] 0 (acc.map lo1) (l.map lo1) = (spl [32] 0 acc l).map (List.map lo1)
  | [], acc => by rw [List.map_nil, spl_nil, spl_nil]; rfl
  | c :: r, acc => by
    rw [List.map_cons, spl_step, spl_step]
    by_cases h : c = 32
    · rw [if_pos h, if_pos ((lo1_blank c).mpr h), List.map_cons, ← spl_low r []]
      rfl
    · rw [if_neg h, if_neg (fun z => h ((lo1_blank c).mp z)), ← spl_low r (acc ++ [c]), List.map_append]
      rfl
/-! ### the words of a call's text -/
def Asc (n : Nat) (z : Str) : Prop := z.length ≤ n ∧ ∀ c ∈ tl z, c < 128
abbrev bl1 : Str := Str.ofString " "
theorem tl_bl1 : tl bl1 = [32] := by decide +kernel
def cw (z : Str) : List Str := ((Txt.split z bl1).filter (fun w => w.length != 0)).map Txt.lower
theorem split_tl (z : Str) : (Txt.split z bl1).map tl = spl [32] 0 [] (tl z) := by
  have q := split_spl z bl1 (by rw [tl_bl1]; intro h; cases h) (kind_ok (by decide +kernel))
  rw [tl_bl1] at q
  exact q
theorem lower_tl {x : Str} (h : ∀ c ∈ tl x, c < 128) : tl (Txt.lower x) = (tl x).map lo1 := by
  rw [lower_ascii h]
  exact Array.toList_map
theorem upper_tl {x : Str} (h : ∀ c ∈ tl x, c < 128) : tl (Txt.upper x) = (tl x).map up1 := by
  rw [upper_ascii h]
  exact Array.toList_map
theorem filter_tl (l : List Str) : (l.filter (fun w => w.length != 0)).map tl = (l.map tl).filter ne0 := by
  induction l with
  | nil => rfl
  | cons w l ih =>
    have e : (w.length != 0) = ne0 (tl w) := by
      rw [len_tl]
      cases tl w <;> rfl
    rw [List.map_cons]
    cases h : ne0 (tl w) with
    | true =>
      rw [List.filter_cons_of_pos (by rw [e, h]), List.filter_cons_of_pos h, List.map_cons, ih]
    | false =>
      rw [List.filter_cons_of_neg (by rw [e, h]; decide), List.filter_cons_of_neg (by rw [h]; decide), ih]
theorem part_asc {z w : Str} (hz : ∀ c ∈ tl z, c < 128) (hw : w ∈ Txt.split z bl1) : ∀ c ∈ tl w, c < 128 := fun c hc => by
  have m : tl w ∈ spl [32] 0 [] (tl z) := by
    rw [← split_tl]
    exact List.mem_map.mpr ⟨w, hw, rfl⟩
  rcases spl_mem _ _ _ m c hc with q | q
  · cases q
  · exact hz c q
theorem cw_tl {z : Str} (hz : ∀ c ∈ tl z, c < 128) : (cw z).map tl = (wds (tl z)).map (List.map lo1) := by
  have e := spl_wds (tl z) [] []
  rw [List.nil_append] at e
  unfold wds
  rw [← e, ← split_tl, ← filter_tl]
  unfold cw
  rw [List.map_map, List.map_map]
  refine List.map_congr_left fun w hw => ?_
  exact lower_tl (part_asc hz ((List.mem_filter.mp hw).1))
theorem cw_eq {z : Str} {ws : List Str} (hz : ∀ c ∈ tl z, c < 128) (h : (wds (tl z)).map (List.map lo1) = ws.map tl) : cw z = ws := map_tl_inj ((cw_tl hz).trans h)
/-! ### the machine at blanks and signs -/
theorem wst_blanks (st : WSt) : ∀ k : Nat, (List.replicate (k + 1) 32).foldl wst st = (wfn st, [])
  | 0 => by
    show wst st 32 = _
    unfold wst wfn
    rw [if_pos rfl]
    split
    · rename_i h
      rw [← h]
    · rfl
  | k + 1 => by
    rw [List.replicate_succ', List.foldl_append, wst_blanks st k]
    rfl
theorem wst_blank0 {st : WSt} (h : st.2 = []) : ∀ k : Nat, (List.replicate k 32).foldl wst st = st
  | 0 => rfl
  | k + 1 => by
    rw [wst_blanks]
    unfold wfn
    rw [if_pos h, ← h]
theorem wst_sign (st : WSt) {c : Nat} (h : c ≠ 32) : wst st c = (st.1, st.2 ++ [c]) := by
  unfold wst
  rw [if_neg h]
theorem wfn_blanks (st : WSt) : ∀ k : Nat, wfn ((List.replicate k 32).foldl wst st) = wfn st
  | 0 => rfl
  | k + 1 => by
    rw [wst_blanks]
    unfold wfn
    rw [if_pos rfl]
/-! ### what is due at each place -/
def kinds : List Str := ["car", "chimney", "grass", "house", "people", "works"]
def isNm (w : Str) : Bool := decide (1 ≤ w.length ∧ w.length ≤ 8) && (tl w).all (fun c => decide (97 ≤ c ∧ c ≤ 122))
def numS (k : Nat) : Str := Str.ofString (toString ((k : Nat) : Int))
def pumpsL : List Str := (List.range 20).map (fun k => numS (1 + k))
def okAt : Nat → Str → Bool
  | 0, w => decide (w ∈ kinds)
  | 1, w => decide (w = Str.ofString "at")
  | 2, w => isNm w
  | 3, w => decide (w = Str.ofString "make")
  | 4, w => decide (w ∈ pumpsL)
  | _ + 5, _ => false
theorem letters_mem (c : Nat) : c ∈ tl (Str.ofString "abcdefghijklmnopqrstuvwxyz") ↔ 97 ≤ c ∧ c ≤ 122 := by
  have e : tl (Str.ofString "abcdefghijklmnopqrstuvwxyz") = (List.range 26).map (97 + ·) := by decide +kernel
  rw [e, List.mem_map]
  constructor
  · rintro ⟨k, hk, rfl⟩
    have := List.mem_range.mp hk
    omega
  · intro h
    exact ⟨c - 97, List.mem_range.mpr (by omega), by omega⟩
/-- small letters and figures: what the law's words have -/
def Sm (c : Nat) : Prop := (97 ≤ c ∧ c ≤ 122) ∨ (48 ≤ c ∧ c ≤ 57)
theorem Sm.lo {c : Nat} (h : Sm c) : lo1 c = c := by
  unfold lo1
  rcases h with h | h
  · rw [if_neg (by omega)]
  · rw [if_neg (by omega)]
theorem Sm.up {c : Nat} (h : Sm c) : lo1 (up1 c) = c ∧ up1 c ≠ 32 ∧ up1 c < 128 := by
  rcases h with h | h
  · have e : up1 c = c - 32 := if_pos h
    rw [e]
    unfold lo1
    rw [if_pos (by omega)]
    omega
  · have e : up1 c = c := if_neg (by omega)
    rw [e]
    unfold lo1
    rw [if_neg (by omega)]
    omega
theorem Sm.ne {c : Nat} (h : Sm c) : c ≠ 32 ∧ c < 128 := by
  unfold Sm at h
  omega
theorem pumps_facts : ∀ k, k < 20 → intText? (numS (1 + k)) = some ((1 + k : Nat) : Int) ∧ (numS (1 + k)).length ≤ 2 ∧ tl (numS (1 + k)) ≠ [] ∧ (∀ c ∈ tl (numS (1 + k)), 48 ≤ c ∧ c ≤ 57) := by decide +kernel
theorem kinds_facts : ∀ w ∈ kinds, isNm w = true := by decide +kernel
theorem isNm_at : isNm (Str.ofString "at") = true := by decide +kernel
theorem isNm_make : isNm (Str.ofString "make") = true := by decide +kernel
theorem isNm_sm {w : Str} (h : isNm w = true) : tl w ≠ [] ∧ (∀ c ∈ tl w, 97 ≤ c ∧ c ≤ 122) ∧ w.length ≤ 8 := by
  unfold isNm at h
  rw [Bool.and_eq_true, decide_eq_true_eq, List.all_eq_true] at h
  refine ⟨fun z => ?_, fun c hc => of_decide_eq_true (h.2 c hc), h.1.2⟩
  have := h.1.1
  rw [len_tl, z] at this
  exact absurd this (by decide)
theorem isNm_of {w : Str} (h0 : 1 ≤ w.length) (h1 : w.length ≤ 8) (h2 : ∀ c ∈ tl w, 97 ≤ c ∧ c ≤ 122) : isNm w = true := by
  unfold isNm
  rw [Bool.and_eq_true, decide_eq_true_eq, List.all_eq_true]
  exact ⟨⟨h0, h1⟩, fun c hc => decide_eq_true (h2 c hc)⟩
/-- the words of a right call -/
inductive GoodWs : List Str → Prop where
  | three {k p : Str} (hk : k ∈ kinds) (hp : isNm p = true) : GoodWs [k, Str.ofString "at", p]
  | five {k p : Str} {n : Nat} (hk : k ∈ kinds) (hp : isNm p = true) (hn : n < 20) : GoodWs [k, Str.ofString "at", p, Str.ofString "make", numS (1 + n)]
theorem nm_sm {w : Str} (h : isNm w = true) : tl w ≠ [] ∧ (∀ c ∈ tl w, Sm c) ∧ w.length ≤ 8 :=
  ⟨(isNm_sm h).1, fun c hc => .inl ((isNm_sm h).2.1 c hc), (isNm_sm h).2.2⟩
theorem num_sm {n : Nat} (h : n < 20) : tl (numS (1 + n)) ≠ [] ∧ (∀ c ∈ tl (numS (1 + n)), Sm c) ∧ (numS (1 + n)).length ≤ 8 := by
  obtain ⟨_, h1, h2, h3⟩ := pumps_facts n h
  exact ⟨h2, fun c hc => .inr (h3 c hc), by omega⟩
theorem GoodWs.sm {ws : List Str} (g : GoodWs ws) : ∀ w ∈ ws, tl w ≠ [] ∧ (∀ c ∈ tl w, Sm c) ∧ w.length ≤ 8 := by
  cases g with
  | three hk hp =>
    intro w hw
    simp only [List.mem_cons, List.not_mem_nil, or_false] at hw
    rcases hw with rfl | rfl | rfl
    · exact nm_sm (kinds_facts _ hk)
    · exact nm_sm isNm_at
    · exact nm_sm hp
  | five hk hp hn =>
    intro w hw
    simp only [List.mem_cons, List.not_mem_nil, or_false] at hw
    rcases hw with rfl | rfl | rfl | rfl | rfl
    · exact nm_sm (kinds_facts _ hk)
    · exact nm_sm isNm_at
    · exact nm_sm hp
    · exact nm_sm isNm_make
    · exact num_sm hn
theorem GoodWs.ok {ws : List Str} (g : GoodWs ws) : ∀ (i : Nat) (w : Str), ws[i]? = some w → okAt i w = true := by
  cases g with
  | three hk hp =>
    intro i w hw
    match i, hw with
    | 0, hw => cases hw; exact decide_eq_true hk
    | 1, hw => cases hw; decide +kernel
    | 2, hw => cases hw; exact hp
  | five hk hp hn =>
    intro i w hw
    match i, hw with
    | 0, hw => cases hw; exact decide_eq_true hk
    | 1, hw => cases hw; decide +kernel
    | 2, hw => cases hw; exact hp
    | 3, hw => cases hw; decide +kernel
    | 4, hw => cases hw; exact decide_eq_true (List.mem_map.mpr ⟨_, List.mem_range.mpr hn, rfl⟩)
/-! ### the text that the law writes -/
/-- behind i whole words -/
def At (ws : List Str) (i : Nat) (st : WSt) : Prop := (i = 0 ∧ st = ([], [])) ∨ (0 < i ∧ st.2 ≠ [] ∧ (st.1 ++ [st.2]).map (List.map lo1) = (ws.take i).map tl)
/-- at the j-th sign of the word w, behind i whole ones -/
def Amid (ws : List Str) (i : Nat) (w : Str) (j : Nat) (st : WSt) : Prop := st.1.map (List.map lo1) = (ws.take i).map tl ∧ st.2.map lo1 = (tl w).take j
theorem At.blanks {ws : List Str} {i : Nat} {st : WSt} (h : At ws i st) (w : Str) {k : Nat} (hk : i ≠ 0 → k ≠ 0) : Amid ws i w 0 ((List.replicate k 32).foldl wst st) := by
  rcases h with ⟨rfl, rfl⟩ | ⟨hi, h1, h2⟩
  · rw [wst_blank0 rfl]
    exact ⟨rfl, rfl⟩
  · obtain ⟨m, rfl⟩ : ∃ m, k = m + 1 := ⟨k - 1, by have := hk (by omega); omega⟩
    rw [wst_blanks]
    refine ⟨?_, rfl⟩
    show (wfn st).map (List.map lo1) = _
    unfold wfn
    rw [if_neg h1]
    exact h2
theorem Amid.step {ws : List Str} {i j : Nat} {w : Str} {st : WSt} {c d : Nat} (h : Amid ws i w j st) (hc : (tl w)[j]? = some c) (hd : lo1 d = c) (hn : d ≠ 32) : Amid ws i w (j + 1) (wst st d) := by
  rw [wst_sign st hn]
  refine ⟨h.1, ?_⟩
  show (st.2 ++ [d]).map lo1 = _
  rw [List.map_append, h.2, List.take_add_one, hc, List.map_cons, hd]
  rfl
theorem Amid.done {ws : List Str} {i : Nat} {w : Str} {st : WSt} (h : Amid ws i w (tl w).length st) (hw : ws[i]? = some w) (hne : tl w ≠ []) : At ws (i + 1) st := by
  have h2 := h.2
  rw [List.take_length] at h2
  refine .inr ⟨Nat.succ_pos _, fun z => ?_, ?_⟩
  · rw [z] at h2
    exact hne h2.symm
  · rw [List.map_append, h.1, List.take_add_one, hw, List.map_cons, List.map_nil, h2, List.map_append]
    rfl
theorem At.fin {ws : List Str} {st : WSt} (h : At ws ws.length st) (hne : ws ≠ []) (k : Nat) : (wfn ((List.replicate k 32).foldl wst st)).map (List.map lo1) = ws.map tl := by
  rw [wfn_blanks]
  rcases h with ⟨h0, _⟩ | ⟨_, h1, h2⟩
  · exact absurd (List.length_eq_zero_iff.mp h0) hne
  · unfold wfn
    rw [if_neg h1, h2, List.take_length]
end My

set_option Elab.async false
set_option linter.all false
set_option maxRecDepth 100000
set_option maxHeartbeats 4000000
/-! own ==, !=, repr, str of an own object; in and != of lists of such -/
namespace My
open PySem PySem.Spec PyProof.Rows L2
section
variable {X : Cx} {n : Nat} {CX : CXT} {C f : Addr} {fd : FuncData} {ps : List PySem.Str} {sp : Sp} {E : XK} {pins : List (Addr × Obj)} {σ : L2.St} {H : Hp} {s : Shared}
theorem run_sub {A : Around} {us : List Value} {vs : List V} {Q : VK} (F : FnOk X.prog X.w X.K X.mg X.base CX n f fd ps sp) (hb : Binds X.K fd ps []) (hx : Passes CX X E) (sb : Sub X n A)
    (I : Inv X pins σ H s) (r : Vals vs us) (h : sp vs H Q E) : wpAny (model X.prog X.w) A (call (.ref f) us) (EP X pins σ Q) X.xe s := by
  have e0 : Env0 X.prog X.w X.K X.mg X.base A X.stack s H := by
    have e := I.env0
    exact ⟨by rw [sb.fr]; exact e.frames, e.mod, e.bs, e.bsz, e.funs, e.frf, e.hok, e.bare⟩
  have hl : us.length = ps.length := by rw [← r.length]; exact F.len _ _ _ _ h
  have b := hb s us I.kIn (by rw [List.append_nil]; exact hl)
  rw [List.append_nil] at b
  refine wpAny_call (codeAny_mono (F.run A X.stack s H ⟨us, []⟩ us vs Q E sb.room e0 b r h) fun r s' hq => ?_)
  cases r with
  | error e => exact hx pins σ H s e s' I hq
  | ok fl =>
    cases fl with
    | ret w => exact I.after hq
    | next => exact False.elim hq
    | brk => exact False.elim hq
    | cont => exact False.elim hq

/-- the type of a value, as the machine reads it -/
def TyL (X : Cx) (H : Hp) (y : V) (t : Value) : Prop := ∀ (pins : List (Addr × Obj)) (σ : L2.St) (s : Shared) (v : Value), Inv X pins σ H s → RelV y v → PySem.W.Looks (model X.prog X.w) s.heap (typeOf v) t
theorem TyL.of {y : V} {t : Value} (h : TyX X.K H y t) : TyL X H y t := fun pins σ s v I r => by
  obtain ⟨P, Z, p, _⟩ := kit_of I r h
  exact Z.ty _ _ I.kIn p
theorem TyL.ins {b dy : Addr} {gs : List (PySem.Str × V)} (h : H b = some (.ins C dy gs)) : TyL X H (.ref b) (.ref C) := fun pins σ s v I r => by
  cases r
  obtain ⟨mB, J, _⟩ := ins_get I.hok h
  obtain ⟨od, J, _⟩ := J.look
  exact J.type

theorem rc_own {A : Around} {a dx : Addr} {fs : List (PySem.Str × V)} {y : V} {v t : Value} {Q : Bool → Hp → Prop} (F : FnOk X.prog X.w X.K X.mg X.base CX n f fd ps sp)
    (hs : PySem.W.findIn X.K (.ref C) "__eq__" = some (some (.ref f))) (hf : PySem.W.isFn X.K (.ref f) = true) (hb : Binds X.K fd ps []) (hx : Passes CX X E) (sb : Sub X n A)
    (I : Inv X pins σ H s) (ha : H a = some (.ins C dx fs)) (ry : RelV y v) (ty : TyL X H y t) (nf : PySem.W.notFirst X.K C t = true) (h : sp [.ref a, y] H (fun z H' => ∃ b, z = .bl b ∧ Q b H') E) :
    wpAny (model X.prog X.w) A (richCompare .Eq (.ref a) v) (fun r s' => ∃ b H', r = .bool b ∧ Inv X pins σ H' s' ∧ Q b H') X.xe s := by
  obtain ⟨mA, J, _⟩ := ins_get I.hok ha
  obtain ⟨od, J, _⟩ := J.look
  obtain ⟨m, hF⟩ := I.fr
  refine PySem.W.cmp_K (op := .Eq) (tb := t) sb.room.units0 hF I.ok.mod.kin J (ty pins σ s v I ry) nf hs hf ?_
  refine wpAny_mono (run_sub F hb hx sb I (.cons (show RelV (.ref a) (.ref a) from rfl) (.cons ry .nil)) h) (fun r s' hq => ?_) fun _ _ x => x
  obtain ⟨z, H', I', rz, b, rfl, q⟩ := hq
  cases rz
  exact ⟨b, H', rfl, I', q⟩

/-- x == y, x an own object, y any thing -/
def rEqO (X : Cx) (C : Addr) (sp : Sp) (E : XK) : R2 := fun x y H Q => ∃ a dx fs t, x = .ref a ∧ H a = some (.ins C dx fs) ∧ TyL X H y t ∧ PySem.W.notFirst X.K C t = true ∧ sp [.ref a, y] H (fun z H' => ∃ b, z = .bl b ∧ Q (.bl b) H') E
theorem op_eqO (F : FnOk X.prog X.w X.K X.mg X.base CX n f fd ps sp) (hs : PySem.W.findIn X.K (.ref C) "__eq__" = some (some (.ref f))) (hf : PySem.W.isFn X.K (.ref f) = true) (hb : Binds X.K fd ps []) (hx : Passes CX X E) (hr : Room n X.A) :
    OpR X (compareOp .Eq) (rEqO X C sp E) := by
  intro pins s σ H x y v u Q I rx ry hq
  obtain ⟨a, dx, fs, t, rfl, ha, ty, nf, q⟩ := hq
  cases rx
  show wpAny (model X.prog X.w) X.A (richCompare .Eq (.ref a) u) (EP X pins σ Q) X.xe s
  refine wpAny_mono (rc_own (Q := fun b H' => Q (.bl b) H') F hs hf hb hx ⟨hr, rfl⟩ I ha ry ty nf q) (fun r s' z => ?_) fun _ _ x => x
  obtain ⟨b, H', rfl, I', q⟩ := z
  exact ⟨.bl b, H', I', rfl, q⟩
theorem eqBool_own {A : Around} {a dx : Addr} {fs : List (PySem.Str × V)} {y : V} {v t : Value} {Q : Bool → Hp → Prop} (F : FnOk X.prog X.w X.K X.mg X.base CX n f fd ps sp)
    (hs : PySem.W.findIn X.K (.ref C) "__eq__" = some (some (.ref f))) (hf : PySem.W.isFn X.K (.ref f) = true) (hb : Binds X.K fd ps []) (hx : Passes CX X E) (sb : Sub X n A)
    (I : Inv X pins σ H s) (ha : H a = some (.ins C dx fs)) (ry : RelV y v) (ty : TyL X H y t) (nf : PySem.W.notFirst X.K C t = true)
    (hd : (y = .ref a ∧ Q true H) ∨ (y ≠ .ref a ∧ sp [.ref a, y] H (fun z H' => ∃ b, z = .bl b ∧ Q b H') E)) :
    wpAny (model X.prog X.w) A (eqBool (.ref a) v) (fun b s' => ∃ H', Inv X pins σ H' s' ∧ Q b H') X.xe s := by
  rcases hd with ⟨rfl, q⟩ | ⟨ne, q⟩
  · cases ry
    exact SeqAt.EqAt.same (A := A) (s := s) (.ref a) X.prog X.w X.xe _ ⟨H, I, q⟩
  · unfold eqBool
    refine wpAny_holding ?_
    refine wpAny_ite_split (fun hab => ?_) (fun _ => ?_)
    · exfalso
      have e := eq_of_beq hab
      subst e
      cases y with
      | ref b =>
        have e2 : Value.ref a = Value.ref b := ry
        injection e2 with e3
        exact ne (by rw [e3])
      | int i => obtain ⟨t, q⟩ := (show ∃ t, Value.ref a = Value.int i t from ry); cases q
      | str i => obtain ⟨t, q⟩ := (show ∃ t, Value.ref a = Value.str i t from ry); cases q
      | _ => first | (exact nomatch ry) | (obtain ⟨t, q⟩ := ry; exact nomatch q) | (cases ry)
    · refine wpAny_bind (wpAny_mono (rc_own F hs hf hb hx sb I ha ry ty nf q) (fun r s' z => ?_) fun _ _ x => x)
      obtain ⟨b, H', rfl, I', q⟩ := z
      exact wpAny_truthy_bool ⟨H', I', q⟩
end
end My

set_option Elab.async false
set_option linter.all false
set_option maxRecDepth 100000
set_option maxHeartbeats 4000000
namespace My
open PySem PySem.Spec PyProof.Rows L2 PySem.W
section
variable {prog : Program} {w : World} {A : Around} {E : Value → Shared → Prop} {s : Shared} {K : Frag} {x C f L : Addr} {ox : Obj} {od : Option Obj} {h₀ : Heap} {m : PySem.Str → Option Value} {b tb : Value}
theorem ifBound_B {M : Model} {name : PySem.Str} {id : String} {args : List Value} {Q : Option Value → Shared → Prop} (X : K.In s.heap) (I : InstAt s.heap x ox C od) (hs : findIn K (.ref C) name = some (some (.builtin id)))
    (hb : ∀ self, bindSpecial (.builtin id) self = pure (.builtin id, [self])) (h : wpAny M A (call (.builtin id) (.ref x :: args)) (fun v => Q (some v)) E s) : wpAny M A (callSpecialIfBound? (.ref x) name args) Q E s := by
  simp only [callSpecialIfBound?, bindSpecialIfBound?]
  refine wpAny_holding (wpAny_bind (wpAny_bind (wpAny_bind (I.type.here ((looks_findIn X hs).here ?_)))))
  refine wpAny_bind (wpAny_askSetting (wpAny_ite ?_))
  have fin : wpAny M A (call (.builtin id) ([.ref x] ++ args) >>= fun v => pure (some v)) Q E s := wpAny_bind (wpAny_mono h (fun v s' h' => wpAny_pure h') fun _ _ h' => h')
  split
  · exact wpAny_bind ((Looks.of_pure (hb _)).here (wpAny_pure (by exact fin)))
  · exact wpAny_tryCatch (wpAny_bind ((Looks.of_pure (hb _)).here (wpAny_pure (by exact fin))))
open Builtin in
theorem ne_K {Q : Value → Shared → Prop} (hu : A.units < cLine) (hu1 : A.in1.units < cLine) (F : Fr h₀ L s.heap m) (X₀ : K.In h₀) (I : InstAt s.heap x ox C od) (hb : Looks (model prog w) s.heap (typeOf b) tb) (hn : notFirst K C tb = true)
    (hne : findIn K (.ref C) "__ne__" = some (some (.builtin "object.__ne__"))) (hm : mroIn K C (.type "object") = some true) (hs : findIn K (.ref C) "__eq__" = some (some (.ref f))) (hf : isFn K (.ref f) = true)
    (h : wpAny (model prog w) A.in1 (call (.ref f) [.ref x, b]) (fun v s' => ∃ r, v = .bool r ∧ Q (.bool (!r)) s') E s) : wpAny (model prog w) A (richCompare .NotEq (.ref x) b) Q E s := by
  have X := X₀.keeps F.keep
  have one : wpAny (model prog w) A (tryCompare (.ref x) "__ne__" b) (fun r s' => ∃ v, r = some v ∧ Q v s') E s := by
    unfold tryCompare
    refine wpAny_bind (ifBound_B X I hne PySem.F.cmp_object.ne.bind ?_)
    refine wpAny_call (codeAny_call_builtin PySem.F.cmp_object.ne.plain PySem.F.cmpEntry_ne (check_slot PySem.F.cmpKind_ne PySem.F.cmpSplit_ne (I.type.andThen (looks_mroIn X hm)) (PySem.F.cmpArgs_ne _ _) ?_))
    unfold Builtin.«object.__ne__»
    refine wpAny_bind (m := slotArgs "__ne__" 1 _) (wpAny_pure ?_)
    refine wpAny_bind (m := cRoomFor _ _) (wpAny_cRoomFor hu1 ?_)
    refine wpAny_bind (m := callSpecialIfBound? (.ref x) (Str.ofString "__eq__") _) (ifBound_K X I hs hf (wpAny_mono h (fun v s' hv => ?_) fun _ _ e => e))
    obtain ⟨r, rfl, hq⟩ := hv
    show wpAny _ _ (truthy (.bool r) >>= _) _ _ _
    refine wpAny_bind (wpAny_truthy_bool ?_)
    exact wpAny_pure (wpAny_pure ⟨_, rfl, hq⟩)
  unfold richCompare
  simp only [oneThing_ref]
  refine wpAny_holding (wpAny_bind (wpAny_cRoomFor hu ?_))
  rw [cmpInfo_NotEq]
  dsimp only
  refine wpAny_bind (I.type.here (wpAny_bind (hb.here ?_)))
  split
  · rename_i q
    have e : subIn K tb (.ref C) = some false := by
      rcases Bool.or_eq_true_iff.mp hn with e | e
      · rw [beq_iff_eq.mp e] at q; simp at q
      · exact beq_iff_eq.mp e
    refine wpAny_bind ((looks_subIn X e).here ?_)
    simp only [Bool.false_eq_true, if_false]
    refine wpAny_bind (wpAny_mono one (fun r s' z => ?_) fun _ _ e => e)
    obtain ⟨v, rfl, hq⟩ := z
    exact wpAny_pure hq
  · refine wpAny_bind (wpAny_pure ?_)
    simp only [Bool.false_eq_true, if_false]
    refine wpAny_bind (wpAny_mono one (fun r s' z => ?_) fun _ _ e => e)
    obtain ⟨v, rfl, hq⟩ := z
    exact wpAny_pure hq
theorem repr_K {Q : Value → Shared → Prop} (hu : A.in1.units < cLine) (X : K.In s.heap) (I : InstAt s.heap x ox C od) (hs : findIn K (.ref C) "__repr__" = some (some (.ref f))) (hf : isFn K (.ref f) = true)
    (h : wpAny (model prog w) A.in1 (call (.ref f) [.ref x]) (fun r s' => ∃ m tk, r = .str m tk ∧ Q (.str m tk) s') E s) : wpAny (model prog w) A (call (.builtin "repr") [.ref x]) Q E s := by
  refine Calls.call_function_entry PySem.F.kind_repr PySem.F.plain_repr PySem.F.entry_repr (PySem.F.args_repr1 _) ?_
  unfold Builtin.«repr»
  refine wpAny_bind (m := oneArg "repr" _) (wpAny_pure ?_)
  refine wpAny_bind (wpAny_cRoomFor hu ?_)
  refine wpAny_bind (m := specialOf (.ref x) (Str.ofString "__repr__")) (wpAny_bind (I.type.here ((looks_findIn X hs).here ?_)))
  show wpAny _ _ (if (some (Value.ref f)).isNone = true then _ else _) _ _ _
  rw [if_neg (by simp)]
  refine wpAny_bind (m := callSpecialIfBound? (.ref x) (Str.ofString "__repr__") _) (ifBound_K X I hs hf (wpAny_mono h (fun r s' hr => ?_) fun _ _ y => y))
  obtain ⟨m, tk, rfl, hq⟩ := hr
  refine wpAny_bind (wpAny_isInstance (typeIs_str _ _ _) isSubtype_str_str ?_)
  first
    | exact wpAny_pure ⟨_, rfl, hq⟩
    | (rw [if_pos rfl]; exact wpAny_pure ⟨_, rfl, hq⟩)
    | (simp only [if_true]; exact wpAny_pure ⟨_, rfl, hq⟩)
open Builtin Builtin.Str in
theorem str_K {Q : Value → Shared → Prop} (hu : A.in1.in1.units < cLine) (X : K.In s.heap) (I : InstAt s.heap x ox C od) (hs : findIn K (.ref C) "__str__" = some (some (.ref f))) (hf : isFn K (.ref f) = true)
    (h : wpAny (model prog w) A.in1.in1 (call (.ref f) [.ref x]) (fun r s' => ∃ m tk, r = .str m tk ∧ Q (.str m tk) s') E s) : wpAny (model prog w) A (call (.type "str") [.ref x]) Q E s := by
  refine callType_codes (T := "str") (Bi := Builtin.«object.__init__») (Q₁ := fun r s₁ => ∃ y u, r = .str y u ∧ Q r s₁) PySem.F.called_str (PySem.F.typeCall_str_1 _) PySem.F.entry_object_init ?_ ?_
  · refine codeAny_of_tree ?_
    show wpAny _ A.in1.in1 (do checkBuiltinCall "str.__new__" ⟨[.type "str", .ref x], []⟩; again (.builtin "str.__new__" ⟨[.type "str", .ref x], []⟩)) _ _ s
    refine wpAny_bind (wpAny_of_eq (PySem.F.newCall_str_1 _) (wpAny_pure ⟨plainId_quiet (by decide +kernel) _, codeAny_builtin PySem.F.entry_str_new ?_⟩))
    rw [Around.under_plainId (by decide +kernel) _]
    rw [str_new_tree]
    refine wpAny_bind (wpAny_pure ?_)
    refine wpAny_bind (wpAny_of_eq isSubtype_str_str ?_)
    have key : wpAny (model prog w) A.in1.in1 (PySem.Builtin.Str.strOf (.ref x)) (fun r s₁ => ∃ y u, r = .str y u ∧ Q r s₁) E s := by
      unfold PySem.Builtin.Str.strOf
      rw [show isExactStr (.ref x) = false from rfl]
      refine wpAny_bind (m := cRoomFor _ _) (wpAny_cRoomFor hu ?_)
      refine wpAny_bind (m := callSpecial? (.ref x) (Str.ofString "__str__")) (special_fn X I hs (beq_iff_eq.mp hf) (wpAny_mono h (fun r s' z => ?_) fun _ _ y => y))
      obtain ⟨y, u, rfl, q⟩ := z
      exact wpAny_pure ⟨_, _, rfl, q⟩
    exact wpAny_bind (wpAny_mono key (fun r s₁ hr => wpAny_pure hr) fun _ _ y => y)
  · rintro obj s₁ ⟨y, u, rfl, hq⟩
    exact ⟨typeIs_str _ _ _, PySem.F.args_object_init_2 _ _, object_init_meets PySem.F.called_str.init.lookup PySem.F.called_str.made (by decide) prog w A.in1 _ s₁ ⟨typeIs_str _ _ _, rfl, hq⟩⟩
end
end My

set_option Elab.async false
set_option linter.all false
set_option maxRecDepth 100000
set_option maxHeartbeats 4000000
namespace My
open PySem PySem.Spec PyProof.Rows L2
section
variable {X : Cx} {n : Nat} {CX : CXT} {C f : Addr} {fd : FuncData} {ps : List PySem.Str} {sp : Sp} {E : XK} {pins : List (Addr × Obj)} {σ : L2.St} {H : Hp} {s : Shared}
/-- x != y, x an own object with an own == and no own != -/
def rNeO (X : Cx) (C : Addr) (sp : Sp) (E : XK) : R2 := fun x y H Q => ∃ a dx fs t, x = .ref a ∧ H a = some (.ins C dx fs) ∧ TyL X H y t ∧ PySem.W.notFirst X.K C t = true ∧ sp [.ref a, y] H (fun z H' => ∃ b, z = .bl b ∧ Q (.bl (!b)) H') E
theorem op_neO (F : FnOk X.prog X.w X.K X.mg X.base CX n f fd ps sp) (hne : PySem.W.findIn X.K (.ref C) "__ne__" = some (some (.builtin "object.__ne__"))) (hm : PySem.W.mroIn X.K C (.type "object") = some true)
    (hs : PySem.W.findIn X.K (.ref C) "__eq__" = some (some (.ref f))) (hf : PySem.W.isFn X.K (.ref f) = true) (hb : Binds X.K fd ps []) (hx : Passes CX X E) (hr : Room (n + 1) X.A) :
    OpR X (compareOp .NotEq) (rNeO X C sp E) := by
  intro pins s σ H x y v u Q I rx ry hq
  obtain ⟨a, dx, fs, t, rfl, ha, ty, nf, q⟩ := hq
  cases rx
  show wpAny (model X.prog X.w) X.A (richCompare .NotEq (.ref a) u) (EP X pins σ Q) X.xe s
  obtain ⟨mA, J, _⟩ := ins_get I.hok ha
  obtain ⟨od, J, _⟩ := J.look
  obtain ⟨m, hF⟩ := I.fr
  have sb : Sub X (n + 1) X.A := ⟨hr, rfl⟩
  refine ne_K (tb := t) sb.room.units0 sb.in1.room.units0 hF I.ok.mod.kin J (ty pins σ s u I ry) nf hne hm hs hf ?_
  refine wpAny_mono (run_sub F hb hx sb.in1 I (.cons (show RelV (.ref a) (.ref a) from rfl) (.cons ry .nil)) q) (fun r s' hq => ?_) fun _ _ x => x
  obtain ⟨z, H', I', rz, b, rfl, q⟩ := hq
  cases rz
  exact ⟨b, rfl, .bl _, H', I', rfl, q⟩
def rRepO (C : Addr) (sp : Sp) (E : XK) : List V → Hp → VK → Prop := fun xs H Q => ∃ a dx fs, xs = [.ref a] ∧ H a = some (.ins C dx fs) ∧ sp [.ref a] H (fun z H' => ∃ y, z = .str y ∧ Q (.str y) H') E
theorem call_reprO (F : FnOk X.prog X.w X.K X.mg X.base CX n f fd ps sp) (hs : PySem.W.findIn X.K (.ref C) "__repr__" = some (some (.ref f))) (hf : PySem.W.isFn X.K (.ref f) = true) (hb : Binds X.K fd ps []) (hx : Passes CX X E) (hr : Room (n + 1) X.A) :
    CallR X (.builtin "repr") (rRepO C sp E) := by
  intro pins s σ H xs us Q I r h
  obtain ⟨a, dx, fs, rfl, ha, q⟩ := h
  obtain ⟨u, rfl, ru⟩ := vals1 r
  cases ru
  obtain ⟨mA, J, _⟩ := ins_get I.hok ha
  obtain ⟨od, J, _⟩ := J.look
  have sb : Sub X (n + 1) X.A := ⟨hr, rfl⟩
  refine repr_K sb.in1.room.units0 I.kIn J hs hf ?_
  refine wpAny_mono (run_sub F hb hx sb.in1 I (.cons (show RelV (.ref a) (.ref a) from rfl) .nil) q) (fun r s' hq => ?_) fun _ _ x => x
  obtain ⟨z, H', I', rz, y, rfl, q⟩ := hq
  obtain ⟨t, rfl⟩ := rz
  exact ⟨y, t, rfl, .str y, H', I', ⟨t, rfl⟩, q⟩
theorem call_strO (F : FnOk X.prog X.w X.K X.mg X.base CX n f fd ps sp) (hs : PySem.W.findIn X.K (.ref C) "__str__" = some (some (.ref f))) (hf : PySem.W.isFn X.K (.ref f) = true) (hb : Binds X.K fd ps []) (hx : Passes CX X E) (hr : Room (n + 2) X.A) :
    CallR X (.type "str") (rRepO C sp E) := by
  intro pins s σ H xs us Q I r h
  obtain ⟨a, dx, fs, rfl, ha, q⟩ := h
  obtain ⟨u, rfl, ru⟩ := vals1 r
  cases ru
  obtain ⟨mA, J, _⟩ := ins_get I.hok ha
  obtain ⟨od, J, _⟩ := J.look
  have sb : Sub X (n + 2) X.A := ⟨hr, rfl⟩
  refine str_K sb.in1.in1.room.units0 I.kIn J hs hf ?_
  refine wpAny_mono (run_sub F hb hx sb.in1.in1 I (.cons (show RelV (.ref a) (.ref a) from rfl) .nil) q) (fun r s' hq => ?_) fun _ _ x => x
  obtain ⟨z, H', I', rz, y, rfl, q⟩ := hq
  obtain ⟨t, rfl⟩ := rz
  exact ⟨y, t, rfl, .str y, H', I', ⟨t, rfl⟩, q⟩
end
end My
namespace MyQ
open PySem PySem.SeqAt
open AutoSeq1 (wpAny_loadPart')
open MeetsSeq MeetsSeq2 MeetsSeq3 SeqRoads2
section
variable {prog : Program} {w : World} {A : Around} {R : Result → Shared → Prop}
/-- at each turn the list is read anew: the i-th answers es[i] -/
def ContI (prog : Program) (w : World) (A : Around) (E : Value → Shared → Prop) (l : Addr) (x : Value) (es : List Bool) (I : Shared → Prop) : Prop :=
  ∀ s, I s → ∃ (items : Array Value) (n : Nat), s.heap.get? l = some { cls := .type "list", data := .seq items n } ∧ items.size = es.length ∧
    ∀ (i : Nat) (h1 : i < items.size), wpAny (model prog w) A.in1 (eqBool items[i] x) (fun r s' => some r = es[i]? ∧ I s') E s
theorem cont_loop (l : Addr) (x : Value) (es : List Bool) (I : Shared → Prop) (hl : ContI prog w A (fun e s' => R (.error e) s') l x es I)
    (fin : ∀ s, I s → R (.ok (.ret (.bool (es.any id)))) s) (k : Nat) :
    ∀ i : Nat, es.length - i = k → i ≤ es.length → (es.take i).any id = false → ∀ s, I s →
      wpAny (model prog w) A.in1 (Builtin.«list.__contains__.loop» ⟨[.ref l, x, rawInt i], []⟩) (GQ.FinOf prog w A R) (fun e s' => R (.error e) s') s := by
  induction k with
  | zero =>
    intro i hk hi ht s h
    obtain ⟨items, n, hl1, hs1, _⟩ := hl _ h
    have hR := fin s h
    have e0 : es.any id = false := by
      have hi' : i = es.length := by omega
      rw [hi', List.take_length] at ht
      exact ht
    rw [e0] at hR
    obtain ⟨hp, g, d, tk, os⟩ := s
    wp_walk using wpAny_loadPart' hl1
    have hi1 : items[((i : Nat) : Int).toNat]? = none := by simp; omega
    rw [hi1]
    wp_walk
    exact hR
  | succ k ih =>
    intro i hk hi ht s h
    obtain ⟨items, n, hl1, hs1, turn⟩ := hl _ h
    have hlt : i < items.size := by omega
    have t1 := turn i hlt
    obtain ⟨hp, g, d, tk, os⟩ := s
    wp_walk using wpAny_loadPart' hl1
    have hi1 : items[((i : Nat) : Int).toNat]? = some items[i] := by simp [hlt]
    have hc : ((i : Int) + 1) = ((i + 1 : Nat) : Int) := by omega
    rw [hi1]
    refine wpAny_bind (wpAny_mono t1 (fun r s2 h2 => ?_) fun _ _ x => x)
    obtain ⟨hr, h2⟩ := h2
    cases r with
    | true =>
      have e1 : es.any id = true := by
        rw [List.any_eq_true]
        exact ⟨true, List.mem_of_getElem? hr.symm, rfl⟩
      have hR := fin s2 h2
      rw [e1] at hR
      obtain ⟨hp2, g2, d2, tk2, os2⟩ := s2
      wp_walk
      exact hR
    | false =>
      have hrec := ih (i + 1) (by omega) (by omega) (by
        rw [List.take_add_one, List.any_append, ht, ← hr]
        rfl) s2 h2
      obtain ⟨hp2, g2, d2, tk2, os2⟩ := s2
      wp_walk
      rw [hc]
      exact ⟨plainId_quiet plain_contains_loop _, codeAny_builtin entry_contains_loop (by
        rw [Around.under_plainId plain_contains_loop _]
        exact hrec)⟩
theorem cont_list (l : Addr) (x : Value) (es : List Bool) (I : Shared → Prop) (hl : ContI prog w A (fun e s' => R (.error e) s') l x es I)
    (fin : ∀ s, I s → R (.ok (.ret (.bool (es.any id)))) s) {s : Shared} (h : I s) :
    wpAny (model prog w) A.in1 (Builtin.«list.__contains__» ⟨[.ref l, x], []⟩) (GQ.FinOf prog w A R) (fun e s' => R (.error e) s') s := by
  obtain ⟨items, n, hl1, hs1, _⟩ := hl _ h
  have hrec := cont_loop (A := A) (R := R) l x es I hl fin _ 0 rfl (Nat.zero_le _) rfl s h
  obtain ⟨hp, g, d, tk, os⟩ := s
  wp_walk using wpAny_loadPart' hl1
  exact ⟨plainId_quiet plain_contains_loop _, codeAny_builtin entry_contains_loop (by
    rw [Around.under_plainId plain_contains_loop _]
    exact hrec)⟩
theorem in_listG {E : Value → Shared → Prop} {s : Shared} {l : Addr} {x : Value} {es : List Bool} {Q : Value → Shared → Prop} (I : Shared → Prop) (hl : ContI prog w A E l x es I) (fin : ∀ s, I s → Q (.bool (es.any id)) s) (h : I s) :
    wpAny (model prog w) A (compareOp .In x (.ref l)) Q E s := by
  obtain ⟨items, n, hl1, _⟩ := hl _ h
  show wpAny _ _ (do return .bool (← contains (.ref l) x)) Q E s
  refine wpAny_bind (wpAny_contains_slot ⟨_, hl1, rfl⟩ F.slot_list_contains ?_)
  refine GQ.call_here F.slot_list_contains ⟨_, hl1, rfl⟩ F.entry_list_contains (F.args_list_contains_2 _ _) ?_
  exact cont_list (R := wants (fun v s' => wpAny (model prog w) A (truthy v) (fun b s'' => wpAny _ A (pure (Value.bool b)) Q E s'') E s') E) l x es I hl (fun s' q => wpAny_truthy_bool (wpAny_pure (fin s' q))) h
end
end MyQ

set_option Elab.async false
set_option linter.all false
set_option maxRecDepth 100000
set_option maxHeartbeats 4000000
namespace MyQ
open PySem PySem.SeqAt
open AutoSeq1 (wpAny_loadPart')
open MeetsSeq MeetsSeq2 MeetsSeq3 SeqRoads2
section
variable {prog : Program} {w : World} {A : Around} {R : Result → Shared → Prop}
theorem ne_loopG (l b : Addr) (N : Nat) (I : Nat → Shared → Prop) (hl : GQ.ListI prog w A (fun e s' => R (.error e) s') l b N I)
    (fin : ∀ s, I N s → R (.ok (.ret (.bool false))) s) (k : Nat) :
    ∀ i : Nat, N - i = k → i ≤ N → ∀ s, I i s →
      wpAny (model prog w) A.in1 (Builtin.«list.__eq__.loop» ⟨[.ref l, .ref b, rawInt i, rawInt 3], []⟩) (GQ.FinOf prog w A R) (fun e s' => R (.error e) s') s := by
  induction k with
  | zero =>
    intro i hk hi s h
    obtain ⟨items, items2, n, n2, hl1, hb1, hs1, hs2, _⟩ := hl _ _ h
    have hi' : i = N := by omega
    have hR : R (.ok (.ret (.bool false))) s := fin s (hi' ▸ h)
    obtain ⟨hp, g, d, tk, os⟩ := s
    wp_walk using wpAny_loadPart' hl1, wpAny_loadPart' hb1
    have hi1 : items[((i : Nat) : Int).toNat]? = none := by simp; omega
    have hi2 : items2[((i : Nat) : Int).toNat]? = none := by simp; omega
    rw [hi1, hi2]
    wp_walk using wpAny_loadPart' hl1, wpAny_loadPart' hb1
    show R (.ok (.ret (.bool (items.size != items2.size)))) _
    rw [hs1, hs2]
    simpa using hR
  | succ k ih =>
    intro i hk hi s h
    obtain ⟨items, items2, n, n2, hl1, hb1, hs1, hs2, turn⟩ := hl _ _ h
    have hlt : i < items.size := by omega
    have hlt2 : i < items2.size := by omega
    have ht := turn hlt hlt2
    obtain ⟨hp, g, d, tk, os⟩ := s
    wp_walk using wpAny_loadPart' hl1, wpAny_loadPart' hb1
    have hi1 : items[((i : Nat) : Int).toNat]? = some items[i] := by simp [hlt]
    have hi2 : items2[((i : Nat) : Int).toNat]? = some items2[i] := by simp [hlt2]
    have hc : ((i : Int) + 1) = ((i + 1 : Nat) : Int) := by omega
    rw [hi1, hi2]
    refine wpAny_bind (wpAny_mono ht (fun r s2 h2 => ?_) fun _ _ x => x)
    obtain ⟨hr, h2⟩ := h2
    subst hr
    have hrec := ih (i + 1) (by omega) (by omega) s2 h2
    obtain ⟨hp2, g2, d2, tk2, os2⟩ := s2
    wp_walk
    rw [hc]
    exact ⟨plainId_quiet plain_eq_loop _, codeAny_builtin entry_eq_loop (by
      rw [Around.under_plainId plain_eq_loop _]
      exact hrec)⟩
theorem list_neG (l b : Addr) (N : Nat) (I : Nat → Shared → Prop) (hl : GQ.ListI prog w A (fun e s' => R (.error e) s') l b N I)
    (fin : ∀ s, I N s → R (.ok (.ret (.bool false))) s) {s : Shared} (h : I 0 s) :
    wpAny (model prog w) A.in1 (Builtin.«list.__ne__» ⟨[.ref l, .ref b], []⟩) (GQ.FinOf prog w A R) (fun e s' => R (.error e) s') s := by
  obtain ⟨items, items2, n, n2, hl1, hb1, hs1, hs2, _⟩ := hl _ _ h
  have hrec := ne_loopG (A := A) (R := R) l b N I hl fin _ 0 rfl (Nat.zero_le _) s h
  obtain ⟨hp, g, d, tk, os⟩ := s
  have f3 := AutoSeq1.sub_list_list
  have hne : ¬ (items.size != items2.size) = true := by simp [hs1, hs2]
  wp_walk using wpAny_loadPart' hl1, wpAny_loadPart' hb1
  exact ⟨plainId_quiet plain_eq_loop _, codeAny_builtin entry_eq_loop (by
    rw [Around.under_plainId plain_eq_loop _]
    exact hrec)⟩
theorem rcne_listG {E : Value → Shared → Prop} {s : Shared} {l b : Addr} {N : Nat} {Q : Value → Shared → Prop} (hu : A.units < cLine) (I : Nat → Shared → Prop) (hl : GQ.ListI prog w A E l b N I)
    (fin : ∀ s, I N s → Q (.bool false) s) (h : I 0 s) : wpAny (model prog w) A (richCompare .NotEq (.ref l) (.ref b)) Q E s := by
  obtain ⟨items, items2, n, n2, hl1, hb1, _, _, _⟩ := hl _ _ h
  refine wpAny_richCompare_same_room (op := .NotEq) ⟨_, hl1, rfl⟩ ⟨_, hb1, rfl⟩ F.slot_list_ne (GQ.call_here F.slot_list_ne ⟨_, hl1, rfl⟩ F.entry_list_ne (F.args_list_ne_2 _ _) ?_) hu
  exact list_neG (R := wants (fun v s' => v ≠ .notImplemented ∧ Q v s') E) l b N I hl (fun s' q => ⟨(fun x => nomatch x), fin s' q⟩) h
end
end MyQ
namespace My
open PySem PySem.Spec PyProof.Rows L2
section
variable {X : Cx} {n : Nat} {CX : CXT} {C f : Addr} {fd : FuncData} {ps : List PySem.Str} {sp : Sp} {E : XK} {D : Eqv}
/-- l != m, two lists of things that are equal, item by item -/
def rNeL (D : Eqv) : R2 := fun x y H Q => DList D x y H ∧ ∀ H', Ext H H' → Q (.bl false) H'
theorem op_neL (hD : Mon D) (h : EqG X n D) (hr : Room (n + 1) X.A) : OpR X (compareOp .NotEq) (rNeL D) := by
  intro pins s σ H x y v u Q I rx ry hq
  obtain ⟨⟨a, b, xs, ys, rfl, rfl, ha, hb, p⟩, q⟩ := hq
  cases rx
  cases ry
  have sb : Sub X (n + 1) X.A := ⟨hr, rfl⟩
  show wpAny (model X.prog X.w) X.A (richCompare .NotEq (.ref a) (.ref b)) (EP X pins σ Q) X.xe s
  refine MyQ.rcne_listG (N := xs.length) sb.room.units0 (fun _ s' => LoopI X pins σ H s') (fun i s' q => ?_) (fun s' q2 => ?_) ⟨H, I, Ext.rfl'⟩
  · obtain ⟨H1, I1, e1⟩ := id q
    obtain ⟨z, its, k, r, e⟩ := I1.hok a _ (e1 _ _ ha)
    obtain ⟨z2, its2, k2, r2, e2⟩ := I1.hok b _ (e1 _ _ hb)
    refine ⟨its.toArray, its2.toArray, k, k2, e, e2, by rw [List.size_toArray, ← r.length], by rw [List.size_toArray, ← r2.length, ← p.1], fun h1 h2 => ?_⟩
    exact turnG hD h sb p r r2 i h1 h2 s' q
  · obtain ⟨H1, I1, e1⟩ := q2
    exact ⟨.bl false, H1, I1, rfl, q H1 e1⟩
/-- x in l, l a list of own objects: es tells which are equal to x -/
def rInO (X : Cx) (C : Addr) (sp : Sp) (E : XK) : R2 := fun x y H Q => ∃ (p : Addr) (xs : List V) (es : List Bool), y = .ref p ∧ H p = some (.lst xs) ∧ xs.length = es.length ∧
  (∀ H1, Ext H H1 → ∃ t, TyL X H1 x t ∧ PySem.W.notFirst X.K C t = true ∧ ∀ (i : Nat) xi e, xs[i]? = some xi → es[i]? = some e → ∃ a dx fs, xi = .ref a ∧ H1 a = some (.ins C dx fs) ∧
    ((x = .ref a ∧ e = true) ∨ (x ≠ .ref a ∧ sp [.ref a, x] H1 (fun z H' => ∃ b, z = .bl b ∧ (b = e ∧ Ext H H')) E))) ∧ ∀ H', Ext H H' → Q (.bl (es.any id)) H'
theorem op_inO (F : FnOk X.prog X.w X.K X.mg X.base CX n f fd ps sp) (hs : PySem.W.findIn X.K (.ref C) "__eq__" = some (some (.ref f))) (hf : PySem.W.isFn X.K (.ref f) = true) (hb : Binds X.K fd ps []) (hx : Passes CX X E) (hr : Room (n + 1) X.A) :
    OpR X (compareOp .In) (rInO X C sp E) := by
  intro pins s σ H x y v u Q I rx ry hq
  obtain ⟨p, xs, es, rfl, hp, hz, turn, q⟩ := hq
  cases ry
  have sb : Sub X (n + 1) X.A := ⟨hr, rfl⟩
  refine MyQ.in_listG (es := es) (LoopI X pins σ H) (fun s' q1 => ?_) (fun s' q1 => ?_) ⟨H, I, Ext.rfl'⟩
  · obtain ⟨H1, I1, e1⟩ := q1
    obtain ⟨z, its, k, r, e⟩ := I1.hok p _ (e1 _ _ hp)
    refine ⟨its.toArray, k, e, by rw [List.size_toArray, ← r.length, hz], fun i h1 => ?_⟩
    obtain ⟨t, ty, nf, tn⟩ := turn H1 e1
    have k1 : i < xs.length := by rw [r.length]; simpa using h1
    have k2 : i < es.length := by rw [← hz]; exact k1
    have g1 : its[i]? = some its.toArray[i] := by
      have h1' : i < its.length := by simpa using h1
      rw [List.getElem?_eq_getElem h1'] <;> simp
    obtain ⟨w, hw, rw'⟩ := r.get (List.getElem?_eq_getElem k1)
    rw [g1] at hw
    rw [Option.some.inj hw]
    obtain ⟨a, dx, fs, ea, ha, hd⟩ := tn i _ _ (List.getElem?_eq_getElem k1) (List.getElem?_eq_getElem k2)
    rw [ea] at rw'
    cases rw'
    refine wpAny_mono (eqBool_own (Q := fun b H' => b = es[i] ∧ Ext H H') F hs hf hb hx sb.in1 I1 ha rx ty nf ?_) (fun r s2 h2 => ?_) fun _ _ x => x
    · rcases hd with ⟨h, e⟩ | ⟨h, e⟩
      · exact .inl ⟨h, e.symm, e1⟩
      · exact .inr ⟨h, e⟩
    · obtain ⟨H2, I2, hr2, e2⟩ := h2
      exact ⟨by rw [hr2, List.getElem?_eq_getElem k2], H2, I2, e2⟩
  · obtain ⟨H1, I1, e1⟩ := q1
    exact ⟨.bl _, H1, I1, rfl, q H1 e1⟩
end
end My

set_option Elab.async false
set_option linter.all false
set_option maxRecDepth 100000
set_option maxHeartbeats 4000000
namespace My
open PySem PySem.Spec PyProof.Rows L2
/-! ### own words over the layer -/
/-- a def that is called by its name and lets nothing out -/
def Cal (P : Program) (w : World) (K : PySem.W.Frag) (mg : Str → Option Value) (base : Heap) (k : Nat) (x : Str) (sp : Sp) : Prop :=
  ∃ (f : Addr) (fd : FuncData) (ps : List Str), FnOk P w K mg base CX0 k f fd ps sp ∧ mg x = some (.ref f) ∧ PySem.W.keepIn K (.ref f) = true ∧ Binds K fd ps []
theorem pe_cal {X : Cx} {k j : Nat} {x : Str} {sp : Sp} {p pos : Pos} {e : Expr} {es : List Expr} {t : TA} (c : Cal X.prog X.w X.K X.mg X.base k x sp) (hr : Room j X.A) (hk : k ≤ j) (hg : Gl X x) (ha : PA X (e :: es) t)
    (hdb : (x == ("__debug__" : Str)) = false := by decide) (he : starEach (e :: es) X.env = (false, eval e X.env) :: starEach es X.env := by rfl) (hpl : (backTo pos (starEach es X.env)).any (·.1) = false := by rfl) :
    PE X (.Call (.Name x p) (e :: es) [] pos) (tCall sp [] E0 t) := by
  obtain ⟨f, fd, ps, F, hm, kp, b⟩ := c
  exact pe_call F (hr.mono hk) hg hm kp b .nil pass0 ha hdb he hpl
theorem same_upd {H : Hp} {p : Addr} {o : HO} (h : H p = none) : Same H (upd H p o) := fun b x e => by
  rw [upd_ne (ne_of_none e h)]
  exact e
/-- a list or tuple of the given values, by its places -/
theorem atI_of {xs : List V} {z : Int} {v : V} (h0 : 0 ≤ z) (h : xs[z.toNat]? = some v) : atI xs z = some v := by
  have e : z = (z.toNat : Int) := (Int.toNat_of_nonneg h0).symm
  rw [e]
  exact atI_nat h
theorem ixN_nat {n : Nat} {j : Nat} (h : j < n) : ixN n (j : Int) = some j := by
  unfold ixN
  simp
  omega
/-! ### the bag -/
def Bag (H : Hp) (p : Addr) : Prop := ∃ g s : Int, H p = some (.lst [.int g, .int s]) ∧ 0 ≤ g ∧ 0 ≤ s ∧ s < 2147483648
/-- all stands but the bag at p -/
def Sx (p : Addr) (H H' : Hp) : Prop := ∀ b o, b ≠ p → H b = some o → H' b = some o
def topS (i : Nat) : Stmt := PySem.Challenge.pw_whistleboard_k24_rows.main.body.getD i (.Pass ⟨0, 0, 0, 0⟩)
structure Txt (mg : Str → Option Value) : Prop where
  z_len : mg "len" = none
  z_abs : mg "abs" = none
  z_all : mg "all" = none
  z_any : mg "any" = none
  z_str : mg "str" = none
  z_int : mg "int" = none
  z_isinstance : mg "isinstance" = none
  z_range : mg "range" = none
  z_max : mg "max" = none
  z_min : mg "min" = none
  z_bool : mg "bool" = none
  z_list : mg "list" = none
  z_tuple : mg "tuple" = none
  z_zip : mg "zip" = none
  z_repr : mg "repr" = none
  g_MINUTES_OF_DAY : ∃ t, mg "MINUTES_OF_DAY" = some (.int 1440 t)
  g_MINUTES_OF_HOUR : ∃ t, mg "MINUTES_OF_HOUR" = some (.int 60 t)
theorem Sx.of {p : Addr} {H H' : Hp} (h : ∀ b, b ≠ p → H' b = H b) : Sx p H H' := fun b o hb e => by
  rw [h b hb]
  exact e
theorem Sx.trans {p : Addr} {H H1 H2 : Hp} (a : Sx p H H1) (b : Sx p H1 H2) : Sx p H H2 := fun c o hc e => b c o hc (a c o hc e)
theorem Sx.same {p : Addr} {H H' : Hp} (h : Same H H') : Sx p H H' := fun b o _ e => h b o e
theorem Sx.toSame {p : Addr} {H H1 H2 : Hp} (a : Same H H1) (b : Sx p H1 H2) (np : H p = none) : Same H H2 := fun c o e => b c o (ne_of_none e np) (a c o e)
theorem Bag.some {p : Addr} {H : Hp} (h : Bag H p) : ∃ o, H p = some o := by
  obtain ⟨g, s, e, _⟩ := h
  exact ⟨_, e⟩
theorem Bag.same {p : Addr} {H H' : Hp} (h : Bag H p) (sm : Same H H') : Bag H' p := by
  obtain ⟨g, s, e, r⟩ := h
  exact ⟨g, s, sm _ _ e, r⟩
theorem Bag.ne {p l : Addr} {H : Hp} (h : Bag H p) (hl : H l = none) : l ≠ p := fun e => by
  obtain ⟨o, q⟩ := h.some
  rw [e, q] at hl
  cases hl
theorem neF (v : V) : V.bl (!decide (v = v)) = V.bl false := by
  rw [decide_eq_true rfl]
  rfl
theorem isF' {v : V} (h : v ≠ .non) : V.bl (decide (v = V.non)) = V.bl false := by
  rw [decide_eq_false h]
/-- no test in a comprehension -/
theorem yesI {σ : L2.St} {H : Hp} {A B : Hp → Prop} (h : A H) : tYes σ H (fun b H3 => if b = true then A H3 else B H3) := by
  show if true = true then A H else B H
  exact iteT h
theorem cal_mk {P : Program} {w : World} {K : PySem.W.Frag} {mg : Str → Option Value} {base : Heap} {k : Nat} {x : Str} {sp : Sp} {f : Addr} {fd : FuncData} {ps : List Str} (F : FnOk P w K mg base CX0 k f fd ps sp) (g : mg x = some (.ref f)) (kp : PySem.W.keepIn K (.ref f) = true) (b : Binds K fd ps []) : Cal P w K mg base k x sp := ⟨f, fd, ps, F, g, kp, b⟩
theorem pe_glob' {X : Cx} {x : Str} {pos : Pos} {i : Int} (h : ∃ t, X.mg x = some (.int i t)) (hg : Gl X x) (hd : (x == ("__debug__" : Str)) = false := by decide) : PE X (.Name x pos) (tC (.int i)) := by
  obtain ⟨t, e⟩ := h
  exact pe_glob hg e ⟨_, rfl⟩ (hd := hd)
theorem pe_globS {X : Cx} {x : Str} {pos : Pos} {i : Str} (h : ∃ t, X.mg x = some (.str i t)) (hg : Gl X x) (hd : (x == ("__debug__" : Str)) = false := by decide) : PE X (.Name x pos) (tC (.str i)) := by
  obtain ⟨t, e⟩ := h
  exact pe_glob hg e ⟨_, rfl⟩ (hd := hd)
section
variable {P : Program} {w : World} {K : PySem.W.Frag} {mg : Str → Option Value} {base : Heap}
/-! ### _law_take -/
abbrev s_law_take : Stmt := topS 14
abbrev N_law_take : List Str := ["_law_bag_here", "_law_many", "_law_digit"]
theorem sc_law_take : FnScope N_law_take ["_law_bag_here", "_law_many"] (defScope s_law_take) := ⟨rfl, rfl, rfl, by decide +kernel, rfl, by decide +kernel, by decide +kernel⟩
def sp_law_take : Sp := fun vs H Q _ => ∃ (p : Addr) (m : Int), vs = [.ref p, .int m] ∧ Bag H p ∧ 0 < m ∧ m < 1073741824 ∧
  ∀ d H', 0 ≤ d → d < m → Bag H' p → (∀ b, b ≠ p → H' b = H b) → Q (.int d) H'
theorem ok_law_take {f : Addr} {fd : FuncData} {k : Nat} (F : Fun K "_law_take" "_law_take" s_law_take f fd) : FnOk P w K mg base CX0 (k + 1) f fd ["_law_bag_here", "_law_many"] sp_law_take := by
  refine F.ok sc_law_take (fun vs H Q E h => ?_) (fun cdv A outer s H vs Q E hr h => ?_)
  · obtain ⟨p, m, rfl, _⟩ := h
    rfl
  · obtain ⟨p, m, rfl, ⟨g, sd, hp, hg, h0, h1⟩, hm0, hm1, q⟩ := h
    refine ⟨_, (pss_cons (ps_if (pt_cmpR op_gt (pe_ix ix_list (pv 0) pe_int (fun _ _ => rfl)) pe_int (nomark _)) (pss_cons (ps_set (i := 2) sc_law_take.nd rfl (.inl rfl) (pe_op op_mod (pe_ix ix_list (pv 0) pe_int (fun _ _ => rfl)) (pv 1)))
        (pss_cons (ps_asg (pe_op op_fdiv (pe_ix ix_list (pv 0) pe_int (fun _ _ => rfl)) (pv 1)) (pg_sub (pv 0) pe_int set_list))
        (pss_one (ps_ret (pv 2))))) pss_nil)
      (pss_cons (ps_asg (pe_op op_mod (pe_op op_add (pe_op op_mul (pe_ix ix_list (pv 0) pe_int (fun _ _ => rfl)) pe_int) pe_int) pe_int) (pg_sub (pv 0) pe_int set_list))
      (pss_one (ps_ret (pe_op op_mod (pe_op op_mod (pe_op op_pow (pe_op op_fdiv (pe_ix ix_list (pv 0) pe_int (fun _ _ => rfl)) pe_int) pe_int) pe_int) (pv 1)))))), ?_⟩
    have hL : SqL K H p [.int g, .int sd] := SqL.of hp
    refine ⟨_, rfl, p, _, 0, .int g, rfl, rfl, hL, atI_nat (j := 0) rfl, _, _, rfl, rfl, _, rfl, ite2 (fun e => ?_) (fun e => ?_)⟩
    · have eg : (0 : Int) < g := of_decide_eq_true e
      refine ⟨_, rfl, p, _, 0, .int g, rfl, rfl, hL, atI_nat (j := 0) rfl, _, rfl, _, _, rfl, rfl, hm0, ?_⟩
      refine ⟨_, rfl, p, _, 0, .int g, rfl, rfl, hL, atI_nat (j := 0) rfl, _, rfl, _, _, rfl, rfl, ⟨hm0, hm1⟩, ?_⟩
      refine ⟨_, rfl, p, _, 0, 0, rfl, rfl, hp, rfl, ?_⟩
      refine ⟨_, rfl, ?_⟩
      refine q _ _ (Int.emod_nonneg _ (by omega)) (Int.emod_lt_of_pos _ hm0) ⟨g / m, sd, upd_same, Int.ediv_nonneg hg (by omega), h0, h1⟩ (fun b hb => upd_ne hb)
    · refine ⟨_, rfl, p, _, 1, .int sd, rfl, rfl, hL, atI_nat (j := 1) rfl, _, _, rfl, rfl, .inl ⟨by omega, by omega⟩, _, _, rfl, rfl, _, _, rfl, rfl, (by show (0 : Int) < 2147483647; decide), ?_⟩
      refine ⟨_, rfl, p, _, 1, 1, rfl, rfl, hp, rfl, ?_⟩
      have e0 : 0 ≤ (sd * 48271 + 11) % 2147483647 := Int.emod_nonneg _ (by decide)
      have e1 : (sd * 48271 + 11) % 2147483647 < 2147483647 := Int.emod_lt_of_pos _ (by decide)
      refine ⟨_, rfl, p, _, 1, .int ((sd * 48271 + 11) % 2147483647), rfl, rfl, SqL.of upd_same, atI_nat (j := 1) rfl, _, _, rfl, rfl, ⟨by decide, by decide⟩, _, _, rfl, rfl, ⟨by decide, by decide, by omega⟩, _, _, rfl, rfl, (by show (0 : Int) < 2147483629; decide), _, rfl, _, _, rfl, rfl, hm0, ?_⟩
      refine q _ _ (Int.emod_nonneg _ (by omega)) (Int.emod_lt_of_pos _ hm0) ⟨g, _, upd_same, hg, e0, by omega⟩ (fun b hb => upd_ne hb)
/-! ### _law_bag -/
abbrev s_law_bag : Stmt := topS 13
abbrev N_law_bag : List Str := ["_law_script", "_law_spot", "_law_cell", "_law_great", "_law_primes"]
theorem sc_law_bag : FnScope N_law_bag ["_law_script", "_law_spot"] (defScope s_law_bag) := ⟨rfl, rfl, rfl, by decide +kernel, rfl, by decide +kernel, by decide +kernel⟩
def primes : List Int := [2147483629, 2147483587, 2147483579, 2147483563, 2147483549, 2147483543, 2147483497, 2147483489]
theorem primes_at (j : Nat) (h : j < 8) : ∃ p : Int, primes[j]? = some p ∧ 0 < p ∧ p < 2147483648 := by
  have q : ∀ j : Nat, j < 8 → ∃ p : Int, primes[j]? = some p ∧ 0 < p ∧ p < 2147483648 := fun j h =>
    match j, h with
    | 0, _ => ⟨_, rfl, by decide, by decide⟩ | 1, _ => ⟨_, rfl, by decide, by decide⟩ | 2, _ => ⟨_, rfl, by decide, by decide⟩ | 3, _ => ⟨_, rfl, by decide, by decide⟩
    | 4, _ => ⟨_, rfl, by decide, by decide⟩ | 5, _ => ⟨_, rfl, by decide, by decide⟩ | 6, _ => ⟨_, rfl, by decide, by decide⟩ | 7, _ => ⟨_, rfl, by decide, by decide⟩
    | n + 8, h => absurd h (by omega)
  exact q j h
def sp_law_bag (K : PySem.W.Frag) : Sp := fun vs H Q _ => ∃ (a : Addr) (ns : List Int) (at_ : Int), vs = [.ref a, .int at_] ∧ SqL K H a (ns.map V.int) ∧ 0 ≤ at_ ∧ at_ < 1000000 ∧
  ∀ H' p, Same H H' → H p = none → Bag H' p → Q (.ref p) H'
theorem ok_law_bag {f : Addr} {fd : FuncData} {k : Nat} (F : Fun K "_law_bag" "_law_bag" s_law_bag f fd) (T : Txt mg) : FnOk P w K mg base CX0 (k + 1) f fd ["_law_script", "_law_spot"] (sp_law_bag K) := by
  refine F.ok sc_law_bag (fun vs H Q E h => ?_) (fun cdv A outer s H vs Q E hr h => ?_)
  · obtain ⟨a, ns, m, rfl, _⟩ := h
    rfl
  · obtain ⟨a, ns, m, rfl, hS, hm0, hm1, q⟩ := h
    refine ⟨_, (pss_cons (ps_set (i := 2) sc_law_bag.nd rfl (.inl rfl) pe_int)
      (pss_cons (ps_if (pt_cmpR op_lt (pv 1) (pe_callB call_len_seq (by rfl) T.z_len (by decide +kernel) (pa_cons (pv 0) pa_nil)) (nomark _)) (pss_one (ps_set (i := 2) sc_law_bag.nd rfl (.inl rfl) (pe_ix ix_list (pv 0) (pv 1) (fun _ _ => rfl)))) pss_nil)
      (pss_cons (ps_set (i := 3) sc_law_bag.nd rfl (.inl rfl) pe_int)
      (pss_cons (ps_if (pt_cmpR op_ge (pe_callB call_abs (by rfl) T.z_abs (by decide +kernel) (pa_cons (pv 2) pa_nil)) (pe_op op_pow pe_int pe_int) (nomark _)) (pss_one (ps_set (i := 3) sc_law_bag.nd rfl (.inl rfl) (pe_callB call_abs (by rfl) T.z_abs (by decide +kernel) (pa_cons (pv 2) pa_nil)))) pss_nil)
      (pss_cons (ps_set (i := 4) sc_law_bag.nd rfl (.inl rfl) (pe_lst (pa_cons pe_int (pa_cons pe_int (pa_cons pe_int (pa_cons pe_int (pa_cons pe_int (pa_cons pe_int (pa_cons pe_int (pa_cons pe_int pa_nil))))))))))
      (pss_one (ps_ret (pe_lst (pa_cons (pv 3) (pa_cons (pe_op op_mod (pe_op op_pow (pe_op op_add (pe_op op_add (pe_op op_mod (pv 2) pe_int) (pe_op op_mul pe_int (pv 1))) pe_int) pe_int) (pe_ix ix_list (pv 4) (pe_op op_mod (pv 1) pe_int) (fun _ _ => rfl))) pa_nil)))))))))), ?_⟩
    have nat8 : (m % 8).toNat < 8 := by omega
    obtain ⟨pr, hpr, pr0, pr1⟩ := primes_at _ nat8
    have hat : atI (primes.map V.int) (m % 8) = some (.int pr) := atI_of (by omega) (by rw [List.getElem?_map, hpr]; rfl)
    have hcell : ∀ x : Int, (x % 2147483647 + 104729 * m + 7).natAbs < 2 ^ 64 := fun x => by omega
    refine ⟨_, rfl, _, rfl, a, _, rfl, .inl hS, _, _, rfl, rfl, _, rfl, ite2 (fun e => ?g1) (fun e => ?g2)⟩
    case' g1 =>
      have hl : m.toNat < ns.length := by
        have z : m < ((ns.map V.int).length : Nat) := of_decide_eq_true e
        rw [List.length_map] at z
        omega
      have hc : atI (ns.map V.int) m = some (.int (ns[m.toNat])) := atI_of hm0 (by rw [List.getElem?_map, List.getElem?_eq_getElem hl]; rfl)
      refine ⟨_, rfl, _, rfl, a, _, _, _, rfl, rfl, hS, hc, ?_⟩
      generalize ns[m.toNat] = c
    all_goals
      refine ⟨_, rfl, _, rfl, _, _, rfl, rfl, ⟨by decide, by decide, by decide⟩, _, _, rfl, rfl, _, rfl, ite2 (fun e1 => ?_) (fun e1 => ?_)⟩
    all_goals try refine ⟨_, rfl, _, rfl, ?_⟩
    all_goals
      refine ⟨(by show 8 ≤ sizeLine; decide), fun tp ntp => ?_⟩
      refine ⟨_, rfl, _, rfl, _, _, rfl, rfl, (by show (0 : Int) < 2147483647; decide), _, rfl, _, _, rfl, rfl, .inl ⟨by decide, by decide⟩, _, _, rfl, rfl, _, _, rfl, rfl, _, _, rfl, rfl, ⟨by decide, by decide, hcell _⟩, _, rfl, _, rfl, _, _, rfl, rfl, (by show (0 : Int) < 8; decide), tp, _, _, _, rfl, rfl, SqL.of (xs := primes.map V.int) upd_same, hat, _, _, rfl, rfl, pr0, (by show 2 ≤ sizeLine; decide), fun p np => ?_⟩
      refine q _ p ((same_upd ntp).trans (same_upd np)) ((same_upd ntp).free np) ⟨_, _, upd_same, ?_, Int.emod_nonneg _ (by omega), Int.lt_trans (Int.emod_lt_of_pos _ pr0) pr1⟩
      first | decide | (split <;> omega)
end
end My

set_option Elab.async false
set_option linter.all false
set_option maxRecDepth 100000
set_option maxHeartbeats 4000000
namespace My
open PySem PySem.Spec PyProof.Rows L2 TL RZ
theorem str_app (a b : Str) : (a ++ b).length = a.length + b.length := Array.size_append
theorem reps_tl (c : Nat) : ∀ (n : Nat) (acc : Array Nat), ((List.replicate n (#[c] : Array Nat)).foldl (· ++ ·) acc).toList = acc.toList ++ List.replicate n c
  | 0, acc => by
    show acc.toList = acc.toList ++ []
    rw [List.append_nil]
  | n + 1, acc => by
    rw [List.replicate_succ, List.foldl_cons, reps_tl c n, Array.toList_append, List.append_assoc, List.replicate_succ]
    rfl
section
variable {X : Cx}
/-- a text times a number -/
theorem op_mulS : OpR X (binaryOp .Mult) (fun x y H Q => ∃ (z : Str) (n : Int), x = .str z ∧ y = .int n ∧ MulOk z n ∧ Q (.str (Txt.mul z n)) H) := by
  intro pins s σ H x y v u Q I rx ry h
  obtain ⟨z, n, rfl, rfl, hok, q⟩ := h
  obtain ⟨t, rfl⟩ := rx
  obtain ⟨t', rfl⟩ := ry
  exact SB.mul hok fun t' k => ⟨.str _, H, I.tok k, ⟨t', rfl⟩, q⟩
end
/-- zip of two tuples -/
theorem walk_zipT {K : PySem.W.Frag} {a b : Addr} {xs ys : List V} {n : Nat} (hn : n = min xs.length ys.length) : Walk (ItzT K a b) n (fun H => SqT K H a xs ∧ SqT K H b ys) (YPair (fun i => xs[i]?) (fun i => ys[i]?)) := by
  subst hn
  refine ⟨fun i _ hi q => ?_, fun _ q => ⟨xs, ys, q.1, q.2, by omega⟩, fun i H v H' _ q y => ?_⟩
  · have h1 : i < xs.length := by omega
    have h2 : i < ys.length := by omega
    exact ⟨xs, ys, xs[i], ys[i], q.1, q.2, by simp [h1], by simp [h2]⟩
  · obtain ⟨T, x, z, h1, h2, h3, h4, h5⟩ := y
    exact ⟨T, x, z, h1, h2, h3, h4 xs q.1, h5 ys q.2⟩
theorem Same.sqT {K : PySem.W.Frag} {H H' : Hp} {a : Addr} {xs : List V} (e : Same H H') (h : SqT K H a xs) : SqT K H' a xs := by
  rcases h with (h | ⟨o, h⟩) | h
  · exact .inl (.inl (e _ _ h))
  · exact .inl (.inr ⟨o, e _ _ h⟩)
  · exact .inr h
mutual
theorem Dp.same {K : PySem.W.Frag} {H H' : Hp} (sm : Same H H') : ∀ {v : V} {d : PyData}, Dp K H v d → Dp K H' v d
  | _, _, .non => .non
  | _, _, .bl b => .bl b
  | _, _, .int i => .int i
  | _, _, .str x => .str x
  | _, _, .lst h a => .lst (sm.seq h) (DpAll.same sm a)
  | _, _, .tup h a => .tup (Same.sqT sm h) (DpAll.same sm a)
theorem DpAll.same {K : PySem.W.Frag} {H H' : Hp} (sm : Same H H') : ∀ {vs : List V} {ds : List PyData}, DpAll K H vs ds → DpAll K H' vs ds
  | _, _, .nil => .nil
  | _, _, .cons h a => .cons (Dp.same sm h) (DpAll.same sm a)
end
theorem DpAll.len {K : PySem.W.Frag} {H : Hp} : ∀ {vs : List V} {ds : List PyData}, DpAll K H vs ds → vs.length = ds.length
  | _, _, .nil => rfl
  | _, _, .cons _ a => congrArg Nat.succ (DpAll.len a)
theorem DpAll.at {K : PySem.W.Frag} {H : Hp} : ∀ {vs : List V} {ds : List PyData} (_ : DpAll K H vs ds) (i : Nat) {x : V}, vs[i]? = some x → ∃ d, ds[i]? = some d ∧ Dp K H x d
  | _, _, .nil, i, x, h => by cases h
  | _, _, .cons h a, 0, x, e => ⟨_, rfl, by cases e; exact h⟩
  | _, _, .cons h a, i + 1, x, e => DpAll.at a i e
def tn : PyData → String
  | .none => "NoneType" | .bool _ => "bool" | .int _ => "int" | .str _ => "str" | .list _ => "list" | .tuple _ => "tuple" | .dict _ => "dict"
def isB : PyData → Bool
  | .bool _ => true
  | _ => false
def isS : PyData → Bool
  | .list _ => true
  | .tuple _ => true
  | _ => false
theorem Dp.ty {K : PySem.W.Frag} {H : Hp} {v : V} {d : PyData} (h : Dp K H v d) : TyX K H v (.type (tn d)) := by
  cases h with
  | non => exact .base .non
  | bl b => exact .base (.bl b)
  | int i => exact .base (.int i)
  | str x => exact .base (.str x)
  | lst h _ =>
    rcases h with (h | ⟨o, h⟩) | ⟨o, its, n, h, hc, _⟩
    · exact .base (.lst h)
    · exact .base (.frz h)
    · exact .kList h hc
  | tup h _ =>
    rcases h with (h | ⟨o, h⟩) | ⟨o, its, n, h, hc, _⟩
    · exact .base (.tup h)
    · exact .fTuple h
    · exact .kTuple h hc
theorem kit_bool (d : PyData) : kitB (tn d) "bool" = some (isB d) := by
  cases d with
  | none  => (show kitB "NoneType" "bool" = some false; decide +kernel)
  | bool b => (show kitB "bool" "bool" = some true; decide +kernel)
  | int i => (show kitB "int" "bool" = some false; decide +kernel)
  | str x => (show kitB "str" "bool" = some false; decide +kernel)
  | list x => (show kitB "list" "bool" = some false; decide +kernel)
  | tuple x => (show kitB "tuple" "bool" = some false; decide +kernel)
  | dict x => (show kitB "dict" "bool" = some false; decide +kernel)
theorem kit_seq {K : PySem.W.Frag} (d : PyData) : PySem.W.kitAny K (.type (tn d)) [.type "list", .type "tuple"] = some (isS d) := by
  cases d with
  | none  => exact kitAny_cons (b := false) (kit_ty (by show kitB "NoneType" "list" = some false; decide +kernel)) (fun _ => kitAny_cons (b := false) (kit_ty (by show kitB "NoneType" "tuple" = some false; decide +kernel)) (fun _ => kitAny_nil) (fun z => nomatch z)) (fun z => nomatch z)
  | bool b => exact kitAny_cons (b := false) (kit_ty (by show kitB "bool" "list" = some false; decide +kernel)) (fun _ => kitAny_cons (b := false) (kit_ty (by show kitB "bool" "tuple" = some false; decide +kernel)) (fun _ => kitAny_nil) (fun z => nomatch z)) (fun z => nomatch z)
  | int i => exact kitAny_cons (b := false) (kit_ty (by show kitB "int" "list" = some false; decide +kernel)) (fun _ => kitAny_cons (b := false) (kit_ty (by show kitB "int" "tuple" = some false; decide +kernel)) (fun _ => kitAny_nil) (fun z => nomatch z)) (fun z => nomatch z)
  | str x => exact kitAny_cons (b := false) (kit_ty (by show kitB "str" "list" = some false; decide +kernel)) (fun _ => kitAny_cons (b := false) (kit_ty (by show kitB "str" "tuple" = some false; decide +kernel)) (fun _ => kitAny_nil) (fun z => nomatch z)) (fun z => nomatch z)
  | list x => exact kitAny_cons (b := true) (kit_ty (by show kitB "list" "list" = some true; decide +kernel)) (fun z => nomatch z) (fun _ => rfl)
  | tuple x => exact kitAny_cons (b := false) (kit_ty (by show kitB "tuple" "list" = some false; decide +kernel)) (fun _ => kitAny_cons (b := true) (kit_ty (by show kitB "tuple" "tuple" = some true; decide +kernel)) (fun z => nomatch z) (fun _ => rfl)) (fun z => nomatch z)
  | dict x => exact kitAny_cons (b := false) (kit_ty (by show kitB "dict" "list" = some false; decide +kernel)) (fun _ => kitAny_cons (b := false) (kit_ty (by show kitB "dict" "tuple" = some false; decide +kernel)) (fun _ => kitAny_nil) (fun z => nomatch z)) (fun z => nomatch z)
/-- data less than n deep, of plain texts, of few things -/
inductive Okd : Nat → PyData → Prop where
  | non {n : Nat} : Okd (n + 1) .none
  | bool {n : Nat} (b : Bool) : Okd (n + 1) (.bool b)
  | int {n : Nat} (i : Int) : Okd (n + 1) (.int i)
  | str {n : Nat} {x : Str} (h : ∀ c ∈ tl x, c < 128) : Okd (n + 1) (.str x)
  | list {n : Nat} {ds : List PyData} (hl : ds.length ≤ 1000) (h : ∀ d ∈ ds, Okd n d) : Okd (n + 1) (.list ds)
  | tuple {n : Nat} {ds : List PyData} (hl : ds.length ≤ 1000) (h : ∀ d ∈ ds, Okd n d) : Okd (n + 1) (.tuple ds)
theorem layAll {ds : List PyData} {n : Nat} : (∀ d ∈ ds, d.canLay0 = true ∧ d.depth ≤ n) → PyData.canLayAll0 ds = true ∧ PyData.depthAll ds ≤ n := by
  induction ds with
  | nil =>
    intro _
    simp [PyData.canLayAll0, PyData.depthAll]
  | cons d ds ih =>
    intro h
    have h1 := h d (List.mem_cons_self ..)
    have h2 := ih fun e he => h e (List.mem_cons_of_mem _ he)
    simp only [PyData.canLayAll0, PyData.depthAll, h1.1, h2.1, Bool.and_self, true_and]
    exact Nat.max_le.mpr ⟨h1.2, h2.2⟩
theorem Okd.lay {n : Nat} {d : PyData} (h : Okd n d) : d.canLay0 = true ∧ d.depth ≤ n := by
  induction h with
  | non => simp [PyData.canLay0, PyData.depth]
  | bool b => simp [PyData.canLay0, PyData.depth]
  | int i => simp [PyData.canLay0, PyData.depth]
  | @str n x h =>
    refine ⟨?_, by simp [PyData.depth]⟩
    simp only [PyData.canLay0]
    show x.cps.all (· < 0x110000) = true
    rw [← Array.all_toList, List.all_eq_true]
    intro c hc
    exact decide_eq_true (Nat.lt_trans (h c hc) (by decide))
  | list hl h ih =>
    have q := layAll ih
    simp only [PyData.canLay0, PyData.depth]
    exact ⟨q.1, by omega⟩
  | tuple hl h ih =>
    have q := layAll ih
    simp only [PyData.canLay0, PyData.depth]
    exact ⟨q.1, by omega⟩
theorem Okd.shaped {n : Nat} {d : PyData} (h : Okd n d) (hn : n ≤ 64) : SeqAt.shaped d = true := by
  have q := h.lay
  show (d.canLay0 && decide (d.depth ≤ 64)) = true
  rw [q.1, decide_eq_true (Nat.le_trans q.2 hn)]
  rfl
theorem eqv_self {d : PyData} (h : SeqAt.shaped d = true) : PyData.eqv d d = true := SeqAt.eqv_refl d (SeqAt.canLay_of_shaped h)
theorem iteF' {b : Bool} {A B : Prop} (h : b = false) (hB : B) : if b = true then A else B := by
  rw [h]
  exact iteF hB
theorem iteT' {b : Bool} {A B : Prop} (h : b = true) (hA : A) : if b = true then A else B := by
  rw [h]
  exact iteT hA
theorem bl_ne (b : Bool) : decide (¬ V.bl b = V.bl b) = false := decide_eq_false (fun h => h rfl)
theorem rep_all (n : Nat) : (List.replicate n true).all id = true := by
  induction n with
  | zero => rfl
  | succ n ih => rw [List.replicate_succ, List.all_cons, ih]; rfl
/-- a new object beside a list that grows at D -/
theorem Same.grow {H H' : Hp} {D : Addr} {o : HO} (sm : Same H H') (nD : H D = none) : Same H (upd H' D o) := fun b x e => by
  rw [upd_ne (ne_of_none e nD)]
  exact sm b x e
section
variable {P : Program} {w : World} {K : PySem.W.Frag} {mg : Str → Option Value} {base : Heap}
abbrev s_law_like : Stmt := topS 20
abbrev N_law_like : List Str := ["_law_told", "_law_due", "_law_one", "_law_other_here"]
theorem sc_law_like : FnScope N_law_like ["_law_told", "_law_due"] (defScope s_law_like) := ⟨rfl, rfl, rfl, by decide +kernel, rfl, by decide +kernel, by decide +kernel⟩
/-- two things of the same data, less than n deep, are alike -/
def sp_law_like (K : PySem.W.Frag) (n : Nat) : Sp := fun vs H Q _ => ∃ (x y : V) (d : PyData), vs = [x, y] ∧ Dp K H x d ∧ Dp K H y d ∧ Okd n d ∧ ∀ H', Same H H' → Q (.bl true) H'
theorem ok_law_like {f : Addr} {fd : FuncData} (F : Fun K "_law_like" "_law_like" s_law_like f fd) (T : Txt mg) (g : mg "_law_like" = some (.ref f)) (kp : PySem.W.keepIn K (.ref f) = true) (bn : Binds K fd ["_law_told", "_law_due"] []) : ∀ n : Nat, n ≤ 64 → FnOk P w K mg base CX0 (n + 1) f fd ["_law_told", "_law_due"] (sp_law_like K n) := by
  intro n
  induction n with
  | zero =>
    intro _
    refine F.ok sc_law_like (fun vs H Q E h => ?_) (fun cdv A outer s H vs Q E hr h => ?_)
    · obtain ⟨x, y, d, rfl, _⟩ := h
      rfl
    · obtain ⟨x, y, d, rfl, _, _, h, _⟩ := h
      cases h
  | succ n ih =>
    intro hn
    have C_law_like : Cal P w K mg base (n + 1) "_law_like" (sp_law_like K n) := cal_mk (ih (by omega)) g kp bn
    refine F.ok sc_law_like (fun vs H Q E h => ?_) (fun cdv A outer s H vs Q E hr h => ?_)
    · obtain ⟨x, y, d, rfl, _⟩ := h
      rfl
    · obtain ⟨x, y, d, rfl, hx, hy, ho, q⟩ := h
      have hs := ho.shaped hn
      refine ⟨_, (pss_cons (ps_if (PW.pt (pw_or (pt_cmpR op_ne (pe_callB call_isi (by rfl) T.z_isinstance (by decide +kernel) (pa_cons (pv 0) (pa_cons (pe_bltn (v := .ty "bool") (by rfl) T.z_bool (by decide +kernel) rfl) pa_nil))) (pe_callB call_isi (by rfl) T.z_isinstance (by decide +kernel) (pa_cons (pv 1) (pa_cons (pe_bltn (v := .ty "bool") (by rfl) T.z_bool (by decide +kernel) rfl) pa_nil))) (nomark _)) (pw_or1 (pt_cmpR (op_neD hr.units) (pv 0) (pv 1) (nomark _))))) (pss_one (ps_ret pe_bl)) pss_nil)
      (pss_cons (ps_if (pt_val (pe_callB call_isiT (by rfl) T.z_isinstance (by decide +kernel) (pa_cons (pv 0) (pa_cons (pe_tup (pa_cons (pe_bltn (v := .ty "list") (by rfl) T.z_list (by decide +kernel) rfl) (pa_cons (pe_bltn (v := .ty "tuple") (by rfl) T.z_tuple (by decide +kernel) rfl) pa_nil))) pa_nil)))) (pss_one (ps_ret (pe_callB (cr_all (by rfl)) (by rfl) T.z_all (by decide +kernel) (pa_cons (pe_lc (own := [("_law_one", 2), ("_law_other_here", 3)]) (g := gTup K 2 (gCons (gName 2) (gCons (gName 3) gNil))) (by rfl) sc_law_like.nd (pi_zipA (by rfl) T.z_zip (pa_cons (pv 0) (pa_cons (pv 1) pa_nil))) (blkOk_by (own := [("_law_one", 2), ("_law_other_here", 3)]) (N := N_law_like) (sc := defScope s_law_like) (by decide +kernel)) (fun _ _ _ _ _ => (pg_tup rfl (pgs_cons (pg_name (i := 2) sc_law_like.nd rfl (.inl rfl)) (pgs_cons (pg_name (i := 3) sc_law_like.nd rfl (.inl rfl)) pgs_nil)))) (fun _ _ _ _ _ => pts_nil) (fun _ _ _ _ _ => (pe_cal C_law_like hr (Nat.le_refl _) (by rfl) (pa_cons (pv 2) (pa_cons (pv 3) pa_nil))))) pa_nil)))) pss_nil)
      (pss_one (ps_ret pe_bl)))), ?_⟩
      refine ⟨_, rfl, _, _, _, _, _, rfl, .ty "bool", Dp.ty hx, kit_ty (kit_bool d), ?_⟩
      refine ⟨_, rfl, _, _, _, _, _, rfl, .ty "bool", Dp.ty hy, kit_ty (kit_bool d), rfl, _, rfl, ?_⟩
      refine iteF' (by simp) ?_
      refine ⟨_, rfl, _, rfl, d, d, hx, hy, hs, hs, _, rfl, ?_⟩
      refine iteF' (by rw [eqv_self hs]; rfl) ?_
      refine ⟨_, rfl, (by show 2 ≤ sizeLine; decide), fun tp ntp => ?_⟩
      have sm1 : Same H (upd H tp (.tup [.ty "list", .ty "tuple"])) := same_upd ntp
      refine ⟨x, tp, _, _, _, isS d, rfl, upd_same, .cons (.ty "list") (.cons (.ty "tuple") .nil), Dp.ty (Dp.same sm1 hx), kit_seq d, _, rfl, ?_⟩
      cases hx with
      | lst ha hxs =>
        cases hy with
        | lst hb hys =>
        rename_i a xs ds b ys
        refine iteT ?_
        refine ⟨_, rfl, _, rfl, a, b, xs, ys, rfl, .inl ⟨sm1.seq ha, sm1.seq hb, fun D nD => ?_⟩⟩
        obtain ⟨hlen, hall⟩ : ds.length ≤ 1000 ∧ ∀ d ∈ ds, Okd n d := by cases ho with | list hl h => exact ⟨hl, h⟩
        have lx := DpAll.len hxs
        have ly := DpAll.len hys
        have nD0 : H D = none := sm1.free nD
        refine lc_it (walk_zip (n := ds.length) (by rw [lx, ly, Nat.min_self])) (fun i H' => Same H H' ∧ H' D = some (.lst (List.replicate i (V.bl true)))) ⟨sm1.trans (same_upd nD), upd_same⟩ (fun i H' _ p => ⟨p.1.seq ha, p.1.seq hb⟩) ?_ ?_
        · rintro i v H1 H2 hi ⟨sm, hD⟩ ⟨U, x1, y1, rfl, nU, rfl, ex, ey⟩
          obtain ⟨d1, e1, p1⟩ := DpAll.at hxs i ex
          obtain ⟨d2, e2, p2⟩ := DpAll.at hys i ey
          rw [e1] at e2
          cases e2
          have hm : d1 ∈ ds := List.mem_of_getElem? e1
          have sm2 : Same H (upd H1 U (.tup [x1, y1])) := sm.trans (same_upd nU)
          refine ⟨U, [x1, y1], rfl, SqT.of upd_same, rfl, _, _, rfl, _, _, rfl, rfl, rfl, yesI ?_⟩
          refine ⟨_, rfl, _, rfl, x1, y1, d1, rfl, Dp.same sm2 p1, Dp.same sm2 p2, hall d1 hm, fun H3 sm3 => ?_⟩
          · have hD3 : H3 D = some (.lst (List.replicate i (V.bl true))) := sm3 _ _ (by rw [upd_ne (ne_of_none hD nU)]; exact hD)
            refine ⟨_, hD3, ?_, Same.grow (sm2.trans sm3) nD0, ?_⟩
            · rw [List.length_replicate]
              exact Nat.lt_of_lt_of_le hi (Nat.le_trans hlen (by decide))
            · rw [upd_same, ← List.replicate_succ']
        · rintro H1 ⟨sm, hD⟩
          refine ⟨D, List.replicate ds.length true, rfl, SqL.of (by rw [List.map_replicate]; exact hD), ?_⟩
          rw [rep_all]
          exact q _ sm
      | tup ha hxs =>
        cases hy with
        | tup hb hys =>
        rename_i a xs ds b ys
        refine iteT ?_
        refine ⟨_, rfl, _, rfl, a, b, xs, ys, rfl, .inr ⟨Same.sqT sm1 ha, Same.sqT sm1 hb, fun D nD => ?_⟩⟩
        obtain ⟨hlen, hall⟩ : ds.length ≤ 1000 ∧ ∀ d ∈ ds, Okd n d := by cases ho with | tuple hl h => exact ⟨hl, h⟩
        have lx := DpAll.len hxs
        have ly := DpAll.len hys
        have nD0 : H D = none := sm1.free nD
        refine lc_it (walk_zipT (n := ds.length) (by rw [lx, ly, Nat.min_self])) (fun i H' => Same H H' ∧ H' D = some (.lst (List.replicate i (V.bl true)))) ⟨sm1.trans (same_upd nD), upd_same⟩ (fun i H' _ p => ⟨Same.sqT p.1 ha, Same.sqT p.1 hb⟩) ?_ ?_
        · rintro i v H1 H2 hi ⟨sm, hD⟩ ⟨U, x1, y1, rfl, nU, rfl, ex, ey⟩
          obtain ⟨d1, e1, p1⟩ := DpAll.at hxs i ex
          obtain ⟨d2, e2, p2⟩ := DpAll.at hys i ey
          rw [e1] at e2
          cases e2
          have hm : d1 ∈ ds := List.mem_of_getElem? e1
          have sm2 : Same H (upd H1 U (.tup [x1, y1])) := sm.trans (same_upd nU)
          refine ⟨U, [x1, y1], rfl, SqT.of upd_same, rfl, _, _, rfl, _, _, rfl, rfl, rfl, yesI ?_⟩
          refine ⟨_, rfl, _, rfl, x1, y1, d1, rfl, Dp.same sm2 p1, Dp.same sm2 p2, hall d1 hm, fun H3 sm3 => ?_⟩
          · have hD3 : H3 D = some (.lst (List.replicate i (V.bl true))) := sm3 _ _ (by rw [upd_ne (ne_of_none hD nU)]; exact hD)
            refine ⟨_, hD3, ?_, Same.grow (sm2.trans sm3) nD0, ?_⟩
            · rw [List.length_replicate]
              exact Nat.lt_of_lt_of_le hi (Nat.le_trans hlen (by decide))
            · rw [upd_same, ← List.replicate_succ']
        · rintro H1 ⟨sm, hD⟩
          refine ⟨D, List.replicate ds.length true, rfl, SqL.of (by rw [List.map_replicate]; exact hD), ?_⟩
          rw [rep_all]
          exact q _ sm
      | _ => exact iteF (q _ sm1)
end
end My

set_option Elab.async false
set_option linter.all false
set_option maxRecDepth 100000
set_option maxHeartbeats 4000000
namespace My
open PySem PySem.Spec PyProof.Rows L2 TL RZ
theorem atI_of' {α : Type} {xs : List α} {z : Int} {v : α} (h0 : 0 ≤ z) (h : xs[z.toNat]? = some v) : atI xs z = some v := by
  have e : z = (z.toNat : Int) := (Int.toNat_of_nonneg h0).symm
  rw [e]
  exact atI_nat h
theorem letters_at {d : Int} (h0 : 0 ≤ d) (h1 : d < 26) : atI (Str.ofString "abcdefghijklmnopqrstuvwxyz").cps.toList d = some (97 + d.toNat) := by
  refine atI_of' h0 ?_
  have e : (Str.ofString "abcdefghijklmnopqrstuvwxyz").cps.toList = (List.range 26).map (97 + ·) := by decide +kernel
  rw [e, List.getElem?_map, List.getElem?_range (by omega)]
  rfl
theorem joinL_one : ∀ l : List Nat, joinL [] (l.map (fun c => [c])) = l
  | [] => rfl
  | [_] => rfl
  | a :: b :: r => by
    show [a] ++ ([] ++ joinL [] ((b :: r).map (fun c => [c]))) = _
    rw [joinL_one (b :: r)]
    rfl
theorem join_signs (l : List Nat) : tl (Txt.join (Str.ofString "") (l.map (fun c => (⟨#[c]⟩ : Str)))) = l := by
  rw [join_eq, tl_join, List.map_map]
  have e : tl (Str.ofString "") = [] := by decide +kernel
  rw [e]
  exact joinL_one l
theorem sum_ones (l : List Nat) : ((l.map (fun c => (⟨#[c]⟩ : Str))).map (·.length)).sum = l.length := by
  induction l with
  | nil => rfl
  | cons a l ih =>
    rw [List.map_cons, List.map_cons, List.sum_cons, ih, List.length_cons, Nat.add_comm]
    rfl
theorem Sx.free {p r : Addr} {H H' : Hp} (h : Sx p H H') (b : Bag H' p) (n : H' r = none) : H r = none := by
  cases e : H r with
  | none => rfl
  | some o =>
    exfalso
    by_cases c : r = p
    · obtain ⟨o2, q⟩ := b.some
      rw [c, q] at n
      cases n
    · rw [h r o c e] at n
      cases n
theorem Sx.refl (p : Addr) (H : Hp) : Sx p H H := fun _ _ _ e => e
theorem pick_nm {l : List Str} (ha : ∀ k ∈ l, isNm k = true) {d : Int} (h0 : 0 ≤ d) (h1 : d.toNat < l.length) : ∃ k : Str, isNm k = true ∧ atI (l.map V.str) d = some (.str k) :=
  ⟨l[d.toNat], ha _ (List.getElem_mem h1), atI_of h0 (by rw [List.getElem?_map, List.getElem?_eq_getElem h1]; rfl)⟩
theorem Bag.put {H : Hp} {p D : Addr} {o : HO} (h : Bag H p) (n : D ≠ p) : Bag (upd H D o) p := by
  obtain ⟨g, sd, e, r⟩ := h
  exact ⟨g, sd, by rw [upd_ne (fun z => n z.symm)]; exact e, r⟩
theorem Sx.put {H H' : Hp} {p D : Addr} {o : HO} (x : Sx p H H') (n : H D = none) : Sx p H (upd H' D o) := fun b q hb e => by
  rw [upd_ne (ne_of_none e n)]
  exact x b q hb e
theorem nm_app {z : Str} {c : Nat} (h : z.length ≤ 7) (hz : ∀ a ∈ tl z, 97 ≤ a ∧ a ≤ 122) (hc : 97 ≤ c ∧ c ≤ 122) : isNm (z ++ ⟨#[c]⟩) = true := by
  have e : tl (z ++ ⟨#[c]⟩) = tl z ++ [c] := by
    show (z.cps ++ #[c]).toList = _
    rw [Array.toList_append]
  have l : (z ++ (⟨#[c]⟩ : Str)).length = z.length + 1 := by rw [str_app]; rfl
  refine isNm_of (by omega) (by omega) fun a ha => ?_
  rw [e] at ha
  rcases List.mem_append.mp ha with m | m
  · exact hz a m
  · rw [List.mem_singleton.mp m]
    exact hc
section
variable {P : Program} {w : World} {K : PySem.W.Frag} {mg : Str → Option Value} {base : Heap}
abbrev s_law_names : Stmt := topS 15
abbrev N_law_names : List Str := ["_law_bag_here", "_law_many", "_law_letters", "_law_found", "_law_k", "_law_size", "_law_stem", "_law_turn"]
theorem sc_law_names : FnScope N_law_names ["_law_bag_here", "_law_many"] (defScope s_law_names) := ⟨rfl, rfl, rfl, by decide +kernel, rfl, by decide +kernel, by decide +kernel⟩
def sp_law_names : Sp := fun vs H Q _ => ∃ (p : Addr) (m : Int), vs = [.ref p, .int m] ∧ Bag H p ∧ 0 ≤ m ∧ m ≤ 40 ∧ ∀ (H' : Hp) (r : Addr) (ws : List Str), Sx p H H' → Bag H' p → H r = none → H' r = some (.lst (ws.map V.str)) → ws.length = m.toNat → (∀ z ∈ ws, isNm z = true) → Q (.ref r) H'
theorem ok_law_names {f : Addr} {fd : FuncData} (F : Fun K "_law_names" "_law_names" s_law_names f fd) (T : Txt mg) (C_law_take : Cal P w K mg base 1 "_law_take" sp_law_take) : FnOk P w K mg base CX0 2 f fd ["_law_bag_here", "_law_many"] sp_law_names := by
  refine F.ok sc_law_names (fun vs H Q E h => ?_) (fun cdv A outer s H vs Q E hr h => ?_)
  · obtain ⟨p, m, rfl, _⟩ := h
    rfl
  · obtain ⟨p, m, rfl, hB, m0, m1, q⟩ := h
    refine ⟨_, (pss_cons (ps_set (i := 2) sc_law_names.nd rfl (.inr rfl) pe_str)
      (pss_cons (ps_set (i := 3) sc_law_names.nd rfl (.inl rfl) (pe_lst pa_nil))
      (pss_cons (ps_for PassesOwn.never rfl (pi_range1 (by rfl) T.z_range (pa_cons (pv 1) pa_nil)) (pg_name (i := 4) sc_law_names.nd rfl (.inl rfl))
        (pss_cons (ps_set (i := 5) sc_law_names.nd rfl (.inl rfl) (pe_ifExp (pt_cmpR op_gt (pv 4) pe_int (nomark _)) pe_int (pe_cal C_law_take hr (by decide) (by rfl) (pa_cons (pv 0) (pa_cons pe_int pa_nil)))))
        (pss_cons (ps_set (i := 6) sc_law_names.nd rfl (.inl rfl) (pe_join pe_str (pe_lc (own := [("_law_turn", 7)]) (by rfl) sc_law_names.nd (pi_range1 (by rfl) T.z_range (pa_cons (pv 5) pa_nil)) (blkOk_by (own := [("_law_turn", 7)]) (N := N_law_names) (sc := defScope s_law_names) (by decide +kernel)) (fun _ _ _ _ _ => (pg_name (i := 7) sc_law_names.nd rfl (.inl rfl))) (fun _ _ _ _ _ => pts_nil) (fun _ _ _ _ _ => (pe_ix ix_str (pv 2) (pe_cal C_law_take hr (by decide) (by rfl) (pa_cons (pv 0) (pa_cons pe_int pa_nil))) (fun _ _ => rfl))))))
        (pss_one (ps_expr (pe_bm PySem.F.plainAttrs_list PySem.F.slot_list_append PySem.F.type_list_append mt_append (pv 3) (pa_cons (pe_op op_add_str (pv 6) (pe_ix ix_str (pv 2) (pe_op op_mod (pv 4) pe_int) (fun _ _ => rfl))) pa_nil)))))))
      (pss_one (ps_ret (pv 3)))))), ?_⟩
    refine ⟨Nat.zero_le _, fun l nl => ?_⟩
    have nlp : l ≠ p := hB.ne nl
    refine ⟨_, rfl, m, rfl, by omega, by omega, ?_⟩
    refine for_range (lo := 0) (n := m.toNat) (fun i σ H' => (∃ x4 x5 x6 x7, σ = [some (.ref p), some (.int m), some (.str (Str.ofString "abcdefghijklmnopqrstuvwxyz")), some (.ref l), x4, x5, x6, x7]) ∧ Sx p H H' ∧ Bag H' p ∧ ∃ ws : List Str, ws.length = i ∧ (∀ z ∈ ws, isNm z = true) ∧ H' l = some (.lst (ws.map V.str))) ⟨⟨_, _, _, _, rfl⟩, Sx.same (same_upd nl), hB.same (same_upd nl), [], rfl, (fun _ z => nomatch z), upd_same⟩ ?_ ?_
    · rintro i σ H1 hi ⟨⟨x4, x5, x6, x7, rfl⟩, x1, hB1, ws, hw, hn, hl⟩
      refine ⟨_, rfl, _, _, rfl, rfl, _, rfl, ite2 (fun e => ?g1) (fun e => ?g2)⟩
      case' g1 =>
        have h7 : (0 : Int) ≤ 7 ∧ (7 : Int) < 8 := by decide
        revert h7
        generalize (7 : Int) = sz
        intro h7
        generalize H1 = H2 at x1 hB1 hl ⊢
      case' g2 =>
        refine ⟨_, rfl, p, 7, rfl, hB1, by decide, by decide, fun sz H2 a0 a1 hB2 k2 => ?_⟩
        have h7 : 0 ≤ sz ∧ sz < 8 := by omega
        replace x1 := x1.trans (Sx.of k2)
        replace hl : H2 l = some (.lst (ws.map V.str)) := by rw [k2 l nlp]; exact hl
        replace hB1 := hB2
      all_goals
        refine ⟨⟨_, rfl⟩, _, rfl, sz, rfl, by omega, by omega, fun D nD => ?_⟩
        have nDp : D ≠ p := hB1.ne nD
        have nD0 : H D = none := x1.free hB1 nD
        have nDl : l ≠ D := ne_of_none hl nD
        refine lc_range (lo := 0) (n := sz.toNat) (fun j H' => Sx p H H' ∧ Bag H' p ∧ H' l = some (.lst (ws.map V.str)) ∧ ∃ ls : List Nat, ls.length = j ∧ (∀ c ∈ ls, 97 ≤ c ∧ c ≤ 122) ∧ H' D = some (.lst ((ls.map (fun c => (⟨#[c]⟩ : Str))).map V.str))) ⟨x1.trans (Sx.same (same_upd nD)), hB1.same (same_upd nD), same_upd nD _ _ hl, [], rfl, (fun _ z => nomatch z), upd_same⟩ ?_ ?_
        · rintro j H3 hj ⟨x3, hB3, hl3, ls, hls, hc, hD⟩
          refine ⟨rfl, yesI ?_⟩
          refine ⟨_, rfl, _, rfl, p, 26, rfl, hB3, by decide, by decide, fun d2 H4 b0 b1 hB4 k4 => ?_⟩
          have hD4 : H4 D = some (.lst ((ls.map (fun c => (⟨#[c]⟩ : Str))).map V.str)) := by rw [k4 D nDp]; exact hD
          refine ⟨_, d2, 97 + d2.toNat, rfl, rfl, (by show 26 ≤ sizeLine; decide), letters_at b0 b1, _, hD4, ?_, (x3.trans (Sx.of k4)).put nD0, hB4.put nDp, ?_, ls ++ [97 + d2.toNat], ?_, ?_, ?_⟩
          · rw [List.length_map, List.length_map, hls]
            exact Nat.lt_of_lt_of_le hj (Nat.le_trans (show sz.toNat ≤ 100 by omega) (by decide))
          · rw [upd_ne nDl, k4 l nlp]
            exact hl3
          · rw [List.length_append, hls]
            rfl
          · intro c hm
            rcases List.mem_append.mp hm with m | m
            · exact hc c m
            · have := List.mem_singleton.mp m
              omega
          · rw [upd_same, List.map_append, List.map_append]
            rfl
        · rintro H3 ⟨x3, hB3, hl3, ls, hls, hc, hD⟩
          refine ⟨_, D, ls.map (fun c => (⟨#[c]⟩ : Str)), rfl, rfl, .inl (SqL.of hD), ?_, ?_⟩
          · rw [sum_ones, List.length_map]
            show ls.length + ls.length * 0 ≤ 16777216
            omega
          generalize hpl : Txt.join (Str.ofString "") (ls.map (fun c => (⟨#[c]⟩ : Str))) = stem
          have tpl : tl stem = ls := by rw [← hpl]; exact join_signs ls
          have l7 : stem.length ≤ 7 := by rw [len_tl, tpl, hls]; omega
          have l0 : 0 ≤ (0 + (i : Int)) % 26 := Int.emod_nonneg _ (by decide)
          have l1 : (0 + (i : Int)) % 26 < 26 := Int.emod_lt_of_pos _ (by decide)
          refine ⟨_, rfl, .inl ⟨rfl, _, SqL.of hl3⟩, _, rfl, _, rfl, _, rfl, _, _, rfl, rfl, (by show (0 : Int) < 26; decide), ?_⟩
          refine ⟨_, _, _, rfl, rfl, (by show 26 ≤ sizeLine; decide), letters_at l0 l1, _, _, rfl, rfl, ?_, l, _, _, rfl, rfl, hl3, ?_, ⟨_, _, _, _, rfl⟩, x3.put nl, hB3.put nlp, ws ++ [stem ++ ⟨#[97 + ((0 + (i : Int)) % 26).toNat]⟩], ?_, ?_, ?_⟩
          · show stem.length + 1 ≤ sizeLine
            exact Nat.le_trans (show stem.length + 1 ≤ 8 by omega) (by decide)
          · rw [List.length_map, hw]
            exact Nat.lt_of_lt_of_le hi (Nat.le_trans (show m.toNat ≤ 100 by omega) (by decide))
          · rw [List.length_append, hw]
            rfl
          · intro z hz
            rcases List.mem_append.mp hz with h | h
            · exact hn z h
            · rw [List.mem_singleton.mp h]
              exact nm_app l7 (by rw [tpl]; exact hc) (by omega)
          · rw [upd_same, List.map_append]
            rfl
    · rintro σ H1 ⟨⟨x4, x5, x6, x7, rfl⟩, x1, hB1, ws, hw, hn, hl⟩
      exact ⟨_, rfl, q _ l ws x1 hB1 nl hl hw hn⟩
end
end My

set_option Elab.async false
set_option linter.all false
set_option maxRecDepth 100000
set_option maxHeartbeats 4000000
namespace My
open PySem PySem.Spec PyProof.Rows L2 TL RZ
/-- data of numbers, texts and tuples -/
inductive Flt : PyData → Prop where
  | int (i : Int) : Flt (.int i)
  | str (x : Str) : Flt (.str x)
  | tup {ds : List PyData} (h : ∀ d ∈ ds, Flt d) : Flt (.tuple ds)
theorem SqT.sx {K : PySem.W.Frag} {H H' : Hp} {p a : Addr} {xs ys : List V} (h : SqT K H a xs) (x : Sx p H H') (e : H p = some (.lst ys)) : SqT K H' a xs := by
  have ne : ∀ o, H a = some o → (∀ l, o ≠ .lst l) → a ≠ p := fun o ho hl z => by
    rw [z, e] at ho
    exact hl _ (Option.some.inj ho).symm
  rcases h with (h | ⟨o, h⟩) | h
  · exact .inl (.inl (x _ _ (ne _ h (fun _ z => nomatch z)) h))
  · exact .inl (.inr ⟨o, x _ _ (ne _ h (fun _ z => nomatch z)) h⟩)
  · exact .inr h
mutual
theorem Dp.sx {K : PySem.W.Frag} {H H' : Hp} {p : Addr} {ys : List V} (x : Sx p H H') (e : H p = some (.lst ys)) : ∀ {v : V} {d : PyData}, Dp K H v d → Flt d → Dp K H' v d
  | _, _, .non, _ => .non
  | _, _, .bl b, _ => .bl b
  | _, _, .int i, _ => .int i
  | _, _, .str x, _ => .str x
  | _, _, .lst h a, f => by cases f
  | _, _, .tup h a, f => .tup (SqT.sx h x e) (DpAll.sx x e a (by cases f with | tup h => exact h))
theorem DpAll.sx {K : PySem.W.Frag} {H H' : Hp} {p : Addr} {ys : List V} (x : Sx p H H') (e : H p = some (.lst ys)) : ∀ {vs : List V} {ds : List PyData}, DpAll K H vs ds → (∀ d ∈ ds, Flt d) → DpAll K H' vs ds
  | _, _, .nil, _ => .nil
  | _, _, .cons h a, f => .cons (Dp.sx x e h (f _ (List.mem_cons_self ..))) (DpAll.sx x e a fun d hd => f d (List.mem_cons_of_mem _ hd))
end
theorem Bag.lst {H : Hp} {p : Addr} (h : Bag H p) : ∃ ys, H p = Option.some (HO.lst ys) := by
  obtain ⟨g, s, e, _⟩ := h
  exact ⟨_, e⟩
theorem Sx.self {H : Hp} {l : Addr} {o : HO} : Sx l H (upd H l o) := fun b q hb e => by
  rw [upd_ne hb]
  exact e
theorem DpAll.snoc {K : PySem.W.Frag} {H : Hp} {v : V} {d : PyData} : ∀ {vs : List V} {ds : List PyData}, DpAll K H vs ds → Dp K H v d → DpAll K H (vs ++ [v]) (ds ++ [d])
  | _, _, .nil, h => .cons h .nil
  | _, _, .cons a r, h => .cons a (DpAll.snoc r h)
theorem DpAll.strs {K : PySem.W.Frag} {H : Hp} : ∀ (ws : List Str), DpAll K H (ws.map V.str) (ws.map PyData.str)
  | [] => .nil
  | w :: ws => .cons (.str w) (DpAll.strs ws)
theorem DpAll.strs_inv {K : PySem.W.Frag} {H : Hp} : ∀ {ws : List Str} {vs : List V}, DpAll K H vs (ws.map PyData.str) → vs = ws.map V.str
  | [], _, .nil => rfl
  | w :: ws, _, .cons (.str _) a => by rw [DpAll.strs_inv a]; rfl
theorem Dp.tup_inv {K : PySem.W.Frag} {H : Hp} {v : V} {ds : List PyData} (h : Dp K H v (.tuple ds)) : ∃ a xs, v = .ref a ∧ SqT K H a xs ∧ DpAll K H xs ds := by
  cases h with
  | tup h a => exact ⟨_, _, rfl, h, a⟩
theorem Flt.strs (ws : List Str) : ∀ d ∈ ws.map PyData.str, Flt d := fun d hd => by
  obtain ⟨z, _, rfl⟩ := List.mem_map.mp hd
  exact .str z
/-- one engine, one place, one road, as data -/
def IsEn (d : PyData) : Prop := ∃ z s t n, d = .tuple [.str z, .str s, .str t, .int n] ∧ isNm z = true
def IsPl (d : PyData) : Prop := ∃ z n, d = .tuple [.str z, .int n] ∧ isNm z = true
def IsRd (d : PyData) : Prop := ∃ a b i j, d = .tuple [.str a, .str b, .int i, .int j] ∧ isNm a = true ∧ isNm b = true
theorem fltT {ds : List PyData} (h : ∀ d ∈ ds, Flt d) : Flt (.tuple ds) := .tup h
theorem IsEn.flt {d : PyData} (h : IsEn d) : Flt d := by
  obtain ⟨z, s, t, n, rfl, _⟩ := h
  refine .tup fun d hd => ?_
  simp only [List.mem_cons, List.not_mem_nil, or_false] at hd
  rcases hd with rfl | rfl | rfl | rfl
  · exact .str _
  · exact .str _
  · exact .str _
  · exact .int _
theorem IsPl.flt {d : PyData} (h : IsPl d) : Flt d := by
  obtain ⟨z, n, rfl, _⟩ := h
  refine .tup fun d hd => ?_
  simp only [List.mem_cons, List.not_mem_nil, or_false] at hd
  rcases hd with rfl | rfl
  · exact .str _
  · exact .int _
theorem IsRd.flt {d : PyData} (h : IsRd d) : Flt d := by
  obtain ⟨a, b, i, j, rfl, _⟩ := h
  refine .tup fun d hd => ?_
  simp only [List.mem_cons, List.not_mem_nil, or_false] at hd
  rcases hd with rfl | rfl | rfl | rfl
  · exact .str _
  · exact .str _
  · exact .int _
  · exact .int _
def En (K : PySem.W.Frag) (H : Hp) (v : V) : Prop := ∃ es, Dp K H v (.tuple es) ∧ es ≠ [] ∧ es.length ≤ 40 ∧ ∀ e ∈ es, IsEn e
def Gd (K : PySem.W.Frag) (H : Hp) (v : V) : Prop := ∃ (ps rs : List PyData) (ss : List Str), Dp K H v (.tuple [.tuple ps, .tuple rs, .tuple (ss.map PyData.str)]) ∧ (ps ≠ [] ∧ ps.length ≤ 40 ∧ ∀ d ∈ ps, IsPl d) ∧ (rs.length ≤ 100 ∧ ∀ d ∈ rs, IsRd d) ∧ (ss ≠ [] ∧ ss.length ≤ 40 ∧ ∀ z ∈ ss, isNm z = true)
theorem En.sx {K : PySem.W.Frag} {H H' : Hp} {v : V} {p : Addr} (h : En K H v) (x : Sx p H H') (b : Bag H p) : En K H' v := by
  obtain ⟨es, d, n, l, a⟩ := h
  obtain ⟨ys, e⟩ := b.lst
  exact ⟨es, Dp.sx x e d (.tup fun d hd => (a d hd).flt), n, l, a⟩
theorem En.same {K : PySem.W.Frag} {H H' : Hp} {v : V} (h : En K H v) (sm : Same H H') : En K H' v := by
  obtain ⟨es, d, n, l, a⟩ := h
  exact ⟨es, Dp.same sm d, n, l, a⟩
theorem Gd.sx {K : PySem.W.Frag} {H H' : Hp} {v : V} {p : Addr} (h : Gd K H v) (x : Sx p H H') (b : Bag H p) : Gd K H' v := by
  obtain ⟨ps, rs, ss, d, a1, a2, a3⟩ := h
  obtain ⟨ys, e⟩ := b.lst
  refine ⟨ps, rs, ss, Dp.sx x e d (.tup fun d hd => ?_), a1, a2, a3⟩
  simp only [List.mem_cons, List.not_mem_nil, or_false] at hd
  rcases hd with rfl | rfl | rfl
  · exact .tup fun d hd => (a1.2.2 d hd).flt
  · exact .tup fun d hd => (a2.2 d hd).flt
  · exact .tup (Flt.strs ss)
theorem Gd.same {K : PySem.W.Frag} {H H' : Hp} {v : V} (h : Gd K H v) (sm : Same H H') : Gd K H' v := by
  obtain ⟨ps, rs, ss, d, a⟩ := h
  exact ⟨ps, rs, ss, Dp.same sm d, a⟩
section
variable {P : Program} {w : World} {K : PySem.W.Frag} {mg : Str → Option Value} {base : Heap}
abbrev s_law_kind : Stmt := topS 19
abbrev N_law_kind : List Str := ["_law_bag_here"]
theorem sc_law_kind : FnScope N_law_kind ["_law_bag_here"] (defScope s_law_kind) := ⟨rfl, rfl, rfl, by decide +kernel, rfl, by decide +kernel, by decide +kernel⟩
def sp_law_kind : Sp := fun vs H Q _ => ∃ p : Addr, vs = [.ref p] ∧ Bag H p ∧ ∀ (H' : Hp) (z : Str), Sx p H H' → Bag H' p → isNm z = true → Q (.str z) H'
theorem ok_law_kind {f : Addr} {fd : FuncData} (F : Fun K "_law_kind" "_law_kind" s_law_kind f fd) (T : Txt mg) (C_law_take : Cal P w K mg base 1 "_law_take" sp_law_take) : FnOk P w K mg base CX0 2 f fd ["_law_bag_here"] sp_law_kind := by
  refine F.ok sc_law_kind (fun vs H Q E h => ?_) (fun cdv A outer s H vs Q E hr h => ?_)
  · obtain ⟨p, rfl, _⟩ := h
    rfl
  · obtain ⟨p, rfl, hB, q⟩ := h
    refine ⟨_, (pss_one (ps_ret (pe_ix ix_tup (pe_tup (pa_cons pe_str (pa_cons pe_str (pa_cons pe_str (pa_cons pe_str (pa_cons pe_str (pa_cons pe_str pa_nil))))))) (pe_cal C_law_take hr (by decide) (by rfl) (pa_cons (pv 0) (pa_cons pe_int pa_nil))) (fun _ _ => rfl)))), ?_⟩
    refine ⟨(by show 6 ≤ sizeLine; decide), fun t nt => ?_⟩
    refine ⟨_, rfl, p, 6, rfl, hB.same (same_upd nt), by decide, by decide, fun d H1 a0 a1 hB1 k1 => ?_⟩
    obtain ⟨z, hz, az⟩ := pick_nm (l := ["house", "car", "chimney", "grass", "people", "works"]) (by decide +kernel) a0 (show d.toNat < 6 by omega)
    refine ⟨t, _, d, _, rfl, rfl, SqT.of (xs := (["house", "car", "chimney", "grass", "people", "works"] : List Str).map V.str) (by rw [k1 t (hB.ne nt)]; exact upd_same), az, ?_⟩
    exact q _ z ((Sx.same (same_upd nt)).trans (Sx.of k1)) hB1 hz
abbrev s_law_engines : Stmt := topS 17
abbrev N_law_engines : List Str := ["_law_bag_here", "_law_stations", "_law_many", "_law_found", "_law_name", "_law_sort"]
theorem sc_law_engines : FnScope N_law_engines ["_law_bag_here", "_law_stations"] (defScope s_law_engines) := ⟨rfl, rfl, rfl, by decide +kernel, rfl, by decide +kernel, by decide +kernel⟩
def sp_law_engines (K : PySem.W.Frag) : Sp := fun vs H Q _ => ∃ (p st : Addr) (ss : List Str), vs = [.ref p, .ref st] ∧ Bag H p ∧ SqT K H st (ss.map V.str) ∧ ss ≠ [] ∧ ss.length ≤ 40 ∧ ∀ (H' : Hp) (r : Addr), Sx p H H' → Bag H' p → En K H' (.ref r) → Q (.ref r) H'
theorem pick_int {l : List Int} {P : Int → Prop} (ha : ∀ k ∈ l, P k) {d : Int} (h0 : 0 ≤ d) (h1 : d.toNat < l.length) : ∃ k : Int, P k ∧ atI (l.map V.int) d = some (.int k) :=
  ⟨l[d.toNat], ha _ (List.getElem_mem h1), atI_of h0 (by rw [List.getElem?_map, List.getElem?_eq_getElem h1]; rfl)⟩
theorem ok_law_engines {f : Addr} {fd : FuncData} (F : Fun K "_law_engines" "_law_engines" s_law_engines f fd) (T : Txt mg) (C_law_take : Cal P w K mg base 1 "_law_take" sp_law_take) (C_law_names : Cal P w K mg base 2 "_law_names" sp_law_names) : FnOk P w K mg base CX0 3 f fd ["_law_bag_here", "_law_stations"] (sp_law_engines K) := by
  refine F.ok sc_law_engines (fun vs H Q E h => ?_) (fun cdv A outer s H vs Q E hr h => ?_)
  · obtain ⟨p, st, ss, rfl, _⟩ := h
    rfl
  · obtain ⟨p, st, ss, rfl, hB, hst, hne, hss, q⟩ := h
    refine ⟨_, (pss_cons (ps_set (i := 2) sc_law_engines.nd rfl (.inl rfl) (pe_ix ix_tup (pe_tup (pa_cons pe_int (pa_cons pe_int (pa_cons pe_int (pa_cons pe_int (pa_cons pe_int pa_nil)))))) (pe_cal C_law_take hr (by decide) (by rfl) (pa_cons (pv 0) (pa_cons pe_int pa_nil))) (fun _ _ => rfl)))
      (pss_cons (ps_set (i := 3) sc_law_engines.nd rfl (.inl rfl) (pe_lst pa_nil))
      (pss_cons (ps_for PassesOwn.never rfl (pi_list (pe_cal C_law_names hr (by decide) (by rfl) (pa_cons (pv 0) (pa_cons (pv 2) pa_nil)))) (pg_name (i := 4) sc_law_engines.nd rfl (.inl rfl))
        (pss_cons (ps_set (i := 5) sc_law_engines.nd rfl (.inl rfl) (pe_ix ix_tup (pe_tup (pa_cons pe_str (pa_cons pe_str (pa_cons pe_str (pa_cons pe_str pa_nil))))) (pe_cal C_law_take hr (by decide) (by rfl) (pa_cons (pv 0) (pa_cons pe_int pa_nil))) (fun _ _ => rfl)))
        (pss_one (ps_expr (pe_bm PySem.F.plainAttrs_list PySem.F.slot_list_append PySem.F.type_list_append mt_append (pv 3) (pa_cons (pe_tup (pa_cons (pv 4) (pa_cons (pv 5) (pa_cons (pe_ix ix_tup (pv 1) (pe_cal C_law_take hr (by decide) (by rfl) (pa_cons (pv 0) (pa_cons (pe_callB call_len_seq (by rfl) T.z_len (by decide +kernel) (pa_cons (pv 1) pa_nil)) pa_nil))) (fun _ _ => rfl)) (pa_cons (pe_op op_add pe_int (pe_cal C_law_take hr (by decide) (by rfl) (pa_cons (pv 0) (pa_cons pe_int pa_nil)))) pa_nil))))) pa_nil))))))
      (pss_one (ps_ret (pe_callTy call_tuple_of (by rfl) T.z_tuple (by decide +kernel) (pa_cons (pv 3) pa_nil))))))), ?_⟩
    refine ⟨(by show 5 ≤ sizeLine; decide), fun t nt => ?_⟩
    refine ⟨_, rfl, p, 5, rfl, hB.same (same_upd nt), by decide, by decide, fun d H1 a0 a1 hB1 k1 => ?_⟩
    obtain ⟨m, ⟨m0, m1⟩, am⟩ := pick_int (l := [4, 8, 2, 24, 1]) (P := fun m => 1 ≤ m ∧ m ≤ 24) (by decide) a0 (show d.toNat < 5 by omega)
    refine ⟨t, _, d, _, rfl, rfl, SqT.of (xs := [4, 8, 2, 24, 1].map V.int) (by rw [k1 t (hB.ne nt)]; exact upd_same), am, ?_⟩
    have x1 : Sx p H H1 := (Sx.same (same_upd nt)).trans (Sx.of k1)
    refine ⟨Nat.zero_le _, fun l nl => ?_⟩
    have nlp : l ≠ p := hB1.ne nl
    have nl0 : H l = none := x1.free hB1 nl
    refine ⟨_, rfl, _, rfl, p, m, rfl, hB1.same (same_upd nl), by omega, by omega, fun H2 r ws x2 hB2 nr hr2 hw hn => ?_⟩
    have nrp : r ≠ p := (hB1.same (same_upd nl)).ne nr
    have nrl : r ≠ l := fun z => by
      rw [z, upd_same] at nr
      cases nr
    have nr0 : H r = none := x1.free hB1 ((same_upd nl).free nr)
    have hl2 : H2 l = some (.lst []) := x2 l _ nlp upd_same
    have xx : Sx p H H2 := x1.trans ((Sx.same (same_upd nl)).trans x2)
    refine ⟨r, rfl, ⟨_, SqL.of hr2⟩, ?_⟩
    refine for_list (K := K) (a := r) (xs := ws.map V.str) (fun i σ H' => (∃ x4 x5, σ = [some (.ref p), some (.ref st), some (.int m), some (.ref l), x4, x5]) ∧ Sx p H H' ∧ Bag H' p ∧ H' r = some (.lst (ws.map V.str)) ∧ ∃ (vs : List V) (es : List PyData), es.length = i ∧ (∀ e ∈ es, IsEn e) ∧ H' l = some (.lst vs) ∧ DpAll K H' vs es) ⟨⟨_, _, rfl⟩, xx, hB2, hr2, [], [], rfl, (fun _ z => nomatch z), hl2, .nil⟩ (fun i σ H' _ h => SqL.of h.2.2.2.1) ?_ ?_
    · rintro i x σ H3 hx ⟨⟨x4, x5, rfl⟩, x3, hB3, hr3, vs, es, hes, hie, hl3, hdp⟩
      rw [List.getElem?_map] at hx
      obtain ⟨z, hz, rfl⟩ := Option.map_eq_some_iff.mp hx
      have hzn : isNm z = true := hn z (List.mem_of_getElem? hz)
      have hi : i < 24 := by
        have : i < ws.length := (List.getElem?_eq_some_iff.mp hz).1
        omega
      refine ⟨(by show 4 ≤ sizeLine; decide), fun t2 nt2 => ?_⟩
      refine ⟨_, rfl, p, 4, rfl, hB3.same (same_upd nt2), by decide, by decide, fun d2 H4 b0 b1 hB4 k4 => ?_⟩
      obtain ⟨so, hso, aso⟩ := pick_nm (l := ["pump", "ladder", "tanker", "pump"]) (by decide +kernel) b0 (show d2.toNat < 4 by omega)
      refine ⟨t2, _, d2, _, rfl, rfl, SqT.of (xs := (["pump", "ladder", "tanker", "pump"] : List Str).map V.str) (by rw [k4 t2 (hB3.ne nt2)]; exact upd_same), aso, ?_⟩
      have x4' : Sx p H3 H4 := (Sx.same (same_upd nt2)).trans (Sx.of k4)
      have hl4 := x4' _ _ nlp hl3
      obtain ⟨yb, eb⟩ := hB.lst
      have hst4 : SqT K H4 st (ss.map V.str) := SqT.sx hst (x3.trans x4') eb
      have hlen : 0 < ss.length := List.length_pos_iff.mpr hne
      refine ⟨_, rfl, .inl ⟨rfl, _, SqL.of hl4⟩, _, rfl, _, rfl, _, rfl, _, rfl, _, rfl, st, _, rfl, .inr hst4, p, _, rfl, hB4, ?_, ?_, fun d3 H5 c0 c1 hB5 k5 => ?_⟩
      · rw [List.length_map]
        omega
      · rw [List.length_map]
        omega
      rw [List.length_map] at c1
      have x5' : Sx p H4 H5 := Sx.of k5
      have hst5 : SqT K H5 st (ss.map V.str) := SqT.sx hst (x3.trans (x4'.trans x5')) eb
      refine ⟨st, _, d3, .str (ss[d3.toNat]'(by omega)), rfl, rfl, hst5, atI_of c0 (by rw [List.getElem?_map, List.getElem?_eq_getElem (by omega)]; rfl), ?_⟩
      generalize ss[d3.toNat]'(by omega) = sn
      refine ⟨_, rfl, p, 9, rfl, hB5, by decide, by decide, fun d4 H6 e0 e1 hB6 k6 => ?_⟩
      have x6 : Sx p H5 H6 := Sx.of k6
      have x36 : Sx p H3 H6 := x4'.trans (x5'.trans x6)
      have hl6 := x36 _ _ nlp hl3
      obtain ⟨y3, e3⟩ := hB3.lst
      have hdp6 : DpAll K H6 vs es := DpAll.sx x36 e3 hdp fun d hd => (hie d hd).flt
      refine ⟨_, _, rfl, rfl, (by show 4 ≤ sizeLine; decide), fun t3 nt3 => ?_⟩
      have sm7 := same_upd (o := .tup [.str z, .str so, .str sn, .int (1 + d4)]) nt3
      have hl7 := sm7 _ _ hl6
      have nt3l : t3 ≠ l := fun zz => by
        rw [zz, hl6] at nt3
        cases nt3
      have dpn : Dp K (upd H6 t3 (.tup [.str z, .str so, .str sn, .int (1 + d4)])) (.ref t3) (.tuple [.str z, .str so, .str sn, .int (1 + d4)]) := .tup (SqT.of upd_same) (.cons (.str _) (.cons (.str _) (.cons (.str _) (.cons (.int _) .nil))))
      have ien : IsEn (.tuple [.str z, .str so, .str sn, .int (1 + d4)]) := ⟨_, _, _, _, rfl, hzn⟩
      refine ⟨l, _, _, rfl, rfl, hl7, ?_, ⟨_, _, rfl⟩, ?_, ?_, ?_, vs ++ [.ref t3], es ++ [.tuple [.str z, .str so, .str sn, .int (1 + d4)]], ?_, ?_, upd_same, ?_⟩
      · rw [DpAll.len hdp, hes]
        exact Nat.lt_of_lt_of_le hi (by decide)
      · exact ((x3.trans x36).trans (Sx.same sm7)).put nl0
      · exact (hB6.same sm7).put nlp
      · rw [upd_ne nrl]
        exact sm7 _ _ (x36 _ _ nrp hr3)
      · rw [List.length_append, hes]
        rfl
      · intro e he
        rcases List.mem_append.mp he with h | h
        · exact hie e h
        · rw [List.mem_singleton.mp h]
          exact ien
      · refine DpAll.sx Sx.self hl7 (DpAll.snoc (DpAll.same sm7 hdp6) dpn) fun e he => ?_
        rcases List.mem_append.mp he with h | h
        · exact (hie e h).flt
        · rw [List.mem_singleton.mp h]
          exact ien.flt
    · rintro σ H3 ⟨⟨x4, x5, rfl⟩, x3, hB3, hr3, vs, es, hes, hie, hl3, hdp⟩
      rw [List.length_map] at hes
      refine ⟨_, rfl, l, _, rfl, .inl ⟨SqL.of hl3, fun tt ntt => ?_⟩⟩
      have smt := same_upd (o := .tup vs) ntt
      refine q _ tt (x3.trans (Sx.same smt)) (hB3.same smt) ⟨es, .tup (SqT.of upd_same) (DpAll.same smt hdp), ?_, ?_, hie⟩
      · intro z
        rw [z] at hes
        have : (0 : Nat) = m.toNat := hes.trans hw
        omega
      · rw [hes, hw]
        omega
end
end My

set_option Elab.async false
set_option linter.all false
set_option maxRecDepth 100000
set_option maxHeartbeats 4000000
namespace My
open PySem PySem.Spec PyProof.Rows L2 TL RZ
theorem hu65 {k : Nat} {A : Around} (hr : Room k A) : A.units + 65 < cLine := by
  have := hr.un
  omega
def IsPr (m : Int) (d : PyData) : Prop := ∃ a b : Int, d = .tuple [.int a, .int b] ∧ 0 ≤ a ∧ a < m ∧ 0 ≤ b ∧ b < m
theorem IsPr.flt {m : Int} {d : PyData} (h : IsPr m d) : Flt d := by
  obtain ⟨a, b, rfl, _⟩ := h
  refine .tup fun d hd => ?_
  simp only [List.mem_cons, List.not_mem_nil, or_false] at hd
  rcases hd with rfl | rfl
  · exact .int _
  · exact .int _
theorem IsPr.okd {m : Int} {d : PyData} (h : IsPr m d) : Okd 2 d := by
  obtain ⟨a, b, rfl, _⟩ := h
  refine .tuple (by show 2 ≤ 1000; decide) fun d hd => ?_
  simp only [List.mem_cons, List.not_mem_nil, or_false] at hd
  rcases hd with rfl | rfl
  · exact .int _
  · exact .int _
/-- a list of data at l -/
def LD (K : PySem.W.Frag) (H : Hp) (l : Addr) (ds : List PyData) : Prop := ∃ vs, H l = some (.lst vs) ∧ DpAll K H vs ds
theorem LD.sx {K : PySem.W.Frag} {H H' : Hp} {l p : Addr} {ds : List PyData} (h : LD K H l ds) (x : Sx p H H') (n : l ≠ p) {ys : List V} (e : H p = some (.lst ys)) (f : ∀ d ∈ ds, Flt d) : LD K H' l ds := by
  obtain ⟨vs, a, b⟩ := h
  exact ⟨vs, x _ _ n a, DpAll.sx x e b f⟩
theorem LD.same {K : PySem.W.Frag} {H H' : Hp} {l : Addr} {ds : List PyData} (h : LD K H l ds) (sm : Same H H') : LD K H' l ds := by
  obtain ⟨vs, a, b⟩ := h
  exact ⟨vs, sm _ _ a, DpAll.same sm b⟩
theorem LD.snoc {K : PySem.W.Frag} {H : Hp} {l : Addr} {ds : List PyData} {vs : List V} {v : V} {d : PyData} (e : H l = some (.lst vs)) (a : DpAll K H vs ds) (f : ∀ d ∈ ds, Flt d) (h : Dp K H v d) (fd : Flt d) : LD K (upd H l (.lst (vs ++ [v]))) l (ds ++ [d]) := by
  refine ⟨_, upd_same, DpAll.sx Sx.self e (DpAll.snoc a h) fun x hx => ?_⟩
  rcases List.mem_append.mp hx with m | m
  · exact f x m
  · rw [List.mem_singleton.mp m]
    exact fd
theorem LD.dp {K : PySem.W.Frag} {H : Hp} {l : Addr} {ds : List PyData} (h : LD K H l ds) : Dp K H (.ref l) (.list ds) := by
  obtain ⟨vs, a, b⟩ := h
  exact .lst (SqL.of a) b
/-- what stands while the roads and stations are drawn -/
structure GI (K : PySem.W.Frag) (p r pl : Addr) (H0 : Hp) (ws : List Str) (ps : List PyData) (H : Hp) : Prop where
  x : Sx p H0 H
  b : Bag H p
  nm : H r = some (.lst (ws.map V.str))
  dp : Dp K H (.ref pl) (.tuple ps)
section
variable {K : PySem.W.Frag} {p r pl : Addr} {H0 : Hp} {ws : List Str} {ps : List PyData} {H H' : Hp}
theorem GI.sx (g : GI K p r pl H0 ws ps H) (x : Sx p H H') (b : Bag H' p) (n : r ≠ p) (f : ∀ d ∈ ps, IsPl d) : GI K p r pl H0 ws ps H' := by
  obtain ⟨ys, e⟩ := g.b.lst
  exact ⟨g.x.trans x, b, x _ _ n g.nm, Dp.sx x e g.dp (.tup fun d hd => (f d hd).flt)⟩
theorem GI.same (g : GI K p r pl H0 ws ps H) (sm : Same H H') : GI K p r pl H0 ws ps H' := ⟨g.x.trans (Sx.same sm), g.b.same sm, sm _ _ g.nm, Dp.same sm g.dp⟩
theorem GI.put {l : Addr} {ys zs : List V} (g : GI K p r pl H0 ws ps H) (e : H l = some (.lst ys)) (n0 : H0 l = none) (np : l ≠ p) (nr : r ≠ l) (f : ∀ d ∈ ps, IsPl d) : GI K p r pl H0 ws ps (upd H l (.lst zs)) :=
  ⟨g.x.put n0, g.b.put np, by rw [upd_ne nr]; exact g.nm, Dp.sx Sx.self e g.dp (.tup fun d hd => (f d hd).flt)⟩
end
section
variable {P : Program} {w : World} {K : PySem.W.Frag} {mg : Str → Option Value} {base : Heap}
abbrev s_law_ground : Stmt := topS 16
abbrev N_law_ground : List Str := ["_law_bag_here", "_law_many", "_law_names_here", "_law_places", "_law_most", "_law_pairs", "_law_k", "_law_one", "_law_other_here", "_law_roads", "_law_slow", "_law_stations", "_law_place", "_law_name"]
theorem sc_law_ground : FnScope N_law_ground ["_law_bag_here"] (defScope s_law_ground) := ⟨rfl, rfl, rfl, by decide +kernel, rfl, by decide +kernel, by decide +kernel⟩
def sp_law_ground (K : PySem.W.Frag) : Sp := fun vs H Q _ => ∃ p : Addr, vs = [.ref p] ∧ Bag H p ∧ ∀ (H' : Hp) (t : Addr), Sx p H H' → Bag H' p → Gd K H' (.ref t) → Q (.ref t) H'
theorem ok_law_ground {f : Addr} {fd : FuncData} (F : Fun K "_law_ground" "_law_ground" s_law_ground f fd) (T : Txt mg) (C_law_take : Cal P w K mg base 1 "_law_take" sp_law_take) (C_law_names : Cal P w K mg base 2 "_law_names" sp_law_names) : FnOk P w K mg base CX0 3 f fd ["_law_bag_here"] (sp_law_ground K) := by
  refine F.ok sc_law_ground (fun vs H Q E h => ?_) (fun cdv A outer s H vs Q E hr h => ?_)
  · obtain ⟨p, rfl, _⟩ := h
    rfl
  · obtain ⟨p, rfl, hB, q⟩ := h
    refine ⟨_, (pss_cons (ps_set (i := 1) sc_law_ground.nd rfl (.inl rfl) (pe_ix ix_tup (pe_tup (pa_cons pe_int (pa_cons pe_int (pa_cons pe_int (pa_cons pe_int (pa_cons pe_int (pa_cons pe_int pa_nil))))))) (pe_cal C_law_take hr (by decide) (by rfl) (pa_cons (pv 0) (pa_cons pe_int pa_nil))) (fun _ _ => rfl)))
      (pss_cons (ps_set (i := 2) sc_law_ground.nd rfl (.inl rfl) (pe_cal C_law_names hr (by decide) (by rfl) (pa_cons (pv 0) (pa_cons (pv 1) pa_nil))))
      (pss_cons (ps_set (i := 3) sc_law_ground.nd rfl (.inl rfl) (pe_callTy call_tuple_of (by rfl) T.z_tuple (by decide +kernel) (pa_cons (pe_lc (own := [("_law_name", 13)]) (by rfl) sc_law_ground.nd (pi_list (pv 2)) (blkOk_by (own := [("_law_name", 13)]) (N := N_law_ground) (sc := defScope s_law_ground) (by decide +kernel)) (fun _ _ _ _ _ => (pg_name (i := 13) sc_law_ground.nd rfl (.inl rfl))) (fun _ _ _ _ _ => pts_nil) (fun _ _ _ _ _ => (pe_tup (pa_cons (pv 13) (pa_cons (pe_op op_add pe_int (pe_cal C_law_take hr (by decide) (by rfl) (pa_cons (pv 0) (pa_cons pe_int pa_nil)))) pa_nil))))) pa_nil)))
      (pss_cons (ps_set (i := 4) sc_law_ground.nd rfl (.inl rfl) (pe_ix ix_tup (pe_tup (pa_cons pe_int (pa_cons pe_int (pa_cons pe_int pa_nil)))) (pe_cal C_law_take hr (by decide) (by rfl) (pa_cons (pv 0) (pa_cons pe_int pa_nil))) (fun _ _ => rfl)))
      (pss_cons (ps_set (i := 5) sc_law_ground.nd rfl (.inl rfl) (pe_lst pa_nil))
      (pss_cons (ps_for PassesOwn.never rfl (pi_range1 (by rfl) T.z_range (pa_cons (pe_op op_add (pe_op op_sub (pv 1) pe_int) (pe_cal C_law_take hr (by decide) (by rfl) (pa_cons (pv 0) (pa_cons (pe_op op_add pe_int (pe_callB (call_min2 rfl) (by rfl) T.z_min (by decide +kernel) (pa_cons pe_int (pa_cons (pv 1) pa_nil)))) pa_nil)))) pa_nil)) (pg_name (i := 6) sc_law_ground.nd rfl (.inl rfl))
        (pss_cons (ps_par (i := 7) (j := 8) (by rfl) sc_law_ground.nd rfl rfl (by decide) rfl rfl (pa_cons (pe_op op_mod (pv 6) (pv 1)) (pa_cons (pe_op op_mod (pe_op op_add (pv 6) pe_int) (pv 1)) pa_nil)) (by rfl))
        (pss_cons (ps_if (pt_cmpR op_gt (pe_cal C_law_take hr (by decide) (by rfl) (pa_cons (pv 0) (pa_cons pe_int pa_nil))) pe_int (nomark _)) (pss_one (ps_set (i := 7) sc_law_ground.nd rfl (.inl rfl) (pe_cal C_law_take hr (by decide) (by rfl) (pa_cons (pv 0) (pa_cons (pv 1) pa_nil))))) pss_nil)
        (pss_one (ps_if (PW.pt (pw_and (pt_cmpR op_ne (pv 7) (pv 8) (nomark _)) (pw_and (pt_cmpR (op_notInD (hu65 hr)) (pe_tup (pa_cons (pv 7) (pa_cons (pv 8) pa_nil))) (pv 5) rfl) (pw_and1 (pt_cmpR (op_notInD (hu65 hr)) (pe_tup (pa_cons (pv 8) (pa_cons (pv 7) pa_nil))) (pv 5) rfl))))) (pss_one (ps_expr (pe_bm PySem.F.plainAttrs_list PySem.F.slot_list_append PySem.F.type_list_append mt_append (pv 5) (pa_cons (pe_tup (pa_cons (pv 7) (pa_cons (pv 8) pa_nil))) pa_nil)))) pss_nil)))))
      (pss_cons (ps_set (i := 9) sc_law_ground.nd rfl (.inl rfl) (pe_lst pa_nil))
      (pss_cons (ps_for PassesOwn.never rfl (pi_list (pv 5)) (pg_tup rfl (pgs_cons (pg_name (i := 7) sc_law_ground.nd rfl (.inl rfl)) (pgs_cons (pg_name (i := 8) sc_law_ground.nd rfl (.inl rfl)) pgs_nil)))
        (pss_cons (ps_set (i := 10) sc_law_ground.nd rfl (.inl rfl) (pe_op op_mul (pe_cal C_law_take hr (by decide) (by rfl) (pa_cons (pv 0) (pa_cons pe_int pa_nil))) (pe_callTy call_int1 (by rfl) T.z_int (by decide +kernel) (pa_cons (pe_cmpR op_eq (pe_cal C_law_take hr (by decide) (by rfl) (pa_cons (pv 0) (pa_cons pe_int pa_nil))) pe_int (nomark _)) pa_nil))))
        (pss_one (ps_expr (pe_bm PySem.F.plainAttrs_list PySem.F.slot_list_append PySem.F.type_list_append mt_append (pv 9) (pa_cons (pe_tup (pa_cons (pe_ix ix_list (pv 2) (pv 7) (fun _ _ => rfl)) (pa_cons (pe_ix ix_list (pv 2) (pv 8) (fun _ _ => rfl)) (pa_cons (pe_op op_add pe_int (pe_cal C_law_take hr (by decide) (by rfl) (pa_cons (pv 0) (pa_cons (pv 4) pa_nil)))) (pa_cons (pv 10) pa_nil))))) pa_nil))))))
      (pss_cons (ps_set (i := 11) sc_law_ground.nd rfl (.inl rfl) (pe_lst pa_nil))
      (pss_cons (ps_for PassesOwn.never rfl (pi_range1 (by rfl) T.z_range (pa_cons (pe_op op_add pe_int (pe_cal C_law_take hr (by decide) (by rfl) (pa_cons (pv 0) (pa_cons (pe_callB (call_min2 rfl) (by rfl) T.z_min (by decide +kernel) (pa_cons pe_int (pa_cons (pv 1) pa_nil))) pa_nil)))) pa_nil)) (pg_name (i := 6) sc_law_ground.nd rfl (.inl rfl))
        (pss_cons (ps_set (i := 12) sc_law_ground.nd rfl (.inl rfl) (pe_ix ix_list (pv 2) (pe_cal C_law_take hr (by decide) (by rfl) (pa_cons (pv 0) (pa_cons (pv 1) pa_nil))) (fun _ _ => rfl)))
        (pss_one (ps_if (pt_cmpR op_notIn_seq (pv 12) (pv 11) rfl) (pss_one (ps_expr (pe_bm PySem.F.plainAttrs_list PySem.F.slot_list_append PySem.F.type_list_append mt_append (pv 11) (pa_cons (pv 12) pa_nil)))) pss_nil))))
      (pss_one (ps_ret (pe_tup (pa_cons (pv 3) (pa_cons (pe_callTy call_tuple_of (by rfl) T.z_tuple (by decide +kernel) (pa_cons (pv 9) pa_nil)) (pa_cons (pe_callTy call_tuple_of (by rfl) T.z_tuple (by decide +kernel) (pa_cons (pv 11) pa_nil)) pa_nil)))))))))))))))), ?_⟩
    refine ⟨(by show 6 ≤ sizeLine; decide), fun t nt => ?_⟩
    refine ⟨_, rfl, p, 6, rfl, hB.same (same_upd nt), by decide, by decide, fun d H1 a0 a1 hB1 k1 => ?_⟩
    obtain ⟨m, ⟨m0, m1⟩, am⟩ := pick_int (l := [6, 3, 12, 1, 40, 8]) (P := fun m => 1 ≤ m ∧ m ≤ 40) (by decide) a0 (show d.toNat < 6 by omega)
    refine ⟨t, _, d, _, rfl, rfl, SqT.of (xs := [6, 3, 12, 1, 40, 8].map V.int) (by rw [k1 t (hB.ne nt)]; exact upd_same), am, ?_⟩
    have x1 : Sx p H H1 := (Sx.same (same_upd nt)).trans (Sx.of k1)
    refine ⟨_, rfl, _, rfl, p, m, rfl, hB1, by omega, by omega, fun H2 r ws x2 hB2 nr hr2 hw hn => ?_⟩
    have nrp : r ≠ p := hB1.ne nr
    have nr0 : H r = none := x1.free hB1 nr
    have nms : ∀ (i : Int), 0 ≤ i → i < m → ∃ z, isNm z = true ∧ atI (ws.map V.str) i = some (.str z) := fun i h0 h1 => pick_nm hn h0 (by omega)
    -- the places
    refine ⟨_, rfl, r, rfl, ⟨_, SqL.of hr2⟩, fun D nD => ?_⟩
    have xD : Sx p H H2 := x1.trans x2
    have nDp : D ≠ p := hB2.ne nD
    have nD0 : H D = none := xD.free hB2 nD
    have nrD : r ≠ D := ne_of_none hr2 nD
    refine lc_list (K := K) (a := r) (xs := ws.map V.str) (fun i H' => Sx p H H' ∧ Bag H' p ∧ H' r = some (.lst (ws.map V.str)) ∧ ∃ (vs : List V) (ps : List PyData), ps.length = i ∧ (∀ e ∈ ps, IsPl e) ∧ H' D = some (.lst vs) ∧ DpAll K H' vs ps) ⟨xD.trans (Sx.same (same_upd nD)), hB2.same (same_upd nD), same_upd nD _ _ hr2, [], [], rfl, (fun _ z => nomatch z), upd_same, .nil⟩ (fun i H' _ h => SqL.of h.2.2.1) ?_ ?_
    · rintro i x H3 hx ⟨x3, hB3, hr3, vs, ps, hps, hip, hD3, hdp⟩
      rw [List.getElem?_map] at hx
      obtain ⟨z, hz, rfl⟩ := Option.map_eq_some_iff.mp hx
      have hzn : isNm z = true := hn z (List.mem_of_getElem? hz)
      have hi : i < 40 := by
        have : i < ws.length := (List.getElem?_eq_some_iff.mp hz).1
        omega
      refine ⟨rfl, yesI ?_⟩
      refine ⟨_, rfl, _, rfl, p, 4, rfl, hB3, by decide, by decide, fun d4 H4 c0 c1 hB4 k4 => ?_⟩
      refine ⟨_, _, rfl, rfl, (by show 2 ≤ sizeLine; decide), fun t3 nt3 => ?_⟩
      have x4 : Sx p H3 H4 := Sx.of k4
      obtain ⟨y3, e3⟩ := hB3.lst
      have hdp4 : DpAll K H4 vs ps := DpAll.sx x4 e3 hdp fun d hd => (hip d hd).flt
      have hD4 := x4 _ _ nDp hD3
      have sm := same_upd (o := .tup [.str z, .int (1 + d4)]) nt3
      have ipl : IsPl (.tuple [.str z, .int (1 + d4)]) := ⟨_, _, rfl, hzn⟩
      refine ⟨vs, sm _ _ hD4, ?_, ((x3.trans x4).trans (Sx.same sm)).put nD0, (hB4.same sm).put nDp, ?_, vs ++ [.ref t3], ps ++ [.tuple [.str z, .int (1 + d4)]], ?_, ?_, upd_same, ?_⟩
      · rw [DpAll.len hdp, hps]
        exact Nat.lt_of_lt_of_le hi (by decide)
      · rw [upd_ne nrD]
        exact sm _ _ (x4 _ _ nrp hr3)
      · rw [List.length_append, hps]
        rfl
      · intro e he
        rcases List.mem_append.mp he with h | h
        · exact hip e h
        · rw [List.mem_singleton.mp h]
          exact ipl
      · refine DpAll.sx Sx.self (sm _ _ hD4) (DpAll.snoc (DpAll.same sm hdp4) (.tup (SqT.of upd_same) (.cons (.str _) (.cons (.int _) .nil)))) fun e he => ?_
        rcases List.mem_append.mp he with h | h
        · exact (hip e h).flt
        · rw [List.mem_singleton.mp h]
          exact ipl.flt
    rintro H3 ⟨x3, hB3, hr3, vs, ps, hps, hip, hD3, hdp⟩
    rw [List.length_map, hw] at hps
    refine ⟨D, _, rfl, .inl ⟨SqL.of hD3, fun pl npl => ?_⟩⟩
    have smP := same_upd (o := .tup vs) npl
    have g3 : GI K p r pl H ws ps (upd H3 pl (.tup vs)) := ⟨x3.trans (Sx.same smP), hB3.same smP, smP _ _ hr3, .tup (SqT.of upd_same) (DpAll.same smP hdp)⟩
    generalize upd H3 pl (.tup vs) = G3 at g3 ⊢
    clear smP hdp hD3 hr3 hB3 x3
    -- the greatest minutes
    refine ⟨(by show 3 ≤ sizeLine; decide), fun t4 nt4 => ?_⟩
    refine ⟨_, rfl, p, 3, rfl, g3.b.same (same_upd nt4), by decide, by decide, fun d4 H4 c0 c1 hB4 k4 => ?_⟩
    obtain ⟨mo, ⟨mo0, mo1⟩, amo⟩ := pick_int (l := [2, 5, 60]) (P := fun m => 1 ≤ m ∧ m ≤ 60) (by decide) c0 (show d4.toNat < 3 by omega)
    refine ⟨t4, _, d4, _, rfl, rfl, SqT.of (xs := [2, 5, 60].map V.int) (by rw [k4 t4 (g3.b.ne nt4)]; exact upd_same), amo, ?_⟩
    have g4 : GI K p r pl H ws ps H4 := (g3.same (same_upd nt4)).sx (Sx.of k4) hB4 nrp hip
    clear g3 k4
    refine ⟨Nat.zero_le _, fun l5 nl5 => ?_⟩
    have n5p : l5 ≠ p := g4.b.ne nl5
    have n50 : H l5 = none := g4.x.free g4.b nl5
    have nr5 : r ≠ l5 := ne_of_none g4.nm nl5
    have g5 := g4.same (same_upd (o := .lst []) nl5)
    have e5 : (upd H4 l5 (.lst [])) l5 = some (.lst []) := upd_same
    generalize upd H4 l5 (.lst []) = H5 at g5 e5 ⊢
    clear g4 nl5
    -- the pairs
    obtain ⟨mn, emn, mn0, mn1⟩ : ∃ mn : Int, (if m < 40 then m else 40) = mn ∧ 1 ≤ mn ∧ mn ≤ 40 := ⟨_, rfl, by split <;> omega, by split <;> omega⟩
    refine ⟨_, rfl, _, _, rfl, rfl, _, rfl, _, rfl, _, _, rfl, _, _, rfl, rfl, p, 1 + mn, ?_, g5.b, by omega, by omega, fun d6 H6 f0 f1 hB6 k6 => ?_⟩
    · rw [emn]
      rfl
    have g6 := g5.sx (Sx.of k6) hB6 nrp hip
    have e6 : H6 l5 = some (.lst []) := by rw [k6 l5 n5p]; exact e5
    refine ⟨_, _, rfl, rfl, m - 1 + d6, rfl, by omega, by omega, ?_⟩
    refine for_range (lo := 0) (n := (m - 1 + d6).toNat) (fun i σ H' => (∃ x6 x7 x8 x9 x10 x11 x12 x13, σ = [some (.ref p), some (.int m), some (.ref r), some (.ref pl), some (.int mo), some (.ref l5), x6, x7, x8, x9, x10, x11, x12, x13]) ∧ GI K p r pl H ws ps H' ∧ ∃ qs : List PyData, qs.length ≤ i ∧ (∀ e ∈ qs, IsPr m e) ∧ LD K H' l5 qs) ⟨⟨_, _, _, _, _, _, _, _, rfl⟩, g6, [], Nat.zero_le _, (fun _ z => nomatch z), [], e6, .nil⟩ ?_ ?_
    · rintro i σ H7 hi ⟨⟨x6, x7, x8, x9, x10, x11, x12, x13, rfl⟩, g7, qs, hqs, hpr, ld7⟩
      have mm : (0 : Int) < m := by omega
      refine ⟨_, rfl, _, rfl, _, _, rfl, rfl, mm, _, rfl, _, _, rfl, rfl, _, rfl, _, _, rfl, rfl, mm, ?_⟩
      obtain ⟨o1, eo1, o10, o11⟩ : ∃ o1, (0 + (i : Int)) % m = o1 ∧ 0 ≤ o1 ∧ o1 < m := ⟨_, rfl, Int.emod_nonneg _ (by omega), Int.emod_lt_of_pos _ mm⟩
      obtain ⟨o2, eo2, o20, o21⟩ : ∃ o2, (0 + (i : Int) + 1) % m = o2 ∧ 0 ≤ o2 ∧ o2 < m := ⟨_, rfl, Int.emod_nonneg _ (by omega), Int.emod_lt_of_pos _ mm⟩
      refine ⟨.int o1, .int o2, by first | (rw [← eo1, ← eo2]; done) | (rw [← eo1, ← eo2]; rfl), ?_⟩
      clear eo1 eo2
      refine ⟨_, rfl, p, 3, rfl, g7.b, by decide, by decide, fun d8 H8 b0 b1 hB8 k8 => ?_⟩
      have fq : ∀ d ∈ qs, Flt d := fun d hd => (hpr d hd).flt
      obtain ⟨y7, ey7⟩ := g7.b.lst
      have g8 := g7.sx (Sx.of k8) hB8 nrp hip
      have ld8 := ld7.sx (Sx.of k8) n5p ey7 fq
      clear g7 ld7 k8
      refine ⟨_, _, rfl, rfl, _, rfl, ite2 (fun e => ?g1) (fun e => ?g2)⟩
      case' g1 =>
        refine ⟨_, rfl, _, rfl, p, m, rfl, g8.b, mm, by omega, fun o3 H9 c0 c1 hB9 k9 => ?_⟩
        obtain ⟨y8, ey8⟩ := g8.b.lst
        replace ld8 := ld8.sx (Sx.of k9) n5p ey8 fq
        replace g8 := g8.sx (Sx.of k9) hB9 nrp hip
        replace o10 := c0
        replace o11 := c1
        clear k9
        generalize o3 = o1 at o10 o11 ⊢
        generalize H9 = H8 at g8 ld8 ⊢
      all_goals
        have hq : qs.length ≤ 1000 := by omega
        have pab : IsPr m (.tuple [.int o1, .int o2]) := ⟨_, _, rfl, o10, o11, o20, o21⟩
        have pba : IsPr m (.tuple [.int o2, .int o1]) := ⟨_, _, rfl, o20, o21, o10, o11⟩
        have ok : Okd 3 (.list qs) := .list hq fun d hd => (hpr d hd).okd
        refine ⟨_, rfl, _, rfl, rfl, _, rfl, ite2 (fun e1 => ?_) (fun e1 => iteF ⟨⟨_, _, _, _, _, _, _, _, rfl⟩, g8, qs, by omega, hpr, ld8⟩)⟩
        refine ⟨_, rfl, _, rfl, (by show 2 ≤ sizeLine; decide), fun ta nta => ?_⟩
        have sa := same_upd (o := .tup [.int o1, .int o2]) nta
        have ga := g8.same sa
        have lda := ld8.same sa
        refine ⟨_, rfl, .tuple [.int o1, .int o2], qs, .tup (SqT.of upd_same) (.cons (.int _) (.cons (.int _) .nil)), lda.dp, pab.okd.shaped (by decide), ok.shaped (by decide), _, rfl, ite2 (fun e2 => ?_) (fun e2 => iteF ⟨⟨_, _, _, _, _, _, _, _, rfl⟩, ga, qs, by omega, hpr, lda⟩)⟩
        refine ⟨_, rfl, _, rfl, (by show 2 ≤ sizeLine; decide), fun tb ntb => ?_⟩
        have sb := same_upd (o := .tup [.int o2, .int o1]) ntb
        have gb := ga.same sb
        have ldb := lda.same sb
        refine ⟨_, rfl, .tuple [.int o2, .int o1], qs, .tup (SqT.of upd_same) (.cons (.int _) (.cons (.int _) .nil)), ldb.dp, pba.okd.shaped (by decide), ok.shaped (by decide), _, rfl, ite2 (fun e3 => ?_) (fun e3 => ⟨⟨_, _, _, _, _, _, _, _, rfl⟩, gb, qs, by omega, hpr, ldb⟩)⟩
        obtain ⟨vb, evb, dvb⟩ := id ldb
        refine ⟨_, rfl, .inl ⟨rfl, _, SqL.of evb⟩, _, rfl, _, rfl, (by show 2 ≤ sizeLine; decide), fun tc ntc => ?_⟩
        have sc := same_upd (o := .tup [.int o1, .int o2]) ntc
        have gc := gb.same sc
        have evc := sc _ _ evb
        refine ⟨l5, _, _, rfl, rfl, evc, ?_, ⟨_, _, _, _, _, _, _, _, rfl⟩, gc.put evc n50 n5p nr5 hip, qs ++ [.tuple [.int o1, .int o2]], ?_, ?_, ?_⟩
        · rw [DpAll.len dvb]
          exact Nat.lt_of_le_of_lt (show qs.length ≤ 80 by omega) (by decide)
        · rw [List.length_append]
          show qs.length + 1 ≤ i + 1
          omega
        · intro e he
          rcases List.mem_append.mp he with h | h
          · exact hpr e h
          · rw [List.mem_singleton.mp h]
            exact pab
        · exact LD.snoc evc (DpAll.same sc dvb) fq (.tup (SqT.of upd_same) (.cons (.int _) (.cons (.int _) .nil))) pab.flt
    rintro σ H7 ⟨⟨x6, x7, x8, x9, x10, x11, x12, x13, rfl⟩, g7, qs, hqs, hpr, ld7⟩
    have hq80 : qs.length ≤ 80 := by omega
    clear hqs
    have fq : ∀ d ∈ qs, Flt d := fun d hd => (hpr d hd).flt
    -- the roads
    obtain ⟨vs5, ev5, dv5⟩ := ld7
    refine ⟨Nat.zero_le _, fun l9 nl9 => ?_⟩
    have n9p : l9 ≠ p := g7.b.ne nl9
    have n90 : H l9 = none := g7.x.free g7.b nl9
    have nr9 : r ≠ l9 := ne_of_none g7.nm nl9
    have n59 : l5 ≠ l9 := ne_of_none ev5 nl9
    have s9 := same_upd (o := .lst []) nl9
    refine ⟨_, rfl, l5, rfl, ⟨_, SqL.of (s9 _ _ ev5)⟩, ?_⟩
    refine for_list (K := K) (a := l5) (xs := vs5) (fun i σ H' => (∃ x6 x7 x8 x10 x11 x12 x13, σ = [some (.ref p), some (.int m), some (.ref r), some (.ref pl), some (.int mo), some (.ref l5), x6, x7, x8, some (.ref l9), x10, x11, x12, x13]) ∧ GI K p r pl H ws ps H' ∧ H' l5 = some (.lst vs5) ∧ DpAll K H' vs5 qs ∧ ∃ rs : List PyData, rs.length = i ∧ (∀ e ∈ rs, IsRd e) ∧ LD K H' l9 rs) ⟨⟨_, _, _, _, _, _, _, rfl⟩, g7.same s9, s9 _ _ ev5, DpAll.same s9 dv5, [], rfl, (fun _ z => nomatch z), [], upd_same, .nil⟩ (fun i σ H' _ h => SqL.of h.2.2.1) ?_ ?_
    · rintro i x σ H8 hx ⟨⟨x6, x7, x8, x10, x11, x12, x13, rfl⟩, g8, ev8, dv8, rs, hrs, hird, ld8⟩
      have hi : i < 80 := by
        have h1 : i < vs5.length := (List.getElem?_eq_some_iff.mp hx).1
        rw [DpAll.len dv8] at h1
        omega
      obtain ⟨dd, edd, dpd⟩ := DpAll.at dv8 i hx
      obtain ⟨a, b, rfl, ha0, ha1, hb0, hb1⟩ := hpr dd (List.mem_of_getElem? edd)
      obtain ⟨ax, xs, rfl, sq, dxs⟩ := Dp.tup_inv dpd
      obtain rfl : xs = [.int a, .int b] := by
        cases dxs with
        | cons h1 t1 =>
          cases h1
          cases t1 with
          | cons h2 t2 =>
            cases h2
            cases t2
            rfl
      have fr : ∀ d ∈ rs, Flt d := fun d hd => (hird d hd).flt
      refine ⟨ax, _, rfl, sq, rfl, _, _, rfl, _, _, rfl, rfl, ?_⟩
      refine ⟨_, rfl, p, 61, rfl, g8.b, by decide, by decide, fun d1 H9 b0 b1 hB9 k9 => ?_⟩
      refine ⟨_, rfl, p, 4, rfl, hB9, by decide, by decide, fun d2 H10 c0 c1 hB10 k10 => ?_⟩
      have x10' : Sx p H8 H10 := (Sx.of k9).trans (Sx.of k10)
      refine ⟨rfl, .inr ⟨_, rfl, _, _, rfl, rfl, ?_, ?_⟩⟩
      · exact .inl ⟨by omega, by omega⟩
      obtain ⟨y8, ey8⟩ := g8.b.lst
      have g10 := g8.sx x10' hB10 nrp hip
      have ld10 := ld8.sx x10' n9p ey8 fr
      obtain ⟨v9, ev9, dv9⟩ := id ld10
      obtain ⟨za, hza, aza⟩ := nms a ha0 ha1
      obtain ⟨zb, hzb, azb⟩ := nms b hb0 hb1
      refine ⟨_, rfl, .inl ⟨rfl, _, SqL.of ev9⟩, _, rfl, _, rfl, r, _, _, _, rfl, rfl, SqL.of g10.nm, aza, _, rfl, _, rfl, r, _, _, _, rfl, rfl, SqL.of g10.nm, azb, _, rfl, _, rfl, p, mo, rfl, g10.b, by omega, by omega, fun d3 H11 e0 e1 hB11 k11 => ?_⟩
      obtain ⟨y10, ey10⟩ := g10.b.lst
      have g11 := g10.sx (Sx.of k11) hB11 nrp hip
      have ld11 := ld10.sx (Sx.of k11) n9p ey10 fr
      have ev11 : H11 l5 = some (.lst vs5) := by rw [k11 l5 n5p]; exact x10' _ _ n5p ev8
      have dv11 : DpAll K H11 vs5 qs := DpAll.sx (x10'.trans (Sx.of k11)) ey8 dv8 fq
      refine ⟨_, _, rfl, rfl, _, rfl, (by show 4 ≤ sizeLine; decide), fun tt ntt => ?_⟩
      obtain ⟨v11, evl11, dvl11⟩ := id ld11
      obtain ⟨sl, esl⟩ : ∃ sl : Int, sl = d1 * if decide (V.int d2 = V.int 0) = true then 1 else 0 := ⟨_, rfl⟩
      have st := same_upd (o := .tup [.str za, .str zb, .int (1 + d3), .int sl]) ntt
      have ird : IsRd (.tuple [.str za, .str zb, .int (1 + d3), .int sl]) := ⟨_, _, _, _, rfl, hza, hzb⟩
      have dpt : Dp K (upd H11 tt (.tup [.str za, .str zb, .int (1 + d3), .int sl])) (.ref tt) (.tuple [.str za, .str zb, .int (1 + d3), .int sl]) := .tup (SqT.of upd_same) (.cons (.str _) (.cons (.str _) (.cons (.int _) (.cons (.int _) .nil))))
      have evt := st _ _ evl11
      have dvt := DpAll.same st dvl11
      have gt := g11.same st
      have ev5t := st _ _ ev11
      have dv5t := DpAll.same st dv11
      subst esl
      refine ⟨l9, _, _, rfl, rfl, evt, ?_, ⟨_, _, _, _, _, _, _, rfl⟩, gt.put evt n90 n9p nr9 hip, ?_, DpAll.sx Sx.self evt dv5t fq, rs ++ [_], ?_, ?_, LD.snoc evt dvt fr dpt ird.flt⟩
      · rw [DpAll.len dvl11, hrs]
        exact Nat.lt_of_lt_of_le hi (by decide)
      · rw [upd_ne n59]
        exact ev5t
      · rw [List.length_append, hrs]
        rfl
      · intro e he
        rcases List.mem_append.mp he with h | h
        · exact hird e h
        · rw [List.mem_singleton.mp h]
          exact ird
    rintro σ H8 ⟨⟨x6, x7, x8, x10, x11, x12, x13, rfl⟩, g8, ev8, dv8, rs, hrs, hird, ld8⟩
    have hr80 : rs.length ≤ 80 := by
      rw [hrs, DpAll.len dv8]
      exact hq80
    have fr : ∀ d ∈ rs, Flt d := fun d hd => (hird d hd).flt
    clear ev8 dv8
    -- the stations
    refine ⟨Nat.zero_le _, fun lb nlb => ?_⟩
    have nbp : lb ≠ p := g8.b.ne nlb
    have nb0 : H lb = none := g8.x.free g8.b nlb
    have nrb : r ≠ lb := ne_of_none g8.nm nlb
    obtain ⟨v8, ev8, dv8⟩ := id ld8
    have n9b : l9 ≠ lb := ne_of_none ev8 nlb
    have sb := same_upd (o := .lst []) nlb
    have gb := g8.same sb
    have ldb := ld8.same sb
    have eb : (upd H8 lb (.lst [])) lb = some (.lst []) := upd_same
    generalize upd H8 lb (.lst []) = H9 at gb ldb eb ⊢
    clear sb ev8 dv8
    obtain ⟨mk, emk, mk0, mk1⟩ : ∃ mk : Int, (if m < 12 then m else 12) = mk ∧ 1 ≤ mk ∧ mk ≤ 12 := ⟨_, rfl, by split <;> omega, by split <;> omega⟩
    refine ⟨_, rfl, _, rfl, _, _, rfl, p, mk, ?_, gb.b, by omega, by omega, fun da Ha f2 f3 hBa ka => ?_⟩
    · rw [emk]
      rfl
    obtain ⟨y9, ey9⟩ := gb.b.lst
    have ga := gb.sx (Sx.of ka) hBa nrp hip
    have lda := ldb.sx (Sx.of ka) n9p ey9 fr
    have ea : Ha lb = some (.lst []) := by rw [ka lb nbp]; exact eb
    refine ⟨_, _, rfl, rfl, 1 + da, rfl, by omega, by omega, ?_⟩
    refine for_range (lo := 0) (n := (1 + da).toNat) (fun i σ H' => (∃ x6 x7 x8 x10 x12 x13, σ = [some (.ref p), some (.int m), some (.ref r), some (.ref pl), some (.int mo), some (.ref l5), x6, x7, x8, some (.ref l9), x10, some (.ref lb), x12, x13]) ∧ GI K p r pl H ws ps H' ∧ LD K H' l9 rs ∧ ∃ ss : List Str, H' lb = some (.lst (ss.map V.str)) ∧ ss.length ≤ i ∧ (0 < i → ss ≠ []) ∧ ∀ z ∈ ss, isNm z = true) ⟨⟨_, _, _, _, _, _, rfl⟩, ga, lda, [], ea, Nat.zero_le _, (fun z => absurd z (by decide)), (fun _ z => nomatch z)⟩ ?_ ?_
    · rintro i σ Hc hi ⟨⟨x6, x7, x8, x10, x12, x13, rfl⟩, gc, ldc, ss, ec, hss, hne, hsn⟩
      refine ⟨_, rfl, _, rfl, _, rfl, p, m, rfl, gc.b, by omega, by omega, fun dd Hd h0 h1 hBd kd => ?_⟩
      obtain ⟨yc, eyc⟩ := gc.b.lst
      have gd := gc.sx (Sx.of kd) hBd nrp hip
      have ldd := ldc.sx (Sx.of kd) n9p eyc fr
      have ed : Hd lb = some (.lst (ss.map V.str)) := by rw [kd lb nbp]; exact ec
      obtain ⟨z, hz, az⟩ := nms dd h0 h1
      refine ⟨r, _, _, _, rfl, rfl, SqL.of gd.nm, az, ?_⟩
      refine ⟨_, rfl, _, rfl, lb, _, rfl, .inl (SqL.of ed), rfl, ?_, _, rfl, ite2 (fun e => ?_) (fun e => ⟨⟨_, _, _, _, _, _, rfl⟩, gd, ldd, ss, ed, by omega, fun _ hz => e ?_, hsn⟩)⟩
      · rw [List.all_map]
        exact List.all_eq_true.mpr fun _ _ => rfl
      · refine ⟨_, rfl, .inl ⟨rfl, _, SqL.of ed⟩, _, rfl, lb, _, _, rfl, rfl, ed, ?_, ⟨_, _, _, _, _, _, rfl⟩, gd.put ed nb0 nbp nrb hip, ?_, ss ++ [z], ?_, ?_, fun _ hz => ?_, fun y hy => ?_⟩
        · rw [List.length_map]
          exact Nat.lt_of_le_of_lt (show ss.length ≤ 100 by omega) (by decide)
        · obtain ⟨v9, ev9, dv9⟩ := ldd
          exact ⟨v9, by rw [upd_ne n9b]; exact ev9, DpAll.sx Sx.self ed dv9 fr⟩
        · rw [upd_same, List.map_append]
          rfl
        · rw [List.length_append]
          show ss.length + 1 ≤ i + 1
          omega
        · simp at hz
        · rcases List.mem_append.mp hy with h | h
          · exact hsn y h
          · rw [List.mem_singleton.mp h]
            exact hz
      · subst hz
        rfl
    rintro σ Hc ⟨⟨x6, x7, x8, x10, x12, x13, rfl⟩, gc, ldc, ss, ec, hss, hne, hsn⟩
    obtain ⟨v9, ev9, dv9⟩ := ldc
    refine ⟨_, rfl, _, rfl, l9, _, rfl, .inl ⟨SqL.of ev9, fun t9 nt9 => ?_⟩⟩
    have s1 := same_upd (o := .tup v9) nt9
    refine ⟨_, rfl, lb, _, rfl, .inl ⟨SqL.of (s1 _ _ ec), fun tb ntb => ?_⟩⟩
    have s2 := same_upd (o := .tup (ss.map V.str)) ntb
    refine ⟨(by show 3 ≤ sizeLine; decide), fun tt ntt => ?_⟩
    have s3 := same_upd (o := .tup [.ref pl, .ref t9, .ref tb]) ntt
    have g := (gc.same s1).same (s2.trans s3)
    refine q _ tt g.x g.b ⟨ps, rs, ss, .tup (SqT.of upd_same) (.cons g.dp (.cons (.tup (SqT.of (s3 _ _ (s2 _ _ upd_same))) (DpAll.same (s1.trans (s2.trans s3)) dv9)) (.cons (.tup (SqT.of (s3 _ _ upd_same)) (DpAll.strs ss)) .nil))), ⟨?_, by omega, hip⟩, ⟨by omega, hird⟩, ⟨hne (by omega), by omega, hsn⟩⟩
    intro z
    rw [z] at hps
    have : (0 : Nat) = m.toNat := hps
    omega
end
end My

set_option Elab.async false
set_option linter.all false
set_option maxRecDepth 100000
set_option maxHeartbeats 4000000
namespace My
open PySem PySem.Spec PyProof.Rows L2 TL RZ
/-- the words of a deed -/
def Wd (d : PyData) : Prop := (∃ z, d = .str z ∧ isNm z = true) ∨ ∃ i : Int, d = .int i ∧ 0 ≤ i ∧ i < 1000
def Dd (ws : List PyData) : Prop := ws ≠ [] ∧ ws.length ≤ 3 ∧ ∀ d ∈ ws, Wd d
theorem Wd.flt {d : PyData} (h : Wd d) : Flt d := by
  rcases h with ⟨z, rfl, _⟩ | ⟨i, rfl, _⟩
  · exact .str z
  · exact .int i
theorem Dd.flt {ws : List PyData} (h : Dd ws) : Flt (.tuple ws) := .tup fun d hd => (h.2.2 d hd).flt
theorem Wd.s {z : Str} (h : isNm z = true) : Wd (.str z) := .inl ⟨z, rfl, h⟩
theorem Wd.i {i : Int} (h0 : 0 ≤ i) (h1 : i < 1000) : Wd (.int i) := .inr ⟨i, rfl, h0, h1⟩
theorem Dd.one {a : PyData} (ha : Wd a) : Dd [a] := ⟨(fun z => nomatch z), (by show 1 ≤ 3; decide), fun d hd => by rw [List.mem_singleton.mp hd]; exact ha⟩
theorem Dd.two {a b : PyData} (ha : Wd a) (hb : Wd b) : Dd [a, b] := ⟨(fun z => nomatch z), (by show 2 ≤ 3; decide), fun d hd => by
  simp only [List.mem_cons, List.not_mem_nil, or_false] at hd
  rcases hd with rfl | rfl
  · exact ha
  · exact hb⟩
theorem Dd.three {a b c : PyData} (ha : Wd a) (hb : Wd b) (hc : Wd c) : Dd [a, b, c] := ⟨(fun z => nomatch z), (by show 3 ≤ 3; decide), fun d hd => by
  simp only [List.mem_cons, List.not_mem_nil, or_false] at hd
  rcases hd with rfl | rfl | rfl
  · exact ha
  · exact hb
  · exact hc⟩
def HdNm (d : PyData) : Prop := ∃ z ds, d = .tuple (.str z :: ds) ∧ isNm z = true
theorem IsEn.hd {d : PyData} (h : IsEn d) : HdNm d := by
  obtain ⟨z, s, t, n, rfl, hz⟩ := h
  exact ⟨_, _, rfl, hz⟩
theorem IsPl.hd {d : PyData} (h : IsPl d) : HdNm d := by
  obtain ⟨z, n, rfl, hz⟩ := h
  exact ⟨_, _, rfl, hz⟩
theorem pick_hd {K : PySem.W.Frag} {H : Hp} {vs : List V} {es : List PyData} (a : DpAll K H vs es) (h : ∀ e ∈ es, HdNm e) {d : Int} (h0 : 0 ≤ d) (h1 : d.toNat < vs.length) : ∃ (b : Addr) (z : Str) (xs : List V), atI vs d = some (.ref b) ∧ SqT K H b (.str z :: xs) ∧ isNm z = true := by
  have e := List.getElem?_eq_getElem h1
  obtain ⟨dd, ed, dp⟩ := DpAll.at a d.toNat e
  obtain ⟨z, ds, rfl, hz⟩ := h dd (List.mem_of_getElem? ed)
  obtain ⟨b, xs, ev, sq, dx⟩ := Dp.tup_inv dp
  cases dx with
  | cons h1 t =>
    cases h1
    exact ⟨b, z, _, atI_of h0 (by rw [e, ev]), sq, hz⟩
theorem IsRd.okd {d : PyData} (h : IsRd d) : Okd 2 d := by
  obtain ⟨a, b, i, j, rfl, ha, hb⟩ := h
  have lt : ∀ z : Str, isNm z = true → ∀ c ∈ tl z, c < 128 := fun z hz c hc => by
    have := (isNm_sm hz).2.1 c hc
    omega
  refine .tuple (by show 4 ≤ 1000; decide) fun d hd => ?_
  simp only [List.mem_cons, List.not_mem_nil, or_false] at hd
  rcases hd with rfl | rfl | rfl | rfl
  · exact .str (lt _ ha)
  · exact .str (lt _ hb)
  · exact .int _
  · exact .int _
section
variable {P : Program} {w : World} {K : PySem.W.Frag} {mg : Str → Option Value} {base : Heap}
abbrev s_law_deed : Stmt := topS 18
abbrev N_law_deed : List Str := ["_law_bag_here", "_law_told", "_law_engines_here", "_law_calls", "_law_places", "_law_roads", "_law_stations", "_law_name", "_law_call", "_law_way"]
theorem sc_law_deed : FnScope N_law_deed ["_law_bag_here", "_law_told", "_law_engines_here", "_law_calls"] (defScope s_law_deed) := ⟨rfl, rfl, rfl, by decide +kernel, rfl, by decide +kernel, by decide +kernel⟩
def sp_law_deed (K : PySem.W.Frag) : Sp := fun vs H Q _ => ∃ (p c : Addr) (t e : V), vs = [.ref p, t, e, .ref c] ∧ Bag H p ∧ Gd K H t ∧ En K H e ∧ H c = some (.lst []) ∧ c ≠ p ∧ ∀ (H' : Hp) (a : Addr) (ws : List PyData), Sx p H H' → Bag H' p → Dd ws → Dp K H' (.ref a) (.tuple ws) → Q (.ref a) H'
theorem ok_law_deed {f : Addr} {fd : FuncData} (F : Fun K "_law_deed" "_law_deed" s_law_deed f fd) (T : Txt mg) (C_law_take : Cal P w K mg base 1 "_law_take" sp_law_take) (C_law_kind : Cal P w K mg base 2 "_law_kind" sp_law_kind) : FnOk P w K mg base CX0 3 f fd ["_law_bag_here", "_law_told", "_law_engines_here", "_law_calls"] (sp_law_deed K) := by
  refine F.ok sc_law_deed (fun vs H Q E h => ?_) (fun cdv A outer s H vs Q E hr h => ?_)
  · obtain ⟨p, c, t, e, rfl, _⟩ := h
    rfl
  · obtain ⟨p, c, t, e, rfl, hB, ⟨ps, rs, ss, dt, ⟨ps0, ps1, ps2⟩, ⟨rs1, rs2⟩, ⟨ss0, ss1, ss2⟩⟩, ⟨es, de, es0, es1, es2⟩, hc, ncp, q⟩ := h
    obtain ⟨ys, eB⟩ := hB.lst
    obtain ⟨at_, xt, rfl, sqt, dxt⟩ := Dp.tup_inv dt
    obtain ⟨a1, a2, a3, v1, v2, rfl, q1, q2, q3, d1, d2⟩ : ∃ a1 a2 a3 v1 v2, xt = [.ref a1, .ref a2, .ref a3] ∧ SqT K H a1 v1 ∧ SqT K H a2 v2 ∧ SqT K H a3 (ss.map V.str) ∧ DpAll K H v1 ps ∧ DpAll K H v2 rs := by
      cases dxt with
      | cons h1 t1 => cases t1 with
        | cons h2 t2 => cases t2 with
          | cons h3 t3 =>
            cases t3
            obtain ⟨a1, v1, rfl, q1, d1⟩ := Dp.tup_inv h1
            obtain ⟨a2, v2, rfl, q2, d2⟩ := Dp.tup_inv h2
            obtain ⟨a3, v3, rfl, q3, d3⟩ := Dp.tup_inv h3
            rw [DpAll.strs_inv d3] at q3
            exact ⟨a1, a2, a3, v1, v2, rfl, q1, q2, q3, d1, d2⟩
    obtain ⟨ae, ve, rfl, qe, dve⟩ := Dp.tup_inv de
    have l1 := DpAll.len d1
    have l2 := DpAll.len d2
    have le := DpAll.len dve
    have p1 : 0 < ps.length := List.length_pos_iff.mpr ps0
    have p3 : 0 < ss.length := List.length_pos_iff.mpr ss0
    have pe : 0 < es.length := List.length_pos_iff.mpr es0
    have okr : Okd 3 (.tuple rs) := .tuple (by omega) fun d hd => (rs2 d hd).okd
    have oke : Okd 3 (.tuple []) := .tuple (by decide) fun d hd => nomatch hd
    have okl : Okd 3 (.list []) := .list (by decide) fun d hd => nomatch hd
    have K1 : ∀ Hk, Sx p H Hk → SqT K Hk a1 v1 ∧ DpAll K Hk v1 ps := fun Hk x => ⟨SqT.sx q1 x eB, DpAll.sx x eB d1 fun d hd => (ps2 d hd).flt⟩
    have K2 : ∀ Hk, Sx p H Hk → SqT K Hk a2 v2 ∧ DpAll K Hk v2 rs := fun Hk x => ⟨SqT.sx q2 x eB, DpAll.sx x eB d2 fun d hd => (rs2 d hd).flt⟩
    have K3 : ∀ Hk, Sx p H Hk → SqT K Hk a3 (ss.map V.str) := fun Hk x => SqT.sx q3 x eB
    have Ke : ∀ Hk, Sx p H Hk → SqT K Hk ae ve ∧ DpAll K Hk ve es := fun Hk x => ⟨SqT.sx qe x eB, DpAll.sx x eB dve fun d hd => (es2 d hd).flt⟩
    refine ⟨_, (pss_cons (ps_asg (pv 1) (pg_tup rfl (pgs_cons (pg_name (i := 4) sc_law_deed.nd rfl (.inl rfl)) (pgs_cons (pg_name (i := 5) sc_law_deed.nd rfl (.inl rfl)) (pgs_cons (pg_name (i := 6) sc_law_deed.nd rfl (.inl rfl)) pgs_nil)))))
      (pss_cons (ps_set (i := 7) sc_law_deed.nd rfl (.inl rfl) (pe_ix ix_tup (pe_ix ix_tup (pv 2) (pe_cal C_law_take hr (by decide) (by rfl) (pa_cons (pv 0) (pa_cons (pe_callB call_len_seq (by rfl) T.z_len (by decide +kernel) (pa_cons (pv 2) pa_nil)) pa_nil))) (fun _ _ => rfl)) pe_int (fun _ _ => rfl)))
      (pss_cons (ps_set (i := 8) sc_law_deed.nd rfl (.inl rfl) (pe_op op_add pe_int (pe_cal C_law_take hr (by decide) (by rfl) (pa_cons (pv 0) (pa_cons pe_int pa_nil)))))
      (pss_cons (ps_if (PW.pt (pw_and (pt_cmpR (op_neD hr.units) (pv 3) (pe_lst pa_nil) (nomark _)) (pw_and1 (pt_cmpR op_gt (pe_cal C_law_take hr (by decide) (by rfl) (pa_cons (pv 0) (pa_cons pe_int pa_nil))) pe_int (nomark _))))) (pss_one (ps_set (i := 8) sc_law_deed.nd rfl (.inl rfl) (pe_ix ix_list (pv 3) (pe_cal C_law_take hr (by decide) (by rfl) (pa_cons (pv 0) (pa_cons (pe_callB call_len_seq (by rfl) T.z_len (by decide +kernel) (pa_cons (pv 3) pa_nil)) pa_nil))) (fun _ _ => rfl)))) pss_nil)
      (pss_cons (ps_set (i := 9) sc_law_deed.nd rfl (.inl rfl) (pe_cal C_law_take hr (by decide) (by rfl) (pa_cons (pv 0) (pa_cons pe_int pa_nil))))
      (pss_cons (ps_if (pt_cmpR op_lt (pv 9) pe_int (nomark _)) (pss_one (ps_ret (pe_tup (pa_cons pe_str (pa_cons (pe_ix ix_tup (pe_ix ix_tup (pv 4) (pe_cal C_law_take hr (by decide) (by rfl) (pa_cons (pv 0) (pa_cons (pe_callB call_len_seq (by rfl) T.z_len (by decide +kernel) (pa_cons (pv 4) pa_nil)) pa_nil))) (fun _ _ => rfl)) pe_int (fun _ _ => rfl)) (pa_cons (pe_cal C_law_kind hr (by decide) (by rfl) (pa_cons (pv 0) pa_nil)) pa_nil)))))) pss_nil)
      (pss_cons (ps_if (pt_cmpR op_lt (pv 9) pe_int (nomark _)) (pss_one (ps_ret (pe_tup (pa_cons pe_str (pa_cons (pv 7) (pa_cons (pv 8) pa_nil)))))) pss_nil)
      (pss_cons (ps_if (pt_cmpR op_lt (pv 9) pe_int (nomark _)) (pss_one (ps_ret (pe_tup (pa_cons (pe_ix ix_tup (pe_tup (pa_cons pe_str (pa_cons pe_str (pa_cons pe_str (pa_cons pe_str (pa_cons pe_str pa_nil)))))) (pe_op op_sub (pv 9) pe_int) (fun _ _ => rfl)) (pa_cons (pv 7) pa_nil))))) pss_nil)
      (pss_cons (ps_if (pt_cmpR op_lt (pv 9) pe_int (nomark _)) (pss_one (ps_ret (pe_tup (pa_cons (pe_ix ix_tup (pe_tup (pa_cons pe_str (pa_cons pe_str pa_nil))) (pe_op op_sub (pv 9) pe_int) (fun _ _ => rfl)) (pa_cons (pv 7) (pa_cons (pe_ix ix_tup (pv 6) (pe_cal C_law_take hr (by decide) (by rfl) (pa_cons (pv 0) (pa_cons (pe_callB call_len_seq (by rfl) T.z_len (by decide +kernel) (pa_cons (pv 6) pa_nil)) pa_nil))) (fun _ _ => rfl)) pa_nil)))))) pss_nil)
      (pss_cons (ps_if (PW.pt (pw_and (pt_cmpR op_lt (pv 9) pe_int (nomark _)) (pw_and1 (pt_cmpR (op_neD hr.units) (pv 5) (pe_tup pa_nil) (nomark _))))) (pss_one (ps_ret (pe_tup (pa_cons (pe_ix ix_tup (pe_tup (pa_cons pe_str (pa_cons pe_str pa_nil))) (pe_op op_sub (pv 9) pe_int) (fun _ _ => rfl)) (pa_cons (pe_cal C_law_take hr (by decide) (by rfl) (pa_cons (pv 0) (pa_cons (pe_callB call_len_seq (by rfl) T.z_len (by decide +kernel) (pa_cons (pv 5) pa_nil)) pa_nil))) pa_nil))))) pss_nil)
      (pss_one (ps_ret (pe_ix ix_list (pe_lst (pa_cons (pe_tup (pa_cons pe_str (pa_cons (pv 8) pa_nil))) (pa_cons (pe_tup (pa_cons pe_str (pa_cons (pv 8) (pa_cons (pe_op op_add pe_int (pe_cal C_law_take hr (by decide) (by rfl) (pa_cons (pv 0) (pa_cons pe_int pa_nil)))) pa_nil)))) (pa_cons (pe_tup (pa_cons pe_str (pa_cons (pv 8) pa_nil))) (pa_cons (pe_tup (pa_cons pe_str pa_nil)) pa_nil))))) (pe_op op_mod (pv 9) pe_int) (fun _ _ => rfl)))))))))))))), ?_⟩

    refine ⟨_, rfl, at_, _, rfl, sqt, rfl, _, _, rfl, _, _, rfl, _, _, rfl, rfl, ?_⟩
    -- the name
    refine ⟨_, rfl, _, rfl, _, rfl, ae, _, rfl, .inr qe, p, _, rfl, hB, by omega, by omega, fun i1 H1 b0 b1 hB1 k1 => ?_⟩
    have x1 : Sx p H H1 := Sx.of k1
    obtain ⟨be, zn, xe, ae1, sqe, hzn⟩ := pick_hd (Ke H1 x1).2 (fun d hd => (es2 d hd).hd) b0 (by omega)
    refine ⟨ae, _, _, _, rfl, rfl, (Ke H1 x1).1, ae1, be, _, _, _, rfl, rfl, sqe, atI_nat (j := 0) rfl, ?_⟩
    -- the call
    refine ⟨_, rfl, p, 200, rfl, hB1, by decide, by decide, fun i2 H2 c0 c1 hB2 k2 => ?_⟩
    have x2 : Sx p H H2 := x1.trans (Sx.of k2)
    refine ⟨_, _, rfl, rfl, ?_⟩
    refine ⟨_, rfl, Nat.zero_le _, fun ln nln => ?_⟩
    have s3 := same_upd (o := .lst []) nln
    have x3 : Sx p H (upd H2 ln (.lst [])) := x2.trans (Sx.same s3)
    refine ⟨.list [], .list [], .lst (SqL.of (x3 _ _ ncp hc)) .nil, .lst (SqL.of upd_same) .nil, okl.shaped (by decide), okl.shaped (by decide), _, rfl, ?_⟩
    refine iteF' (by rw [eqv_self (okl.shaped (by decide))]; rfl) ?_
    refine iteF ?_
    have hB3 := hB2.same s3
    generalize upd H2 ln (.lst []) = H3 at x3 hB3 ⊢
    refine ⟨_, rfl, p, 19, rfl, hB3, by decide, by decide, fun way H4 e0 e1 hB4 k4 => ?_⟩
    have x4 : Sx p H H4 := x3.trans (Sx.of k4)
    clear k1 k2 k4 x1 x2 x3 s3
    have c2 : (0 : Int) ≤ 1 + i2 ∧ 1 + i2 < 1000 := by omega
    have fin : ∀ (Hk : Hp) (tt : Addr) (vs : List V) (ws : List PyData), Sx p H Hk → Bag Hk p → Hk tt = none → Dd ws → DpAll K (upd Hk tt (.tup vs)) vs ws → Q (.ref tt) (upd Hk tt (.tup vs)) := fun Hk tt vs ws x b n dd da => q _ tt ws (x.trans (Sx.same (same_upd n))) (b.same (same_upd n)) dd (.tup (SqT.of upd_same) da)
    refine ⟨_, rfl, _, _, rfl, rfl, _, rfl, ite2 (fun w1 => ?_) (fun w1 => ?_)⟩
    · refine ⟨_, rfl, _, rfl, _, rfl, a1, _, rfl, .inr (K1 H4 x4).1, p, _, rfl, hB4, by omega, by omega, fun i5 H5 f0 f1 hB5 k5 => ?_⟩
      have x5 : Sx p H H5 := x4.trans (Sx.of k5)
      obtain ⟨bp, zp, xp, ap, sqp, hzp⟩ := pick_hd (K1 H5 x5).2 (fun d hd => (ps2 d hd).hd) f0 (by omega)
      refine ⟨a1, _, _, _, rfl, rfl, (K1 H5 x5).1, ap, bp, _, _, _, rfl, rfl, sqp, atI_nat (j := 0) rfl, ?_⟩
      refine ⟨_, rfl, p, rfl, hB5, fun H6 zk x6 hB6 hzk => ?_⟩
      refine ⟨(by show 3 ≤ sizeLine; decide), fun tt ntt => ?_⟩
      exact fin _ tt _ [.str (Str.ofString "call"), .str zp, .str zk] (x5.trans x6) hB6 ntt (Dd.three (.s (by decide +kernel)) (.s hzp) (.s hzk)) (.cons (.str _) (.cons (.str _) (.cons (.str _) .nil)))
    have v1' : ¬ way < 3 := fun z => w1 (decide_eq_true z)
    refine ⟨_, rfl, _, _, rfl, rfl, _, rfl, ite2 (fun w2 => ?_) (fun w2 => ?_)⟩
    · refine ⟨_, rfl, _, rfl, (by show 3 ≤ sizeLine; decide), fun tt ntt => ?_⟩
      exact fin _ tt _ [.str (Str.ofString "send"), .str zn, .int (1 + i2)] x4 hB4 ntt (Dd.three (.s (by decide +kernel)) (.s hzn) (.i c2.1 c2.2)) (.cons (.str _) (.cons (.str _) (.cons (.int _) .nil)))
    have v2' : ¬ way < 6 := fun z => w2 (decide_eq_true z)
    refine ⟨_, rfl, _, _, rfl, rfl, _, rfl, ite2 (fun w3 => ?_) (fun w3 => ?_)⟩
    · have w3' : way < 11 := of_decide_eq_true w3
      obtain ⟨za, hza, aza⟩ := pick_nm (l := ["there", "back", "home", "off", "on"]) (by decide +kernel) (d := way - 6) (by omega) (show (way - 6).toNat < 5 by omega)
      refine ⟨(by show 5 ≤ sizeLine; decide), fun t5 n5 => ?_⟩
      refine ⟨_, rfl, _, _, rfl, rfl, t5, _, _, _, rfl, rfl, SqT.of (xs := (["there", "back", "home", "off", "on"] : List Str).map V.str) upd_same, aza, _, rfl, (by show 2 ≤ sizeLine; decide), fun tt ntt => ?_⟩
      exact fin _ tt _ [.str za, .str zn] (x4.trans (Sx.same (same_upd n5))) (hB4.same (same_upd n5)) ntt (Dd.two (.s hza) (.s hzn)) (.cons (.str _) (.cons (.str _) .nil))
    have v3' : ¬ way < 11 := fun z => w3 (decide_eq_true z)
    refine ⟨_, rfl, _, _, rfl, rfl, _, rfl, ite2 (fun w4 => ?_) (fun w4 => ?_)⟩
    · have w4' : way < 13 := of_decide_eq_true w4
      obtain ⟨za, hza, aza⟩ := pick_nm (l := ["stand", "lend"]) (by decide +kernel) (d := way - 11) (by omega) (show (way - 11).toNat < 2 by omega)
      refine ⟨(by show 2 ≤ sizeLine; decide), fun t5 n5 => ?_⟩
      have s5 := same_upd (o := .tup ((["stand", "lend"] : List Str).map V.str)) n5
      have x5 := x4.trans (Sx.same s5)
      refine ⟨_, rfl, _, _, rfl, rfl, t5, _, _, _, rfl, rfl, SqT.of (xs := (["stand", "lend"] : List Str).map V.str) upd_same, aza, _, rfl, _, rfl, _, rfl, _, rfl, a3, _, rfl, .inr (K3 _ x5), p, _, rfl, hB4.same s5, ?_, ?_, fun i5 H5 f0 f1 hB5 k5 => ?_⟩
      · rw [List.length_map]; omega
      · rw [List.length_map]; omega
      rw [List.length_map] at f1
      have x6 : Sx p H H5 := x5.trans (Sx.of k5)
      obtain ⟨zs, hzs, azs⟩ := pick_nm ss2 f0 (show i5.toNat < ss.length by omega)
      refine ⟨a3, _, _, _, rfl, rfl, K3 _ x6, azs, (by show 3 ≤ sizeLine; decide), fun tt ntt => ?_⟩
      exact fin _ tt _ [.str za, .str zn, .str zs] x6 hB5 ntt (Dd.three (.s hza) (.s hzn) (.s hzs)) (.cons (.str _) (.cons (.str _) (.cons (.str _) .nil)))
    have v4' : ¬ way < 13 := fun z => w4 (decide_eq_true z)
    refine ⟨_, rfl, _, _, rfl, rfl, _, rfl, ite2 (fun w5 => ?g0) (fun w5 => iteF ?g2)⟩
    case' g0 =>
      have w5' : way < 15 := of_decide_eq_true w5
      refine ⟨_, rfl, Nat.zero_le _, fun te nte => ?_⟩
      have s5 := same_upd (o := .tup []) nte
      have x5 := x4.trans (Sx.same s5)
      refine ⟨.tuple rs, .tuple [], .tup (K2 _ x5).1 (K2 _ x5).2, .tup (SqT.of upd_same) .nil, okr.shaped (by decide), oke.shaped (by decide), _, rfl, ite2 (fun w6 => ?g3) (fun w6 => ?g1)⟩
      case g3 =>
        have hB5 := hB4.same s5
        have p2 : 0 < rs.length := by
          refine List.length_pos_iff.mpr fun z => ?_
          rw [z, eqv_self (oke.shaped (by decide))] at w6
          cases w6
        obtain ⟨za, hza, aza⟩ := pick_nm (l := ["shut", "clear"]) (by decide +kernel) (d := way - 13) (by omega) (show (way - 13).toNat < 2 by omega)
        refine ⟨(by show 2 ≤ sizeLine; decide), fun t5 n5 => ?_⟩
        have s6 := same_upd (o := .tup ((["shut", "clear"] : List Str).map V.str)) n5
        have x6 := x5.trans (Sx.same s6)
        refine ⟨_, rfl, _, _, rfl, rfl, t5, _, _, _, rfl, rfl, SqT.of (xs := (["shut", "clear"] : List Str).map V.str) upd_same, aza, _, rfl, _, rfl, a2, _, rfl, .inr (K2 _ x6).1, p, _, rfl, hB5.same s6, by omega, by omega, fun i5 H5 f0 f1 hB6 k5 => ?_⟩
        refine ⟨(by show 2 ≤ sizeLine; decide), fun tt ntt => ?_⟩
        exact fin _ tt _ [.str za, .int i5] (x6.trans (Sx.of k5)) hB6 ntt (Dd.two (.s hza) (.i f0 (by omega))) (.cons (.str _) (.cons (.int _) .nil))
      case' g1 =>
        have hB5 := hB4.same s5
        generalize upd H4 te (.tup []) = H5 at x5 hB5 ⊢
        clear s5 nte w5 w5' w6
    case' g2 =>
      have x5 := x4
      have hB5 := hB4
      clear w5
      generalize H4 = H5 at x5 hB5 ⊢
    all_goals
      refine ⟨_, rfl, (by show 2 ≤ sizeLine; decide), fun t1 n1 => ?_⟩
      have s1 := same_upd (o := .tup [.str (Str.ofString "again"), .int (1 + i2)]) n1
      refine ⟨_, rfl, _, rfl, p, 20, rfl, hB5.same s1, by decide, by decide, fun i6 H6 f0 f1 hB6 k6 => ?_⟩
      have n1p : t1 ≠ p := hB5.ne n1
      have h1 : H6 t1 = some (.tup [.str (Str.ofString "again"), .int (1 + i2)]) := by rw [k6 t1 n1p]; exact upd_same
      have x6 := x5.trans ((Sx.same s1).trans (Sx.of k6))
      refine ⟨_, _, rfl, rfl, (by show 3 ≤ sizeLine; decide), fun t2 n2 => ?_⟩
      have s2 := same_upd (o := .tup [.str (Str.ofString "make"), .int (1 + i2), .int (1 + i6)]) n2
      refine ⟨_, rfl, (by show 2 ≤ sizeLine; decide), fun t3 n3 => ?_⟩
      have s3 := same_upd (o := .tup [.str (Str.ofString "stop"), .int (1 + i2)]) n3
      refine ⟨(by show 1 ≤ sizeLine; decide), fun t4 n4 => ?_⟩
      have s4 := same_upd (o := .tup [.str (Str.ofString "nothing")]) n4
      refine ⟨(by show 4 ≤ sizeLine; decide), fun ll nll => ?_⟩
      have s5' := same_upd (o := .lst [.ref t1, .ref t2, .ref t3, .ref t4]) nll
      have sA := s2.trans (s3.trans (s4.trans s5'))
      have xA := x6.trans (Sx.same sA)
      have bA := hB6.same sA
      have hw : way % 4 = 0 ∨ way % 4 = 1 ∨ way % 4 = 2 ∨ way % 4 = 3 := by omega
      refine ⟨_, rfl, _, _, rfl, rfl, (by show (0 : Int) < 4; decide), ?_⟩
      rcases hw with h | h | h | h
      · refine ⟨ll, [.ref t1, .ref t2, .ref t3, .ref t4], way % 4, .ref t1, rfl, rfl, SqL.of upd_same, (by rw [h]; rfl), ?_⟩
        exact q _ t1 [.str (Str.ofString "again"), .int (1 + i2)] xA bA (Dd.two (.s (by decide +kernel)) (.i c2.1 c2.2)) (.tup (SqT.of (sA _ _ h1)) (.cons (.str _) (.cons (.int _) .nil)))
      · refine ⟨ll, [.ref t1, .ref t2, .ref t3, .ref t4], way % 4, .ref t2, rfl, rfl, SqL.of upd_same, (by rw [h]; rfl), ?_⟩
        exact q _ t2 [.str (Str.ofString "make"), .int (1 + i2), .int (1 + i6)] xA bA (Dd.three (.s (by decide +kernel)) (.i c2.1 c2.2) (.i (by omega) (by omega))) (.tup (SqT.of (s5' _ _ (s4 _ _ (s3 _ _ upd_same)))) (.cons (.str _) (.cons (.int _) (.cons (.int _) .nil))))
      · refine ⟨ll, [.ref t1, .ref t2, .ref t3, .ref t4], way % 4, .ref t3, rfl, rfl, SqL.of upd_same, (by rw [h]; rfl), ?_⟩
        exact q _ t3 [.str (Str.ofString "stop"), .int (1 + i2)] xA bA (Dd.two (.s (by decide +kernel)) (.i c2.1 c2.2)) (.tup (SqT.of (s5' _ _ (s4 _ _ upd_same))) (.cons (.str _) (.cons (.int _) .nil)))
      · refine ⟨ll, [.ref t1, .ref t2, .ref t3, .ref t4], way % 4, .ref t4, rfl, rfl, SqL.of upd_same, (by rw [h]; rfl), ?_⟩
        exact q _ t4 [.str (Str.ofString "nothing")] xA bA (Dd.one (.s (by decide +kernel))) (.tup (SqT.of (s5' _ _ upd_same)) (.cons (.str _) .nil))
end
end My

set_option Elab.async false
set_option linter.all false
set_option maxRecDepth 100000
set_option maxHeartbeats 4000000
namespace My
open PySem PySem.Spec PyProof.Rows L2 TL RZ
/-- five values at a -/
def F5 (K : PySem.W.Frag) (H : Hp) (a : Addr) (n l e : Int) (ws : List PyData) (r : Int) : Prop := ∃ t, SqT K H a [.int n, .int l, .int e, .ref t, .int r] ∧ Dp K H (.ref t) (.tuple ws)
def B5 (n l e : Int) (ws : List PyData) (r : Int) : Prop := 0 ≤ n ∧ n ≤ 1000 ∧ 0 ≤ l ∧ l < 20000 ∧ 0 ≤ e ∧ e < 20000 ∧ 0 ≤ r ∧ r ≤ 1000 ∧ Dd ws
theorem F5.sx {K : PySem.W.Frag} {H H' : Hp} {p a : Addr} {n l e r : Int} {ws : List PyData} (h : F5 K H a n l e ws r) (x : Sx p H H') (b : Bag H p) (d : Dd ws) : F5 K H' a n l e ws r := by
  obtain ⟨t, q, dp⟩ := h
  obtain ⟨ys, eB⟩ := b.lst
  exact ⟨t, SqT.sx q x eB, Dp.sx x eB dp d.flt⟩
theorem F5.same {K : PySem.W.Frag} {H H' : Hp} {a : Addr} {n l e r : Int} {ws : List PyData} (h : F5 K H a n l e ws r) (sm : Same H H') : F5 K H' a n l e ws r := by
  obtain ⟨t, q, dp⟩ := h
  exact ⟨t, Same.sqT sm q, Dp.same sm dp⟩
section
variable {P : Program} {w : World} {K : PySem.W.Frag} {mg : Str → Option Value} {base : Heap}
abbrev s_law_five : Stmt := topS 23
abbrev N_law_five : List Str := ["_law_bag_here", "_law_told", "_law_engines_here", "_law_what", "_law_late", "_law_early", "_law_place"]
theorem sc_law_five : FnScope N_law_five ["_law_bag_here", "_law_told", "_law_engines_here"] (defScope s_law_five) := ⟨rfl, rfl, rfl, by decide +kernel, rfl, by decide +kernel, by decide +kernel⟩
def sp_law_five (K : PySem.W.Frag) : Sp := fun vs H Q _ => ∃ (p : Addr) (t e : V), vs = [.ref p, t, e] ∧ Bag H p ∧ Gd K H t ∧ En K H e ∧ ∀ (H' : Hp) (a : Addr) (n l e r : Int) (ws : List PyData), Sx p H H' → Bag H' p → B5 n l e ws r → F5 K H' a n l e ws r → Q (.ref a) H'
theorem ok_law_five {f : Addr} {fd : FuncData} (F : Fun K "_law_five" "_law_five" s_law_five f fd) (T : Txt mg) (C_law_take : Cal P w K mg base 1 "_law_take" sp_law_take) (C_law_deed : Cal P w K mg base 3 "_law_deed" (sp_law_deed K)) : FnOk P w K mg base CX0 4 f fd ["_law_bag_here", "_law_told", "_law_engines_here"] (sp_law_five K) := by
  refine F.ok sc_law_five (fun vs H Q E h => ?_) (fun cdv A outer s H vs Q E hr h => ?_)
  · obtain ⟨p, t, e, rfl, _⟩ := h
    rfl
  · obtain ⟨p, t, e, rfl, hB, gd, en, q⟩ := h
    refine ⟨_, (pss_cons (ps_set (i := 3) sc_law_five.nd rfl (.inl rfl) (pe_cal C_law_deed hr (by decide) (by rfl) (pa_cons (pv 0) (pa_cons (pv 1) (pa_cons (pv 2) (pa_cons (pe_lst pa_nil) pa_nil))))))
      (pss_cons (ps_set (i := 4) sc_law_five.nd rfl (.inl rfl) (pe_cal C_law_take hr (by decide) (by rfl) (pa_cons (pv 0) (pa_cons (pe_ix ix_tup (pe_tup (pa_cons pe_int (pa_cons pe_int (pa_cons pe_int pa_nil)))) (pe_cal C_law_take hr (by decide) (by rfl) (pa_cons (pv 0) (pa_cons pe_int pa_nil))) (fun _ _ => rfl)) pa_nil))))
      (pss_cons (ps_set (i := 5) sc_law_five.nd rfl (.inl rfl) (pe_cal C_law_take hr (by decide) (by rfl) (pa_cons (pv 0) (pa_cons (pe_op op_add (pv 4) pe_int) pa_nil))))
      (pss_cons (ps_set (i := 6) sc_law_five.nd rfl (.inl rfl) (pe_op op_add pe_int (pe_cal C_law_take hr (by decide) (by rfl) (pa_cons (pv 0) (pa_cons pe_int pa_nil)))))
      (pss_one (ps_ret (pe_tup (pa_cons (pv 6) (pa_cons (pv 4) (pa_cons (pv 5) (pa_cons (pv 3) (pa_cons (pe_op op_mul (pe_cal C_law_take hr (by decide) (by rfl) (pa_cons (pv 0) (pa_cons (pv 6) pa_nil))) (pe_cal C_law_take hr (by decide) (by rfl) (pa_cons (pv 0) (pa_cons pe_int pa_nil)))) pa_nil)))))))))))), ?_⟩
    refine ⟨_, rfl, _, rfl, _, rfl, Nat.zero_le _, fun c nc => ?_⟩
    have s0 := same_upd (o := .lst []) nc
    refine ⟨p, c, _, _, rfl, hB.same s0, gd.same s0, en.same s0, upd_same, hB.ne nc, fun H1 a ws x1 hB1 dd dp => ?_⟩
    have y1 : Sx p H H1 := (Sx.same s0).trans x1
    refine ⟨_, rfl, (by show 3 ≤ sizeLine; decide), fun t3 n3 => ?_⟩
    have s3 := same_upd (o := .tup [.int 10000, .int 3000, .int 1440]) n3
    refine ⟨_, rfl, p, 3, rfl, hB1.same s3, by decide, by decide, fun d2 H2 b0 b1 hB2 k2 => ?_⟩
    obtain ⟨m, ⟨m0, m1⟩, am⟩ := pick_int (l := [10000, 3000, 1440]) (P := fun m => 1 ≤ m ∧ m ≤ 10000) (by decide) b0 (show d2.toNat < 3 by omega)
    refine ⟨t3, _, d2, _, rfl, rfl, SqT.of (xs := [10000, 3000, 1440].map V.int) (by rw [k2 t3 (hB1.ne n3)]; exact upd_same), am, ?_⟩
    refine ⟨p, m, rfl, hB2, by omega, by omega, fun l H3 c0 c1 hB3 k3 => ?_⟩
    refine ⟨_, rfl, _, rfl, _, _, rfl, rfl, p, l + 1, rfl, hB3, by omega, by omega, fun e4 H4 e0 e1 hB4 k4 => ?_⟩
    refine ⟨_, rfl, p, 200, rfl, hB4, by decide, by decide, fun n5 H5 f0 f1 hB5 k5 => ?_⟩
    refine ⟨_, _, rfl, rfl, ?_⟩
    refine ⟨_, rfl, _, rfl, _, rfl, _, rfl, _, rfl, _, rfl, p, 1 + n5, rfl, hB5, by omega, by omega, fun r6 H6 g0 g1 hB6 k6 => ?_⟩
    refine ⟨_, rfl, p, 2, rfl, hB6, by decide, by decide, fun r7 H7 h0 h1 hB7 k7 => ?_⟩
    refine ⟨_, _, rfl, rfl, .inl ⟨by omega, by omega⟩, (by show 5 ≤ sizeLine; decide), fun tt ntt => ?_⟩
    have x7 : Sx p H1 H7 := (Sx.same s3).trans ((Sx.of k2).trans ((Sx.of k3).trans ((Sx.of k4).trans ((Sx.of k5).trans ((Sx.of k6).trans (Sx.of k7))))))
    have sT := same_upd (o := .tup [.int (1 + n5), .int l, .int e4, .ref a, .int (r6 * r7)]) ntt
    obtain ⟨ys, eB⟩ := hB1.lst
    have hr67 : 0 ≤ r6 * r7 ∧ r6 * r7 ≤ 1000 := by
      have : r7 = 0 ∨ r7 = 1 := by omega
      rcases this with rfl | rfl
      · rw [Int.mul_zero]; omega
      · rw [Int.mul_one]; omega
    exact q _ tt _ _ _ _ ws (y1.trans (x7.trans (Sx.same sT))) (hB7.same sT) ⟨by omega, by omega, by omega, by omega, by omega, by omega, hr67.1, hr67.2, dd⟩ ⟨a, SqT.of upd_same, Dp.same sT (Dp.sx x7 eB dp dd.flt)⟩
abbrev s_law_other : Stmt := topS 24
abbrev N_law_other : List Str := ["_law_bag_here", "_law_five_here", "_law_what", "_law_k", "_law_value"]
theorem sc_law_other : FnScope N_law_other ["_law_bag_here", "_law_five_here", "_law_what"] (defScope s_law_other) := ⟨rfl, rfl, rfl, by decide +kernel, rfl, by decide +kernel, by decide +kernel⟩
def sp_law_other (K : PySem.W.Frag) : Sp := fun vs H Q _ => ∃ (p a wt : Addr) (n l e r : Int) (ws ws2 : List PyData), vs = [.ref p, .ref a, .ref wt] ∧ Bag H p ∧ F5 K H a n l e ws r ∧ B5 n l e ws r ∧ Dp K H (.ref wt) (.tuple ws2) ∧ Dd ws2 ∧ ∀ (H' : Hp) (a : Addr) (n l e r : Int) (ws : List PyData), Sx p H H' → Bag H' p → B5 n l e ws r → F5 K H' a n l e ws r → Q (.ref a) H'
theorem ok_law_other {f : Addr} {fd : FuncData} (F : Fun K "_law_other" "_law_other" s_law_other f fd) (T : Txt mg) (C_law_take : Cal P w K mg base 1 "_law_take" sp_law_take) : FnOk P w K mg base CX0 2 f fd ["_law_bag_here", "_law_five_here", "_law_what"] (sp_law_other K) := by
  refine F.ok sc_law_other (fun vs H Q E h => ?_) (fun cdv A outer s H vs Q E hr h => ?_)
  · obtain ⟨p, a, wt, n, l, e, r, ws, ws2, rfl, _⟩ := h
    rfl
  · obtain ⟨p, a, wt, n, l, e, r, ws, ws2, rfl, hB, h5, b5, dw, dd2, q⟩ := h
    refine ⟨_, (pss_cons (ps_set (i := 3) sc_law_other.nd rfl (.inl rfl) (pe_cal C_law_take hr (by decide) (by rfl) (pa_cons (pv 0) (pa_cons pe_int pa_nil))))
      (pss_cons (ps_set (i := 4) sc_law_other.nd rfl (.inl rfl) (pv 2))
      (pss_cons (ps_if (pt_cmpR op_ne (pv 3) pe_int (nomark _)) (pss_one (ps_set (i := 4) sc_law_other.nd rfl (.inl rfl) (pe_ifExp (pt_cmpR op_lt (pe_ix ix_tup (pv 1) (pv 3) (fun _ _ => rfl)) pe_int (nomark _)) (pe_op op_add (pe_ix ix_tup (pv 1) (pv 3) (fun _ _ => rfl)) pe_int) (pe_op op_sub (pe_op op_sub (pe_ix ix_tup (pv 1) (pv 3) (fun _ _ => rfl)) pe_int) (pe_cal C_law_take hr (by decide) (by rfl) (pa_cons (pv 0) (pa_cons pe_int pa_nil))))))) pss_nil)
      (pss_one (ps_ret (pe_op op_catA (pe_op op_catA (pe_slice sl_tup (pv 1) po_none (po_some (pv 3))) (pe_tup (pa_cons (pv 4) pa_nil))) (pe_slice sl_tup (pv 1) (po_some (pe_op op_add (pv 3) pe_int)) po_none))))))), ?_⟩
    refine ⟨_, rfl, p, 5, rfl, hB, by decide, by decide, fun k H1 k0 k1 hB1 kk => ?_⟩
    have x1 : Sx p H H1 := Sx.of kk
    obtain ⟨t, sq, dt⟩ := h5.sx x1 hB b5.2.2.2.2.2.2.2.2
    obtain ⟨yB, eB⟩ := hB.lst
    have dw1 := Dp.sx x1 eB dw dd2.flt
    obtain ⟨n0, n1, l0, l1, e0, e1, r0, r1, dd⟩ := b5
    have hk : k = 0 ∨ k = 1 ∨ k = 2 ∨ k = 4 ∨ k = 3 := by omega
    rcases hk with rfl | rfl | rfl | rfl | rfl
    · have ne : (!decide (V.int 0 = V.int 3)) = true := by rw [decide_eq_false (fun h => by have := V.int.inj h; omega)]; rfl
      refine ⟨_, rfl, ?_⟩
      refine ⟨_, rfl, rfl, _, rfl, iteT' ne ?_⟩
      have at0 : atI [.int n, .int l, .int e, .ref t, .int r] 0 = some (V.int n) := rfl
      refine ⟨_, rfl, _, rfl, a, _, _, _, rfl, rfl, sq, at0, _, _, rfl, rfl, _, rfl, ite2 (fun w1 => ?_) (fun w1 => ?_)⟩
      · have w1' : n < 200 := of_decide_eq_true w1
        refine ⟨_, rfl, _, rfl, a, _, _, _, rfl, rfl, sq, at0, _, _, rfl, rfl, ?_⟩
        refine ⟨_, rfl, _, rfl, 0, rfl, a, _, rfl, sq, (by show ¬ (HT.sIx 5 0 none = 0 ∧ HT.sIx 5 5 (some 0) = 5); decide), fun s1 m1 => ?_⟩
        have z1 := same_upd (o := .tup []) m1
        refine ⟨_, rfl, (by show 1 ≤ sizeLine; decide), fun s2 m2 => ?_⟩
        have z2 := same_upd (o := .tup [.int (n + 1)]) m2
        refine ⟨s1, s2, [], [.int (n + 1)], rfl, rfl, SqT.of (z2 _ _ upd_same), SqT.of upd_same, (by show 1 ≤ sizeLine; decide), fun _ => ?_, (fun z => absurd rfl z), (fun z => absurd rfl z)⟩
        have z3 := Same.refl (upd (upd H1 s1 (.tup [])) s2 (.tup [.int (n + 1)]))
        refine ⟨_, rfl, _, rfl, _, _, rfl, rfl, 1, rfl, a, _, rfl, Same.sqT (z1.trans (z2.trans z3)) sq, (by show ¬ (HT.sIx 5 0 (some 1) = 0 ∧ HT.sIx 5 5 none = 5); decide), fun s4 m4 => ?_⟩
        have z4 := same_upd (o := .tup [.int l, .int e, .ref t, .int r]) m4
        refine ⟨s2, s4, [.int (n + 1)], [.int l, .int e, .ref t, .int r], rfl, rfl, SqT.of (z4 _ _ upd_same), SqT.of upd_same, (by show 5 ≤ sizeLine; decide), (fun z => nomatch z), (fun _ z => nomatch z), fun _ _ s5 m5 => ?_⟩
        have z5 := same_upd (o := .tup [.int (n + 1), .int l, .int e, .ref t, .int r]) m5
        have zA := z1.trans (z2.trans (z3.trans (z4.trans z5)))
        exact q _ s5 _ _ _ _ _ (x1.trans (Sx.same zA)) (hB1.same zA) ⟨by omega, by omega, by omega, by omega, by omega, by omega, by omega, by omega, dd⟩ ⟨t, SqT.of upd_same, Dp.same zA dt⟩
      · have w1' : ¬ n < 200 := fun z => w1 (decide_eq_true z)
        refine ⟨_, rfl, _, rfl, a, _, _, _, rfl, rfl, sq, at0, _, _, rfl, rfl, _, rfl, p, 9, rfl, hB1, by decide, by decide, fun d2 H2 v0 v1 hB2 k2 => ?_⟩
        have x2 := x1.trans (Sx.of k2)
        obtain ⟨y1, eB1⟩ := hB1.lst
        replace sq := SqT.sx sq (Sx.of k2) eB1
        replace dt := Dp.sx (Sx.of k2) eB1 dt dd.flt
        refine ⟨_, _, rfl, rfl, ?_⟩
        refine ⟨_, rfl, _, rfl, 0, rfl, a, _, rfl, sq, (by show ¬ (HT.sIx 5 0 none = 0 ∧ HT.sIx 5 5 (some 0) = 5); decide), fun s1 m1 => ?_⟩
        have z1 := same_upd (o := .tup []) m1
        refine ⟨_, rfl, (by show 1 ≤ sizeLine; decide), fun s2 m2 => ?_⟩
        have z2 := same_upd (o := .tup [.int (n - 1 - d2)]) m2
        refine ⟨s1, s2, [], [.int (n - 1 - d2)], rfl, rfl, SqT.of (z2 _ _ upd_same), SqT.of upd_same, (by show 1 ≤ sizeLine; decide), fun _ => ?_, (fun z => absurd rfl z), (fun z => absurd rfl z)⟩
        have z3 := Same.refl (upd (upd H2 s1 (.tup [])) s2 (.tup [.int (n - 1 - d2)]))
        refine ⟨_, rfl, _, rfl, _, _, rfl, rfl, 1, rfl, a, _, rfl, Same.sqT (z1.trans (z2.trans z3)) sq, (by show ¬ (HT.sIx 5 0 (some 1) = 0 ∧ HT.sIx 5 5 none = 5); decide), fun s4 m4 => ?_⟩
        have z4 := same_upd (o := .tup [.int l, .int e, .ref t, .int r]) m4
        refine ⟨s2, s4, [.int (n - 1 - d2)], [.int l, .int e, .ref t, .int r], rfl, rfl, SqT.of (z4 _ _ upd_same), SqT.of upd_same, (by show 5 ≤ sizeLine; decide), (fun z => nomatch z), (fun _ z => nomatch z), fun _ _ s5 m5 => ?_⟩
        have z5 := same_upd (o := .tup [.int (n - 1 - d2), .int l, .int e, .ref t, .int r]) m5
        have zA := z1.trans (z2.trans (z3.trans (z4.trans z5)))
        exact q _ s5 _ _ _ _ _ (x2.trans (Sx.same zA)) (hB2.same zA) ⟨by omega, by omega, by omega, by omega, by omega, by omega, by omega, by omega, dd⟩ ⟨t, SqT.of upd_same, Dp.same zA dt⟩
    · have ne : (!decide (V.int 1 = V.int 3)) = true := by rw [decide_eq_false (fun h => by have := V.int.inj h; omega)]; rfl
      refine ⟨_, rfl, ?_⟩
      refine ⟨_, rfl, rfl, _, rfl, iteT' ne ?_⟩
      have at0 : atI [.int n, .int l, .int e, .ref t, .int r] 1 = some (V.int l) := rfl
      refine ⟨_, rfl, _, rfl, a, _, _, _, rfl, rfl, sq, at0, _, _, rfl, rfl, _, rfl, ite2 (fun w1 => ?_) (fun w1 => ?_)⟩
      · have w1' : l < 200 := of_decide_eq_true w1
        refine ⟨_, rfl, _, rfl, a, _, _, _, rfl, rfl, sq, at0, _, _, rfl, rfl, ?_⟩
        refine ⟨_, rfl, _, rfl, 1, rfl, a, _, rfl, sq, (by show ¬ (HT.sIx 5 0 none = 0 ∧ HT.sIx 5 5 (some 1) = 5); decide), fun s1 m1 => ?_⟩
        have z1 := same_upd (o := .tup [.int n]) m1
        refine ⟨_, rfl, (by show 1 ≤ sizeLine; decide), fun s2 m2 => ?_⟩
        have z2 := same_upd (o := .tup [.int (l + 1)]) m2
        refine ⟨s1, s2, [.int n], [.int (l + 1)], rfl, rfl, SqT.of (z2 _ _ upd_same), SqT.of upd_same, (by show 2 ≤ sizeLine; decide), (fun z => nomatch z), (fun _ z => nomatch z), fun _ _ s3 m3 => ?_⟩
        have z3 := same_upd (o := .tup [.int n, .int (l + 1)]) m3
        refine ⟨_, rfl, _, rfl, _, _, rfl, rfl, 2, rfl, a, _, rfl, Same.sqT (z1.trans (z2.trans z3)) sq, (by show ¬ (HT.sIx 5 0 (some 2) = 0 ∧ HT.sIx 5 5 none = 5); decide), fun s4 m4 => ?_⟩
        have z4 := same_upd (o := .tup [.int e, .ref t, .int r]) m4
        refine ⟨s3, s4, [.int n, .int (l + 1)], [.int e, .ref t, .int r], rfl, rfl, SqT.of (z4 _ _ upd_same), SqT.of upd_same, (by show 5 ≤ sizeLine; decide), (fun z => nomatch z), (fun _ z => nomatch z), fun _ _ s5 m5 => ?_⟩
        have z5 := same_upd (o := .tup [.int n, .int (l + 1), .int e, .ref t, .int r]) m5
        have zA := z1.trans (z2.trans (z3.trans (z4.trans z5)))
        exact q _ s5 _ _ _ _ _ (x1.trans (Sx.same zA)) (hB1.same zA) ⟨by omega, by omega, by omega, by omega, by omega, by omega, by omega, by omega, dd⟩ ⟨t, SqT.of upd_same, Dp.same zA dt⟩
      · have w1' : ¬ l < 200 := fun z => w1 (decide_eq_true z)
        refine ⟨_, rfl, _, rfl, a, _, _, _, rfl, rfl, sq, at0, _, _, rfl, rfl, _, rfl, p, 9, rfl, hB1, by decide, by decide, fun d2 H2 v0 v1 hB2 k2 => ?_⟩
        have x2 := x1.trans (Sx.of k2)
        obtain ⟨y1, eB1⟩ := hB1.lst
        replace sq := SqT.sx sq (Sx.of k2) eB1
        replace dt := Dp.sx (Sx.of k2) eB1 dt dd.flt
        refine ⟨_, _, rfl, rfl, ?_⟩
        refine ⟨_, rfl, _, rfl, 1, rfl, a, _, rfl, sq, (by show ¬ (HT.sIx 5 0 none = 0 ∧ HT.sIx 5 5 (some 1) = 5); decide), fun s1 m1 => ?_⟩
        have z1 := same_upd (o := .tup [.int n]) m1
        refine ⟨_, rfl, (by show 1 ≤ sizeLine; decide), fun s2 m2 => ?_⟩
        have z2 := same_upd (o := .tup [.int (l - 1 - d2)]) m2
        refine ⟨s1, s2, [.int n], [.int (l - 1 - d2)], rfl, rfl, SqT.of (z2 _ _ upd_same), SqT.of upd_same, (by show 2 ≤ sizeLine; decide), (fun z => nomatch z), (fun _ z => nomatch z), fun _ _ s3 m3 => ?_⟩
        have z3 := same_upd (o := .tup [.int n, .int (l - 1 - d2)]) m3
        refine ⟨_, rfl, _, rfl, _, _, rfl, rfl, 2, rfl, a, _, rfl, Same.sqT (z1.trans (z2.trans z3)) sq, (by show ¬ (HT.sIx 5 0 (some 2) = 0 ∧ HT.sIx 5 5 none = 5); decide), fun s4 m4 => ?_⟩
        have z4 := same_upd (o := .tup [.int e, .ref t, .int r]) m4
        refine ⟨s3, s4, [.int n, .int (l - 1 - d2)], [.int e, .ref t, .int r], rfl, rfl, SqT.of (z4 _ _ upd_same), SqT.of upd_same, (by show 5 ≤ sizeLine; decide), (fun z => nomatch z), (fun _ z => nomatch z), fun _ _ s5 m5 => ?_⟩
        have z5 := same_upd (o := .tup [.int n, .int (l - 1 - d2), .int e, .ref t, .int r]) m5
        have zA := z1.trans (z2.trans (z3.trans (z4.trans z5)))
        exact q _ s5 _ _ _ _ _ (x2.trans (Sx.same zA)) (hB2.same zA) ⟨by omega, by omega, by omega, by omega, by omega, by omega, by omega, by omega, dd⟩ ⟨t, SqT.of upd_same, Dp.same zA dt⟩
    · have ne : (!decide (V.int 2 = V.int 3)) = true := by rw [decide_eq_false (fun h => by have := V.int.inj h; omega)]; rfl
      refine ⟨_, rfl, ?_⟩
      refine ⟨_, rfl, rfl, _, rfl, iteT' ne ?_⟩
      have at0 : atI [.int n, .int l, .int e, .ref t, .int r] 2 = some (V.int e) := rfl
      refine ⟨_, rfl, _, rfl, a, _, _, _, rfl, rfl, sq, at0, _, _, rfl, rfl, _, rfl, ite2 (fun w1 => ?_) (fun w1 => ?_)⟩
      · have w1' : e < 200 := of_decide_eq_true w1
        refine ⟨_, rfl, _, rfl, a, _, _, _, rfl, rfl, sq, at0, _, _, rfl, rfl, ?_⟩
        refine ⟨_, rfl, _, rfl, 2, rfl, a, _, rfl, sq, (by show ¬ (HT.sIx 5 0 none = 0 ∧ HT.sIx 5 5 (some 2) = 5); decide), fun s1 m1 => ?_⟩
        have z1 := same_upd (o := .tup [.int n, .int l]) m1
        refine ⟨_, rfl, (by show 1 ≤ sizeLine; decide), fun s2 m2 => ?_⟩
        have z2 := same_upd (o := .tup [.int (e + 1)]) m2
        refine ⟨s1, s2, [.int n, .int l], [.int (e + 1)], rfl, rfl, SqT.of (z2 _ _ upd_same), SqT.of upd_same, (by show 3 ≤ sizeLine; decide), (fun z => nomatch z), (fun _ z => nomatch z), fun _ _ s3 m3 => ?_⟩
        have z3 := same_upd (o := .tup [.int n, .int l, .int (e + 1)]) m3
        refine ⟨_, rfl, _, rfl, _, _, rfl, rfl, 3, rfl, a, _, rfl, Same.sqT (z1.trans (z2.trans z3)) sq, (by show ¬ (HT.sIx 5 0 (some 3) = 0 ∧ HT.sIx 5 5 none = 5); decide), fun s4 m4 => ?_⟩
        have z4 := same_upd (o := .tup [.ref t, .int r]) m4
        refine ⟨s3, s4, [.int n, .int l, .int (e + 1)], [.ref t, .int r], rfl, rfl, SqT.of (z4 _ _ upd_same), SqT.of upd_same, (by show 5 ≤ sizeLine; decide), (fun z => nomatch z), (fun _ z => nomatch z), fun _ _ s5 m5 => ?_⟩
        have z5 := same_upd (o := .tup [.int n, .int l, .int (e + 1), .ref t, .int r]) m5
        have zA := z1.trans (z2.trans (z3.trans (z4.trans z5)))
        exact q _ s5 _ _ _ _ _ (x1.trans (Sx.same zA)) (hB1.same zA) ⟨by omega, by omega, by omega, by omega, by omega, by omega, by omega, by omega, dd⟩ ⟨t, SqT.of upd_same, Dp.same zA dt⟩
      · have w1' : ¬ e < 200 := fun z => w1 (decide_eq_true z)
        refine ⟨_, rfl, _, rfl, a, _, _, _, rfl, rfl, sq, at0, _, _, rfl, rfl, _, rfl, p, 9, rfl, hB1, by decide, by decide, fun d2 H2 v0 v1 hB2 k2 => ?_⟩
        have x2 := x1.trans (Sx.of k2)
        obtain ⟨y1, eB1⟩ := hB1.lst
        replace sq := SqT.sx sq (Sx.of k2) eB1
        replace dt := Dp.sx (Sx.of k2) eB1 dt dd.flt
        refine ⟨_, _, rfl, rfl, ?_⟩
        refine ⟨_, rfl, _, rfl, 2, rfl, a, _, rfl, sq, (by show ¬ (HT.sIx 5 0 none = 0 ∧ HT.sIx 5 5 (some 2) = 5); decide), fun s1 m1 => ?_⟩
        have z1 := same_upd (o := .tup [.int n, .int l]) m1
        refine ⟨_, rfl, (by show 1 ≤ sizeLine; decide), fun s2 m2 => ?_⟩
        have z2 := same_upd (o := .tup [.int (e - 1 - d2)]) m2
        refine ⟨s1, s2, [.int n, .int l], [.int (e - 1 - d2)], rfl, rfl, SqT.of (z2 _ _ upd_same), SqT.of upd_same, (by show 3 ≤ sizeLine; decide), (fun z => nomatch z), (fun _ z => nomatch z), fun _ _ s3 m3 => ?_⟩
        have z3 := same_upd (o := .tup [.int n, .int l, .int (e - 1 - d2)]) m3
        refine ⟨_, rfl, _, rfl, _, _, rfl, rfl, 3, rfl, a, _, rfl, Same.sqT (z1.trans (z2.trans z3)) sq, (by show ¬ (HT.sIx 5 0 (some 3) = 0 ∧ HT.sIx 5 5 none = 5); decide), fun s4 m4 => ?_⟩
        have z4 := same_upd (o := .tup [.ref t, .int r]) m4
        refine ⟨s3, s4, [.int n, .int l, .int (e - 1 - d2)], [.ref t, .int r], rfl, rfl, SqT.of (z4 _ _ upd_same), SqT.of upd_same, (by show 5 ≤ sizeLine; decide), (fun z => nomatch z), (fun _ z => nomatch z), fun _ _ s5 m5 => ?_⟩
        have z5 := same_upd (o := .tup [.int n, .int l, .int (e - 1 - d2), .ref t, .int r]) m5
        have zA := z1.trans (z2.trans (z3.trans (z4.trans z5)))
        exact q _ s5 _ _ _ _ _ (x2.trans (Sx.same zA)) (hB2.same zA) ⟨by omega, by omega, by omega, by omega, by omega, by omega, by omega, by omega, dd⟩ ⟨t, SqT.of upd_same, Dp.same zA dt⟩
    · have ne : (!decide (V.int 4 = V.int 3)) = true := by rw [decide_eq_false (fun h => by have := V.int.inj h; omega)]; rfl
      refine ⟨_, rfl, ?_⟩
      refine ⟨_, rfl, rfl, _, rfl, iteT' ne ?_⟩
      have at0 : atI [.int n, .int l, .int e, .ref t, .int r] 4 = some (V.int r) := rfl
      refine ⟨_, rfl, _, rfl, a, _, _, _, rfl, rfl, sq, at0, _, _, rfl, rfl, _, rfl, ite2 (fun w1 => ?_) (fun w1 => ?_)⟩
      · have w1' : r < 200 := of_decide_eq_true w1
        refine ⟨_, rfl, _, rfl, a, _, _, _, rfl, rfl, sq, at0, _, _, rfl, rfl, ?_⟩
        refine ⟨_, rfl, _, rfl, 4, rfl, a, _, rfl, sq, (by show ¬ (HT.sIx 5 0 none = 0 ∧ HT.sIx 5 5 (some 4) = 5); decide), fun s1 m1 => ?_⟩
        have z1 := same_upd (o := .tup [.int n, .int l, .int e, .ref t]) m1
        refine ⟨_, rfl, (by show 1 ≤ sizeLine; decide), fun s2 m2 => ?_⟩
        have z2 := same_upd (o := .tup [.int (r + 1)]) m2
        refine ⟨s1, s2, [.int n, .int l, .int e, .ref t], [.int (r + 1)], rfl, rfl, SqT.of (z2 _ _ upd_same), SqT.of upd_same, (by show 5 ≤ sizeLine; decide), (fun z => nomatch z), (fun _ z => nomatch z), fun _ _ s3 m3 => ?_⟩
        have z3 := same_upd (o := .tup [.int n, .int l, .int e, .ref t, .int (r + 1)]) m3
        refine ⟨_, rfl, _, rfl, _, _, rfl, rfl, 5, rfl, a, _, rfl, Same.sqT (z1.trans (z2.trans z3)) sq, (by show ¬ (HT.sIx 5 0 (some 5) = 0 ∧ HT.sIx 5 5 none = 5); decide), fun s4 m4 => ?_⟩
        have z4 := same_upd (o := .tup []) m4
        refine ⟨s3, s4, [.int n, .int l, .int e, .ref t, .int (r + 1)], [], rfl, rfl, SqT.of (z4 _ _ upd_same), SqT.of upd_same, (by show 5 ≤ sizeLine; decide), (fun z => nomatch z), (fun _ _ => ?_), (fun _ z => absurd rfl z)⟩
        have zA := z1.trans (z2.trans (z3.trans z4))
        exact q _ s3 _ _ _ _ _ (x1.trans (Sx.same zA)) (hB1.same zA) ⟨by omega, by omega, by omega, by omega, by omega, by omega, by omega, by omega, dd⟩ ⟨t, SqT.of (z4 _ _ upd_same), Dp.same zA dt⟩
      · have w1' : ¬ r < 200 := fun z => w1 (decide_eq_true z)
        refine ⟨_, rfl, _, rfl, a, _, _, _, rfl, rfl, sq, at0, _, _, rfl, rfl, _, rfl, p, 9, rfl, hB1, by decide, by decide, fun d2 H2 v0 v1 hB2 k2 => ?_⟩
        have x2 := x1.trans (Sx.of k2)
        obtain ⟨y1, eB1⟩ := hB1.lst
        replace sq := SqT.sx sq (Sx.of k2) eB1
        replace dt := Dp.sx (Sx.of k2) eB1 dt dd.flt
        refine ⟨_, _, rfl, rfl, ?_⟩
        refine ⟨_, rfl, _, rfl, 4, rfl, a, _, rfl, sq, (by show ¬ (HT.sIx 5 0 none = 0 ∧ HT.sIx 5 5 (some 4) = 5); decide), fun s1 m1 => ?_⟩
        have z1 := same_upd (o := .tup [.int n, .int l, .int e, .ref t]) m1
        refine ⟨_, rfl, (by show 1 ≤ sizeLine; decide), fun s2 m2 => ?_⟩
        have z2 := same_upd (o := .tup [.int (r - 1 - d2)]) m2
        refine ⟨s1, s2, [.int n, .int l, .int e, .ref t], [.int (r - 1 - d2)], rfl, rfl, SqT.of (z2 _ _ upd_same), SqT.of upd_same, (by show 5 ≤ sizeLine; decide), (fun z => nomatch z), (fun _ z => nomatch z), fun _ _ s3 m3 => ?_⟩
        have z3 := same_upd (o := .tup [.int n, .int l, .int e, .ref t, .int (r - 1 - d2)]) m3
        refine ⟨_, rfl, _, rfl, _, _, rfl, rfl, 5, rfl, a, _, rfl, Same.sqT (z1.trans (z2.trans z3)) sq, (by show ¬ (HT.sIx 5 0 (some 5) = 0 ∧ HT.sIx 5 5 none = 5); decide), fun s4 m4 => ?_⟩
        have z4 := same_upd (o := .tup []) m4
        refine ⟨s3, s4, [.int n, .int l, .int e, .ref t, .int (r - 1 - d2)], [], rfl, rfl, SqT.of (z4 _ _ upd_same), SqT.of upd_same, (by show 5 ≤ sizeLine; decide), (fun z => nomatch z), (fun _ _ => ?_), (fun _ z => absurd rfl z)⟩
        have zA := z1.trans (z2.trans (z3.trans z4))
        exact q _ s3 _ _ _ _ _ (x2.trans (Sx.same zA)) (hB2.same zA) ⟨by omega, by omega, by omega, by omega, by omega, by omega, by omega, by omega, dd⟩ ⟨t, SqT.of (z4 _ _ upd_same), Dp.same zA dt⟩
    · refine ⟨_, rfl, ?_⟩
      refine ⟨_, rfl, rfl, _, rfl, iteF' (by rw [decide_eq_true rfl]; rfl) ?_⟩
      refine ⟨_, rfl, _, rfl, 3, rfl, a, _, rfl, sq, (by show ¬ (HT.sIx 5 0 none = 0 ∧ HT.sIx 5 5 (some 3) = 5); decide), fun s1 m1 => ?_⟩
      have z1 := same_upd (o := .tup [.int n, .int l, .int e]) m1
      refine ⟨_, rfl, (by show 1 ≤ sizeLine; decide), fun s2 m2 => ?_⟩
      have z2 := same_upd (o := .tup [.ref wt]) m2
      refine ⟨s1, s2, [.int n, .int l, .int e], [.ref wt], rfl, rfl, SqT.of (z2 _ _ upd_same), SqT.of upd_same, (by show 4 ≤ sizeLine; decide), (fun z => nomatch z), (fun _ z => nomatch z), fun _ _ s3 m3 => ?_⟩
      have z3 := same_upd (o := .tup [.int n, .int l, .int e, .ref wt]) m3
      refine ⟨_, rfl, _, rfl, _, _, rfl, rfl, 4, rfl, a, _, rfl, Same.sqT (z1.trans (z2.trans z3)) sq, (by show ¬ (HT.sIx 5 0 (some 4) = 0 ∧ HT.sIx 5 5 none = 5); decide), fun s4 m4 => ?_⟩
      have z4 := same_upd (o := .tup [.int r]) m4
      refine ⟨s3, s4, [.int n, .int l, .int e, .ref wt], [.int r], rfl, rfl, SqT.of (z4 _ _ upd_same), SqT.of upd_same, (by show 5 ≤ sizeLine; decide), (fun z => nomatch z), (fun _ z => nomatch z), fun _ _ s5 m5 => ?_⟩
      have z5 := same_upd (o := .tup [.int n, .int l, .int e, .ref wt, .int r]) m5
      have zA := z1.trans (z2.trans (z3.trans (z4.trans z5)))
      exact q _ s5 _ _ _ _ _ (x1.trans (Sx.same zA)) (hB1.same zA) ⟨by omega, by omega, by omega, by omega, by omega, by omega, by omega, by omega, dd2⟩ ⟨wt, SqT.of upd_same, Dp.same zA dw1⟩
end
end My

set_option Elab.async false
set_option linter.all false
set_option maxRecDepth 100000
set_option maxHeartbeats 4000000
namespace My
open PySem PySem.Spec PyProof.Rows L2 TL RZ
open Builtin in
/-- two figures -/
def two (i : Int) : Str := if i < 10 then Str.ofString "0" ++ Str.ofString (toString i) else Str.ofString (toString i)
open Builtin in
theorem gives02 {a : Int} (h0 : 0 ≤ a) (h1 : a < 100) (t u : Tok) : Gives («int.__format__» ⟨[.int a t, .str (Str.ofString "02d") u], []⟩) (.str (two a)) := by
  intro prog w A R s hq
  show wpAny _ _ (do
    let _kind ← typeNameOf (.str (Str.ofString "02d") u)
    (do let name ← typeNameOfCut 200 (.int a t)
        _)) _ _ _
  refine wpAny_bind (wpAny_typeNameOf (T := "str") (typeIs_str _ _ _) (by decide) fun _ => ?_)
  refine wpAny_bind (wpAny_typeNameOfCut_int ?_)
  obtain ⟨n, rfl⟩ : ∃ n : Nat, a = n := ⟨a.toNat, (Int.toNat_of_nonneg h0).symm⟩
  have hn : n < 100 := by omega
  clear h0 h1
  show wpAny _ _ (do let r ← overDigitLimit? (n : Int); _) _ _ _
  have hl : ((n : Int)).natAbs.log2 < 1920 := by
    have e : ((n : Int)).natAbs = n := rfl
    rw [e]
    exact Nat.lt_of_le_of_lt (Nat.log2_le_self n) (by omega)
  rw [PySem.overDigitLimit_small hl]
  have key : ∀ z : Str, z = two (n : Int) → wpAny (model prog w) A.in1 (retStr z) (fun fin s' => match fin with | .done f => R (.ok f) s' | .again c' => c'.quiet = true ∧ codeAny (model prog w) A c' R s') (fun e s' => R (.error e) s') s := fun z e => by
    subst e
    exact Gives.of_eq (m := .str (two n)) rfl prog w A R s hq
  refine key _ ?_
  clear hq hl key
  revert n
  decide +kernel
theorem two_len {i : Int} (h0 : 0 ≤ i) (h1 : i < 100) : (two i).length = 2 := by
  obtain ⟨n, rfl⟩ : ∃ n : Nat, i = n := ⟨i.toNat, (Int.toNat_of_nonneg h0).symm⟩
  have hn : n < 100 := by omega
  clear h0 h1
  revert n
  decide +kernel
section
variable {X : Cx} {e o : Expr} {te to : TE}
/-- {x:02d}, x from 0 to 99 -/
def tFmt02 (te : TE) : TE := fun σ H Q => te σ H fun x H1 => ∃ i : Int, x = .int i ∧ 0 ≤ i ∧ i < 100 ∧ Q (.str (two i)) H1
theorem pe_fmt02 {j : Nat} {p1 p2 pos : Pos} (he : PE X e te) : PE X (.FormattedValue e (-1) (some (.JoinedStr [.Constant (.str (Str.ofString "02d")) j p1] p2)) pos) (tFmt02 te) := by
  refine ⟨fun pins s σ H Q I h => ?_⟩
  refine wpAny_FormattedValue_spec (thn (he.run pins s σ H _ I h) fun v s1 hv => ?_)
  obtain ⟨x, H1, I1, r1, i, rfl, h0, h1, q⟩ := hv
  obtain ⟨t, rfl⟩ := r1
  refine wpAny_JoinedStr_one (Calls.Constant_str ?_)
  refine ⟨_, _, rfl, ?_⟩
  exact wpAny_formatField_spec (T := "int") (by decide) (fun s' => typeIs_int s' i t) PySem.F.slot_int_format PySem.F.entry_int_format PySem.F.args_int_format_2 (fun u => gives02 h0 h1 t u) ⟨.str (two i), H1, (I1.tok _), ⟨_, rfl⟩, q⟩ (by decide) (by rw [two_len h0 h1]; decide)
end
def tx (m : Int) : Str := Str.ofString (toString (m / 1440)) ++ Str.ofString " " ++ two (m % 1440 / 60) ++ Str.ofString ":" ++ two (m % 60)
section
variable {P : Program} {w : World} {K : PySem.W.Frag} {mg : Str → Option Value} {base : Heap}
abbrev s_hour_of : Stmt := topS 5
abbrev N_hour_of : List Str := ["minute"]
theorem sc_hour_of : FnScope N_hour_of ["minute"] (defScope s_hour_of) := ⟨rfl, rfl, rfl, by decide +kernel, rfl, by decide +kernel, by decide +kernel⟩
def sp_hour_of : Sp := fun vs H Q _ => ∃ m : Int, vs = [.int m] ∧ Q (.int (m % 1440 / 60)) H
theorem ok_hour_of {f : Addr} {fd : FuncData} {k : Nat} (F : Fun K "hour_of" "hour_of" s_hour_of f fd) (T : Txt mg) : FnOk P w K mg base CX0 (k + 1) f fd ["minute"] sp_hour_of := by
  refine F.ok sc_hour_of (fun vs H Q E h => ?_) (fun cdv A outer s H vs Q E hr h => ?_)
  · obtain ⟨m, rfl, _⟩ := h
    rfl
  · obtain ⟨m, rfl, q⟩ := h
    refine ⟨_, (pss_one (ps_ret (pe_op op_fdiv (pe_op op_mod (pv 0) (pe_glob' T.g_MINUTES_OF_DAY (by rfl))) (pe_glob' T.g_MINUTES_OF_HOUR (by rfl))))), ?_⟩
    exact ⟨_, rfl, _, _, rfl, rfl, (by show (0 : Int) < 1440; decide), _, _, rfl, rfl, ⟨by decide, by decide⟩, q⟩
abbrev s_shown : Stmt := topS 6
abbrev N_shown : List Str := ["minute", "day", "rest"]
theorem sc_shown : FnScope N_shown ["minute"] (defScope s_shown) := ⟨rfl, rfl, rfl, by decide +kernel, rfl, by decide +kernel, by decide +kernel⟩
theorem small_log {n : Nat} (h : n < 100000) : n.log2 < 1920 := by
  by_cases z : n = 0
  · rw [z]; decide
  · exact (Nat.log2_lt z).mpr (Nat.lt_of_lt_of_le h (by decide))
theorem day_len {i : Int} (h0 : 0 ≤ i) (h1 : i < 100) : (Str.ofString (toString i)).length ≤ 2 := by
  obtain ⟨n, rfl⟩ : ∃ n : Nat, i = n := ⟨i.toNat, (Int.toNat_of_nonneg h0).symm⟩
  have hn : n < 100 := by omega
  clear h0 h1
  revert n
  decide +kernel
theorem empty_app (a : Str) : Str.empty ++ a = a := by
  show (⟨#[] ++ a.cps⟩ : Str) = a
  rw [Array.empty_append]
theorem tx_len {m : Int} (h0 : 0 ≤ m) (h1 : m < 100000) : (tx m).length ≤ 8 := by
  have l1 := day_len (i := m / 1440) (by omega) (by omega)
  have l2 := two_len (i := m % 1440 / 60) (by omega) (by omega)
  have l3 := two_len (i := m % 60) (by omega) (by omega)
  have l4 : (Str.ofString " ").length = 1 := by decide
  have l5 : (Str.ofString ":").length = 1 := by decide
  unfold tx
  rw [str_app, str_app, str_app, str_app]
  omega
def sp_shown : Sp := fun vs H Q _ => ∃ m : Int, vs = [.int m] ∧ 0 ≤ m ∧ m < 100000 ∧ Q (.str (tx m)) H
theorem ok_shown {f : Addr} {fd : FuncData} {k : Nat} (F : Fun K "shown" "shown" s_shown f fd) (T : Txt mg) (C_hour_of : Cal P w K mg base 1 "hour_of" sp_hour_of) : FnOk P w K mg base CX0 2 f fd ["minute"] sp_shown := by
  refine F.ok sc_shown (fun vs H Q E h => ?_) (fun cdv A outer s H vs Q E hr h => ?_)
  · obtain ⟨m, rfl, _⟩ := h
    rfl
  · obtain ⟨m, rfl, h0, h1, q⟩ := h
    refine ⟨_, (pss_cons (ps_set (i := 1) sc_shown.nd rfl (.inl rfl) (pe_op op_fdiv (pv 0) (pe_glob' T.g_MINUTES_OF_DAY (by rfl))))
      (pss_cons (ps_set (i := 2) sc_shown.nd rfl (.inl rfl) (pe_op op_mod (pv 0) (pe_glob' T.g_MINUTES_OF_HOUR (by rfl))))
      (pss_one (ps_ret (pe_joined (PJ.cons (pe_fmt (pv 1)) (PJ.cons pe_str (PJ.cons (pe_fmt02 (pe_cal C_hour_of hr (by decide) (by rfl) (pa_cons (pv 0) pa_nil))) (PJ.cons pe_str (PJ.cons (pe_fmt02 (pv 2)) PJ.nil)))))))))), ?_⟩
    refine ⟨_, rfl, _, _, rfl, rfl, ⟨by decide, by decide⟩, ?_⟩
    refine ⟨_, rfl, _, _, rfl, rfl, (by show (0 : Int) < 60; decide), ?_⟩
    have l1 := day_len (i := m / 1440) (by omega) (by omega)
    have l2 := two_len (i := m % 1440 / 60) (by omega) (by omega)
    have l3 := two_len (i := m % 60) (by omega) (by omega)
    have l4 : (Str.ofString " ").length = 1 := by decide
    have l5 : (Str.ofString ":").length = 1 := by decide
    have l0 : Str.empty.length = 0 := by decide
    have hs : 100 ≤ sizeLine := by decide
    refine ⟨_, rfl, .inr ⟨m / 1440, rfl, small_log (by omega), _, rfl, ?_, _, rfl, ?_, ?_⟩⟩
    · rw [str_app, l0]; exact Nat.le_trans (by omega) hs
    · rw [str_app, str_app, l0, l4]; exact Nat.le_trans (by omega) hs
    · refine ⟨_, rfl, m, rfl, m % 1440 / 60, rfl, by omega, by omega, _, rfl, ?_, _, rfl, ?_, ?_⟩
      · rw [str_app, str_app, str_app, l0, l4]; exact Nat.le_trans (by omega) hs
      · rw [str_app, str_app, str_app, str_app, l0, l4, l5]; exact Nat.le_trans (by omega) hs
      · refine ⟨_, rfl, m % 60, rfl, by omega, by omega, _, rfl, ?_, ?_⟩
        · rw [str_app, str_app, str_app, str_app, str_app, l0, l4, l5]; exact Nat.le_trans (by omega) hs
        · rw [empty_app]
          exact q

theorem cut2 {m : Int} (h0 : 0 ≤ m) (h1 : m < 60) : cutS (Str.ofString "0" ++ Str.ofString (toString m)) (some (-2)) none = two m := by
  obtain ⟨n, rfl⟩ : ∃ n : Nat, m = n := ⟨m.toNat, (Int.toNat_of_nonneg h0).symm⟩
  have hn : n < 60 := by omega
  clear h0 h1
  revert n
  decide +kernel
abbrev s_law_shown : Stmt := topS 21
abbrev N_law_shown : List Str := ["_law_minute", "_law_hour", "_law_rest"]
theorem sc_law_shown : FnScope N_law_shown ["_law_minute"] (defScope s_law_shown) := ⟨rfl, rfl, rfl, by decide +kernel, rfl, by decide +kernel, by decide +kernel⟩
theorem ok_law_shown {f : Addr} {fd : FuncData} {k : Nat} (F : Fun K "_law_shown" "_law_shown" s_law_shown f fd) (T : Txt mg) : FnOk P w K mg base CX0 (k + 1) f fd ["_law_minute"] sp_shown := by
  refine F.ok sc_law_shown (fun vs H Q E h => ?_) (fun cdv A outer s H vs Q E hr h => ?_)
  · obtain ⟨m, rfl, _⟩ := h
    rfl
  · obtain ⟨m, rfl, h0, h1, q⟩ := h
    refine ⟨_, (pss_cons (ps_par (i := 1) (j := 2) (by rfl) sc_law_shown.nd rfl rfl (by decide) rfl rfl (pa_cons (pe_op op_fdiv (pe_op op_mod (pv 0) pe_int) pe_int) (pa_cons (pe_op op_mod (pv 0) pe_int) pa_nil)) (by rfl))
      (pss_one (ps_ret (pe_op op_add_str (pe_op op_add_str (pe_op op_add_str (pe_op op_add_str (pe_callTy call_str_int (by rfl) T.z_str (by decide +kernel) (pa_cons (pe_op op_fdiv (pv 0) pe_int) pa_nil)) pe_str) (pe_slice sl_str (pe_op op_add_str pe_str (pe_callTy call_str_int (by rfl) T.z_str (by decide +kernel) (pa_cons (pv 1) pa_nil))) (po_some (pe_un un_neg pe_int)) po_none)) pe_str) (pe_slice sl_str (pe_op op_add_str pe_str (pe_callTy call_str_int (by rfl) T.z_str (by decide +kernel) (pa_cons (pv 2) pa_nil))) (po_some (pe_un un_neg pe_int)) po_none))))), ?_⟩
    have l1 := day_len (i := m / 1440) (by omega) (by omega)
    have l2 := two_len (i := m % 1440 / 60) (by omega) (by omega)
    have l3 := two_len (i := m % 60) (by omega) (by omega)
    have l6 := day_len (i := m % 1440 / 60) (by omega) (by omega)
    have l7 := day_len (i := m % 60) (by omega) (by omega)
    have l4 : (Str.ofString " ").length = 1 := by decide
    have l5 : (Str.ofString ":").length = 1 := by decide
    have l8 : (Str.ofString "0").length = 1 := by decide
    have hs : 100 ≤ sizeLine := by decide
    refine ⟨_, rfl, _, _, rfl, rfl, (by show (0 : Int) < 1440; decide), _, _, rfl, rfl, ⟨by decide, by decide⟩, _, rfl, _, _, rfl, rfl, (by show (0 : Int) < 60; decide), _, _, rfl, ?_⟩
    refine ⟨_, rfl, _, _, rfl, rfl, ⟨by decide, by decide⟩, m / 1440, rfl, small_log (by omega), _, _, rfl, rfl, ?_, ?_⟩
    · exact Nat.le_trans (by omega) hs
    refine ⟨_, rfl, m % 1440 / 60, rfl, small_log (by omega), _, _, rfl, rfl, ?_, 2, rfl, _, rfl, _, rfl, ?_, ?_⟩
    · exact Nat.le_trans (by omega) hs
    · rw [str_app]; exact Nat.le_trans (by omega) hs
    refine ⟨_, _, rfl, rfl, ?_, _, _, rfl, rfl, ?_, ?_⟩
    · rw [cut2 (by omega) (by omega), str_app]; exact Nat.le_trans (by omega) hs
    · rw [cut2 (by omega) (by omega), str_app, str_app]; exact Nat.le_trans (by omega) hs
    refine ⟨_, rfl, m % 60, rfl, small_log (by omega), _, _, rfl, rfl, ?_, 2, rfl, _, rfl, _, rfl, ?_, ?_⟩
    · exact Nat.le_trans (by omega) hs
    · rw [str_app]; exact Nat.le_trans (by omega) hs
    refine ⟨_, _, rfl, rfl, ?_, ?_⟩
    · rw [cut2 (by omega) (by omega), cut2 (by omega) (by omega), str_app, str_app, str_app]; exact Nat.le_trans (by omega) hs
    rw [cut2 (by omega) (by omega), cut2 (by omega) (by omega)]
    exact q
end
/-! ### words -/
def num (i : Int) : Str := Str.ofString (toString i)
def wd : PyData → Str
  | .str z => z
  | .int i => num i
  | _ => Str.empty
section
variable {X : Cx}
theorem call_strV : CallR X (.type "str") (fun xs H Q => (∃ i, xs = [.int i] ∧ i.natAbs.log2 < 1920 ∧ Q (.str (num i)) H) ∨ ∃ a, xs = [.str a] ∧ Q (.str a) H) := by
  intro pins s σ H xs us Q I r h
  rcases h with h | h
  · exact call_str_int pins s σ H xs us Q I r h
  · exact SkE.call_str_str pins s σ H xs us Q I r h
end
section
variable {P : Program} {w : World} {K : PySem.W.Frag} {mg : Str → Option Value} {base : Heap}
abbrev s_is_whole : Stmt := topS 1
abbrev N_is_whole : List Str := ["thing"]
theorem sc_is_whole : FnScope N_is_whole ["thing"] (defScope s_is_whole) := ⟨rfl, rfl, rfl, by decide +kernel, rfl, by decide +kernel, by decide +kernel⟩
def sp_is_whole : Sp := fun vs H Q _ => ∃ m : Int, vs = [.int m] ∧ Q (.bl true) H
theorem ok_is_whole {f : Addr} {fd : FuncData} {k : Nat} (F : Fun K "is_whole" "is_whole" s_is_whole f fd) (T : Txt mg) : FnOk P w K mg base CX0 (k + 1) f fd ["thing"] sp_is_whole := by
  refine F.ok sc_is_whole (fun vs H Q E h => ?_) (fun cdv A outer s H vs Q E hr h => ?_)
  · obtain ⟨m, rfl, _⟩ := h
    rfl
  · obtain ⟨m, rfl, q⟩ := h
    refine ⟨_, (pss_one (ps_ret (pe_and (pe_callB call_isi (by rfl) T.z_isinstance (by decide +kernel) (pa_cons (pv 0) (pa_cons (pe_bltn (v := .ty "int") (by rfl) T.z_int (by decide +kernel) rfl) pa_nil))) (pe_one (pe_not (pe_callB call_isi (by rfl) T.z_isinstance (by decide +kernel) (pa_cons (pv 0) (pa_cons (pe_bltn (v := .ty "bool") (by rfl) T.z_bool (by decide +kernel) rfl) pa_nil)))))))), ?_⟩
    refine ⟨_, rfl, _, _, _, _, true, rfl, .ty "int", .base (.int m), kit_ty (by decide +kernel), true, rfl, iteT ?_⟩
    exact ⟨_, rfl, _, _, _, _, false, rfl, .ty "bool", .base (.int m), kit_ty (by decide +kernel), false, rfl, q⟩
abbrev s_time_text : Stmt := topS 10
abbrev N_time_text : List Str := ["thing"]
theorem sc_time_text : FnScope N_time_text ["thing"] (defScope s_time_text) := ⟨rfl, rfl, rfl, by decide +kernel, rfl, by decide +kernel, by decide +kernel⟩
theorem ok_time_text {f : Addr} {fd : FuncData} (F : Fun K "time_text" "time_text" s_time_text f fd) (T : Txt mg) (C_is_whole : Cal P w K mg base 1 "is_whole" sp_is_whole) (C_shown : Cal P w K mg base 2 "shown" sp_shown) : FnOk P w K mg base CX0 3 f fd ["thing"] sp_shown := by
  refine F.ok sc_time_text (fun vs H Q E h => ?_) (fun cdv A outer s H vs Q E hr h => ?_)
  · obtain ⟨m, rfl, _⟩ := h
    rfl
  · obtain ⟨m, rfl, h0, h1, q⟩ := h
    refine ⟨_, (pss_one (ps_ret (pe_ifExp (pt_val (pe_cal C_is_whole hr (by decide) (by rfl) (pa_cons (pv 0) pa_nil))) (pe_cal C_shown hr (by decide) (by rfl) (pa_cons (pv 0) pa_nil)) (pe_callTy call_strV (by rfl) T.z_str (by decide +kernel) (pa_cons (pv 0) pa_nil))))), ?_⟩
    refine ⟨_, rfl, m, rfl, true, rfl, iteT ?_⟩
    exact ⟨_, rfl, m, rfl, h0, h1, q⟩
abbrev s_deed_words : Stmt := topS 11
abbrev N_deed_words : List Str := ["thing", "word"]
theorem sc_deed_words : FnScope N_deed_words ["thing"] (defScope s_deed_words) := ⟨rfl, rfl, rfl, by decide +kernel, rfl, by decide +kernel, by decide +kernel⟩
def sp_deed_words (K : PySem.W.Frag) : Sp := fun vs H Q _ => ∃ (t : Addr) (ws : List PyData), vs = [.ref t] ∧ Dp K H (.ref t) (.tuple ws) ∧ Dd ws ∧ ∀ (H' : Hp) (D : Addr), Same H H' → H D = none → H' D = some (.lst ((ws.map wd).map V.str)) → Q (.ref D) H'
theorem ok_deed_words {f : Addr} {fd : FuncData} {k : Nat} (F : Fun K "deed_words" "deed_words" s_deed_words f fd) (T : Txt mg) : FnOk P w K mg base CX0 (k + 1) f fd ["thing"] (sp_deed_words K) := by
  refine F.ok sc_deed_words (fun vs H Q E h => ?_) (fun cdv A outer s H vs Q E hr h => ?_)
  · obtain ⟨t, ws, rfl, _⟩ := h
    rfl
  · obtain ⟨t, ws, rfl, dp, dd, q⟩ := h
    obtain ⟨t', vs, et, sq, da⟩ := Dp.tup_inv dp
    cases et
    refine ⟨_, (pss_one (ps_ret (pe_ifExp (pt_val (pe_callB call_isi (by rfl) T.z_isinstance (by decide +kernel) (pa_cons (pv 0) (pa_cons (pe_bltn (v := .ty "tuple") (by rfl) T.z_tuple (by decide +kernel) rfl) pa_nil)))) (pe_lc (own := [("word", 1)]) (by rfl) sc_deed_words.nd (pi_tup (pv 0)) (blkOk_by (own := [("word", 1)]) (N := N_deed_words) (sc := defScope s_deed_words) (by decide +kernel)) (fun _ _ _ _ _ => (pg_name (i := 1) sc_deed_words.nd rfl (.inl rfl))) (fun _ _ _ _ _ => pts_nil) (fun _ _ _ _ _ => (pe_callTy call_strV (by rfl) T.z_str (by decide +kernel) (pa_cons (pv 1) pa_nil)))) (pe_lst (pa_cons (pe_callTy call_strV (by rfl) T.z_str (by decide +kernel) (pa_cons (pv 0) pa_nil)) pa_nil))))), ?_⟩
    refine ⟨_, rfl, _, _, _, _, true, rfl, .ty "tuple", Dp.ty dp, kit_ty (by show kitB "tuple" "tuple" = some true; decide +kernel), true, rfl, iteT ?_⟩
    refine ⟨_, rfl, t, rfl, ⟨_, sq⟩, fun D nD => ?_⟩
    refine lc_tup (K := K) (a := t) (xs := vs) (fun i H' => Same H H' ∧ H' D = some (.lst (((ws.take i).map wd).map V.str))) ⟨same_upd nD, upd_same⟩ (fun i H' _ p => Same.sqT p.1 sq) ?_ ?_
    · rintro i x H' hx ⟨sm, hD⟩
      obtain ⟨d, ed, dpx⟩ := DpAll.at da i hx
      have hi : i < 3 := by
        have h1 : i < ws.length := (List.getElem?_eq_some_iff.mp ed).1
        have := dd.2.1
        omega
      have hl : (((ws.take i).map wd).map V.str).length < sizeLine := by
        rw [List.length_map, List.length_map]
        exact Nat.lt_of_le_of_lt (Nat.le_trans (List.length_take_le _ _) (Nat.le_of_lt hi)) (by decide)
      have nx : ∀ z, wd d = z → Same H (upd H' D (.lst (((ws.take i).map wd).map V.str ++ [.str z]))) ∧ (upd H' D (.lst (((ws.take i).map wd).map V.str ++ [.str z]))) D = some (.lst (((ws.take (i + 1)).map wd).map V.str)) := fun z hz => by
        refine ⟨Same.grow sm nD, ?_⟩
        rw [upd_same, List.take_add_one, ed, List.map_append, List.map_append, ← hz]
        rfl
      refine ⟨rfl, yesI ?_⟩
      rcases dd.2.2 d (List.mem_of_getElem? ed) with ⟨z, rfl, hz⟩ | ⟨m, rfl, m0, m1⟩
      · cases dpx
        exact ⟨_, rfl, .inr ⟨z, rfl, _, hD, hl, nx z rfl⟩⟩
      · cases dpx
        exact ⟨_, rfl, .inl ⟨m, rfl, small_log (by omega), _, hD, hl, nx (num m) rfl⟩⟩
    · rintro H' ⟨sm, hD⟩
      rw [DpAll.len da, List.take_length] at hD
      exact q _ D sm nD hD
end
end My

set_option Elab.async false
set_option linter.all false
set_option maxRecDepth 100000
set_option maxHeartbeats 4000000
namespace My
open PySem PySem.Spec PyProof.Rows L2 TL RZ
def bl : Str := Str.ofString " "
def rgt : Str := Str.ofString "right"
def base5 (n l e : Int) (ws : List PyData) : List Str := [num n, tx l, tx e] ++ ws.map wd
def lawW (n l e : Int) (ws : List PyData) (r : Int) : List Str := base5 n l e ws ++ (if 0 < r then [Str.ofString "right " ++ num r] else [])
def rowW (n l e : Int) (ws : List PyData) (r : Int) : List Str := base5 n l e ws ++ (if r ≠ 0 then [rgt, num r] else [])
def T5 (n l e : Int) (ws : List PyData) (r : Int) : Str := Txt.join bl (rowW n l e ws r)
theorem joinL_two (S x y : List Nat) : ∀ A : List (List Nat), joinL S (A ++ [x, y]) = joinL S (A ++ [x ++ (S ++ y)])
  | [] => rfl
  | [a] => rfl
  | a :: b :: r => by
    show a ++ (S ++ joinL S ((b :: r) ++ [x, y])) = a ++ (S ++ joinL S ((b :: r) ++ [x ++ (S ++ y)]))
    rw [joinL_two S x y (b :: r)]
theorem tl_ext {a b : Str} (h : tl a = tl b) : a = b := by
  cases a with | mk x => cases b with | mk y => exact congrArg Str.mk (Array.toList_inj.mp h)
theorem T5_law {n l e : Int} {ws : List PyData} {r : Int} (h : 0 ≤ r) : Txt.join bl (lawW n l e ws r) = T5 n l e ws r := by
  unfold T5 lawW rowW
  by_cases c : 0 < r
  · rw [if_pos c, if_pos (by omega)]
    refine tl_ext ?_
    rw [join_eq, join_eq, tl_join, tl_join, List.map_append, List.map_append]
    have e1 : List.map tl [rgt, num r] = [tl rgt, tl (num r)] := rfl
    have e2 : List.map tl [Str.ofString "right " ++ num r] = [tl rgt ++ (tl bl ++ tl (num r))] := by
      show [tl (Str.ofString "right " ++ num r)] = _
      have e3 : tl (Str.ofString "right " ++ num r) = tl (Str.ofString "right ") ++ tl (num r) := by
        show ((Str.ofString "right ").cps ++ (num r).cps).toList = _
        rw [Array.toList_append]
      have e4 : tl (Str.ofString "right ") = tl rgt ++ tl bl := by decide +kernel
      rw [e3, e4, List.append_assoc]
    rw [e1, e2, joinL_two]
  · rw [if_neg c, if_neg (by omega)]
theorem num_len {i : Int} (h0 : 0 ≤ i) (h1 : i ≤ 1000) : (num i).length ≤ 4 := by
  obtain ⟨n, rfl⟩ : ∃ n : Nat, i = n := ⟨i.toNat, (Int.toNat_of_nonneg h0).symm⟩
  have hn : n < 1001 := by omega
  clear h0 h1
  revert n
  decide +kernel
theorem wd_len {d : PyData} (h : Wd d) : (wd d).length ≤ 8 := by
  rcases h with ⟨z, rfl, hz⟩ | ⟨i, rfl, h0, h1⟩
  · exact (isNm_sm hz).2.2
  · have := num_len h0 (by omega)
    show (num i).length ≤ 8
    omega
theorem sum_le : ∀ (l : List Str), (∀ z ∈ l, z.length ≤ 10) → (l.map (·.length)).sum ≤ 10 * l.length
  | [], _ => Nat.le_refl _
  | z :: l, h => by
    have h1 := h z (List.mem_cons_self ..)
    have h2 := sum_le l fun y hy => h y (List.mem_cons_of_mem _ hy)
    rw [List.map_cons, List.sum_cons, List.length_cons]
    omega
theorem base_len {n l e : Int} {ws : List PyData} {r : Int} (b : B5 n l e ws r) : (base5 n l e ws).length ≤ 6 ∧ ∀ z ∈ base5 n l e ws, z.length ≤ 10 := by
  obtain ⟨n0, n1, l0, l1, e0, e1, r0, r1, dd⟩ := b
  refine ⟨?_, fun z hz => ?_⟩
  · show (List.map wd ws).length + 1 + 1 + 1 ≤ 6
    have := dd.2.1
    rw [List.length_map]
    omega
  · rcases List.mem_append.mp hz with h | h
    · simp only [List.mem_cons, List.not_mem_nil, or_false] at h
      rcases h with rfl | rfl | rfl
      · have := num_len n0 n1
        omega
      · have := tx_len l0 (by omega)
        omega
      · have := tx_len e0 (by omega)
        omega
    · obtain ⟨d, hd, rfl⟩ := List.mem_map.mp h
      have := wd_len (dd.2.2 d hd)
      omega
theorem fits {A B : List Str} (ha : A.length ≤ 6 ∧ ∀ z ∈ A, z.length ≤ 10) (hb : B.length ≤ 2 ∧ ∀ z ∈ B, z.length ≤ 10) : ((A ++ B).map (·.length)).sum + (A ++ B).length * bl.length ≤ 16777216 := by
  have h1 : (A ++ B).length ≤ 8 := by rw [List.length_append]; omega
  have h2 := sum_le (A ++ B) fun z hz => (List.mem_append.mp hz).elim (ha.2 z) (hb.2 z)
  have h3 : bl.length = 1 := by decide
  rw [h3]
  omega
section
variable {P : Program} {w : World} {K : PySem.W.Frag} {mg : Str → Option Value} {base : Heap}
abbrev s_law_text : Stmt := topS 22
abbrev N_law_text : List Str := ["_law_five_here", "_law_words", "_law_one"]
theorem sc_law_text : FnScope N_law_text ["_law_five_here"] (defScope s_law_text) := ⟨rfl, rfl, rfl, by decide +kernel, rfl, by decide +kernel, by decide +kernel⟩
def sp_law_text (K : PySem.W.Frag) : Sp := fun vs H Q _ => ∃ (a : Addr) (n l e r : Int) (ws : List PyData), vs = [.ref a] ∧ F5 K H a n l e ws r ∧ B5 n l e ws r ∧ ∀ H' : Hp, Same H H' → Q (.str (T5 n l e ws r)) H'
theorem ok_law_text {f : Addr} {fd : FuncData} (F : Fun K "_law_text" "_law_text" s_law_text f fd) (T : Txt mg) (C_law_shown : Cal P w K mg base 1 "_law_shown" sp_shown) : FnOk P w K mg base CX0 2 f fd ["_law_five_here"] (sp_law_text K) := by
  refine F.ok sc_law_text (fun vs H Q E h => ?_) (fun cdv A outer s H vs Q E hr h => ?_)
  · obtain ⟨a, n, l, e, r, ws, rfl, _⟩ := h
    rfl
  · obtain ⟨a, n, l, e, r, ws, rfl, ⟨t, sqa, dp⟩, b5, q⟩ := h
    have bl5 := base_len b5
    have tlaw := T5_law (n := n) (l := l) (e := e) (ws := ws) b5.2.2.2.2.2.2.1
    obtain ⟨n0, n1, l0, l1, e0, e1, r0, r1, dd⟩ := b5
    obtain ⟨t', vs, et, sqt, da0⟩ := Dp.tup_inv dp
    cases et
    refine ⟨_, (pss_cons (ps_set (i := 1) sc_law_text.nd rfl (.inl rfl) (pe_op op_cat (pe_lst (pa_cons (pe_callTy call_str_int (by rfl) T.z_str (by decide +kernel) (pa_cons (pe_ix ix_tup (pv 0) pe_int (fun _ _ => rfl)) pa_nil)) (pa_cons (pe_cal C_law_shown hr (by decide) (by rfl) (pa_cons (pe_ix ix_tup (pv 0) pe_int (fun _ _ => rfl)) pa_nil)) (pa_cons (pe_cal C_law_shown hr (by decide) (by rfl) (pa_cons (pe_ix ix_tup (pv 0) pe_int (fun _ _ => rfl)) pa_nil)) pa_nil)))) (pe_lc (own := [("_law_one", 2)]) (by rfl) sc_law_text.nd (pi_tup (pe_ix ix_tup (pv 0) pe_int (fun _ _ => rfl))) (blkOk_by (own := [("_law_one", 2)]) (N := N_law_text) (sc := defScope s_law_text) (by decide +kernel)) (fun _ _ _ _ _ => (pg_name (i := 2) sc_law_text.nd rfl (.inl rfl))) (fun _ _ _ _ _ => pts_nil) (fun _ _ _ _ _ => (pe_callTy call_strV (by rfl) T.z_str (by decide +kernel) (pa_cons (pv 2) pa_nil))))))
      (pss_one (ps_ret (pe_join pe_str (pe_op op_cat (pv 1) (pe_op op_rep (pe_lst (pa_cons (pe_op op_add_str pe_str (pe_callTy call_str_int (by rfl) T.z_str (by decide +kernel) (pa_cons (pe_ix ix_tup (pv 0) pe_int (fun _ _ => rfl)) pa_nil))) pa_nil)) (pe_callTy call_int1 (by rfl) T.z_int (by decide +kernel) (pa_cons (pe_cmpR op_gt (pe_ix ix_tup (pv 0) pe_int (fun _ _ => rfl)) pe_int (nomark _)) pa_nil)))))))), ?_⟩
    refine ⟨_, rfl, a, _, _, _, rfl, rfl, sqa, atI_nat (j := 0) rfl, n, rfl, small_log (by omega), ?_⟩
    refine ⟨_, rfl, a, _, _, _, rfl, rfl, sqa, atI_nat (j := 1) rfl, l, rfl, l0, by omega, ?_⟩
    refine ⟨_, rfl, a, _, _, _, rfl, rfl, sqa, atI_nat (j := 2) rfl, e, rfl, e0, by omega, ?_⟩
    refine ⟨(by show 3 ≤ sizeLine; decide), fun la nla => ?_⟩
    have s1 := same_upd (o := .lst [.str (Str.ofString (toString n)), .str (tx l), .str (tx e)]) nla
    have e1' : (upd H la (.lst [.str (Str.ofString (toString n)), .str (tx l), .str (tx e)])) la = some (.lst [.str (Str.ofString (toString n)), .str (tx l), .str (tx e)]) := upd_same
    refine ⟨_, rfl, a, _, _, _, rfl, rfl, Same.sqT s1 sqa, atI_nat (j := 3) rfl, t, rfl, ⟨_, Same.sqT s1 sqt⟩, fun D nD => ?_⟩
    have sq := Same.sqT s1 sqt
    have da := DpAll.same s1 da0
    have sqa1 := Same.sqT s1 sqa
    generalize upd H la (.lst [.str (Str.ofString (toString n)), .str (tx l), .str (tx e)]) = H1 at s1 e1' nD sq da sqa1 ⊢
    refine lc_tup (K := K) (a := t) (xs := vs) (fun i H' => Same H1 H' ∧ H' D = some (.lst (((ws.take i).map wd).map V.str))) ⟨same_upd nD, upd_same⟩ (fun i H' _ p => Same.sqT p.1 sq) ?_ ?_
    · rintro i x H' hx ⟨sm, hD⟩
      obtain ⟨d, ed, dpx⟩ := DpAll.at da i hx
      have hi : i < 3 := by
        have h1 : i < ws.length := (List.getElem?_eq_some_iff.mp ed).1
        have := dd.2.1
        omega
      have hl : (((ws.take i).map wd).map V.str).length < sizeLine := by
        rw [List.length_map, List.length_map]
        exact Nat.lt_of_le_of_lt (Nat.le_trans (List.length_take_le _ _) (Nat.le_of_lt hi)) (by decide)
      have nx : ∀ z, wd d = z → Same H1 (upd H' D (.lst (((ws.take i).map wd).map V.str ++ [.str z]))) ∧ (upd H' D (.lst (((ws.take i).map wd).map V.str ++ [.str z]))) D = some (.lst (((ws.take (i + 1)).map wd).map V.str)) := fun z hz => by
        refine ⟨Same.grow sm nD, ?_⟩
        rw [upd_same, List.take_add_one, ed, List.map_append, List.map_append, ← hz]
        rfl
      refine ⟨rfl, yesI ?_⟩
      rcases dd.2.2 d (List.mem_of_getElem? ed) with ⟨z, rfl, hz⟩ | ⟨m, rfl, m0, m1⟩
      · cases dpx
        exact ⟨_, rfl, .inr ⟨z, rfl, _, hD, hl, nx z rfl⟩⟩
      · cases dpx
        exact ⟨_, rfl, .inl ⟨m, rfl, small_log (by omega), _, hD, hl, nx (num m) rfl⟩⟩
    · rintro H' ⟨sm, hD⟩
      rw [DpAll.len da, List.take_length] at hD
      refine ⟨la, D, _, _, rfl, rfl, sm _ _ e1', hD, ?_, fun wl nwl => ?_⟩
      · rw [List.length_map, List.length_map]
        exact Nat.le_trans (show 3 + ws.length ≤ 6 by have := dd.2.1; omega) (by decide)
      have s2 := same_upd (o := .lst ((base5 n l e ws).map V.str)) nwl
      have e2' : (upd H' wl (.lst ((base5 n l e ws).map V.str))) wl = some (.lst ((base5 n l e ws).map V.str)) := upd_same
      have eqb : [V.str (Str.ofString (toString n)), V.str (tx l), V.str (tx e)] ++ (ws.map wd).map V.str = (base5 n l e ws).map V.str := by
        unfold base5
        rw [List.map_append]
        rfl
      have sA := s1.trans (sm.trans s2)
      have sqa2 := Same.sqT (sm.trans s2) sqa1
      rw [eqb]
      generalize upd H' wl (.lst ((base5 n l e ws).map V.str)) = H2 at s2 e2' sA sqa2 ⊢
      refine ⟨⟨_, rfl⟩, _, rfl, _, rfl, a, _, _, _, rfl, rfl, sqa2, atI_nat (j := 4) rfl, r, rfl, small_log (by omega), _, _, rfl, rfl, ?_, (by show 1 ≤ sizeLine; decide), fun l2 nl2 => ?_⟩
      · have := num_len r0 r1
        show (Str.ofString "right ").length + (num r).length ≤ sizeLine
        have h6 : (Str.ofString "right ").length = 6 := by decide
        exact Nat.le_trans (show (Str.ofString "right ").length + (num r).length ≤ 10 by omega) (by decide)
      have s3 := same_upd (o := .lst [.str (Str.ofString "right " ++ num r)]) nl2
      refine ⟨_, rfl, a, _, _, _, rfl, rfl, Same.sqT s3 sqa2, atI_nat (j := 4) rfl, _, _, rfl, rfl, .inr ⟨_, rfl, ?_⟩⟩
      obtain ⟨dI, edI, hI⟩ : ∃ dI : Int, (if decide (0 < r) = true then (1 : Int) else 0) = dI ∧ ((0 < r ∧ dI = 1) ∨ (¬ 0 < r ∧ dI = 0)) := by
        by_cases c : 0 < r
        · exact ⟨1, by rw [decide_eq_true c]; rfl, .inl ⟨c, rfl⟩⟩
        · exact ⟨0, by rw [decide_eq_false c]; rfl, .inr ⟨c, rfl⟩⟩
      refine ⟨l2, dI, [.str (Str.ofString "right " ++ num r)], rfl, by rw [← edI], upd_same, by omega, by omega, ?_, fun l3 nl3 => ?_⟩
      · show 1 * dI.toNat ≤ sizeLine
        exact Nat.le_trans (show 1 * dI.toNat ≤ 1 by omega) (by decide)
      have s4 := fun o => same_upd (o := o) nl3
      rcases hI with ⟨c, rfl⟩ | ⟨c, rfl⟩
      · have hB : ([Str.ofString "right " ++ num r] : List Str).length ≤ 2 ∧ ∀ z ∈ [Str.ofString "right " ++ num r], z.length ≤ 10 := by
          refine ⟨by show 1 ≤ 2; decide, fun z hz => ?_⟩
          rw [List.mem_singleton.mp hz]
          have := num_len r0 r1
          have h6 : (Str.ofString "right ").length = 6 := by decide
          rw [str_app]
          omega
        refine ⟨wl, l3, _, [.str (Str.ofString "right " ++ num r)], rfl, rfl, s4 _ _ _ (s3 _ _ e2'), upd_same, ?_, fun rr nrr => ?_⟩
        · rw [List.length_map]
          exact Nat.le_trans (show (base5 n l e ws).length + 1 ≤ 7 by omega) (by decide)
        refine ⟨_, rr, base5 n l e ws ++ [Str.ofString "right " ++ num r], rfl, rfl, .inl (SqL.of (by rw [upd_same, List.map_append]; rfl)), fits bl5 hB, ?_⟩
        have q' : ∀ H', Same H H' → Q (.str (Txt.join bl (base5 n l e ws ++ [Str.ofString "right " ++ num r]))) H' := fun H' sm => by
          have fin := q H' sm
          rw [← tlaw] at fin
          unfold lawW at fin
          rw [if_pos c] at fin
          exact fin
        exact q' _ (sA.trans (s3.trans ((s4 _).trans (same_upd nrr))))
      · have hB : ([] : List Str).length ≤ 2 ∧ ∀ z ∈ ([] : List Str), z.length ≤ 10 := ⟨by decide, fun z hz => nomatch hz⟩
        refine ⟨wl, l3, _, [], rfl, rfl, s4 _ _ _ (s3 _ _ e2'), upd_same, ?_, fun rr nrr => ?_⟩
        · rw [List.length_map]
          exact Nat.le_trans (show (base5 n l e ws).length + 0 ≤ 7 by omega) (by decide)
        refine ⟨_, rr, base5 n l e ws ++ [], rfl, rfl, .inl (SqL.of (by rw [upd_same, List.map_append]; rfl)), fits bl5 hB, ?_⟩
        have q' : ∀ H', Same H H' → Q (.str (Txt.join bl (base5 n l e ws ++ []))) H' := fun H' sm => by
          have fin := q H' sm
          rw [← tlaw] at fin
          unfold lawW at fin
          rw [if_neg c] at fin
          exact fin
        exact q' _ (sA.trans (s3.trans ((s4 _).trans (same_upd nrr))))
end
end My

set_option Elab.async false
set_option linter.all false
set_option maxRecDepth 100000
set_option maxHeartbeats 4000000
namespace My
open PySem PySem.Spec PyProof.Rows L2 TL RZ
theorem putF_len (f : Str) (v : V) : ∀ fs : List (Str × V), (putF f v fs).length ≤ fs.length + 1
  | [] => Nat.le_refl _
  | (g, x) :: r => by
    unfold putF
    split
    · show r.length + 1 ≤ r.length + 1 + 1
      omega
    · show (putF f v r).length + 1 ≤ r.length + 1 + 1
      have := putF_len f v r
      omega
theorem putF_lt {f : Str} {v : V} {fs : List (Str × V)} {n : Nat} (h : fs.length < n) : (putF f v fs).length < n + 1 := by
  have := putF_len f v fs
  omega
theorem pe_globR {X : Cx} {x : Str} {pos : Pos} {a : Addr} (h : X.mg x = some (.ref a)) (hg : Gl X x) (hd : (x == ("__debug__" : Str)) = false := by decide) : PE X (.Name x pos) (tC (.ref a)) := pe_glob hg h rfl (hd := hd)
/-- the class of rows -/
structure RC (K : PySem.W.Frag) (mg : Str → Option Value) (C : Addr) : Prop where
  g : mg "Row" = some (.ref C)
  cl : Cls K C
  n1 : NoAttr K C "number"
  n2 : NoAttr K C "written"
  n3 : NoAttr K C "at"
  n4 : NoAttr K C "deed"
  n5 : NoAttr K C "right"
  c1 : PySem.W.findIn K (.ref C) "__class__" = some (some (.builtin "object.__class__"))
  c2 : PySem.W.specialIn K (.builtin "object.__class__") "__get__" = some (some (.builtin "getset_descriptor.__get__"))
  c3 : PySem.W.takesIn K (.builtin "object.__class__") = some true
  c4 : PySem.W.mroIn K C (.type "object") = some true
  kt : PySem.W.kitOne K (.ref C) (.ref C) = some true
def rowF (n l e : Int) (t : Addr) (r : Int) : List (Str × V) := putF "right" (.int r) (putF "deed" (.ref t) (putF "at" (.int e) (putF "written" (.int l) (putF "number" (.int n) []))))
theorem lk_number (n l e : Int) (t : Addr) (r : Int) : (rowF n l e t r).lookup (Str.ofString "number") = some (V.int n) := by
  unfold rowF
  rw [lookup_putF, if_neg (by decide +kernel), lookup_putF, if_neg (by decide +kernel), lookup_putF, if_neg (by decide +kernel), lookup_putF, if_neg (by decide +kernel), lookup_putF, if_pos rfl]
theorem lk_written (n l e : Int) (t : Addr) (r : Int) : (rowF n l e t r).lookup (Str.ofString "written") = some (V.int l) := by
  unfold rowF
  rw [lookup_putF, if_neg (by decide +kernel), lookup_putF, if_neg (by decide +kernel), lookup_putF, if_neg (by decide +kernel), lookup_putF, if_pos rfl]
theorem lk_at (n l e : Int) (t : Addr) (r : Int) : (rowF n l e t r).lookup (Str.ofString "at") = some (V.int e) := by
  unfold rowF
  rw [lookup_putF, if_neg (by decide +kernel), lookup_putF, if_neg (by decide +kernel), lookup_putF, if_pos rfl]
theorem lk_deed (n l e : Int) (t : Addr) (r : Int) : (rowF n l e t r).lookup (Str.ofString "deed") = some (V.ref t) := by
  unfold rowF
  rw [lookup_putF, if_neg (by decide +kernel), lookup_putF, if_pos rfl]
theorem lk_right (n l e : Int) (t : Addr) (r : Int) : (rowF n l e t r).lookup (Str.ofString "right") = some (V.int r) := by
  unfold rowF
  rw [lookup_putF, if_pos rfl]

def RowAt (K : PySem.W.Frag) (C : Addr) (H : Hp) (a : Addr) (n l e : Int) (ws : List PyData) (r : Int) : Prop := ∃ dx t, H a = some (.ins C dx (rowF n l e t r)) ∧ Dp K H (.ref t) (.tuple ws)
theorem RowAt.same {K : PySem.W.Frag} {C : Addr} {H H' : Hp} {a : Addr} {n l e r : Int} {ws : List PyData} (h : RowAt K C H a n l e ws r) (sm : Same H H') : RowAt K C H' a n l e ws r := by
  obtain ⟨dx, t, e1, d⟩ := h
  exact ⟨dx, t, sm _ _ e1, Dp.same sm d⟩
theorem RowAt.sx {K : PySem.W.Frag} {C p : Addr} {H H' : Hp} {a : Addr} {n l e r : Int} {ws : List PyData} {ys : List V} (h : RowAt K C H a n l e ws r) (x : Sx p H H') (b : H p = some (.lst ys)) (dd : Dd ws) : RowAt K C H' a n l e ws r := by
  obtain ⟨dx, t, e1, d⟩ := h
  have ne : a ≠ p := fun z => by
    rw [z, b] at e1
    cases e1
  exact ⟨dx, t, x _ _ ne e1, Dp.sx x b d dd.flt⟩
def eq5 (n l e : Int) (ws : List PyData) (r : Int) (n' l' e' : Int) (ws' : List PyData) (r' : Int) : Bool :=
  decide (V.int n = V.int n') && (decide (V.int l = V.int l') && (decide (V.int e = V.int e') && (PyData.eqv (.tuple ws) (.tuple ws') && decide (V.int r = V.int r'))))
theorem Wd.okd {d : PyData} (h : Wd d) : Okd 1 d := by
  rcases h with ⟨z, rfl, hz⟩ | ⟨i, rfl, _⟩
  · refine .str fun c hc => ?_
    have := (isNm_sm hz).2.1 c hc
    omega
  · exact .int i
theorem Dd.okd {ws : List PyData} (h : Dd ws) : Okd 2 (.tuple ws) := .tuple (by have := h.2.1; omega) fun d hd => (h.2.2 d hd).okd
theorem rep_len {n : Int} (h0 : 0 ≤ n) (h1 : n ≤ 1000) : (Str.ofString (toString n)).length ≤ 4 := num_len h0 h1
section
variable {P : Program} {w : World} {K : PySem.W.Frag} {mg : Str → Option Value} {base : Heap} {C : Addr}
abbrev s_Row___init__ : Stmt := inClass (topS 8) 0
abbrev N_Row___init__ : List Str := ["self", "number", "written", "at", "deed", "right"]
theorem sc_Row___init__ : FnScope N_Row___init__ ["self", "number", "written", "at", "deed", "right"] (defScope s_Row___init__) := ⟨rfl, rfl, rfl, by decide +kernel, rfl, by decide +kernel, by decide +kernel⟩
def sp_init (C : Addr) : Sp := fun vs H Q _ => ∃ (a dx t : Addr) (n l e r : Int), vs = [.ref a, .int n, .int l, .int e, .ref t, .int r] ∧ H a = some (.ins C dx []) ∧ ∀ H' : Hp, (∀ b, b ≠ a → H' b = H b) → H' a = some (.ins C dx (rowF n l e t r)) → Q .non H'
theorem ok_init {f : Addr} {fd : FuncData} {k : Nat} (F : FunD K "__init__" "Row.__init__" (defArgs s_Row___init__) (defBody s_Row___init__) (defScope s_Row___init__) [.int 0] [] f fd) (RCC : RC K mg C) : FnOk P w K mg base CX0 (k + 1) f fd ["self", "number", "written", "at", "deed", "right"] (sp_init C) := by
  refine F.ok sc_Row___init__ (fun vs H Q E h => ?_) (fun cdv A outer s H vs Q E hr h => ?_)
  · obtain ⟨a, dx, t, n, l, e, r, rfl, _⟩ := h
    rfl
  · obtain ⟨a, dx, t, n, l, e, r, rfl, ha, q⟩ := h
    refine ⟨_, (pss_cons (ps_fld (pv 0) (pv 1) (by rfl))
      (pss_cons (ps_fld (pv 0) (pv 2) (by rfl))
      (pss_cons (ps_fld (pv 0) (pv 3) (by rfl))
      (pss_cons (ps_fld (pv 0) (pv 4) (by rfl))
      (pss_one (ps_fld (pv 0) (pv 5) (by rfl))))))), ?_⟩
    refine ⟨_, rfl, _, rfl, a, C, dx, _, rfl, ha, RCC.cl, RCC.n1, (by show 0 < 1000; decide), ?_⟩
    refine ⟨_, rfl, _, rfl, a, C, dx, _, rfl, upd_same, RCC.cl, RCC.n2, (by show 1 < 1000; decide), ?_⟩
    refine ⟨_, rfl, _, rfl, a, C, dx, _, rfl, upd_same, RCC.cl, RCC.n3, (Nat.lt_of_lt_of_le (putF_lt (putF_lt (show ([] : List (Str × V)).length < 1 by decide))) (by decide)), ?_⟩
    refine ⟨_, rfl, _, rfl, a, C, dx, _, rfl, upd_same, RCC.cl, RCC.n4, (Nat.lt_of_lt_of_le (putF_lt (putF_lt (putF_lt (show ([] : List (Str × V)).length < 1 by decide)))) (by decide)), ?_⟩
    refine ⟨_, rfl, _, rfl, a, C, dx, _, rfl, upd_same, RCC.cl, RCC.n5, (Nat.lt_of_lt_of_le (putF_lt (putF_lt (putF_lt (putF_lt (show ([] : List (Str × V)).length < 1 by decide))))) (by decide)), ?_⟩
    refine q _ (fun b hb => ?_) upd_same
    rw [upd_ne hb, upd_ne hb, upd_ne hb, upd_ne hb, upd_ne hb]
abbrev s_Row___eq__ : Stmt := inClass (topS 8) 1
abbrev N_Row___eq__ : List Str := ["self", "other"]
theorem sc_Row___eq__ : FnScope N_Row___eq__ ["self", "other"] (defScope s_Row___eq__) := ⟨rfl, rfl, rfl, by decide +kernel, rfl, by decide +kernel, by decide +kernel⟩
def sp_eq (K : PySem.W.Frag) (C : Addr) : Sp := fun vs H Q _ => ∃ (a : Addr) (y : V) (n l e r : Int) (ws : List PyData), vs = [.ref a, y] ∧ RowAt K C H a n l e ws r ∧ Dd ws ∧
  ((∃ (b : Addr) (n' l' e' r' : Int) (ws' : List PyData), y = .ref b ∧ RowAt K C H b n' l' e' ws' r' ∧ Dd ws' ∧ Q (.bl (eq5 n l e ws r n' l' e' ws' r')) H) ∨ (∃ T, TyX K H y (.type T) ∧ PySem.W.kitOne K (.type T) (.ref C) = some false ∧ Q (.bl false) H))
theorem ok_eq {f : Addr} {fd : FuncData} {k : Nat} (F : Fun K "__eq__" "Row.__eq__" s_Row___eq__ f fd) (T : Txt mg) (RCC : RC K mg C) : FnOk P w K mg base CX0 (k + 1) f fd ["self", "other"] (sp_eq K C) := by
  refine F.ok sc_Row___eq__ (fun vs H Q E h => ?_) (fun cdv A outer s H vs Q E hr h => ?_)
  · obtain ⟨a, y, n, l, e, r, ws, rfl, _⟩ := h
    rfl
  · obtain ⟨a, y, n, l, e, r, ws, rfl, ⟨dx, t, ha, dp⟩, dd, h⟩ := h
    refine ⟨_, (pss_one (ps_ret (pe_and (pe_callB call_isi (by rfl) T.z_isinstance (by decide +kernel) (pa_cons (pv 1) (pa_cons (pe_globR RCC.g (by rfl)) pa_nil))) (pe_and (pe_cmpR op_eq (pe_fld (pv 0) (by rfl)) (pe_fld (pv 1) (by rfl)) (nomark _)) (pe_and (pe_cmpR op_eq (pe_fld (pv 0) (by rfl)) (pe_fld (pv 1) (by rfl)) (nomark _)) (pe_and (pe_cmpR op_eq (pe_fld (pv 0) (by rfl)) (pe_fld (pv 1) (by rfl)) (nomark _)) (pe_and (pe_cmpR (op_eqD hr.units) (pe_fld (pv 0) (by rfl)) (pe_fld (pv 1) (by rfl)) (nomark _)) (pe_one (pe_cmpR op_eq (pe_fld (pv 0) (by rfl)) (pe_fld (pv 1) (by rfl)) (nomark _)))))))))), ?_⟩
    rcases h with ⟨b, n', l', e', r', ws', rfl, ⟨dx', t', hb, dp'⟩, dd', q⟩ | ⟨TT, ty, kt, q⟩
    · refine ⟨_, rfl, _, _, _, _, true, rfl, .own C, .base (.ins hb RCC.cl RCC.c1 RCC.c2 RCC.c3 RCC.c4), RCC.kt, true, rfl, iteT ?_⟩
      have s1 := dd.okd.shaped (by decide)
      have s2 := dd'.okd.shaped (by decide)
      unfold eq5 at q
      refine ⟨_, rfl, a, C, dx, _, _, rfl, ha, RCC.cl, RCC.n1, lk_number .., _, rfl, b, C, dx', _, _, rfl, hb, RCC.cl, RCC.n1, lk_number .., rfl, _, rfl, ite2 (fun w1 => ?_) (fun w1 => ?_)⟩
      rotate_left
      · rw [Bool.eq_false_iff.mpr w1, Bool.false_and] at q
        exact q
      rw [w1, Bool.true_and] at q
      refine ⟨_, rfl, a, C, dx, _, _, rfl, ha, RCC.cl, RCC.n2, lk_written .., _, rfl, b, C, dx', _, _, rfl, hb, RCC.cl, RCC.n2, lk_written .., rfl, _, rfl, ite2 (fun w2 => ?_) (fun w2 => ?_)⟩
      rotate_left
      · rw [Bool.eq_false_iff.mpr w2, Bool.false_and] at q
        exact q
      rw [w2, Bool.true_and] at q
      refine ⟨_, rfl, a, C, dx, _, _, rfl, ha, RCC.cl, RCC.n3, lk_at .., _, rfl, b, C, dx', _, _, rfl, hb, RCC.cl, RCC.n3, lk_at .., rfl, _, rfl, ite2 (fun w3 => ?_) (fun w3 => ?_)⟩
      rotate_left
      · rw [Bool.eq_false_iff.mpr w3, Bool.false_and] at q
        exact q
      rw [w3, Bool.true_and] at q
      refine ⟨_, rfl, a, C, dx, _, _, rfl, ha, RCC.cl, RCC.n4, lk_deed .., _, rfl, b, C, dx', _, _, rfl, hb, RCC.cl, RCC.n4, lk_deed .., .tuple ws, .tuple ws', dp, dp', s1, s2, _, rfl, ite2 (fun w4 => ?_) (fun w4 => ?_)⟩
      rotate_left
      · rw [Bool.eq_false_iff.mpr w4, Bool.false_and] at q
        exact q
      rw [w4, Bool.true_and] at q
      exact ⟨_, rfl, a, C, dx, _, _, rfl, ha, RCC.cl, RCC.n5, lk_right .., _, rfl, b, C, dx', _, _, rfl, hb, RCC.cl, RCC.n5, lk_right .., rfl, q⟩
    · exact ⟨_, rfl, _, _, _, _, false, rfl, .own C, ty, kt, false, rfl, iteF q⟩
abbrev s_Row___repr__ : Stmt := inClass (topS 8) 2
abbrev N_Row___repr__ : List Str := ["self"]
theorem sc_Row___repr__ : FnScope N_Row___repr__ ["self"] (defScope s_Row___repr__) := ⟨rfl, rfl, rfl, by decide +kernel, rfl, by decide +kernel, by decide +kernel⟩
def sp_repr (K : PySem.W.Frag) (C : Addr) : Sp := fun vs H Q _ => ∃ (a : Addr) (n l e r : Int) (ws : List PyData), vs = [.ref a] ∧ RowAt K C H a n l e ws r ∧ B5 n l e ws r ∧ Q (.str (Str.ofString "Row(" ++ num n ++ Str.ofString ")")) H
theorem ok_repr {f : Addr} {fd : FuncData} {k : Nat} (F : Fun K "__repr__" "Row.__repr__" s_Row___repr__ f fd) (T : Txt mg) (RCC : RC K mg C) : FnOk P w K mg base CX0 (k + 1) f fd ["self"] (sp_repr K C) := by
  refine F.ok sc_Row___repr__ (fun vs H Q E h => ?_) (fun cdv A outer s H vs Q E hr h => ?_)
  · obtain ⟨a, n, l, e, r, ws, rfl, _⟩ := h
    rfl
  · obtain ⟨a, n, l, e, r, ws, rfl, ⟨dx, t, ha, dp⟩, ⟨n0, n1, _⟩, q⟩ := h
    refine ⟨_, (pss_one (ps_ret (pe_joined (PJ.cons pe_str (PJ.cons (pe_fmt (pe_fld (pv 0) (by rfl))) (PJ.cons pe_str PJ.nil)))))), ?_⟩
    have l1 := rep_len n0 n1
    have l4 : (Str.ofString "Row(").length = 4 := by decide
    have l5 : (Str.ofString ")").length = 1 := by decide
    have l0 : Str.empty.length = 0 := by decide
    have hs : 100 ≤ sizeLine := by decide
    refine ⟨_, rfl, ?_, _, rfl, a, C, dx, _, _, rfl, ha, RCC.cl, RCC.n1, lk_number .., .inr ⟨n, rfl, small_log (by omega), _, rfl, ?_, _, rfl, ?_, ?_⟩⟩
    · rw [str_app, l0, l4]; exact Nat.le_trans (by omega) hs
    · rw [str_app, str_app, l0, l4]; exact Nat.le_trans (by omega) hs
    · rw [str_app, str_app, str_app, l0, l4, l5]; exact Nat.le_trans (by omega) hs
    · rw [empty_app]
      exact q
end
end My

set_option Elab.async false
set_option linter.all false
set_option maxRecDepth 100000
set_option maxHeartbeats 4000000
namespace My
open PySem PySem.Spec PyProof.Rows L2 TL RZ
section
variable {P : Program} {w : World} {K : PySem.W.Frag} {mg : Str → Option Value} {base : Heap} {C : Addr}
abbrev s_row_words : Stmt := topS 9
abbrev N_row_words : List Str := ["row", "times", "right"]
theorem sc_row_words : FnScope N_row_words ["row"] (defScope s_row_words) := ⟨rfl, rfl, rfl, by decide +kernel, rfl, by decide +kernel, by decide +kernel⟩
def sp_row_words (K : PySem.W.Frag) (C : Addr) : Sp := fun vs H Q _ => ∃ (a : Addr) (n l e r : Int) (ws : List PyData), vs = [.ref a] ∧ RowAt K C H a n l e ws r ∧ B5 n l e ws r ∧ ∀ (H' : Hp) (D : Addr), Same H H' → H' D = some (.lst ((rowW n l e ws r).map V.str)) → Q (.ref D) H'
theorem ok_row_words {f : Addr} {fd : FuncData} (F : Fun K "row_words" "row_words" s_row_words f fd) (T : Txt mg) (RCC : RC K mg C) (C_time_text : Cal P w K mg base 3 "time_text" sp_shown) (C_deed_words : Cal P w K mg base 1 "deed_words" (sp_deed_words K)) : FnOk P w K mg base CX0 4 f fd ["row"] (sp_row_words K C) := by
  refine F.ok sc_row_words (fun vs H Q E h => ?_) (fun cdv A outer s H vs Q E hr h => ?_)
  · obtain ⟨a, n, l, e, r, ws, rfl, _⟩ := h
    rfl
  · obtain ⟨a, n, l, e, r, ws, rfl, ⟨dx, t, ha, dp⟩, ⟨n0, n1, l0, l1, e0, e1, r0, r1, dd⟩, q⟩ := h
    refine ⟨_, (pss_cons (ps_set (i := 1) sc_row_words.nd rfl (.inl rfl) (pe_lst (pa_cons (pe_cal C_time_text hr (by decide) (by rfl) (pa_cons (pe_fld (pv 0) (by rfl)) pa_nil)) (pa_cons (pe_cal C_time_text hr (by decide) (by rfl) (pa_cons (pe_fld (pv 0) (by rfl)) pa_nil)) pa_nil))))
      (pss_cons (ps_set (i := 2) sc_row_words.nd rfl (.inl rfl) (pe_ifExp (pt_cmpR op_ne (pe_fld (pv 0) (by rfl)) pe_int (nomark _)) (pe_lst (pa_cons pe_str (pa_cons (pe_callTy call_str_int (by rfl) T.z_str (by decide +kernel) (pa_cons (pe_fld (pv 0) (by rfl)) pa_nil)) pa_nil))) (pe_lst pa_nil)))
      (pss_one (ps_ret (pe_op op_cat (pe_op op_cat (pe_op op_cat (pe_lst (pa_cons (pe_callTy call_str_int (by rfl) T.z_str (by decide +kernel) (pa_cons (pe_fld (pv 0) (by rfl)) pa_nil)) pa_nil)) (pv 1)) (pe_cal C_deed_words hr (by decide) (by rfl) (pa_cons (pe_fld (pv 0) (by rfl)) pa_nil))) (pv 2)))))), ?_⟩
    refine ⟨_, rfl, a, C, dx, _, _, rfl, ha, RCC.cl, RCC.n2, lk_written .., l, rfl, l0, by omega, ?_⟩
    refine ⟨_, rfl, a, C, dx, _, _, rfl, ha, RCC.cl, RCC.n3, lk_at .., e, rfl, e0, by omega, (by show 2 ≤ sizeLine; decide), fun lt nlt => ?_⟩
    have s1 := same_upd (o := .lst [.str (tx l), .str (tx e)]) nlt
    have et : (upd H lt (.lst [.str (tx l), .str (tx e)])) lt = some (.lst [.str (tx l), .str (tx e)]) := upd_same
    have ha1 := s1 _ _ ha
    generalize upd H lt (.lst [.str (tx l), .str (tx e)]) = H1 at s1 et ha1 ⊢
    have bd : ∀ B : List Str, B.length ≤ 2 → ∀ (H2 : Hp) (lr : Addr), Same H1 H2 → H2 lr = some (.lst (B.map V.str)) → True := fun _ _ _ _ _ _ => trivial
    refine ⟨_, rfl, a, C, dx, _, _, rfl, ha1, RCC.cl, RCC.n5, lk_right .., rfl, _, rfl, ite2 (fun c => ?g1) (fun c => ?g2)⟩
    case' g1 =>
      have c' : r ≠ 0 := fun z => by
        rw [z, decide_eq_true rfl] at c
        cases c
      refine ⟨_, rfl, a, C, dx, _, _, rfl, ha1, RCC.cl, RCC.n5, lk_right .., r, rfl, small_log (by omega), (by show 2 ≤ sizeLine; decide), fun lr nlr => ?_⟩
      have hB : rowW n l e ws r = base5 n l e ws ++ [rgt, num r] := by
        unfold rowW
        rw [if_pos c']
      have s2 := same_upd (o := .lst [.str (Str.ofString "right"), .str (Str.ofString (toString r))]) nlr
      have er : (upd H1 lr (.lst [.str (Str.ofString "right"), .str (Str.ofString (toString r))])) lr = some (.lst ([rgt, num r].map V.str)) := upd_same
      have lB : ([rgt, num r] : List Str).length ≤ 2 := by show 2 ≤ 2; decide
      generalize upd H1 lr (.lst [.str (Str.ofString "right"), .str (Str.ofString (toString r))]) = H2 at s2 er ⊢
      obtain ⟨B, eB⟩ : ∃ B : List Str, [rgt, num r] = B := ⟨_, rfl⟩
      rw [eB] at hB lB er
    case' g2 =>
      have c' : ¬ r ≠ 0 := fun z => c (by
        rw [decide_eq_false (fun h => z (V.int.inj h))]
        rfl)
      refine ⟨Nat.zero_le _, fun lr nlr => ?_⟩
      have hB : rowW n l e ws r = base5 n l e ws ++ [] := by
        unfold rowW
        rw [if_neg c']
      have s2 := same_upd (o := .lst []) nlr
      have er : (upd H1 lr (.lst [])) lr = some (.lst (([] : List Str).map V.str)) := upd_same
      have lB : ([] : List Str).length ≤ 2 := by decide
      generalize upd H1 lr (.lst []) = H2 at s2 er ⊢
      obtain ⟨B, eB⟩ : ∃ B : List Str, ([] : List Str) = B := ⟨_, rfl⟩
      rw [eB] at hB lB er
    all_goals
      have ha2 := s2 _ _ ha1
      refine ⟨_, rfl, a, C, dx, _, _, rfl, ha2, RCC.cl, RCC.n1, lk_number .., n, rfl, small_log (by omega), (by show 1 ≤ sizeLine; decide), fun ln nln => ?_⟩
      have s3 := same_upd (o := .lst [.str (num n)]) nln
      refine ⟨_, rfl, ln, lt, _, _, rfl, rfl, upd_same, s3 _ _ (s2 _ _ et), (by show 3 ≤ sizeLine; decide), fun l3 nl3 => ?_⟩
      have s4 := same_upd (o := .lst [.str (num n), .str (tx l), .str (tx e)]) nl3
      have s14 := s1.trans (s2.trans (s3.trans s4))
      refine ⟨_, rfl, a, C, dx, _, _, rfl, s4 _ _ (s3 _ _ ha2), RCC.cl, RCC.n4, lk_deed .., t, ws, rfl, Dp.same s14 dp, dd, fun H5 D s5 nD eD => ?_⟩
      refine ⟨l3, D, _, _, rfl, rfl, s5 _ _ upd_same, eD, ?_, fun l6 nl6 => ?_⟩
      · rw [List.length_map, List.length_map]
        exact Nat.le_trans (show 3 + ws.length ≤ 6 by have := dd.2.1; omega) (by decide)
      have s6 := same_upd (o := .lst ([.str (num n), .str (tx l), .str (tx e)] ++ (ws.map wd).map V.str)) nl6
      refine ⟨_, rfl, l6, lr, _, _, rfl, rfl, upd_same, s6 _ _ (s5 _ _ (s4 _ _ (s3 _ _ er))), ?_, fun l7 nl7 => ?_⟩
      · rw [List.length_append, List.length_map, List.length_map, List.length_map]
        exact Nat.le_trans (show 3 + ws.length + B.length ≤ 8 by have := dd.2.1; omega) (by decide)
      refine q _ l7 (s14.trans (s5.trans (s6.trans (same_upd nl7)))) ?_
      rw [upd_same, hB]
      unfold base5
      rw [List.map_append, List.map_append]
      rfl
abbrev s_Row___str__ : Stmt := inClass (topS 8) 3
abbrev N_Row___str__ : List Str := ["self"]
theorem sc_Row___str__ : FnScope N_Row___str__ ["self"] (defScope s_Row___str__) := ⟨rfl, rfl, rfl, by decide +kernel, rfl, by decide +kernel, by decide +kernel⟩
def sp_str (K : PySem.W.Frag) (C : Addr) : Sp := fun vs H Q _ => ∃ (a : Addr) (n l e r : Int) (ws : List PyData), vs = [.ref a] ∧ RowAt K C H a n l e ws r ∧ B5 n l e ws r ∧ ∀ H' : Hp, Same H H' → Q (.str (T5 n l e ws r)) H'
theorem ok_str {f : Addr} {fd : FuncData} (F : Fun K "__str__" "Row.__str__" s_Row___str__ f fd) (T : Txt mg) (C_row_words : Cal P w K mg base 4 "row_words" (sp_row_words K C)) : FnOk P w K mg base CX0 5 f fd ["self"] (sp_str K C) := by
  refine F.ok sc_Row___str__ (fun vs H Q E h => ?_) (fun cdv A outer s H vs Q E hr h => ?_)
  · obtain ⟨a, n, l, e, r, ws, rfl, _⟩ := h
    rfl
  · obtain ⟨a, n, l, e, r, ws, rfl, ra, b5, q⟩ := h
    refine ⟨_, (pss_one (ps_ret (pe_join pe_str (pe_cal C_row_words hr (by decide) (by rfl) (pa_cons (pv 0) pa_nil))))), ?_⟩
    refine ⟨⟨_, rfl⟩, _, rfl, a, n, l, e, r, ws, rfl, ra, b5, fun H' D sm eD => ?_⟩
    refine ⟨_, D, rowW n l e ws r, rfl, rfl, .inl (SqL.of eD), ?_, q _ sm⟩
    have r0 := b5.2.2.2.2.2.2.1
    have r1 := b5.2.2.2.2.2.2.2.1
    refine fits (base_len b5) ?_
    by_cases c : r ≠ 0
    · rw [if_pos c]
      refine ⟨by show 2 ≤ 2; decide, fun z hz => ?_⟩
      simp only [List.mem_cons, List.not_mem_nil, or_false] at hz
      rcases hz with rfl | rfl
      · decide
      · have := num_len r0 r1
        omega
    · rw [if_neg c]
      exact ⟨by decide, fun z hz => nomatch hz⟩
end
end My

set_option Elab.async false
set_option linter.all false
set_option maxRecDepth 100000
set_option maxHeartbeats 4000000
namespace My
open PySem PySem.Spec PyProof.Rows L2 TL RZ
def TyO (K : PySem.W.Frag) (C : Addr) (H : Hp) (y : V) (t : Value) : Prop := TyX K H y t ∨ ∃ b dy gs, y = .ref b ∧ H b = some (.ins C dy gs) ∧ t = .ref C
theorem TyO.tyL {X : Cx} {C : Addr} {H : Hp} {y : V} {t : Value} (h : TyO X.K C H y t) : TyL X H y t := by
  rcases h with h | ⟨b, dy, gs, rfl, e, rfl⟩
  · exact TyL.of h
  · exact TyL.ins e
def rEqK (K : PySem.W.Frag) (C : Addr) (sp : Sp) (E : XK) : R2 := fun x y H Q => ∃ a dx fs t, x = .ref a ∧ H a = some (.ins C dx fs) ∧ TyO K C H y t ∧ PySem.W.notFirst K C t = true ∧ sp [.ref a, y] H (fun z H' => ∃ b, z = .bl b ∧ Q (.bl b) H') E
theorem op_eqK {X : Cx} {n : Nat} {CX : CXT} {C f : Addr} {fd : FuncData} {ps : List Str} {sp : Sp} {E : XK} (F : FnOk X.prog X.w X.K X.mg X.base CX n f fd ps sp) (hs : PySem.W.findIn X.K (.ref C) "__eq__" = some (some (.ref f))) (hf : PySem.W.isFn X.K (.ref f) = true) (hb : Binds X.K fd ps []) (hx : Passes CX X E) (hr : Room n X.A) :
    OpR X (compareOp .Eq) (rEqK X.K C sp E) := fun pins s σ H x y v u Q I rx ry ⟨a, dx, fs, t, e1, e2, ty, nf, q⟩ => op_eqO F hs hf hb hx hr pins s σ H x y v u Q I rx ry ⟨a, dx, fs, t, e1, e2, ty.tyL, nf, q⟩
def oth : List String := ["NoneType", "tuple", "str", "int", "list"]
/-- what is no row -/
def NoRows (K : PySem.W.Frag) (C : Addr) : Prop := ∀ T ∈ oth, PySem.W.kitOne K (.type T) (.ref C) = some false ∧ PySem.W.notFirst K C (.type T) = true
theorem F5.dp {K : PySem.W.Frag} {H : Hp} {a : Addr} {n l e r : Int} {ws : List PyData} (h : F5 K H a n l e ws r) : Dp K H (.ref a) (.tuple [.int n, .int l, .int e, .tuple ws, .int r]) := by
  obtain ⟨t, q, d⟩ := h
  exact .tup q (.cons (.int _) (.cons (.int _) (.cons (.int _) (.cons d (.cons (.int _) .nil)))))
theorem Okd.up1 {n : Nat} {d : PyData} (h : Okd n d) : Okd (n + 1) d := by
  induction h with
  | non => exact .non
  | bool b => exact .bool b
  | int i => exact .int i
  | str h => exact .str h
  | list hl h ih => exact .list hl ih
  | tuple hl h ih => exact .tuple hl ih
theorem Dd.okd5 {n l e r : Int} {ws : List PyData} (h : Dd ws) : Okd 3 (.tuple [.int n, .int l, .int e, .tuple ws, .int r]) := by
  refine .tuple (by show 5 ≤ 1000; decide) fun d hd => ?_
  simp only [List.mem_cons, List.not_mem_nil, or_false] at hd
  rcases hd with rfl | rfl | rfl | rfl | rfl
  · exact .int _
  · exact .int _
  · exact .int _
  · exact h.okd
  · exact .int _
section
variable {P : Program} {w : World} {K : PySem.W.Frag} {mg : Str → Option Value} {base : Heap} {C : Addr}
abbrev s_law_is_told : Stmt := topS 25
abbrev N_law_is_told : List Str := ["_law_row", "_law_five_here", "_law_told", "_law_thing"]
theorem sc_law_is_told : FnScope N_law_is_told ["_law_row", "_law_five_here"] (defScope s_law_is_told) := ⟨rfl, rfl, rfl, by decide +kernel, rfl, by decide +kernel, by decide +kernel⟩
def sp_law_is_told (K : PySem.W.Frag) (C : Addr) : Sp := fun vs H Q _ => ∃ (a v : Addr) (n l e r : Int) (ws : List PyData), vs = [.ref a, .ref v] ∧ RowAt K C H a n l e ws r ∧ F5 K H v n l e ws r ∧ B5 n l e ws r ∧ ∀ H' : Hp, Same H H' → Q (.bl true) H'
theorem ok_law_is_told {f fE fR fS : Addr} {fd fdE fdR fdS : FuncData} (F : Fun K "_law_is_told" "_law_is_told" s_law_is_told f fd) (T : Txt mg) (RCC : RC K mg C) (NR : NoRows K C)
    (C_law_like : Cal P w K mg base 4 "_law_like" (sp_law_like K 3)) (C_law_text : Cal P w K mg base 2 "_law_text" (sp_law_text K))
    (FE : FnOk P w K mg base CX0 1 fE fdE ["self", "other"] (sp_eq K C)) (sE : PySem.W.findIn K (.ref C) "__eq__" = some (some (.ref fE))) (iE : PySem.W.isFn K (.ref fE) = true) (bE : Binds K fdE ["self", "other"] [])
    (FR : FnOk P w K mg base CX0 1 fR fdR ["self"] (sp_repr K C)) (sR : PySem.W.findIn K (.ref C) "__repr__" = some (some (.ref fR))) (iR : PySem.W.isFn K (.ref fR) = true) (bR : Binds K fdR ["self"] [])
    (FS : FnOk P w K mg base CX0 5 fS fdS ["self"] (sp_str K C)) (sS : PySem.W.findIn K (.ref C) "__str__" = some (some (.ref fS))) (iS : PySem.W.isFn K (.ref fS) = true) (bS : Binds K fdS ["self"] []) : FnOk P w K mg base CX0 8 f fd ["_law_row", "_law_five_here"] (sp_law_is_told K C) := by
  refine F.ok sc_law_is_told (fun vs H Q E h => ?_) (fun cdv A outer s H vs Q E hr h => ?_)
  · obtain ⟨a, v, n, l, e, r, ws, rfl, _⟩ := h
    rfl
  · obtain ⟨a, v, n, l, e, r, ws, rfl, ra, f5, b5, q⟩ := h
    have dd : Dd ws := b5.2.2.2.2.2.2.2.2
    have n0 := b5.1
    have n1 := b5.2.1
    obtain ⟨dx, t, ha, dp⟩ := id ra
    refine ⟨_, (pss_cons (ps_set (i := 2) sc_law_is_told.nd rfl (.inl rfl) (pe_tup (pa_cons (pe_fld (pv 0) (by rfl)) (pa_cons (pe_fld (pv 0) (by rfl)) (pa_cons (pe_fld (pv 0) (by rfl)) (pa_cons (pe_fld (pv 0) (by rfl)) (pa_cons (pe_fld (pv 0) (by rfl)) pa_nil)))))))
      (pss_cons (ps_if (PW.pt (pw_or (pt_not (pt_val (pe_cal C_law_like hr (by decide) (by rfl) (pa_cons (pv 2) (pa_cons (pv 1) pa_nil))))) (pw_or1 (pt_cmpR op_ne (pe_callTy (call_strO FS sS iS bS pass0 (hr.mono (by decide))) (by rfl) T.z_str (by decide +kernel) (pa_cons (pv 0) pa_nil)) (pe_cal C_law_text hr (by decide) (by rfl) (pa_cons (pv 1) pa_nil)) (nomark _))))) (pss_one (ps_ret pe_bl)) pss_nil)
      (pss_cons (ps_if (pt_cmpR op_ne (pe_callB (call_reprO FR sR iR bR pass0 (hr.mono (by decide))) (by rfl) T.z_repr (by decide +kernel) (pa_cons (pv 0) pa_nil)) (pe_op op_add_str (pe_op op_add_str pe_str (pe_callTy call_str_int (by rfl) T.z_str (by decide +kernel) (pa_cons (pe_ix ix_tup (pv 1) pe_int (fun _ _ => rfl)) pa_nil))) pe_str) (nomark _)) (pss_one (ps_ret pe_bl)) pss_nil)
      (pss_one (ps_ret (pe_not (pe_callB (cr_any (by rfl)) (by rfl) T.z_any (by decide +kernel) (pa_cons (pe_lc (own := [("_law_thing", 3)]) (te := tOp (rEqK K C (sp_eq K C) E0) (tVar 0) (tVar 3)) (by rfl) sc_law_is_told.nd (pi_tup (pe_tup (pa_cons pe_non (pa_cons (pv 1) (pa_cons (pe_callTy (call_strO FS sS iS bS pass0 (hr.mono (by decide))) (by rfl) T.z_str (by decide +kernel) (pa_cons (pv 0) pa_nil)) (pa_cons (pe_ix ix_tup (pv 1) pe_int (fun _ _ => rfl)) (pa_cons (pe_lst (pa_cons (pv 0) pa_nil)) pa_nil))))))) (blkOk_by (own := [("_law_thing", 3)]) (N := N_law_is_told) (sc := defScope s_law_is_told) (by decide +kernel)) (fun _ _ _ _ _ => (pg_name (i := 3) sc_law_is_told.nd rfl (.inl rfl))) (fun _ _ _ _ _ => pts_nil) (fun _ _ _ _ _ => (pe_cmpR (op_eqK FE sE iE bE pass0 (hr.mono (by decide))) (pv 0) (pv 3) (nomark _)))) pa_nil)))))))), ?_⟩
    refine ⟨_, rfl, a, C, dx, _, _, rfl, ha, RCC.cl, RCC.n1, lk_number .., _, rfl, a, C, dx, _, _, rfl, ha, RCC.cl, RCC.n2, lk_written .., _, rfl, a, C, dx, _, _, rfl, ha, RCC.cl, RCC.n3, lk_at .., _, rfl, a, C, dx, _, _, rfl, ha, RCC.cl, RCC.n4, lk_deed .., _, rfl, a, C, dx, _, _, rfl, ha, RCC.cl, RCC.n5, lk_right .., (by show 5 ≤ sizeLine; decide), fun tt ntt => ?_⟩
    have s1 := same_upd (o := .tup [.int n, .int l, .int e, .ref t, .int r]) ntt
    have dt : Dp K (upd H tt (.tup [.int n, .int l, .int e, .ref t, .int r])) (.ref tt) (.tuple [.int n, .int l, .int e, .tuple ws, .int r]) := F5.dp ⟨t, SqT.of upd_same, Dp.same s1 dp⟩
    generalize upd H tt (.tup [.int n, .int l, .int e, .ref t, .int r]) = H1 at s1 dt ⊢
    refine ⟨_, rfl, _, rfl, .ref tt, .ref v, _, rfl, dt, (f5.same s1).dp, dd.okd5, fun H2 s2 => ?_⟩
    refine ⟨_, rfl, iteF ?_⟩
    have s12 := s1.trans s2
    refine ⟨_, rfl, a, dx, _, rfl, s12 _ _ ha, a, n, l, e, r, ws, rfl, ra.same s12, b5, fun H3 s3 => ⟨_, rfl, ?_⟩⟩
    have s13 := s12.trans s3
    refine ⟨_, rfl, v, n, l, e, r, ws, rfl, f5.same s13, b5, fun H4 s4 => ?_⟩
    refine ⟨rfl, _, rfl, iteF' (by rw [decide_eq_true rfl]; rfl) ?_⟩
    have s14 := s13.trans s4
    obtain ⟨t', sqv, _⟩ := f5.same s14
    refine ⟨_, rfl, a, dx, _, rfl, s14 _ _ ha, a, n, l, e, r, ws, rfl, ra.same s14, b5, _, rfl, ?_⟩
    have l1 := num_len n0 n1
    have l4 : (Str.ofString "Row(").length = 4 := by decide
    have l5 : (Str.ofString ")").length = 1 := by decide
    have hs : 100 ≤ sizeLine := by decide
    refine ⟨_, rfl, v, _, _, _, rfl, rfl, sqv, atI_nat (j := 0) rfl, n, rfl, small_log (by omega), _, _, rfl, rfl, ?_, _, _, rfl, rfl, ?_, ?_⟩
    · show (Str.ofString "Row(").length + (num n).length ≤ sizeLine
      exact Nat.le_trans (by omega) hs
    · show (Str.ofString "Row(" ++ num n).length + (Str.ofString ")").length ≤ sizeLine
      rw [str_app]
      exact Nat.le_trans (by omega) hs
    refine ⟨rfl, _, rfl, iteF' (by show (!decide (V.str (Str.ofString "Row(" ++ num n ++ Str.ofString ")") = V.str (Str.ofString "Row(" ++ num n ++ Str.ofString ")"))) = false; rw [decide_eq_true rfl]; rfl) ?_⟩
    -- the things that are no row
    refine ⟨_, rfl, _, rfl, a, dx, _, rfl, s14 _ _ ha, a, n, l, e, r, ws, rfl, ra.same s14, b5, fun H5 s5 => ⟨_, rfl, ?_⟩⟩
    have s15 := s14.trans s5
    refine ⟨_, rfl, v, _, _, _, rfl, rfl, Same.sqT s5 sqv, atI_nat (j := 0) rfl, _, rfl, (by show 1 ≤ sizeLine; decide), fun lw nlw => ?_⟩
    have s6 := same_upd (o := .lst [.ref a]) nlw
    have elw : (upd H5 lw (.lst [.ref a])) lw = some (.lst [.ref a]) := upd_same
    have s16 := s15.trans s6
    generalize upd H5 lw (.lst [.ref a]) = H6 at s6 elw s16 ⊢
    refine ⟨(by show 5 ≤ sizeLine; decide), fun tq ntq => ?_⟩
    have s7 := same_upd (o := .tup [.non, .ref v, .str (T5 n l e ws r), .int n, .ref lw]) ntq
    have etq : (upd H6 tq (.tup [.non, .ref v, .str (T5 n l e ws r), .int n, .ref lw])) tq = some (.tup [.non, .ref v, .str (T5 n l e ws r), .int n, .ref lw]) := upd_same
    have s17 := s16.trans s7
    have elw7 := s7 _ _ elw
    generalize upd H6 tq (.tup [.non, .ref v, .str (T5 n l e ws r), .int n, .ref lw]) = H7 at etq s17 elw7 ⊢
    refine ⟨tq, rfl, ⟨_, SqT.of etq⟩, fun D nD => ?_⟩
    refine lc_tup (K := K) (a := tq) (xs := [.non, .ref v, .str (T5 n l e ws r), .int n, .ref lw]) (fun i H' => Same H7 H' ∧ H' D = some (.lst (List.replicate i (V.bl false)))) ⟨same_upd nD, upd_same⟩ (fun i H' _ p => SqT.of (p.1 _ _ etq)) ?_ ?_
    · rintro i x H' hx ⟨sm, hD⟩
      have sH := s17.trans sm
      obtain ⟨TT, hT, ty, hi⟩ : ∃ TT, TT ∈ oth ∧ TyX K H' x (.type TT) ∧ i < 5 := by
        match i, hx with
        | 0, h => cases h; exact ⟨"NoneType", by decide, .base .non, by decide⟩
        | 1, h => cases h; exact ⟨"tuple", by decide, Dp.ty (f5.same sH).dp, by decide⟩
        | 2, h => cases h; exact ⟨"str", by decide, .base (.str _), by decide⟩
        | 3, h => cases h; exact ⟨"int", by decide, .base (.int _), by decide⟩
        | 4, h => cases h; exact ⟨"list", by decide, .base (.lst (sm _ _ elw7)), by decide⟩
      obtain ⟨kt, nf⟩ := NR TT hT
      refine ⟨rfl, yesI ?_⟩
      refine ⟨_, rfl, _, rfl, a, dx, _, _, rfl, sH _ _ ha, .inl ty, nf, a, x, n, l, e, r, ws, rfl, ra.same sH, dd, .inr ⟨TT, ty, kt, _, rfl, _, hD, ?_, Same.grow sm nD, ?_⟩⟩
      · rw [List.length_replicate]
        exact Nat.lt_of_lt_of_le hi (by decide)
      · rw [upd_same, ← List.replicate_succ']
    · rintro H' ⟨sm, hD⟩
      refine ⟨D, List.replicate 5 false, rfl, SqL.of (by rw [List.map_replicate]; exact hD), ?_⟩
      exact ⟨_, rfl, q _ (s17.trans sm)⟩
end
end My

set_option Elab.async false
set_option linter.all false
set_option maxRecDepth 100000
set_option maxHeartbeats 4000000
namespace My
open PySem PySem.Spec PyProof.Rows L2 TL RZ
section
variable {X : Cx} {CX : CXT} {k n : Nat} {f C : Addr} {fd : FuncData} {ps ks : List Str} {sp : Sp} {E : XK} {x : Str} {p pos : Pos} {kws : List Keyword} {tk : TA} {g : List Value → List Value → List Value} {gV : List V → List V → List V}
def tMakeK (C : Addr) (m : Nat) (sp : Sp) (gV : List V → List V → List V) (E : XK) (tk : TA) : TE := fun σ H Q => tk σ H fun zs H2 => zs.length = m ∧
  ∀ x dx, H2 x = none → H2 dx = none → dx ≠ x → sp (gV [.ref x] zs) (upd (upd H2 dx (.own x)) x (.ins C dx [])) (fun v H3 => v = .non ∧ Q (.ref x) H3) E
/-- X(k = v, ..), nothing by place -/
theorem pe_makeK (M : Mk X.K C f) (F : FnOk X.prog X.w X.K X.mg X.base CX k f fd ps sp) (hr : Room (k + 1) X.A) (hg : Gl X x) (hm : X.mg x = some (.ref C)) (hb : KBn X.K fd ps 1 ks g gV) (hx : Passes CX X E)
    (hkw : PK X kws tk) (hall : (backToKw pos (keywordEach kws X.env)).all (·.1.isSome) = true := by rfl) (hks : (backToKw pos (keywordEach kws X.env)).filterMap (·.1) = ks := by rfl)
    (hdb : (x == ("__debug__" : Str)) = false := by decide) (hpl : ((backTo pos (starEach [] X.env)).any (·.1) || (backToKw pos (keywordEach kws X.env)).any (·.1.isNone)) = false := by rfl) :
    PE X (.Call (.Name x p) [] kws pos) (tMakeK C ks.length sp gV E tk) := by
  refine ⟨fun pins s σ H Q I h => ?_⟩
  refine wpAny_Call_Name_kw (ld_glob I hg hm ?_ hdb)
  refine PySem.W.callWith_KW0 (h₀ := X.base) I.ok.mod.kin M.kp hall (thn (hkw.run pos pins s σ H _ I h) fun ws s2 ⟨zs, H2, I2, rz, l2, q2⟩ => ⟨I2.kIn, ?_⟩) hpl
  rw [hks]
  exact run_makeN (n := 0) M F hr hb hx I2 .nil rz rfl l2 q2
end
/-- x in l, without the frame -/
def rInK (K : PySem.W.Frag) (C : Addr) (sp : Sp) (E : XK) : R2 := fun x y H Q => ∃ (p : Addr) (xs : List V) (es : List Bool), y = .ref p ∧ H p = some (.lst xs) ∧ xs.length = es.length ∧
  (∀ H1, Ext H H1 → ∃ t, TyO K C H1 x t ∧ PySem.W.notFirst K C t = true ∧ ∀ (i : Nat) xi e, xs[i]? = some xi → es[i]? = some e → ∃ a dx fs, xi = .ref a ∧ H1 a = some (.ins C dx fs) ∧
    ((x = .ref a ∧ e = true) ∨ (x ≠ .ref a ∧ sp [.ref a, x] H1 (fun z H' => ∃ b, z = .bl b ∧ (b = e ∧ Ext H H')) E))) ∧ ∀ H', Ext H H' → Q (.bl (es.any id)) H'
theorem op_inK {X : Cx} {n : Nat} {CX : CXT} {C f : Addr} {fd : FuncData} {ps : List Str} {sp : Sp} {E : XK} (F : FnOk X.prog X.w X.K X.mg X.base CX n f fd ps sp) (hs : PySem.W.findIn X.K (.ref C) "__eq__" = some (some (.ref f))) (hf : PySem.W.isFn X.K (.ref f) = true) (hb : Binds X.K fd ps []) (hx : Passes CX X E) (hr : Room (n + 1) X.A) :
    OpR X (compareOp .In) (rInK X.K C sp E) := fun pins s σ H x y v u Q I rx ry ⟨p, xs, es, e1, e2, e3, turn, q⟩ => op_inO F hs hf hb hx hr pins s σ H x y v u Q I rx ry ⟨p, xs, es, e1, e2, e3, fun H1 ex => by
      obtain ⟨t, ty, nf, z⟩ := turn H1 ex
      exact ⟨t, ty.tyL, nf, z⟩, q⟩
def rNeK (K : PySem.W.Frag) (C : Addr) (sp : Sp) (E : XK) : R2 := fun x y H Q => ∃ a dx fs t, x = .ref a ∧ H a = some (.ins C dx fs) ∧ TyO K C H y t ∧ PySem.W.notFirst K C t = true ∧ sp [.ref a, y] H (fun z H' => ∃ b, z = .bl b ∧ Q (.bl (!b)) H') E
theorem op_neK {X : Cx} {n : Nat} {CX : CXT} {C f : Addr} {fd : FuncData} {ps : List Str} {sp : Sp} {E : XK} (F : FnOk X.prog X.w X.K X.mg X.base CX n f fd ps sp) (hne : PySem.W.findIn X.K (.ref C) "__ne__" = some (some (.builtin "object.__ne__"))) (hm : PySem.W.mroIn X.K C (.type "object") = some true)
    (hs : PySem.W.findIn X.K (.ref C) "__eq__" = some (some (.ref f))) (hf : PySem.W.isFn X.K (.ref f) = true) (hb : Binds X.K fd ps []) (hx : Passes CX X E) (hr : Room (n + 1) X.A) :
    OpR X (compareOp .NotEq) (rNeK X.K C sp E) := fun pins s σ H x y v u Q I rx ry ⟨a, dx, fs, t, e1, e2, ty, nf, q⟩ => op_neO F hne hm hs hf hb hx hr pins s σ H x y v u Q I rx ry ⟨a, dx, fs, t, e1, e2, ty.tyL, nf, q⟩
/-! ### alike -/
theorem dec_int (i j : Int) : decide (V.int i = V.int j) = (i == j) := by
  by_cases h : i = j
  · subst h
    rw [decide_eq_true rfl, beq_self_eq_true]
  · rw [decide_eq_false (fun z => h (V.int.inj z)), beq_eq_false_iff_ne.mpr h]
theorem eqv5 (n l e r n' l' e' r' : Int) (ws ws' : List PyData) : PyData.eqv (.tuple [.int n, .int l, .int e, .tuple ws, .int r]) (.tuple [.int n', .int l', .int e', .tuple ws', .int r']) = eq5 n l e ws r n' l' e' ws' r' := by
  unfold eq5
  rw [dec_int, dec_int, dec_int, dec_int]
  simp only [PyData.eqv, PyData.eqvAll, Bool.and_true]
theorem eq5_self {n l e r : Int} {ws : List PyData} (dd : Dd ws) : eq5 n l e ws r n l e ws r = true := by
  unfold eq5
  rw [decide_eq_true rfl, decide_eq_true rfl, decide_eq_true rfl, decide_eq_true rfl, eqv_self (dd.okd.shaped (by decide))]
  rfl
/-- two rows that are equal -/
def RR (K : PySem.W.Frag) (C a b : Addr) (H : Hp) : Prop := ∃ (n l e r n' l' e' r' : Int) (ws ws' : List PyData), RowAt K C H a n l e ws r ∧ Dd ws ∧ RowAt K C H b n' l' e' ws' r' ∧ Dd ws' ∧ eq5 n l e ws r n' l' e' ws' r' = true
theorem RR.mon {K : PySem.W.Frag} {C : Addr} : ∀ a b H H', Ext H H' → RR K C a b H → RR K C a b H' := fun a b H H' ex h => by
  obtain ⟨n, l, e, r, n', l', e', r', ws, ws', h1, d1, h2, d2, q⟩ := h
  exact ⟨n, l, e, r, n', l', e', r', ws, ws', h1.same ex, d1, h2.same ex, d2, q⟩
theorem rr_fn {P : Program} {w : World} {K : PySem.W.Frag} {mg : Str → Option Value} {base : Heap} {C f : Addr} {fd : FuncData} {k : Nat} {ps : List Str} (F : FnOk P w K mg base CX0 k f fd ps (sp_eq K C)) : FnOk P w K mg base CX0 k f fd ps (spEq (RR K C)) :=
  F.imp fun vs H Q E h => by
    obtain ⟨a, b, rfl, ⟨n, l, e, r, n', l', e', r', ws, ws', h1, d1, h2, d2, q⟩, qq⟩ := h
    refine ⟨a, .ref b, n, l, e, r, ws, rfl, h1, d1, .inl ⟨b, n', l', e', r', ws', rfl, h2, d2, ?_⟩⟩
    rw [q]
    exact qq H Ext.rfl'
/-- a new row -/
theorem made_same {H H' : Hp} {a dx : Addr} {o : HO} (na : H a = none) (nd : H dx = none) (k : ∀ b, b ≠ a → H' b = (upd (upd H dx (.own a)) a o) b) : Same H H' := fun b q e => by
  have h1 : b ≠ a := ne_of_none e na
  rw [k b h1, upd_ne h1, upd_ne (ne_of_none e nd)]
  exact e
structure Rec where
  a : Addr
  b : Addr
  n : Int
  l : Int
  e : Int
  r : Int
  ws : List PyData
def Rec.Good (K : PySem.W.Frag) (C : Addr) (H : Hp) (x : Rec) : Prop := RowAt K C H x.a x.n x.l x.e x.ws x.r ∧ F5 K H x.b x.n x.l x.e x.ws x.r ∧ B5 x.n x.l x.e x.ws x.r
theorem Rec.Good.same {K : PySem.W.Frag} {C : Addr} {H H' : Hp} {x : Rec} (h : x.Good K C H) (sm : Same H H') : x.Good K C H' := ⟨h.1.same sm, h.2.1.same sm, h.2.2⟩
theorem Rec.Good.sx {K : PySem.W.Frag} {C l : Addr} {H H' : Hp} {x : Rec} {ys : List V} (h : x.Good K C H) (s : Sx l H H') (e : H l = some (.lst ys)) : x.Good K C H' := by
  have dd : Dd x.ws := h.2.2.2.2.2.2.2.2.2.2
  obtain ⟨t, q, d⟩ := h.2.1
  exact ⟨h.1.sx s e dd, ⟨t, SqT.sx q s e, Dp.sx s e d dd.flt⟩, h.2.2⟩
end My

set_option Elab.async false
set_option linter.all false
set_option maxRecDepth 100000
set_option maxHeartbeats 4000000
namespace My
open PySem PySem.Spec PyProof.Rows L2 TL RZ
section
variable {P : Program} {w : World} {K : PySem.W.Frag} {mg : Str → Option Value} {base : Heap} {C : Addr}
abbrev s_law : Stmt := topS 26
abbrev N_law : List Str := ["_law_script", "_law_bag_here", "_law_told", "_law_engines_here", "_law_rows", "_law_fives", "_law_k", "_law_five_here", "_law_row", "_law_twin", "_law_other_here", "_law_far", "_law_alike", "_law_alone"]
theorem sc_law : FnScope N_law ["_law_script"] (defScope s_law) := ⟨rfl, rfl, rfl, by decide +kernel, rfl, by decide +kernel, by decide +kernel⟩
def sp_law (K : PySem.W.Frag) : Sp := fun vs H Q _ => ∃ (a : Addr) (ns : List Int), vs = [.ref a] ∧ SqL K H a (ns.map V.int) ∧ ns.length ≤ 63 ∧ ∀ H', Q (.bl true) H'
theorem En.sl {K : PySem.W.Frag} {H H' : Hp} {v : V} {p : Addr} {ys : List V} (h : En K H v) (x : Sx p H H') (e : H p = some (.lst ys)) : En K H' v := by
  obtain ⟨es, d, n, l, a⟩ := h
  exact ⟨es, Dp.sx x e d (.tup fun d hd => (a d hd).flt), n, l, a⟩
theorem Gd.sl {K : PySem.W.Frag} {H H' : Hp} {v : V} {p : Addr} {ys : List V} (h : Gd K H v) (x : Sx p H H') (e : H p = some (.lst ys)) : Gd K H' v := by
  obtain ⟨ps, rs, ss, d, a1, a2, a3⟩ := h
  refine ⟨ps, rs, ss, Dp.sx x e d (.tup fun d hd => ?_), a1, a2, a3⟩
  simp only [List.mem_cons, List.not_mem_nil, or_false] at hd
  rcases hd with rfl | rfl | rfl
  · exact .tup fun d hd => (a1.2.2 d hd).flt
  · exact .tup fun d hd => (a2.2 d hd).flt
  · exact .tup (Flt.strs ss)
def ps6 : List Str := ["self", "number", "written", "at", "deed", "right"]
def gK {α : Type} : List α → List α → List α
  | [x], [d, r, e, n, l] => [x, n, l, e, d, r]
  | us, _ => us
theorem nfC {K : PySem.W.Frag} {C : Addr} : PySem.W.notFirst K C (.ref C) = true := by simp [PySem.W.notFirst]
theorem ok_law {f fE fS fI : Addr} {fd fdE fdS fdI : FuncData} {ds4 : List Value} (F : Fun K "law" "law" s_law f fd) (T : Txt mg) (RCC : RC K mg C)
    (C_law_bag : Cal P w K mg base 1 "_law_bag" (sp_law_bag K)) (C_law_ground : Cal P w K mg base 3 "_law_ground" (sp_law_ground K)) (C_law_engines : Cal P w K mg base 3 "_law_engines" (sp_law_engines K))
    (C_law_five : Cal P w K mg base 4 "_law_five" (sp_law_five K)) (C_law_deed : Cal P w K mg base 3 "_law_deed" (sp_law_deed K)) (C_law_other : Cal P w K mg base 2 "_law_other" (sp_law_other K)) (C_law_is_told : Cal P w K mg base 8 "_law_is_told" (sp_law_is_told K C))
    (FE : FnOk P w K mg base CX0 1 fE fdE ["self", "other"] (sp_eq K C)) (sE : PySem.W.findIn K (.ref C) "__eq__" = some (some (.ref fE))) (iE : PySem.W.isFn K (.ref fE) = true) (bE : Binds K fdE ["self", "other"] [])
    (sN : PySem.W.findIn K (.ref C) "__ne__" = some (some (.builtin "object.__ne__")))
    (FS : FnOk P w K mg base CX0 5 fS fdS ["self"] (sp_str K C)) (sS : PySem.W.findIn K (.ref C) "__str__" = some (some (.ref fS))) (iS : PySem.W.isFn K (.ref fS) = true) (bS : Binds K fdS ["self"] [])
    (MK : Mk K C fI) (FI : FnOk P w K mg base CX0 1 fI fdI ["self", "number", "written", "at", "deed", "right"] (sp_init C)) (bI5 : Binds K fdI ["self", "number", "written", "at", "deed", "right"] []) (bI4 : Binds K fdI ["self", "number", "written", "at", "deed", "right"] ds4) (hI4 : Vals [.int 0] ds4)
    (kb1 : KBn K fdI ["self", "number", "written", "at", "deed", "right"] 1 ["deed", "right", "at", "number", "written"] gK gK) (kb5 : KBn K fdI ["self", "number", "written", "at", "deed", "right"] 5 ["right"] (fun us ws => us ++ ws) (fun vs zs => vs ++ zs)) : FnOk P w K mg base CX0 9 f fd ["_law_script"] (sp_law K) := by
  refine F.ok sc_law (fun vs H Q E h => ?_) (fun cdv A outer s H vs Q E hr h => ?_)
  · obtain ⟨a, ns, rfl, _⟩ := h
    rfl
  · obtain ⟨a, ns, rfl, hS, hl, q⟩ := h
    refine ⟨_, (pss_cons (ps_set (i := 1) sc_law.nd rfl (.inl rfl) (pe_cal C_law_bag hr (by decide) (by rfl) (pa_cons (pv 0) (pa_cons pe_int pa_nil))))
      (pss_cons (ps_set (i := 2) sc_law.nd rfl (.inl rfl) (pe_cal C_law_ground hr (by decide) (by rfl) (pa_cons (pv 1) pa_nil)))
      (pss_cons (ps_set (i := 3) sc_law.nd rfl (.inl rfl) (pe_cal C_law_engines hr (by decide) (by rfl) (pa_cons (pv 1) (pa_cons (pe_ix ix_tup (pv 2) pe_int (fun _ _ => rfl)) pa_nil))))
      (pss_cons (ps_asg (pe_tup (pa_cons (pe_lst pa_nil) (pa_cons (pe_lst pa_nil) pa_nil))) (pg_tup rfl (pgs_cons (pg_name (i := 4) sc_law.nd rfl (.inr rfl)) (pgs_cons (pg_name (i := 5) sc_law.nd rfl (.inl rfl)) pgs_nil))))
      (pss_cons (ps_for PassesOwn.never rfl (pi_range1 (by rfl) T.z_range (pa_cons (pe_callB (call_max2 rfl) (by rfl) T.z_max (by decide +kernel) (pa_cons pe_int (pa_cons (pe_callB (call_min2 rfl) (by rfl) T.z_min (by decide +kernel) (pa_cons pe_int (pa_cons (pe_op op_sub (pe_callB call_len_seq (by rfl) T.z_len (by decide +kernel) (pa_cons (pv 0) pa_nil)) pe_int) pa_nil))) pa_nil))) pa_nil)) (pg_name (i := 6) sc_law.nd rfl (.inl rfl))
        (pss_cons (ps_set (i := 1) sc_law.nd rfl (.inl rfl) (pe_cal C_law_bag hr (by decide) (by rfl) (pa_cons (pv 0) (pa_cons (pe_op op_add pe_int (pv 6)) pa_nil))))
        (pss_cons (ps_set (i := 7) sc_law.nd rfl (.inl rfl) (pe_cal C_law_five hr (by decide) (by rfl) (pa_cons (pv 1) (pa_cons (pv 2) (pa_cons (pv 3) pa_nil)))))
        (pss_cons (ps_set (i := 8) sc_law.nd rfl (.inl rfl) (pe_make MK FI (hr.mono (by decide)) (by rfl) RCC.g bI5 .nil pass0 (pa_cons (pe_ix ix_tup (pv 7) pe_int (fun _ _ => rfl)) (pa_cons (pe_ix ix_tup (pv 7) pe_int (fun _ _ => rfl)) (pa_cons (pe_ix ix_tup (pv 7) pe_int (fun _ _ => rfl)) (pa_cons (pe_ix ix_tup (pv 7) pe_int (fun _ _ => rfl)) (pa_cons (pe_ix ix_tup (pv 7) pe_int (fun _ _ => rfl)) pa_nil)))))))
        (pss_cons (ps_set (i := 9) sc_law.nd rfl (.inl rfl) (pe_makeK MK FI (hr.mono (by decide)) (by rfl) RCC.g kb1 pass0 (pk_cons (pe_ix ix_tup (pv 7) pe_int (fun _ _ => rfl)) (pk_cons (pe_ix ix_tup (pv 7) pe_int (fun _ _ => rfl)) (pk_cons (pe_ix ix_tup (pv 7) pe_int (fun _ _ => rfl)) (pk_cons (pe_ix ix_tup (pv 7) pe_int (fun _ _ => rfl)) (pk_cons (pe_ix ix_tup (pv 7) pe_int (fun _ _ => rfl)) pk_nil)))))))
        (pss_cons (ps_set (i := 10) sc_law.nd rfl (.inl rfl) (pe_cal C_law_other hr (by decide) (by rfl) (pa_cons (pv 1) (pa_cons (pv 7) (pa_cons (pe_cal C_law_deed hr (by decide) (by rfl) (pa_cons (pv 1) (pa_cons (pv 2) (pa_cons (pv 3) (pa_cons (pe_lst pa_nil) pa_nil))))) pa_nil)))))
        (pss_cons (ps_set (i := 11) sc_law.nd rfl (.inl rfl) (pe_makeN MK FI (hr.mono (by decide)) (by rfl) RCC.g kb5 pass0 (pa_cons (pe_ix ix_tup (pv 10) pe_int (fun _ _ => rfl)) (pa_cons (pe_ix ix_tup (pv 10) pe_int (fun _ _ => rfl)) (pa_cons (pe_ix ix_tup (pv 10) pe_int (fun _ _ => rfl)) (pa_cons (pe_ix ix_tup (pv 10) pe_int (fun _ _ => rfl)) pa_nil)))) (pk_cons (pe_ix ix_tup (pv 10) pe_int (fun _ _ => rfl)) pk_nil)))
        (pss_cons (ps_if (PW.pt (pw_or (pt_not (pt_val (pe_cal C_law_is_told hr (by decide) (by rfl) (pa_cons (pv 8) (pa_cons (pv 7) pa_nil))))) (pw_or (pt_not (pt_val (pe_cal C_law_is_told hr (by decide) (by rfl) (pa_cons (pv 9) (pa_cons (pv 7) pa_nil))))) (pw_or1 (pt_not (pt_val (pe_cal C_law_is_told hr (by decide) (by rfl) (pa_cons (pv 11) (pa_cons (pv 10) pa_nil))))))))) (pss_one (ps_ret pe_bl)) pss_nil)
        (pss_cons (ps_set (i := 12) sc_law.nd rfl (.inl rfl) (pe_cmpR (op_eqD hr.units) (pv 7) (pv 10) (nomark _)))
        (pss_cons (ps_if (PW.pt (pw_or (pt_not (pt_cmpR (op_eqK FE sE iE bE pass0 (hr.mono (by decide))) (pv 8) (pv 9) (nomark _))) (pw_or (pt_cmpR (op_neK FE sN RCC.c4 sE iE bE pass0 (hr.mono (by decide))) (pv 8) (pv 9) (nomark _)) (pw_or (pt_cmpR op_ne (pe_cmpR (op_eqK FE sE iE bE pass0 (hr.mono (by decide))) (pv 8) (pv 11) (nomark _)) (pv 12) (nomark _)) (pw_or1 (pt_cmpR op_ne (pe_cmpR (op_eqK FE sE iE bE pass0 (hr.mono (by decide))) (pv 11) (pv 8) (nomark _)) (pv 12) (nomark _))))))) (pss_one (ps_ret pe_bl)) pss_nil)
        (pss_cons (ps_if (PW.pt (pw_or (pt_cmpR op_ne (pe_cmpR (op_inK FE sE iE bE pass0 (hr.mono (by decide))) (pv 8) (pv 4) rfl) (pe_cmpR (op_inD (hu65 hr)) (pv 7) (pv 5) rfl) (nomark _)) (pw_or1 (pt_cmpR (op_neL (D := DIns C (RR K C)) (mon_ins RR.mon) (eqG_ins (rr_fn FE) sE iE bE pass0) (hr.mono (by decide))) (pe_op op_cat (pv 4) (pe_lst (pa_cons (pv 9) pa_nil))) (pe_op op_cat (pv 4) (pe_lst (pa_cons (pv 8) pa_nil))) (nomark _))))) (pss_one (ps_ret pe_bl)) pss_nil)
        (pss_cons (ps_expr (pe_bm PySem.F.plainAttrs_list PySem.F.slot_list_append PySem.F.type_list_append mt_append (pv 4) (pa_cons (pv 8) pa_nil)))
        (pss_one (ps_expr (pe_bm PySem.F.plainAttrs_list PySem.F.slot_list_append PySem.F.type_list_append mt_append (pv 5) (pa_cons (pv 7) pa_nil))))))))))))))))
      (pss_cons (ps_set (i := 13) sc_law.nd rfl (.inl rfl) (pe_make MK FI (hr.mono (by decide)) (by rfl) RCC.g bI4 hI4 pass0 (pa_cons pe_int (pa_cons pe_int (pa_cons pe_int (pa_cons (pe_tup (pa_cons pe_str pa_nil)) pa_nil))))))
      (pss_cons (ps_if (PW.pt (pw_or (pt_cmpR op_ne (pe_fld (pv 13) (by rfl)) pe_int (nomark _)) (pw_or1 (pt_cmpR op_ne (pe_callTy (call_strO FS sS iS bS pass0 (hr.mono (by decide))) (by rfl) T.z_str (by decide +kernel) (pa_cons (pv 13) pa_nil)) pe_str (nomark _))))) (pss_one (ps_ret pe_bl)) pss_nil)
      (pss_one (ps_ret (pe_callB (cr_all (by rfl)) (by rfl) T.z_all (by decide +kernel) (pa_cons (pe_lc (own := [("_law_row", 8)]) (te := tOp (rInK K C (sp_eq K C) E0) (tVar 8) (tRevL K (tVar 4))) (by rfl) sc_law.nd (pi_list (pv 4)) (blkOk_by (own := [("_law_row", 8)]) (N := N_law) (sc := defScope s_law) (by decide +kernel)) (fun _ _ _ _ _ => (pg_name (i := 8) sc_law.nd rfl (.inl rfl))) (fun _ _ _ _ _ => pts_nil) (fun _ _ _ _ _ => (pe_cmpR (op_inK FE sE iE bE pass0 (hr.mono (by decide))) (pv 8) (pe_revL (pv 4)) rfl))) pa_nil))))))))))), ?_⟩
    refine ⟨_, rfl, a, ns, 0, rfl, hS, by decide, by decide, fun H1 p sm1 np B1 => ?_⟩
    refine ⟨_, rfl, p, rfl, B1, fun H2 tg x2 B2 gd => ?_⟩
    obtain ⟨ps, rs, ss, dt, hps, hrs, ⟨ss0, ss1, ss2⟩⟩ := id gd
    obtain ⟨tg', xt, et, sqt, dxt⟩ := Dp.tup_inv dt
    cases et
    obtain ⟨a1, a2, a3, rfl, q3⟩ : ∃ a1 a2 a3, xt = [.ref a1, .ref a2, .ref a3] ∧ SqT K H2 a3 (ss.map V.str) := by
      cases dxt with
      | cons h1 t1 => cases t1 with
        | cons h2 t2 => cases t2 with
          | cons h3 t3 =>
            cases t3
            obtain ⟨a1, v1, rfl, _⟩ := Dp.tup_inv h1
            obtain ⟨a2, v2, rfl, _⟩ := Dp.tup_inv h2
            obtain ⟨a3, v3, rfl, q3, d3⟩ := Dp.tup_inv h3
            rw [DpAll.strs_inv d3] at q3
            exact ⟨a1, a2, a3, rfl, q3⟩
    refine ⟨_, rfl, _, rfl, tg, _, _, _, rfl, rfl, sqt, atI_nat (j := 2) rfl, p, a3, ss, rfl, B2, q3, ss0, ss1, fun H3 te x3 B3 en => ?_⟩
    have gd3 := gd.sx x3 B2
    have sm3 : Same H H3 := Sx.toSame sm1 (x2.trans x3) np
    refine ⟨Nat.zero_le _, fun lr nlr => ?_⟩
    have s4 := same_upd (o := .lst []) nlr
    refine ⟨Nat.zero_le _, fun lf nlf => ?_⟩
    have s5 := same_upd (o := .lst []) nlf
    refine ⟨(by show 2 ≤ sizeLine; decide), fun tp ntp => ?_⟩
    have s6 := same_upd (o := .tup [.ref lr, .ref lf]) ntp
    have nlr0 : H lr = none := sm3.free nlr
    have nlf0 : H lf = none := (sm3.trans s4).free nlf
    have nrf : lr ≠ lf := fun z => by
      rw [← z, upd_same] at nlf
      cases nlf
    refine ⟨tp, _, rfl, SqT.of upd_same, rfl, _, _, rfl, _, _, rfl, rfl, ?_⟩
    have elr : (upd (upd (upd H3 lr (.lst [])) lf (.lst [])) tp (.tup [.ref lr, .ref lf])) lr = some (.lst []) := s6 _ _ (s5 _ _ upd_same)
    have elf : (upd (upd (upd H3 lr (.lst [])) lf (.lst [])) tp (.tup [.ref lr, .ref lf])) lf = some (.lst []) := s6 _ _ upd_same
    have s36 := s4.trans (s5.trans s6)
    have sm6 := sm3.trans s36
    have gd6 := gd3.same s36
    have en6 := en.same s36
    generalize upd (upd (upd H3 lr (.lst [])) lf (.lst [])) tp (.tup [.ref lr, .ref lf]) = H6 at elr elf sm6 gd6 en6 ⊢
    obtain ⟨N, eN, hN0, hN1⟩ : ∃ N : Int, (if (if ((ns.map V.int).length : Int) - 1 < 8 then ((ns.map V.int).length : Int) - 1 else 8) > 3 then (if ((ns.map V.int).length : Int) - 1 < 8 then ((ns.map V.int).length : Int) - 1 else 8) else 3) = N ∧ 0 ≤ N ∧ N ≤ 60 := ⟨_, rfl, by split <;> (try split) <;> omega, by split <;> (try split) <;> omega⟩
    refine ⟨_, rfl, a, _, rfl, .inl (sm6.seq hS), _, _, rfl, rfl, _, _, rfl, _, _, rfl, N, ?_, by omega, by omega, ?_⟩
    · rw [← eN]
    refine for_range (lo := 0) (n := N.toNat) (fun i σ H' => (∃ x1 x6 x7 x8 x9 x10 x11 x12 x13, σ = [some (.ref a), x1, some (.ref tg), some (.ref te), some (.ref lr), some (.ref lf), x6, x7, x8, x9, x10, x11, x12, x13]) ∧ Same H H' ∧ Gd K H' (.ref tg) ∧ En K H' (.ref te) ∧ ∃ L : List Rec, L.length = i ∧ H' lr = some (.lst (L.map fun x => V.ref x.a)) ∧ H' lf = some (.lst (L.map fun x => V.ref x.b)) ∧ ∀ x ∈ L, x.Good K C H') ⟨⟨_, _, _, _, _, _, _, _, _, rfl⟩, sm6, gd6, en6, [], rfl, elr, elf, (fun _ z => nomatch z)⟩ ?_ ?_
    · rintro i σ H7 hi ⟨⟨x1, x6, x7, x8, x9, x10, x11, x12, x13, rfl⟩, sm7, gd7, en7, L, hL, hlr, hlf, good⟩
      refine ⟨_, rfl, _, rfl, _, _, rfl, rfl, a, ns, _, rfl, sm7.seq hS, by omega, by omega, fun H8 p2 s8 np8 B8 => ?_⟩
      refine ⟨_, rfl, _, rfl, _, rfl, p2, _, _, rfl, B8, gd7.same s8, en7.same s8, fun H9 v n l e r ws x9 B9 b5 f5 => ?_⟩
      have dd : Dd ws := b5.2.2.2.2.2.2.2.2
      have s79 : Same H7 H9 := Sx.toSame s8 x9 np8
      obtain ⟨t, sqv, dp⟩ := id f5
      refine ⟨_, rfl, v, _, _, _, rfl, rfl, sqv, atI_nat (j := 0) rfl, _, rfl, v, _, _, _, rfl, rfl, sqv, atI_nat (j := 1) rfl, _, rfl, v, _, _, _, rfl, rfl, sqv, atI_nat (j := 2) rfl, _, rfl, v, _, _, _, rfl, rfl, sqv, atI_nat (j := 3) rfl, _, rfl, v, _, _, _, rfl, rfl, sqv, atI_nat (j := 4) rfl, fun ra dxa n1 n2 n3 => ⟨ra, dxa, t, n, l, e, r, rfl, upd_same, fun Ha ka ea => ⟨rfl, ?_⟩⟩⟩
      have sA : Same H9 Ha := made_same n1 n2 ka
      have rowA : RowAt K C Ha ra n l e ws r := ⟨dxa, t, ea, Dp.same sA dp⟩
      have sqa := Same.sqT sA sqv
      refine ⟨_, rfl, v, _, _, _, rfl, rfl, sqa, atI_nat (j := 3) rfl, _, rfl, v, _, _, _, rfl, rfl, sqa, atI_nat (j := 4) rfl, _, rfl, v, _, _, _, rfl, rfl, sqa, atI_nat (j := 2) rfl, _, rfl, v, _, _, _, rfl, rfl, sqa, atI_nat (j := 0) rfl, _, rfl, v, _, _, _, rfl, rfl, sqa, atI_nat (j := 1) rfl, rfl, fun rb dxb n4 n5 n6 => ⟨rb, dxb, t, n, l, e, r, rfl, upd_same, fun Hb kb eb => ⟨rfl, ?_⟩⟩⟩
      have sB : Same Ha Hb := made_same n4 n5 kb
      have rowB : RowAt K C Hb rb n l e ws r := ⟨dxb, t, eb, Dp.same (sA.trans sB) dp⟩
      have sAB := sA.trans sB
      have BB := B9.same sAB
      refine ⟨_, rfl, _, rfl, _, rfl, _, rfl, _, rfl, Nat.zero_le _, fun c nc => ?_⟩
      have sC := same_upd (o := .lst []) nc
      have s7C := s79.trans (sAB.trans sC)
      refine ⟨p2, c, _, _, rfl, BB.same sC, gd7.same s7C, en7.same s7C, upd_same, BB.ne nc, fun Hc wt ws2 xc Bc dd2 dpw => ?_⟩
      have f5c := (f5.same (sAB.trans sC)).sx xc (BB.same sC) dd
      refine ⟨p2, v, wt, n, l, e, r, ws, ws2, rfl, Bc, f5c, b5, dpw, dd2, fun Hd v2 n' l' e' r' ws' xd Bd b5' f5' => ?_⟩
      have dd' : Dd ws' := b5'.2.2.2.2.2.2.2.2
      obtain ⟨yc, eyc⟩ := (BB.same sC).lst
      have f5d := f5c.sx xd Bc dd
      have rowAd := (rowA.same (sB.trans sC)).sx (xc.trans xd) eyc dd
      have rowBd := (rowB.same sC).sx (xc.trans xd) eyc dd
      have s7d : Same H7 Hd := Sx.toSame s8 (x9.trans ((Sx.same (sAB.trans sC)).trans (xc.trans xd))) np8
      obtain ⟨t', sqw, dpw'⟩ := id f5'
      refine ⟨_, rfl, v2, _, _, _, rfl, rfl, sqw, atI_nat (j := 0) rfl, _, rfl, v2, _, _, _, rfl, rfl, sqw, atI_nat (j := 1) rfl, _, rfl, v2, _, _, _, rfl, rfl, sqw, atI_nat (j := 2) rfl, _, rfl, v2, _, _, _, rfl, rfl, sqw, atI_nat (j := 3) rfl, _, rfl, v2, _, _, _, rfl, rfl, sqw, atI_nat (j := 4) rfl, rfl, rfl, fun rc dxc n7 n8 n9 => ⟨rc, dxc, t', n', l', e', r', rfl, upd_same, fun He ke ee => ⟨rfl, ?_⟩⟩⟩
      have sE' : Same Hd He := made_same n7 n8 ke
      have rowC : RowAt K C He rc n' l' e' ws' r' := ⟨dxc, t', ee, Dp.same sE' dpw'⟩
      have rowAe := rowAd.same sE'
      have rowBe := rowBd.same sE'
      have f5e := f5d.same sE'
      have f5e' := f5'.same sE'
      refine ⟨_, rfl, _, rfl, ra, v, n, l, e, r, ws, rfl, rowAe, f5e, b5, fun Hf sF => ⟨_, rfl, iteF ?_⟩⟩
      refine ⟨_, rfl, _, rfl, rb, v, n, l, e, r, ws, rfl, rowBe.same sF, f5e.same sF, b5, fun Hg sG => ⟨_, rfl, iteF ?_⟩⟩
      have sFG := sF.trans sG
      refine ⟨_, rfl, _, rfl, rc, v2, n', l', e', r', ws', rfl, rowC.same sFG, f5e'.same sFG, b5', fun Hh sH => ⟨_, rfl, iteF ?_⟩⟩
      have sEH := sFG.trans sH
      have rA := rowAe.same sEH
      have rB := rowBe.same sEH
      have rC := rowC.same sEH
      have f5h := f5e.same sEH
      have f5h' := f5e'.same sEH
      have s7h := s7d.trans (sE'.trans sEH)
      have sh1 := (dd.okd5 (n := n) (l := l) (e := e) (r := r)).shaped (by decide)
      have sh2 := (dd'.okd5 (n := n') (l := l') (e := e') (r := r')).shaped (by decide)
      have nra : ∀ x ∈ L, ra ≠ x.a := fun x hx z => by
        obtain ⟨⟨dx, tt, hh, _⟩, _⟩ := good x hx
        have := s79 _ _ hh
        rw [← z, n1] at this
        cases this
      refine ⟨_, rfl, _, rfl, _, _, f5h.dp, f5h'.dp, sh1, sh2, ?_⟩
      obtain ⟨da, ta, hra, dpa⟩ := id rA
      obtain ⟨db, tb, hrb, dpb⟩ := id rB
      obtain ⟨dc, tc, hrc, dpc⟩ := id rC
      refine ⟨_, rfl, _, rfl, ra, da, _, _, rfl, hra, .inr ⟨rb, _, _, rfl, hrb, rfl⟩, nfC, ra, .ref rb, n, l, e, r, ws, rfl, rA, dd, .inl ⟨rb, n, l, e, r, ws, rfl, rB, dd, _, rfl, _, rfl, iteF' (by rw [eq5_self dd]; rfl) ?_⟩⟩
      refine ⟨_, rfl, _, rfl, ra, da, _, _, rfl, hra, .inr ⟨rb, _, _, rfl, hrb, rfl⟩, nfC, ra, .ref rb, n, l, e, r, ws, rfl, rA, dd, .inl ⟨rb, n, l, e, r, ws, rfl, rB, dd, _, rfl, _, rfl, iteF' (by rw [eq5_self dd]; rfl) ?_⟩⟩
      have ne1 : (!decide (V.bl (eq5 n l e ws r n' l' e' ws' r') = V.bl (PyData.eqv (.tuple [.int n, .int l, .int e, .tuple ws, .int r]) (.tuple [.int n', .int l', .int e', .tuple ws', .int r'])))) = false := by
        rw [eqv5, decide_eq_true rfl]
        rfl
      have ne2 : (!decide (V.bl (eq5 n' l' e' ws' r' n l e ws r) = V.bl (PyData.eqv (.tuple [.int n, .int l, .int e, .tuple ws, .int r]) (.tuple [.int n', .int l', .int e', .tuple ws', .int r'])))) = false := by
        rw [PySem.W.eqv_comm, eqv5, decide_eq_true rfl]
        rfl
      refine ⟨_, rfl, _, rfl, ra, da, _, _, rfl, hra, .inr ⟨rc, _, _, rfl, hrc, rfl⟩, nfC, ra, .ref rc, n, l, e, r, ws, rfl, rA, dd, .inl ⟨rc, n', l', e', r', ws', rfl, rC, dd', _, rfl, _, rfl, rfl, _, rfl, iteF' ne1 ?_⟩⟩
      refine ⟨_, rfl, _, rfl, rc, dc, _, _, rfl, hrc, .inr ⟨ra, _, _, rfl, hra, rfl⟩, nfC, rc, .ref ra, n', l', e', r', ws', rfl, rC, dd', .inl ⟨ra, n, l, e, r, ws, rfl, rA, dd, _, rfl, _, rfl, rfl, _, rfl, iteF' ne2 ?_⟩⟩
      -- in
      have hlrh := s7h _ _ hlr
      have hlfh := s7h _ _ hlf
      have goodh : ∀ x ∈ L, x.Good K C Hh := fun x hx => (good x hx).same s7h
      refine ⟨_, rfl, _, rfl, lr, _, L.map (fun x => eq5 x.n x.l x.e x.ws x.r n l e ws r), rfl, hlrh, (by rw [List.length_map, List.length_map]), fun G1 ex => ⟨.ref C, .inr ⟨ra, da, _, rfl, ex _ _ hra, rfl⟩, nfC, fun i xi ee h1 h2 => ?_⟩, fun G1 ex => ?_⟩
      · rw [List.getElem?_map] at h1 h2
        obtain ⟨x, hx, rfl⟩ := Option.map_eq_some_iff.mp h1
        rw [hx] at h2
        cases h2
        have hm := List.mem_of_getElem? hx
        have gx := (goodh x hm).same ex
        have dx := gx.2.2.2.2.2.2.2.2.2.2
        obtain ⟨dq, tq, hq, _⟩ := id gx.1
        exact ⟨x.a, dq, _, rfl, hq, .inr ⟨fun z => nra x hm (V.ref.inj z), x.a, .ref ra, x.n, x.l, x.e, x.r, x.ws, rfl, gx.1, dx, .inl ⟨ra, n, l, e, r, ws, rfl, rA.same ex, dd, _, rfl, rfl, ex⟩⟩⟩
      have okL : Okd 4 (.list (L.map fun x => .tuple [.int x.n, .int x.l, .int x.e, .tuple x.ws, .int x.r])) := by
        refine .list (by rw [List.length_map]; omega) fun d hd => ?_
        obtain ⟨x, hx, rfl⟩ := List.mem_map.mp hd
        exact Dd.okd5 (goodh x hx).2.2.2.2.2.2.2.2.2.2
      have dpL : ∀ (M : List Rec), (∀ x ∈ M, x.Good K C G1) → DpAll K G1 (M.map fun x => V.ref x.b) (M.map fun x => .tuple [.int x.n, .int x.l, .int x.e, .tuple x.ws, .int x.r]) := fun M => by
        induction M with
        | nil => exact fun _ => .nil
        | cons x M ih => exact fun h => .cons (h x (List.mem_cons_self ..)).2.1.dp (ih fun y hy => h y (List.mem_cons_of_mem _ hy))
      have goodG : ∀ x ∈ L, x.Good K C G1 := fun x hx => (goodh x hx).same ex
      refine ⟨_, rfl, _, rfl, _, _, (f5h.same ex).dp, .lst (SqL.of (ex _ _ hlfh)) (dpL L goodG), sh1, okL.shaped (by decide), rfl, _, rfl, iteF' ?_ ?_⟩
      · have e1 : (L.map (fun x => eq5 x.n x.l x.e x.ws x.r n l e ws r)).any id = (L.map fun x => PyData.tuple [.int x.n, .int x.l, .int x.e, .tuple x.ws, .int x.r]).any (fun z => PyData.eqv z (.tuple [.int n, .int l, .int e, .tuple ws, .int r])) := by
          rw [List.any_map, List.any_map]
          congr 1
          funext x
          exact (eqv5 ..).symm
        rw [e1, decide_eq_true rfl]
        rfl
      have hlrG := ex _ _ hlrh
      have hlfG := ex _ _ hlfh
      have rAG := rA.same ex
      have rBG := rB.same ex
      have f5G := f5h.same ex
      have s7G : Same H7 G1 := s7h.trans ex
      have lenL : (L.map fun x => V.ref x.a).length = i := by rw [List.length_map]; exact hL
      refine ⟨_, rfl, _, rfl, (by show 1 ≤ sizeLine; decide), fun l1 m1 => ?_⟩
      have t1 := same_upd (o := .lst [.ref rb]) m1
      refine ⟨lr, l1, _, _, rfl, rfl, t1 _ _ hlrG, upd_same, ?_, fun l2 m2 => ?_⟩
      · rw [lenL]
        exact Nat.le_trans (show i + 1 ≤ 100 by omega) (by decide)
      have t2 := same_upd (o := .lst ((L.map fun x => V.ref x.a) ++ [.ref rb])) m2
      refine ⟨_, rfl, _, rfl, (by show 1 ≤ sizeLine; decide), fun l3 m3 => ?_⟩
      have t3 := same_upd (o := .lst [.ref ra]) m3
      refine ⟨lr, l3, _, _, rfl, rfl, t3 _ _ (t2 _ _ (t1 _ _ hlrG)), upd_same, ?_, fun l4 m4 => ?_⟩
      · rw [lenL]
        exact Nat.le_trans (show i + 1 ≤ 100 by omega) (by decide)
      have t4 := same_upd (o := .lst ((L.map fun x => V.ref x.a) ++ [.ref ra])) m4
      have t14 := t1.trans (t2.trans (t3.trans t4))
      have e2 := t4 _ _ (t3 _ _ (upd_same (H := upd G1 l1 (.lst [.ref rb])) (a := l2) (o := .lst ((L.map fun x => V.ref x.a) ++ [.ref rb]))))
      refine ⟨⟨l2, l4, _, _, rfl, rfl, e2, upd_same, ?_⟩, fun G2 ex2 => ?_⟩
      · refine ⟨by rw [List.length_append, List.length_append]; rfl, fun j x y h1 h2 => ?_⟩
        have pr : ∀ (u w : Addr) (N1 N2 N3 N4 : Int) (W : List PyData), RowAt K C G1 u N1 N2 N3 W N4 → RowAt K C G1 w N1 N2 N3 W N4 → Dd W → ∀ G, Same G1 G → DIns C (RR K C) (.ref u) (.ref w) G := fun u w N1 N2 N3 N4 W h1 h2 hd G sg => by
          obtain ⟨d1, q1, z1, _⟩ := id (h1.same sg)
          obtain ⟨d2, q2, z2, _⟩ := id (h2.same sg)
          exact ⟨u, w, d1, d2, _, _, rfl, rfl, z1, z2, N1, N2, N3, N4, N1, N2, N3, N4, W, W, h1.same sg, hd, h2.same sg, hd, eq5_self hd⟩
        by_cases c : j < L.length
        · rw [List.getElem?_append_left (by rw [List.length_map]; exact c), List.getElem?_map] at h1 h2
          obtain ⟨z, hz, rfl⟩ := Option.map_eq_some_iff.mp h1
          rw [hz] at h2
          cases h2
          have gz := goodG z (List.mem_of_getElem? hz)
          exact pr _ _ _ _ _ _ _ gz.1 gz.1 gz.2.2.2.2.2.2.2.2.2.2 _ t14
        · have c2 : j - L.length = 0 ∨ 0 < j - L.length := by omega
          rw [List.getElem?_append_right (by rw [List.length_map]; omega), List.length_map] at h1 h2
          rcases c2 with c2 | c2
          · rw [c2] at h1 h2
            cases h1
            cases h2
            exact pr _ _ _ _ _ _ _ rBG rAG dd _ t14
          · obtain ⟨k, hk⟩ : ∃ k, j - L.length = k + 1 := ⟨j - L.length - 1, by omega⟩
            rw [hk] at h1
            cases h1
      refine ⟨_, rfl, iteF ?_⟩
      have sG2 : Same G1 G2 := t14.trans ex2
      have s72 := s7G.trans sG2
      have hlr2 := sG2 _ _ hlrG
      have hlf2 := sG2 _ _ hlfG
      have good2 : ∀ x ∈ L ++ [(⟨ra, v, n, l, e, r, ws⟩ : Rec)], x.Good K C G2 := fun x hx => by
        rcases List.mem_append.mp hx with h | h
        · exact (goodG x h).same sG2
        · rw [List.mem_singleton.mp h]
          exact ⟨rAG.same sG2, f5G.same sG2, b5⟩
      refine ⟨_, rfl, .inl ⟨rfl, _, SqL.of hlr2⟩, _, rfl, lr, _, _, rfl, rfl, hlr2, ?_, ?_⟩
      · rw [lenL]
        exact Nat.lt_of_lt_of_le (show i < 100 by omega) (by decide)
      have hlf3 : (upd G2 lr (.lst ((L.map fun x => V.ref x.a) ++ [.ref ra]))) lf = some (.lst (L.map fun x => V.ref x.b)) := by
        rw [upd_ne nrf.symm]
        exact hlf2
      refine ⟨_, rfl, .inl ⟨rfl, _, SqL.of hlf3⟩, _, rfl, lf, _, _, rfl, rfl, hlf3, ?_, ⟨_, _, _, _, _, _, _, _, _, rfl⟩, Same.grow (Same.grow (sm7.trans s72) nlr0) nlf0, ((gd7.same s72).sl Sx.self hlr2).sl Sx.self hlf3, ((en7.same s72).sl Sx.self hlr2).sl Sx.self hlf3, L ++ [⟨ra, v, n, l, e, r, ws⟩], ?_, ?_, ?_, fun x hx => ((good2 x hx).sx Sx.self hlr2).sx Sx.self hlf3⟩
      · rw [List.length_map, hL]
        exact Nat.lt_of_lt_of_le (show i < 100 by omega) (by decide)
      · rw [List.length_append, hL]
        rfl
      · rw [upd_ne nrf, upd_same, List.map_append]
        rfl
      · rw [upd_same, List.map_append]
        rfl
    · rintro σ H7 ⟨⟨x1, x6, x7, x8, x9, x10, x11, x12, x13, rfl⟩, sm7, gd7, en7, L, hL, hlr, hlf, good⟩
      refine ⟨(by show 1 ≤ sizeLine; decide), fun tn ntn => ?_⟩
      have s1 := same_upd (o := .tup [.str (Str.ofString "nothing")]) ntn
      refine fun rz dxz m1 m2 m3 => ⟨rz, dxz, tn, 1, 5, 4, 0, rfl, upd_same, fun Hz kz ez => ⟨rfl, ?_⟩⟩
      have s2 := made_same m1 m2 kz
      have ddn : Dd [.str (Str.ofString "nothing")] := Dd.one (.s (by decide +kernel))
      have rowZ : RowAt K C Hz rz 1 5 4 [.str (Str.ofString "nothing")] 0 := ⟨dxz, tn, ez, .tup (SqT.of (s2 _ _ upd_same)) (.cons (.str _) .nil)⟩
      refine ⟨_, rfl, rz, C, dxz, _, _, rfl, ez, RCC.cl, RCC.n5, lk_right .., rfl, _, rfl, iteF' (by rw [decide_eq_true rfl]; rfl) ?_⟩
      have t5 : T5 1 5 4 [.str (Str.ofString "nothing")] 0 = Str.ofString "1 0 00:05 0 00:04 nothing" := by decide +kernel
      refine ⟨_, rfl, rz, dxz, _, rfl, ez, rz, 1, 5, 4, 0, _, rfl, rowZ, ⟨by decide, by decide, by decide, by decide, by decide, by decide, by decide, by decide, ddn⟩, fun Hy sy => ⟨_, rfl, rfl, _, rfl, iteF' (by rw [t5, decide_eq_true rfl]; rfl) ?_⟩⟩
      have s7y := s1.trans (s2.trans sy)
      have hlry := s7y _ _ hlr
      have goody : ∀ x ∈ L, x.Good K C Hy := fun x hx => (good x hx).same s7y
      have hN8 : L.length ≤ 60 := by omega
      refine ⟨_, rfl, lr, rfl, ⟨_, SqL.of hlry⟩, fun D nD => ?_⟩
      refine lc_list (K := K) (a := lr) (xs := L.map fun x => V.ref x.a) (fun i H' => Same Hy H' ∧ H' D = some (.lst (List.replicate i (V.bl true)))) ⟨same_upd nD, upd_same⟩ (fun i H' _ p => SqL.of (p.1 _ _ hlry)) ?_ ?_
      · rintro i x H' hx ⟨sm, hD⟩
        rw [List.getElem?_map] at hx
        obtain ⟨z, hz, rfl⟩ := Option.map_eq_some_iff.mp hx
        have hm := List.mem_of_getElem? hz
        have hi : i < L.length := (List.getElem?_eq_some_iff.mp hz).1
        refine ⟨rfl, yesI ?_⟩
        refine ⟨_, rfl, _, rfl, lr, _, rfl, SqL.of (sm _ _ hlry), fun lv nlv => ?_⟩
        have sv := same_upd (o := .lst (L.map fun x => V.ref x.a).reverse) nlv
        have syv := sm.trans sv
        have ez : ∀ G, Same (upd H' lv (.lst (L.map fun x => V.ref x.a).reverse)) G → ∃ dz fz, G z.a = some (.ins C dz fz) := fun G sg => by
          obtain ⟨dz, tz, hz', _⟩ := (goody z hm).1.same (syv.trans sg)
          exact ⟨dz, _, hz'⟩
        refine ⟨lv, _, L.reverse.map (fun y => decide (V.ref z.a = V.ref y.a) || eq5 y.n y.l y.e y.ws y.r z.n z.l z.e z.ws z.r), rfl, upd_same, (by rw [List.length_reverse, List.length_map, List.length_map, List.length_reverse]), fun G1 ex => ?_, fun G1 ex => ?_⟩
        · obtain ⟨dz, fz, hzG⟩ := ez G1 ex
          refine ⟨.ref C, .inr ⟨z.a, dz, fz, rfl, hzG, rfl⟩, nfC, fun j xi ee h1 h2 => ?_⟩
          rw [← List.map_reverse, List.getElem?_map] at h1
          rw [List.getElem?_map] at h2
          obtain ⟨y, hy, rfl⟩ := Option.map_eq_some_iff.mp h1
          rw [hy] at h2
          cases h2
          have gy := (goody y (List.mem_reverse.mp (List.mem_of_getElem? hy))).same (syv.trans ex)
          have gz := (goody z hm).same (syv.trans ex)
          obtain ⟨dq, tq, hq, _⟩ := id gy.1
          refine ⟨y.a, dq, _, rfl, hq, ?_⟩
          by_cases c : V.ref z.a = V.ref y.a
          · exact .inl ⟨c, by show (decide (V.ref z.a = V.ref y.a) || _) = true; rw [decide_eq_true c]; rfl⟩
          · exact .inr ⟨c, y.a, .ref z.a, y.n, y.l, y.e, y.r, y.ws, rfl, gy.1, gy.2.2.2.2.2.2.2.2.2.2, .inl ⟨z.a, z.n, z.l, z.e, z.r, z.ws, rfl, gz.1, gz.2.2.2.2.2.2.2.2.2.2, _, rfl, by show _ = (decide (V.ref z.a = V.ref y.a) || eq5 y.n y.l y.e y.ws y.r z.n z.l z.e z.ws z.r); rw [decide_eq_false c]; rfl, ex⟩⟩
        · have yes : (L.reverse.map (fun y => decide (V.ref z.a = V.ref y.a) || eq5 y.n y.l y.e y.ws y.r z.n z.l z.e z.ws z.r)).any id = true := by
            rw [List.any_map, List.any_eq_true]
            exact ⟨z, List.mem_reverse.mpr hm, by show (decide (V.ref z.a = V.ref z.a) || _) = true; rw [decide_eq_true rfl]; rfl⟩
          rw [yes]
          have hDv := ex _ _ (sv _ _ hD)
          refine ⟨_, hDv, ?_, Same.grow (syv.trans ex) nD, ?_⟩
          · rw [List.length_replicate]
            exact Nat.lt_of_lt_of_le (show i < 100 by omega) (by decide)
          · rw [upd_same, ← List.replicate_succ']
      · rintro H' ⟨sm, hD⟩
        refine ⟨D, List.replicate L.length true, rfl, SqL.of (by rw [List.map_replicate, hD, List.length_map]), ?_⟩
        rw [rep_all]
        exact q _
end
end My

set_option Elab.async false
set_option linter.all false
set_option maxRecDepth 100000
set_option maxHeartbeats 4000000
namespace My
open PySem PySem.Spec PyProof.Rows L2 TL RZ
theorem gK_rel {vs : List V} {us : List Value} {zs : List V} {ws : List Value} (r : Vals vs us) (rz : Vals zs ws) : Vals (gK vs zs) (gK us ws) := by
  cases r with
  | nil => exact .nil
  | cons h t =>
    cases t with
    | cons h2 t2 => exact .cons h (.cons h2 t2)
    | nil =>
      cases rz with
      | nil => exact .cons h .nil
      | cons a1 rz => cases rz with
        | nil => exact .cons h .nil
        | cons a2 rz => cases rz with
          | nil => exact .cons h .nil
          | cons a3 rz => cases rz with
            | nil => exact .cons h .nil
            | cons a4 rz => cases rz with
              | nil => exact .cons h .nil
              | cons a5 rz => cases rz with
                | nil => exact .cons h (.cons a4 (.cons a5 (.cons a3 (.cons a1 (.cons a2 .nil)))))
                | cons a6 rz => exact .cons h .nil
theorem kw_a {K : PySem.W.Frag} {s : Shared} {TT : Addr} {ocT : Value} {odT : Option Addr} {tT : Tok} {nT : Nat} {slT : Array (Option Value)} {kV dc pm : Value} {an : Option Addr} {cd ct u1 u2 u3 u4 u5 w1 : Value} (X : K.In s.heap) (lT : K.lookup TT = some ⟨ocT, odT, .seq #[.int 0 tT] nT, slT⟩) :
    BindsTo s (PySem.W.fnOf "__init__" "Row.__init__" (defArgs s_Row___init__) (defBody s_Row___init__) (defScope s_Row___init__) (.ref TT) kV dc pm an cd ct) ⟨[u1, u2, u3, u4, u5], [("right", w1)]⟩ [("self", u1), ("number", u2), ("written", u3), ("at", u4), ("deed", u5), ("right", w1)] := by
  refine BindsTo.of_looks fun M => ?_
  have e : ∃ k, bindArgs (PySem.W.fnOf "__init__" "Row.__init__" (defArgs s_Row___init__) (defBody s_Row___init__) (defScope s_Row___init__) (.ref TT) kV dc pm an cd ct) ⟨[u1, u2, u3, u4, u5], [("right", w1)]⟩ = seqItems? (.ref TT) >>= k ∧ k (some #[.int 0 tT]) = (pure [(("self" : Str), u1), ("number", u2), ("written", u3), ("at", u4), ("deed", u5), ("right", w1)] : Sem (List (Str × Value))) := ⟨_, rfl, rfl⟩
  obtain ⟨k, e1, e2⟩ := e
  rw [e1]
  exact looks_items X lT rfl (.of_pure e2)
theorem kw_b {K : PySem.W.Frag} {s : Shared} {TT : Addr} {ocT : Value} {odT : Option Addr} {tT : Tok} {nT : Nat} {slT : Array (Option Value)} {kV dc pm : Value} {an : Option Addr} {cd ct u1 w1 w2 w3 w4 w5 : Value} (X : K.In s.heap) (lT : K.lookup TT = some ⟨ocT, odT, .seq #[.int 0 tT] nT, slT⟩) :
    BindsTo s (PySem.W.fnOf "__init__" "Row.__init__" (defArgs s_Row___init__) (defBody s_Row___init__) (defScope s_Row___init__) (.ref TT) kV dc pm an cd ct) ⟨[u1], [("deed", w1), ("right", w2), ("at", w3), ("number", w4), ("written", w5)]⟩ [("self", u1), ("number", w4), ("written", w5), ("at", w3), ("deed", w1), ("right", w2)] := by
  refine BindsTo.of_looks fun M => ?_
  have e : ∃ k, bindArgs (PySem.W.fnOf "__init__" "Row.__init__" (defArgs s_Row___init__) (defBody s_Row___init__) (defScope s_Row___init__) (.ref TT) kV dc pm an cd ct) ⟨[u1], [("deed", w1), ("right", w2), ("at", w3), ("number", w4), ("written", w5)]⟩ = seqItems? (.ref TT) >>= k ∧ k (some #[.int 0 tT]) = (pure [(("self" : Str), u1), ("number", w4), ("written", w5), ("at", w3), ("deed", w1), ("right", w2)] : Sem (List (Str × Value))) := ⟨_, rfl, rfl⟩
  obtain ⟨k, e1, e2⟩ := e
  rw [e1]
  exact looks_items X lT rfl (.of_pure e2)
theorem all_mk {l : PySem.W.OpenLaw} {w : World} {K : PySem.W.Frag} {h : Heap} {mg : Str → Option Value} {fa f0 f1 f2 f3 f4 f5 f6 f7 f8 f9 f10 f11 f12 f13 f14 f15 f16 f17 f18 f19 C fI fE fR fS TT : Addr} (X : K.In h) (G : h.Ns mainGlobals mg) (hfa : mg "law" = some (.ref fa))
    {od0 an0 od1 an1 od2 an2 od3 an3 od4 an4 od5 an5 od6 an6 od7 an7 od8 an8 od9 an9 od10 an10 od11 an11 od12 an12 od13 an13 od14 an14 od15 an15 od16 an16 od17 an17 od18 an18 od19 an19 : Option Addr} {sl0 sl1 sl2 sl3 sl4 sl5 sl6 sl7 sl8 sl9 sl10 sl11 sl12 sl13 sl14 sl15 sl16 sl17 sl18 sl19 : Array (Option Value)} {oc0 kV0 dc0 pm0 cd0 ct0 oc1 kV1 dc1 pm1 cd1 ct1 oc2 kV2 dc2 pm2 cd2 ct2 oc3 kV3 dc3 pm3 cd3 ct3 oc4 kV4 dc4 pm4 cd4 ct4 oc5 kV5 dc5 pm5 cd5 ct5 oc6 kV6 dc6 pm6 cd6 ct6 oc7 kV7 dc7 pm7 cd7 ct7 oc8 kV8 dc8 pm8 cd8 ct8 oc9 kV9 dc9 pm9 cd9 ct9 oc10 kV10 dc10 pm10 cd10 ct10 oc11 kV11 dc11 pm11 cd11 ct11 oc12 kV12 dc12 pm12 cd12 ct12 oc13 kV13 dc13 pm13 cd13 ct13 oc14 kV14 dc14 pm14 cd14 ct14 oc15 kV15 dc15 pm15 cd15 ct15 oc16 kV16 dc16 pm16 cd16 ct16 oc17 kV17 dc17 pm17 cd17 ct17 oc18 kV18 dc18 pm18 cd18 ct18 oc19 kV19 dc19 pm19 cd19 ct19 : Value} {t_MINUTES_OF_DAY t_MINUTES_OF_HOUR tT : Tok} {nT : Nat} {ocI kVI dcI pmI cdI ctI ocE kVE dcE pmE cdE ctE ocR kVR dcR pmR cdR ctR ocS kVS dcS pmS cdS ctS ocT : Value} {odI anI odE anE odR anR odS anS odT : Option Addr} {slI slE slR slS slT : Array (Option Value)}
    (a0 : PySem.W.nsIn K mainGlobals "hour_of" = some (some (.ref f0))) (l0 : K.lookup f0 = some ⟨oc0, od0, .func (PySem.W.fnOf "hour_of" "hour_of" (defArgs s_hour_of) (defBody s_hour_of) (defScope s_hour_of) .none kV0 dc0 pm0 an0 cd0 ct0), sl0⟩) (c0 : PySem.W.codeIn K cd0 "hour_of" = true) (k0 : PySem.W.keepIn K (.ref f0) = true)
    (a1 : PySem.W.nsIn K mainGlobals "shown" = some (some (.ref f1))) (l1 : K.lookup f1 = some ⟨oc1, od1, .func (PySem.W.fnOf "shown" "shown" (defArgs s_shown) (defBody s_shown) (defScope s_shown) .none kV1 dc1 pm1 an1 cd1 ct1), sl1⟩) (c1 : PySem.W.codeIn K cd1 "shown" = true) (k1 : PySem.W.keepIn K (.ref f1) = true)
    (a2 : PySem.W.nsIn K mainGlobals "is_whole" = some (some (.ref f2))) (l2 : K.lookup f2 = some ⟨oc2, od2, .func (PySem.W.fnOf "is_whole" "is_whole" (defArgs s_is_whole) (defBody s_is_whole) (defScope s_is_whole) .none kV2 dc2 pm2 an2 cd2 ct2), sl2⟩) (c2 : PySem.W.codeIn K cd2 "is_whole" = true) (k2 : PySem.W.keepIn K (.ref f2) = true)
    (a3 : PySem.W.nsIn K mainGlobals "row_words" = some (some (.ref f3))) (l3 : K.lookup f3 = some ⟨oc3, od3, .func (PySem.W.fnOf "row_words" "row_words" (defArgs s_row_words) (defBody s_row_words) (defScope s_row_words) .none kV3 dc3 pm3 an3 cd3 ct3), sl3⟩) (c3 : PySem.W.codeIn K cd3 "row_words" = true) (k3 : PySem.W.keepIn K (.ref f3) = true)
    (a4 : PySem.W.nsIn K mainGlobals "time_text" = some (some (.ref f4))) (l4 : K.lookup f4 = some ⟨oc4, od4, .func (PySem.W.fnOf "time_text" "time_text" (defArgs s_time_text) (defBody s_time_text) (defScope s_time_text) .none kV4 dc4 pm4 an4 cd4 ct4), sl4⟩) (c4 : PySem.W.codeIn K cd4 "time_text" = true) (k4 : PySem.W.keepIn K (.ref f4) = true)
    (a5 : PySem.W.nsIn K mainGlobals "deed_words" = some (some (.ref f5))) (l5 : K.lookup f5 = some ⟨oc5, od5, .func (PySem.W.fnOf "deed_words" "deed_words" (defArgs s_deed_words) (defBody s_deed_words) (defScope s_deed_words) .none kV5 dc5 pm5 an5 cd5 ct5), sl5⟩) (c5 : PySem.W.codeIn K cd5 "deed_words" = true) (k5 : PySem.W.keepIn K (.ref f5) = true)
    (a6 : PySem.W.nsIn K mainGlobals "_law_bag" = some (some (.ref f6))) (l6 : K.lookup f6 = some ⟨oc6, od6, .func (PySem.W.fnOf "_law_bag" "_law_bag" (defArgs s_law_bag) (defBody s_law_bag) (defScope s_law_bag) .none kV6 dc6 pm6 an6 cd6 ct6), sl6⟩) (c6 : PySem.W.codeIn K cd6 "_law_bag" = true) (k6 : PySem.W.keepIn K (.ref f6) = true)
    (a7 : PySem.W.nsIn K mainGlobals "_law_take" = some (some (.ref f7))) (l7 : K.lookup f7 = some ⟨oc7, od7, .func (PySem.W.fnOf "_law_take" "_law_take" (defArgs s_law_take) (defBody s_law_take) (defScope s_law_take) .none kV7 dc7 pm7 an7 cd7 ct7), sl7⟩) (c7 : PySem.W.codeIn K cd7 "_law_take" = true) (k7 : PySem.W.keepIn K (.ref f7) = true)
    (a8 : PySem.W.nsIn K mainGlobals "_law_names" = some (some (.ref f8))) (l8 : K.lookup f8 = some ⟨oc8, od8, .func (PySem.W.fnOf "_law_names" "_law_names" (defArgs s_law_names) (defBody s_law_names) (defScope s_law_names) .none kV8 dc8 pm8 an8 cd8 ct8), sl8⟩) (c8 : PySem.W.codeIn K cd8 "_law_names" = true) (k8 : PySem.W.keepIn K (.ref f8) = true)
    (a9 : PySem.W.nsIn K mainGlobals "_law_ground" = some (some (.ref f9))) (l9 : K.lookup f9 = some ⟨oc9, od9, .func (PySem.W.fnOf "_law_ground" "_law_ground" (defArgs s_law_ground) (defBody s_law_ground) (defScope s_law_ground) .none kV9 dc9 pm9 an9 cd9 ct9), sl9⟩) (c9 : PySem.W.codeIn K cd9 "_law_ground" = true) (k9 : PySem.W.keepIn K (.ref f9) = true)
    (a10 : PySem.W.nsIn K mainGlobals "_law_engines" = some (some (.ref f10))) (l10 : K.lookup f10 = some ⟨oc10, od10, .func (PySem.W.fnOf "_law_engines" "_law_engines" (defArgs s_law_engines) (defBody s_law_engines) (defScope s_law_engines) .none kV10 dc10 pm10 an10 cd10 ct10), sl10⟩) (c10 : PySem.W.codeIn K cd10 "_law_engines" = true) (k10 : PySem.W.keepIn K (.ref f10) = true)
    (a11 : PySem.W.nsIn K mainGlobals "_law_deed" = some (some (.ref f11))) (l11 : K.lookup f11 = some ⟨oc11, od11, .func (PySem.W.fnOf "_law_deed" "_law_deed" (defArgs s_law_deed) (defBody s_law_deed) (defScope s_law_deed) .none kV11 dc11 pm11 an11 cd11 ct11), sl11⟩) (c11 : PySem.W.codeIn K cd11 "_law_deed" = true) (k11 : PySem.W.keepIn K (.ref f11) = true)
    (a12 : PySem.W.nsIn K mainGlobals "_law_kind" = some (some (.ref f12))) (l12 : K.lookup f12 = some ⟨oc12, od12, .func (PySem.W.fnOf "_law_kind" "_law_kind" (defArgs s_law_kind) (defBody s_law_kind) (defScope s_law_kind) .none kV12 dc12 pm12 an12 cd12 ct12), sl12⟩) (c12 : PySem.W.codeIn K cd12 "_law_kind" = true) (k12 : PySem.W.keepIn K (.ref f12) = true)
    (a13 : PySem.W.nsIn K mainGlobals "_law_like" = some (some (.ref f13))) (l13 : K.lookup f13 = some ⟨oc13, od13, .func (PySem.W.fnOf "_law_like" "_law_like" (defArgs s_law_like) (defBody s_law_like) (defScope s_law_like) .none kV13 dc13 pm13 an13 cd13 ct13), sl13⟩) (c13 : PySem.W.codeIn K cd13 "_law_like" = true) (k13 : PySem.W.keepIn K (.ref f13) = true)
    (a14 : PySem.W.nsIn K mainGlobals "_law_shown" = some (some (.ref f14))) (l14 : K.lookup f14 = some ⟨oc14, od14, .func (PySem.W.fnOf "_law_shown" "_law_shown" (defArgs s_law_shown) (defBody s_law_shown) (defScope s_law_shown) .none kV14 dc14 pm14 an14 cd14 ct14), sl14⟩) (c14 : PySem.W.codeIn K cd14 "_law_shown" = true) (k14 : PySem.W.keepIn K (.ref f14) = true)
    (a15 : PySem.W.nsIn K mainGlobals "_law_text" = some (some (.ref f15))) (l15 : K.lookup f15 = some ⟨oc15, od15, .func (PySem.W.fnOf "_law_text" "_law_text" (defArgs s_law_text) (defBody s_law_text) (defScope s_law_text) .none kV15 dc15 pm15 an15 cd15 ct15), sl15⟩) (c15 : PySem.W.codeIn K cd15 "_law_text" = true) (k15 : PySem.W.keepIn K (.ref f15) = true)
    (a16 : PySem.W.nsIn K mainGlobals "_law_five" = some (some (.ref f16))) (l16 : K.lookup f16 = some ⟨oc16, od16, .func (PySem.W.fnOf "_law_five" "_law_five" (defArgs s_law_five) (defBody s_law_five) (defScope s_law_five) .none kV16 dc16 pm16 an16 cd16 ct16), sl16⟩) (c16 : PySem.W.codeIn K cd16 "_law_five" = true) (k16 : PySem.W.keepIn K (.ref f16) = true)
    (a17 : PySem.W.nsIn K mainGlobals "_law_other" = some (some (.ref f17))) (l17 : K.lookup f17 = some ⟨oc17, od17, .func (PySem.W.fnOf "_law_other" "_law_other" (defArgs s_law_other) (defBody s_law_other) (defScope s_law_other) .none kV17 dc17 pm17 an17 cd17 ct17), sl17⟩) (c17 : PySem.W.codeIn K cd17 "_law_other" = true) (k17 : PySem.W.keepIn K (.ref f17) = true)
    (a18 : PySem.W.nsIn K mainGlobals "_law_is_told" = some (some (.ref f18))) (l18 : K.lookup f18 = some ⟨oc18, od18, .func (PySem.W.fnOf "_law_is_told" "_law_is_told" (defArgs s_law_is_told) (defBody s_law_is_told) (defScope s_law_is_told) .none kV18 dc18 pm18 an18 cd18 ct18), sl18⟩) (c18 : PySem.W.codeIn K cd18 "_law_is_told" = true) (k18 : PySem.W.keepIn K (.ref f18) = true)
    (a19 : PySem.W.nsIn K mainGlobals "law" = some (some (.ref f19))) (l19 : K.lookup f19 = some ⟨oc19, od19, .func (PySem.W.fnOf "law" "law" (defArgs s_law) (defBody s_law) (defScope s_law) .none kV19 dc19 pm19 an19 cd19 ct19), sl19⟩) (c19 : PySem.W.codeIn K cd19 "law" = true) (k19 : PySem.W.keepIn K (.ref f19) = true)
    (z_len : PySem.W.nsIn K mainGlobals "len" = some none)
    (z_abs : PySem.W.nsIn K mainGlobals "abs" = some none)
    (z_all : PySem.W.nsIn K mainGlobals "all" = some none)
    (z_any : PySem.W.nsIn K mainGlobals "any" = some none)
    (z_str : PySem.W.nsIn K mainGlobals "str" = some none)
    (z_int : PySem.W.nsIn K mainGlobals "int" = some none)
    (z_isinstance : PySem.W.nsIn K mainGlobals "isinstance" = some none)
    (z_range : PySem.W.nsIn K mainGlobals "range" = some none)
    (z_max : PySem.W.nsIn K mainGlobals "max" = some none)
    (z_min : PySem.W.nsIn K mainGlobals "min" = some none)
    (z_bool : PySem.W.nsIn K mainGlobals "bool" = some none)
    (z_list : PySem.W.nsIn K mainGlobals "list" = some none)
    (z_tuple : PySem.W.nsIn K mainGlobals "tuple" = some none)
    (z_zip : PySem.W.nsIn K mainGlobals "zip" = some none)
    (z_repr : PySem.W.nsIn K mainGlobals "repr" = some none)
    (g_MINUTES_OF_DAY : PySem.W.nsIn K mainGlobals "MINUTES_OF_DAY" = some (some (.int 1440 t_MINUTES_OF_DAY)))
    (g_MINUTES_OF_HOUR : PySem.W.nsIn K mainGlobals "MINUTES_OF_HOUR" = some (some (.int 60 t_MINUTES_OF_HOUR)))
    (gRow : PySem.W.nsIn K mainGlobals "Row" = some (some (.ref C)))
    (pgC : PySem.W.plainGet K C Str.empty = true)
    (hdC : PySem.W.hasDictIn K C = true)
    (poC : PySem.W.plainOver K C = true)
    (saC : PySem.W.findIn K (.ref C) "__setattr__" = some (some (.builtin "object.__setattr__")))
    (na_number : PySem.W.findIn K (.ref C) "number" = some none)
    (na_written : PySem.W.findIn K (.ref C) "written" = some none)
    (na_at : PySem.W.findIn K (.ref C) "at" = some none)
    (na_deed : PySem.W.findIn K (.ref C) "deed" = some none)
    (na_right : PySem.W.findIn K (.ref C) "right" = some none)
    (e5 : PySem.W.findIn K (.ref C) "__class__" = some (some (.builtin "object.__class__")))
    (e6 : PySem.W.specialIn K (.builtin "object.__class__") "__get__" = some (some (.builtin "getset_descriptor.__get__")))
    (e7 : PySem.W.takesIn K (.builtin "object.__class__") = some true)
    (e8 : PySem.W.mroIn K C (.type "object") = some true)
    (ktC : PySem.W.kitOne K (.ref C) (.ref C) = some true)
    (mkC : PySem.W.makesIn K C = true)
    (inC : PySem.W.findIn K (.ref C) "__init__" = some (some (.ref fI)))
    (isI : PySem.W.isFn K (.ref fI) = true)
    (kpC : PySem.W.keepIn K (.ref C) = true)
    (lI : K.lookup fI = some ⟨ocI, odI, .func (PySem.W.fnOf "__init__" "Row.__init__" (defArgs s_Row___init__) (defBody s_Row___init__) (defScope s_Row___init__) (.ref TT) kVI dcI pmI anI cdI ctI), slI⟩)
    (cI : PySem.W.codeIn K cdI "Row.__init__" = true)
    (kI : PySem.W.keepIn K (.ref fI) = true)
    (lT : K.lookup TT = some ⟨ocT, odT, .seq #[.int 0 tT] nT, slT⟩)
    (sEm : PySem.W.findIn K (.ref C) "__eq__" = some (some (.ref fE)))
    (iE : PySem.W.isFn K (.ref fE) = true)
    (lE : K.lookup fE = some ⟨ocE, odE, .func (PySem.W.fnOf "__eq__" "Row.__eq__" (defArgs s_Row___eq__) (defBody s_Row___eq__) (defScope s_Row___eq__) .none kVE dcE pmE anE cdE ctE), slE⟩)
    (cE : PySem.W.codeIn K cdE "Row.__eq__" = true)
    (kE : PySem.W.keepIn K (.ref fE) = true)
    (sRm : PySem.W.findIn K (.ref C) "__repr__" = some (some (.ref fR)))
    (iR : PySem.W.isFn K (.ref fR) = true)
    (lR : K.lookup fR = some ⟨ocR, odR, .func (PySem.W.fnOf "__repr__" "Row.__repr__" (defArgs s_Row___repr__) (defBody s_Row___repr__) (defScope s_Row___repr__) .none kVR dcR pmR anR cdR ctR), slR⟩)
    (cR : PySem.W.codeIn K cdR "Row.__repr__" = true)
    (kR : PySem.W.keepIn K (.ref fR) = true)
    (sSm : PySem.W.findIn K (.ref C) "__str__" = some (some (.ref fS)))
    (iS : PySem.W.isFn K (.ref fS) = true)
    (lS : K.lookup fS = some ⟨ocS, odS, .func (PySem.W.fnOf "__str__" "Row.__str__" (defArgs s_Row___str__) (defBody s_Row___str__) (defScope s_Row___str__) .none kVS dcS pmS anS cdS ctS), slS⟩)
    (cS : PySem.W.codeIn K cdS "Row.__str__" = true)
    (kS : PySem.W.keepIn K (.ref fS) = true)
    (sN : PySem.W.findIn K (.ref C) "__ne__" = some (some (.builtin "object.__ne__")))
    (kf_NoneType : PySem.W.kitOne K (.type "NoneType") (.ref C) = some false)
    (nf_NoneType : PySem.W.notFirst K C (.type "NoneType") = true)
    (kf_tuple : PySem.W.kitOne K (.type "tuple") (.ref C) = some false)
    (nf_tuple : PySem.W.notFirst K C (.type "tuple") = true)
    (kf_str : PySem.W.kitOne K (.type "str") (.ref C) = some false)
    (nf_str : PySem.W.notFirst K C (.type "str") = true)
    (kf_int : PySem.W.kitOne K (.type "int") (.ref C) = some false)
    (nf_int : PySem.W.notFirst K C (.type "int") = true)
    (kf_list : PySem.W.kitOne K (.type "list") (.ref C) = some false)
    (nf_list : PySem.W.notFirst K C (.type "list") = true) :
    ∃ fd : FuncData, (∀ (s : Shared) (v : Value), BindsTo s fd ⟨[v], []⟩ [("_law_script", v)]) ∧ ∀ base : Heap, K.In base → base.Ns mainGlobals mg → FnOk l.prog w K mg base CX0 9 fa fd ["_law_script"] (sp_law K) := by
  have e := hfa.symm.trans (PySem.W.mg_of X G a19)
  cases e
  have F0 := fun_mk (st := s_hour_of) l0 c0 k0
  have b0 := F0.binds (ps := ["minute"]) fun _ _ _ _ _ _ us hl => match us, hl with | [_], _ => rfl
  have g0 := PySem.W.mg_of X G a0
  have F1 := fun_mk (st := s_shown) l1 c1 k1
  have b1 := F1.binds (ps := ["minute"]) fun _ _ _ _ _ _ us hl => match us, hl with | [_], _ => rfl
  have g1 := PySem.W.mg_of X G a1
  have F2 := fun_mk (st := s_is_whole) l2 c2 k2
  have b2 := F2.binds (ps := ["thing"]) fun _ _ _ _ _ _ us hl => match us, hl with | [_], _ => rfl
  have g2 := PySem.W.mg_of X G a2
  have F3 := fun_mk (st := s_row_words) l3 c3 k3
  have b3 := F3.binds (ps := ["row"]) fun _ _ _ _ _ _ us hl => match us, hl with | [_], _ => rfl
  have g3 := PySem.W.mg_of X G a3
  have F4 := fun_mk (st := s_time_text) l4 c4 k4
  have b4 := F4.binds (ps := ["thing"]) fun _ _ _ _ _ _ us hl => match us, hl with | [_], _ => rfl
  have g4 := PySem.W.mg_of X G a4
  have F5 := fun_mk (st := s_deed_words) l5 c5 k5
  have b5 := F5.binds (ps := ["thing"]) fun _ _ _ _ _ _ us hl => match us, hl with | [_], _ => rfl
  have g5 := PySem.W.mg_of X G a5
  have F6 := fun_mk (st := s_law_bag) l6 c6 k6
  have b6 := F6.binds (ps := ["_law_script", "_law_spot"]) fun _ _ _ _ _ _ us hl => match us, hl with | [_, _], _ => rfl
  have g6 := PySem.W.mg_of X G a6
  have F7 := fun_mk (st := s_law_take) l7 c7 k7
  have b7 := F7.binds (ps := ["_law_bag_here", "_law_many"]) fun _ _ _ _ _ _ us hl => match us, hl with | [_, _], _ => rfl
  have g7 := PySem.W.mg_of X G a7
  have F8 := fun_mk (st := s_law_names) l8 c8 k8
  have b8 := F8.binds (ps := ["_law_bag_here", "_law_many"]) fun _ _ _ _ _ _ us hl => match us, hl with | [_, _], _ => rfl
  have g8 := PySem.W.mg_of X G a8
  have F9 := fun_mk (st := s_law_ground) l9 c9 k9
  have b9 := F9.binds (ps := ["_law_bag_here"]) fun _ _ _ _ _ _ us hl => match us, hl with | [_], _ => rfl
  have g9 := PySem.W.mg_of X G a9
  have F10 := fun_mk (st := s_law_engines) l10 c10 k10
  have b10 := F10.binds (ps := ["_law_bag_here", "_law_stations"]) fun _ _ _ _ _ _ us hl => match us, hl with | [_, _], _ => rfl
  have g10 := PySem.W.mg_of X G a10
  have F11 := fun_mk (st := s_law_deed) l11 c11 k11
  have b11 := F11.binds (ps := ["_law_bag_here", "_law_told", "_law_engines_here", "_law_calls"]) fun _ _ _ _ _ _ us hl => match us, hl with | [_, _, _, _], _ => rfl
  have g11 := PySem.W.mg_of X G a11
  have F12 := fun_mk (st := s_law_kind) l12 c12 k12
  have b12 := F12.binds (ps := ["_law_bag_here"]) fun _ _ _ _ _ _ us hl => match us, hl with | [_], _ => rfl
  have g12 := PySem.W.mg_of X G a12
  have F13 := fun_mk (st := s_law_like) l13 c13 k13
  have b13 := F13.binds (ps := ["_law_told", "_law_due"]) fun _ _ _ _ _ _ us hl => match us, hl with | [_, _], _ => rfl
  have g13 := PySem.W.mg_of X G a13
  have F14 := fun_mk (st := s_law_shown) l14 c14 k14
  have b14 := F14.binds (ps := ["_law_minute"]) fun _ _ _ _ _ _ us hl => match us, hl with | [_], _ => rfl
  have g14 := PySem.W.mg_of X G a14
  have F15 := fun_mk (st := s_law_text) l15 c15 k15
  have b15 := F15.binds (ps := ["_law_five_here"]) fun _ _ _ _ _ _ us hl => match us, hl with | [_], _ => rfl
  have g15 := PySem.W.mg_of X G a15
  have F16 := fun_mk (st := s_law_five) l16 c16 k16
  have b16 := F16.binds (ps := ["_law_bag_here", "_law_told", "_law_engines_here"]) fun _ _ _ _ _ _ us hl => match us, hl with | [_, _, _], _ => rfl
  have g16 := PySem.W.mg_of X G a16
  have F17 := fun_mk (st := s_law_other) l17 c17 k17
  have b17 := F17.binds (ps := ["_law_bag_here", "_law_five_here", "_law_what"]) fun _ _ _ _ _ _ us hl => match us, hl with | [_, _, _], _ => rfl
  have g17 := PySem.W.mg_of X G a17
  have F18 := fun_mk (st := s_law_is_told) l18 c18 k18
  have b18 := F18.binds (ps := ["_law_row", "_law_five_here"]) fun _ _ _ _ _ _ us hl => match us, hl with | [_, _], _ => rfl
  have g18 := PySem.W.mg_of X G a18
  have F19 := fun_mk (st := s_law) l19 c19 k19
  have b19 := F19.binds (ps := ["_law_script"]) fun _ _ _ _ _ _ us hl => match us, hl with | [_], _ => rfl
  have g19 := PySem.W.mg_of X G a19
  have T : Txt mg := { z_len := PySem.W.mg_none_of X G z_len, z_abs := PySem.W.mg_none_of X G z_abs, z_all := PySem.W.mg_none_of X G z_all, z_any := PySem.W.mg_none_of X G z_any, z_str := PySem.W.mg_none_of X G z_str, z_int := PySem.W.mg_none_of X G z_int, z_isinstance := PySem.W.mg_none_of X G z_isinstance, z_range := PySem.W.mg_none_of X G z_range, z_max := PySem.W.mg_none_of X G z_max, z_min := PySem.W.mg_none_of X G z_min, z_bool := PySem.W.mg_none_of X G z_bool, z_list := PySem.W.mg_none_of X G z_list, z_tuple := PySem.W.mg_none_of X G z_tuple, z_zip := PySem.W.mg_none_of X G z_zip, z_repr := PySem.W.mg_none_of X G z_repr, g_MINUTES_OF_DAY := ⟨_, PySem.W.mg_of X G g_MINUTES_OF_DAY⟩, g_MINUTES_OF_HOUR := ⟨_, PySem.W.mg_of X G g_MINUTES_OF_HOUR⟩ }
  have RCC : RC K mg C := ⟨PySem.W.mg_of X G gRow, ⟨pgC, hdC, poC, saC⟩, na_number, na_written, na_at, na_deed, na_right, e5, e6, e7, e8, ktC⟩
  have MK : Mk K C fI := ⟨mkC, inC, isI, kpC⟩
  have NR : NoRows K C := fun T hT => by
    simp only [oth, List.mem_cons, List.not_mem_nil, or_false] at hT
    rcases hT with rfl | rfl | rfl | rfl | rfl
    · exact ⟨kf_NoneType, nf_NoneType⟩
    · exact ⟨kf_tuple, nf_tuple⟩
    · exact ⟨kf_str, nf_str⟩
    · exact ⟨kf_int, nf_int⟩
    · exact ⟨kf_list, nf_list⟩
  have FDI : FunD K "__init__" "Row.__init__" (defArgs s_Row___init__) (defBody s_Row___init__) (defScope s_Row___init__) [.int 0] [] fI (PySem.W.fnOf "__init__" "Row.__init__" (defArgs s_Row___init__) (defBody s_Row___init__) (defScope s_Row___init__) (.ref TT) kVI dcI pmI anI cdI ctI) := ⟨⟨_, _, _, _, _, _, _, _, _, _, rfl, lI, cI, .inr ⟨(fun z => nomatch z), TT, _, [Value.int 0 tT], nT, rfl, lT, rfl, .cons ⟨_, rfl⟩ .nil⟩, .inl rfl⟩, kI⟩
  obtain ⟨ds4, hI4, bI4⟩ := FDI.binds1 (ps := ["self", "number", "written", "at", "deed", "right"]) 5 0 (fun z => nomatch z) rfl fun _ _ _ _ _ _ _ us its h1 h2 => match us, its, h1, h2 with | [_, _, _, _, _], [_], _, _ => ⟨_, rfl, rfl⟩
  obtain ⟨ds5, hI5, bI5⟩ := FDI.binds1 (ps := ["self", "number", "written", "at", "deed", "right"]) 6 1 (fun z => nomatch z) rfl fun _ _ _ _ _ _ _ us its h1 h2 => match us, its, h1, h2 with | [_, _, _, _, _, _], [_], _, _ => ⟨_, rfl, rfl⟩
  have e5' : ds5 = [] := by cases hI5; rfl
  subst e5'
  have kb5 : KBn K (PySem.W.fnOf "__init__" "Row.__init__" (defArgs s_Row___init__) (defBody s_Row___init__) (defScope s_Row___init__) (.ref TT) kVI dcI pmI anI cdI ctI) ["self", "number", "written", "at", "deed", "right"] 5 ["right"] (fun us ws => us ++ ws) (fun vs zs => vs ++ zs) := by
    refine ⟨fun s us ws X2 h1 h2 => ?_, fun r rz => r.append rz⟩
    match us, ws, h1, h2 with
    | [u1, u2, u3, u4, u5], [w1], _, _ => exact kw_a X2 lT
  have kb1 : KBn K (PySem.W.fnOf "__init__" "Row.__init__" (defArgs s_Row___init__) (defBody s_Row___init__) (defScope s_Row___init__) (.ref TT) kVI dcI pmI anI cdI ctI) ["self", "number", "written", "at", "deed", "right"] 1 ["deed", "right", "at", "number", "written"] gK gK := by
    refine ⟨fun s us ws X2 h1 h2 => ?_, fun r rz => gK_rel r rz⟩
    match us, ws, h1, h2 with
    | [u1], [w1, w2, w3, w4, w5], _, _ => exact kw_b X2 lT
  have FfE := fun_mk (st := s_Row___eq__) lE cE kE
  have bE := FfE.binds (ps := ["self", "other"]) fun _ _ _ _ _ _ us hl => match us, hl with | [_, _], _ => rfl
  have FfR := fun_mk (st := s_Row___repr__) lR cR kR
  have bR := FfR.binds (ps := ["self"]) fun _ _ _ _ _ _ us hl => match us, hl with | [_], _ => rfl
  have FfS := fun_mk (st := s_Row___str__) lS cS kS
  have bS := FfS.binds (ps := ["self"]) fun _ _ _ _ _ _ us hl => match us, hl with | [_], _ => rfl
  refine ⟨PySem.W.fnOf "law" "law" (defArgs s_law) (defBody s_law) (defScope s_law) .none kV19 dc19 pm19 an19 cd19 ct19, fun s v => .of_eq rfl, fun base _ _ => ?_⟩
  have C0 : Cal l.prog w K mg base 1 "hour_of" sp_hour_of := cal_mk (ok_hour_of F0 T) g0 k0 b0
  have C1 : Cal l.prog w K mg base 2 "shown" sp_shown := cal_mk (ok_shown (k := 0) F1 T C0) g1 k1 b1
  have C2 : Cal l.prog w K mg base 1 "is_whole" sp_is_whole := cal_mk (ok_is_whole F2 T) g2 k2 b2
  have C4 : Cal l.prog w K mg base 3 "time_text" sp_shown := cal_mk (ok_time_text F4 T C2 C1) g4 k4 b4
  have C5 : Cal l.prog w K mg base 1 "deed_words" (sp_deed_words K) := cal_mk (ok_deed_words F5 T) g5 k5 b5
  have C3 : Cal l.prog w K mg base 4 "row_words" (sp_row_words K C) := cal_mk (ok_row_words F3 T RCC C4 C5) g3 k3 b3
  have C6 : Cal l.prog w K mg base 1 "_law_bag" (sp_law_bag K) := cal_mk (ok_law_bag F6 T) g6 k6 b6
  have C7 : Cal l.prog w K mg base 1 "_law_take" sp_law_take := cal_mk (ok_law_take F7) g7 k7 b7
  have C8 : Cal l.prog w K mg base 2 "_law_names" sp_law_names := cal_mk (ok_law_names F8 T C7) g8 k8 b8
  have C9 : Cal l.prog w K mg base 3 "_law_ground" (sp_law_ground K) := cal_mk (ok_law_ground F9 T C7 C8) g9 k9 b9
  have C10 : Cal l.prog w K mg base 3 "_law_engines" (sp_law_engines K) := cal_mk (ok_law_engines F10 T C7 C8) g10 k10 b10
  have C12 : Cal l.prog w K mg base 2 "_law_kind" sp_law_kind := cal_mk (ok_law_kind F12 T C7) g12 k12 b12
  have C11 : Cal l.prog w K mg base 3 "_law_deed" (sp_law_deed K) := cal_mk (ok_law_deed F11 T C7 C12) g11 k11 b11
  have C13 : Cal l.prog w K mg base 4 "_law_like" (sp_law_like K 3) := cal_mk (ok_law_like F13 T g13 k13 b13 3 (by decide)) g13 k13 b13
  have C14 : Cal l.prog w K mg base 1 "_law_shown" sp_shown := cal_mk (ok_law_shown F14 T) g14 k14 b14
  have C15 : Cal l.prog w K mg base 2 "_law_text" (sp_law_text K) := cal_mk (ok_law_text F15 T C14) g15 k15 b15
  have C16 : Cal l.prog w K mg base 4 "_law_five" (sp_law_five K) := cal_mk (ok_law_five F16 T C7 C11) g16 k16 b16
  have C17 : Cal l.prog w K mg base 2 "_law_other" (sp_law_other K) := cal_mk (ok_law_other F17 T C7) g17 k17 b17
  have FE : FnOk l.prog w K mg base CX0 1 fE _ ["self", "other"] (sp_eq K C) := ok_eq FfE T RCC
  have FR : FnOk l.prog w K mg base CX0 1 fR _ ["self"] (sp_repr K C) := ok_repr FfR T RCC
  have FS : FnOk l.prog w K mg base CX0 5 fS _ ["self"] (sp_str K C) := ok_str FfS T C3
  have FI : FnOk l.prog w K mg base CX0 1 fI _ ["self", "number", "written", "at", "deed", "right"] (sp_init C) := ok_init FDI RCC
  have C18 : Cal l.prog w K mg base 8 "_law_is_told" (sp_law_is_told K C) := cal_mk (ok_law_is_told F18 T RCC NR C13 C15 FE sEm iE bE FR sRm iR bR FS sSm iS bS) g18 k18 b18
  exact ok_law F19 T RCC C6 C9 C10 C16 C11 C17 C18 FE sEm iE bE sN FS sSm iS bS MK FI bI5 bI4 hI4 kb1 kb5
end My

set_option Elab.async false
set_option linter.all false
open PySem PySem.W PyProof.Rows
set_option maxRecDepth 100000 in
set_option maxHeartbeats 0 in
theorem PySem.Challenge.cw_whistleboard_k24_rows_holds : PySem.Challenge.rw_whistleboard_k24_rows.Holds := by
  w_on; o_law; k_head; (case hw => w_witness2)
  k_fill
  refine L2.walk_ofK (l := PySem.Challenge.rw_whistleboard_k24_rows) (n := 63) (k := 9) (x := "_law_script") (CX := L2.CX0) (sp := My.sp_law) rfl (by decide) rfl ⟨rfl, by decide, by decide⟩ (fun w h Y => PySem.W.kIn_of Y) ?F (fun _ _ a ns hl _ hS => ⟨a, ns, rfl, hS, hl, fun _ => rfl⟩) (fun _ _ _ _ h => h)
  case F =>
    intro w mg fa h KX G hmg
    refine' My.all_mk KX G hmg ?a0 ?l0 ?c0 ?k0 ?a1 ?l1 ?c1 ?k1 ?a2 ?l2 ?c2 ?k2 ?a3 ?l3 ?c3 ?k3 ?a4 ?l4 ?c4 ?k4 ?a5 ?l5 ?c5 ?k5 ?a6 ?l6 ?c6 ?k6 ?a7 ?l7 ?c7 ?k7 ?a8 ?l8 ?c8 ?k8 ?a9 ?l9 ?c9 ?k9 ?a10 ?l10 ?c10 ?k10 ?a11 ?l11 ?c11 ?k11 ?a12 ?l12 ?c12 ?k12 ?a13 ?l13 ?c13 ?k13 ?a14 ?l14 ?c14 ?k14 ?a15 ?l15 ?c15 ?k15 ?a16 ?l16 ?c16 ?k16 ?a17 ?l17 ?c17 ?k17 ?a18 ?l18 ?c18 ?k18 ?a19 ?l19 ?c19 ?k19 ?z_len ?z_abs ?z_all ?z_any ?z_str ?z_int ?z_isinstance ?z_range ?z_max ?z_min ?z_bool ?z_list ?z_tuple ?z_zip ?z_repr ?g_MINUTES_OF_DAY ?g_MINUTES_OF_HOUR ?gRow ?pgC ?hdC ?poC ?saC ?na_number ?na_written ?na_at ?na_deed ?na_right ?e5 ?e6 ?e7 ?e8 ?ktC ?mkC ?inC ?isI ?kpC ?lI ?cI ?kI ?lT ?sEm ?iE ?lE ?cE ?kE ?sRm ?iR ?lR ?cR ?kR ?sSm ?iS ?lS ?cS ?kS ?sN ?kf_NoneType ?nf_NoneType ?kf_tuple ?nf_tuple ?kf_str ?nf_str ?kf_int ?nf_int ?kf_list ?nf_list
    (case a0 => k_is)
    (case l0 => k_is)
    (case c0 => k_is)
    (case k0 => k_is)
    (case a1 => k_is)
    (case l1 => k_is)
    (case c1 => k_is)
    (case k1 => k_is)
    (case a2 => k_is)
    (case l2 => k_is)
    (case c2 => k_is)
    (case k2 => k_is)
    (case a3 => k_is)
    (case l3 => k_is)
    (case c3 => k_is)
    (case k3 => k_is)
    (case a4 => k_is)
    (case l4 => k_is)
    (case c4 => k_is)
    (case k4 => k_is)
    (case a5 => k_is)
    (case l5 => k_is)
    (case c5 => k_is)
    (case k5 => k_is)
    (case a6 => k_is)
    (case l6 => k_is)
    (case c6 => k_is)
    (case k6 => k_is)
    (case a7 => k_is)
    (case l7 => k_is)
    (case c7 => k_is)
    (case k7 => k_is)
    (case a8 => k_is)
    (case l8 => k_is)
    (case c8 => k_is)
    (case k8 => k_is)
    (case a9 => k_is)
    (case l9 => k_is)
    (case c9 => k_is)
    (case k9 => k_is)
    (case a10 => k_is)
    (case l10 => k_is)
    (case c10 => k_is)
    (case k10 => k_is)
    (case a11 => k_is)
    (case l11 => k_is)
    (case c11 => k_is)
    (case k11 => k_is)
    (case a12 => k_is)
    (case l12 => k_is)
    (case c12 => k_is)
    (case k12 => k_is)
    (case a13 => k_is)
    (case l13 => k_is)
    (case c13 => k_is)
    (case k13 => k_is)
    (case a14 => k_is)
    (case l14 => k_is)
    (case c14 => k_is)
    (case k14 => k_is)
    (case a15 => k_is)
    (case l15 => k_is)
    (case c15 => k_is)
    (case k15 => k_is)
    (case a16 => k_is)
    (case l16 => k_is)
    (case c16 => k_is)
    (case k16 => k_is)
    (case a17 => k_is)
    (case l17 => k_is)
    (case c17 => k_is)
    (case k17 => k_is)
    (case a18 => k_is)
    (case l18 => k_is)
    (case c18 => k_is)
    (case k18 => k_is)
    (case a19 => k_is)
    (case l19 => k_is)
    (case c19 => k_is)
    (case k19 => k_is)
    (case z_len => k_is)
    (case z_abs => k_is)
    (case z_all => k_is)
    (case z_any => k_is)
    (case z_str => k_is)
    (case z_int => k_is)
    (case z_isinstance => k_is)
    (case z_range => k_is)
    (case z_max => k_is)
    (case z_min => k_is)
    (case z_bool => k_is)
    (case z_list => k_is)
    (case z_tuple => k_is)
    (case z_zip => k_is)
    (case z_repr => k_is)
    (case g_MINUTES_OF_DAY => k_is)
    (case g_MINUTES_OF_HOUR => k_is)
    (case gRow => k_is)
    (case pgC => first | k_is | rfl | decide +kernel)
    (case hdC => first | k_is | rfl | decide +kernel)
    (case poC => first | k_is | rfl | decide +kernel)
    (case saC => k_is)
    (case na_number => k_is)
    (case na_written => k_is)
    (case na_at => k_is)
    (case na_deed => k_is)
    (case na_right => k_is)
    (case e5 => k_is)
    (case e6 => k_is)
    (case e7 => k_is)
    (case e8 => k_is)
    (case ktC => first | k_is | rfl | decide +kernel)
    (case mkC => first | k_is | rfl | decide +kernel)
    (case inC => k_is)
    (case isI => first | k_is | rfl | decide +kernel)
    (case kpC => k_is)
    (case lI => k_is)
    (case cI => k_is)
    (case kI => k_is)
    (case lT => k_is)
    (case sEm => k_is)
    (case iE => first | k_is | rfl | decide +kernel)
    (case lE => k_is)
    (case cE => k_is)
    (case kE => k_is)
    (case sRm => k_is)
    (case iR => first | k_is | rfl | decide +kernel)
    (case lR => k_is)
    (case cR => k_is)
    (case kR => k_is)
    (case sSm => k_is)
    (case iS => first | k_is | rfl | decide +kernel)
    (case lS => k_is)
    (case cS => k_is)
    (case kS => k_is)
    (case sN => k_is)
    (case kf_NoneType => first | k_is | rfl | decide +kernel)
    (case nf_NoneType => first | k_is | rfl | decide +kernel)
    (case kf_tuple => first | k_is | rfl | decide +kernel)
    (case nf_tuple => first | k_is | rfl | decide +kernel)
    (case kf_str => first | k_is | rfl | decide +kernel)
    (case nf_str => first | k_is | rfl | decide +kernel)
    (case kf_int => first | k_is | rfl | decide +kernel)
    (case nf_int => first | k_is | rfl | decide +kernel)
    (case kf_list => first | k_is | rfl | decide +kernel)
    (case nf_list => first | k_is | rfl | decide +kernel)
