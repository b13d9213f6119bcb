import PyProof.Rows.All
import Wide.All
import OpenK.AllK
import Wide.FinOn
import PySem.Challenge.RW_whistleboard_k01_minutes_shown
import HandS.ForMost
import HandS.ForExc
import HandS.Flow
import HandS.IsInst
import HandS.FStr
import HandS.StrMore
import HandS.Replace
import HandS.ReplaceList
import HandS.ReplaceLit
import HandS.ExcIs
import PyProof.FString3
import PyProof.Rows.StrIntSpec
import KE.IntTextLaws
import HandS.ReplaceDef
set_option Elab.async false
set_option linter.all false
set_option maxRecDepth 100000
set_option maxHeartbeats 4000000
namespace My
open PySem PySem.Spec PyProof.Rows L2
/-! ### own words over the layer -/
/-- a def that is called by its name and lets nothing out -/
def Cal (P : Program) (w : World) (K : PySem.W.Frag) (mg : Str → Option Value) (base : Heap) (k : Nat) (x : Str) (sp : Sp) : Prop :=
  ∃ (f : Addr) (fd : FuncData) (ps : List Str), FnOk P w K mg base CX0 k f fd ps sp ∧ mg x = some (.ref f) ∧ PySem.W.keepIn K (.ref f) = true ∧ Binds K fd ps []
theorem pe_cal {X : Cx} {k j : Nat} {x : Str} {sp : Sp} {p pos : Pos} {e : Expr} {es : List Expr} {t : TA} (c : Cal X.prog X.w X.K X.mg X.base k x sp) (hr : Room j X.A) (hk : k ≤ j) (hg : Gl X x) (ha : PA X (e :: es) t)
    (hdb : (x == ("__debug__" : Str)) = false := by decide) (he : starEach (e :: es) X.env = (false, eval e X.env) :: starEach es X.env := by rfl) (hpl : (backTo pos (starEach es X.env)).any (·.1) = false := by rfl) :
    PE X (.Call (.Name x p) (e :: es) [] pos) (tCall sp [] E0 t) := by
  obtain ⟨f, fd, ps, F, hm, kp, b⟩ := c
  exact pe_call F (hr.mono hk) hg hm kp b .nil pass0 ha hdb he hpl
theorem same_upd {H : Hp} {p : Addr} {o : HO} (h : H p = none) : Same H (upd H p o) := fun b x e => by
  rw [upd_ne (ne_of_none e h)]
  exact e
/-- a list or tuple of the given values, by its places -/
theorem atI_of {xs : List V} {z : Int} {v : V} (h0 : 0 ≤ z) (h : xs[z.toNat]? = some v) : atI xs z = some v := by
  have e : z = (z.toNat : Int) := (Int.toNat_of_nonneg h0).symm
  rw [e]
  exact atI_nat h
theorem ixN_nat {n : Nat} {j : Nat} (h : j < n) : ixN n (j : Int) = some j := by
  unfold ixN
  simp
  omega
/-! ### the bag -/
def Bag (H : Hp) (p : Addr) : Prop := ∃ g s : Int, H p = some (.lst [.int g, .int s]) ∧ 0 ≤ g ∧ 0 ≤ s ∧ s < 2147483648
/-- all stands but the bag at p -/
def Sx (p : Addr) (H H' : Hp) : Prop := ∀ b o, b ≠ p → H b = some o → H' b = some o
def topS (i : Nat) : Stmt := PySem.Challenge.pw_whistleboard_k01_minutes_shown.main.body.getD i (.Pass ⟨0, 0, 0, 0⟩)
structure Txt (mg : Str → Option Value) : Prop where
  z_len : mg "len" = none
  z_abs : mg "abs" = none
  z_all : mg "all" = none
  z_str : mg "str" = none
  z_int : mg "int" = none
  z_isinstance : mg "isinstance" = none
  z_range : mg "range" = none
  z_max : mg "max" = none
  z_min : mg "min" = none
  z_bool : mg "bool" = none
  z_ValueError : mg "ValueError" = none
  g_LAST_MINUTE : ∃ t, mg "LAST_MINUTE" = some (.int 9999 t)
  g_MINUTES_OF_DAY : ∃ t, mg "MINUTES_OF_DAY" = some (.int 1440 t)
  g_MINUTES_OF_HOUR : ∃ t, mg "MINUTES_OF_HOUR" = some (.int 60 t)
  g_FIGURES : ∃ t, mg "FIGURES" = some (.str "0123456789" t)
  g_TEXT_LENGTH : ∃ t, mg "TEXT_LENGTH" = some (.int 7 t)
theorem pe_glob' {X : Cx} {x : Str} {pos : Pos} {i : Int} (h : ∃ t, X.mg x = some (.int i t)) (hg : Gl X x) (hd : (x == ("__debug__" : Str)) = false := by decide) : PE X (.Name x pos) (tC (.int i)) := by
  obtain ⟨t, e⟩ := h
  exact pe_glob hg e ⟨_, rfl⟩ (hd := hd)
theorem pe_globS {X : Cx} {x : Str} {pos : Pos} {i : Str} (h : ∃ t, X.mg x = some (.str i t)) (hg : Gl X x) (hd : (x == ("__debug__" : Str)) = false := by decide) : PE X (.Name x pos) (tC (.str i)) := by
  obtain ⟨t, e⟩ := h
  exact pe_glob hg e ⟨_, rfl⟩ (hd := hd)
section
variable {P : Program} {w : World} {K : PySem.W.Frag} {mg : Str → Option Value} {base : Heap}
/-! ### _law_take -/
abbrev s_law_take : Stmt := topS 16
abbrev N_law_take : List Str := ["_law_bag_here", "_law_many", "_law_digit"]
theorem sc_law_take : FnScope N_law_take ["_law_bag_here", "_law_many"] (defScope s_law_take) := ⟨rfl, rfl, rfl, by decide +kernel, rfl, by decide +kernel, by decide +kernel⟩
def sp_law_take : Sp := fun vs H Q _ => ∃ (p : Addr) (m : Int), vs = [.ref p, .int m] ∧ Bag H p ∧ 0 < m ∧ m < 1073741824 ∧
  ∀ d H', 0 ≤ d → d < m → Bag H' p → (∀ b, b ≠ p → H' b = H b) → Q (.int d) H'
theorem ok_law_take {f : Addr} {fd : FuncData} {k : Nat} (F : Fun K "_law_take" "_law_take" s_law_take f fd) : FnOk P w K mg base CX0 (k + 1) f fd ["_law_bag_here", "_law_many"] sp_law_take := by
  refine F.ok sc_law_take (fun vs H Q E h => ?_) (fun cdv A outer s H vs Q E hr h => ?_)
  · obtain ⟨p, m, rfl, _⟩ := h
    rfl
  · obtain ⟨p, m, rfl, ⟨g, sd, hp, hg, h0, h1⟩, hm0, hm1, q⟩ := h
    refine ⟨_, (pss_cons (ps_if (pt_cmpR op_gt (pe_ix ix_list (pv 0) pe_int (fun _ _ => rfl)) pe_int (nomark _)) (pss_cons (ps_set (i := 2) sc_law_take.nd rfl (.inl rfl) (pe_op op_mod (pe_ix ix_list (pv 0) pe_int (fun _ _ => rfl)) (pv 1)))
        (pss_cons (ps_asg (pe_op op_fdiv (pe_ix ix_list (pv 0) pe_int (fun _ _ => rfl)) (pv 1)) (pg_sub (pv 0) pe_int set_list))
        (pss_one (ps_ret (pv 2))))) pss_nil)
      (pss_cons (ps_asg (pe_op op_mod (pe_op op_add (pe_op op_mul (pe_ix ix_list (pv 0) pe_int (fun _ _ => rfl)) pe_int) pe_int) pe_int) (pg_sub (pv 0) pe_int set_list))
      (pss_one (ps_ret (pe_op op_mod (pe_op op_mod (pe_op op_pow (pe_op op_fdiv (pe_ix ix_list (pv 0) pe_int (fun _ _ => rfl)) pe_int) pe_int) pe_int) (pv 1)))))), ?_⟩
    have hL : SqL K H p [.int g, .int sd] := SqL.of hp
    refine ⟨_, rfl, p, _, 0, .int g, rfl, rfl, hL, atI_nat (j := 0) rfl, _, _, rfl, rfl, _, rfl, ite2 (fun e => ?_) (fun e => ?_)⟩
    · have eg : (0 : Int) < g := of_decide_eq_true e
      refine ⟨_, rfl, p, _, 0, .int g, rfl, rfl, hL, atI_nat (j := 0) rfl, _, rfl, _, _, rfl, rfl, hm0, ?_⟩
      refine ⟨_, rfl, p, _, 0, .int g, rfl, rfl, hL, atI_nat (j := 0) rfl, _, rfl, _, _, rfl, rfl, ⟨hm0, hm1⟩, ?_⟩
      refine ⟨_, rfl, p, _, 0, 0, rfl, rfl, hp, rfl, ?_⟩
      refine ⟨_, rfl, ?_⟩
      refine q _ _ (Int.emod_nonneg _ (by omega)) (Int.emod_lt_of_pos _ hm0) ⟨g / m, sd, upd_same, Int.ediv_nonneg hg (by omega), h0, h1⟩ (fun b hb => upd_ne hb)
    · refine ⟨_, rfl, p, _, 1, .int sd, rfl, rfl, hL, atI_nat (j := 1) rfl, _, _, rfl, rfl, .inl ⟨by omega, by omega⟩, _, _, rfl, rfl, _, _, rfl, rfl, (by show (0 : Int) < 2147483647; decide), ?_⟩
      refine ⟨_, rfl, p, _, 1, 1, rfl, rfl, hp, rfl, ?_⟩
      have e0 : 0 ≤ (sd * 48271 + 11) % 2147483647 := Int.emod_nonneg _ (by decide)
      have e1 : (sd * 48271 + 11) % 2147483647 < 2147483647 := Int.emod_lt_of_pos _ (by decide)
      refine ⟨_, rfl, p, _, 1, .int ((sd * 48271 + 11) % 2147483647), rfl, rfl, SqL.of upd_same, atI_nat (j := 1) rfl, _, _, rfl, rfl, ⟨by decide, by decide⟩, _, _, rfl, rfl, ⟨by decide, by decide, by omega⟩, _, _, rfl, rfl, (by show (0 : Int) < 2147483629; decide), _, rfl, _, _, rfl, rfl, hm0, ?_⟩
      refine q _ _ (Int.emod_nonneg _ (by omega)) (Int.emod_lt_of_pos _ hm0) ⟨g, _, upd_same, hg, e0, by omega⟩ (fun b hb => upd_ne hb)
/-! ### _law_bag -/
abbrev s_law_bag : Stmt := topS 15
abbrev N_law_bag : List Str := ["_law_script", "_law_at", "_law_cell", "_law_great", "_law_primes"]
theorem sc_law_bag : FnScope N_law_bag ["_law_script", "_law_at"] (defScope s_law_bag) := ⟨rfl, rfl, rfl, by decide +kernel, rfl, by decide +kernel, by decide +kernel⟩
def primes : List Int := [2147483629, 2147483587, 2147483579, 2147483563, 2147483549, 2147483543, 2147483497, 2147483489]
theorem primes_at (j : Nat) (h : j < 8) : ∃ p : Int, primes[j]? = some p ∧ 0 < p ∧ p < 2147483648 := by
  have q : ∀ j : Nat, j < 8 → ∃ p : Int, primes[j]? = some p ∧ 0 < p ∧ p < 2147483648 := fun j h =>
    match j, h with
    | 0, _ => ⟨_, rfl, by decide, by decide⟩ | 1, _ => ⟨_, rfl, by decide, by decide⟩ | 2, _ => ⟨_, rfl, by decide, by decide⟩ | 3, _ => ⟨_, rfl, by decide, by decide⟩
    | 4, _ => ⟨_, rfl, by decide, by decide⟩ | 5, _ => ⟨_, rfl, by decide, by decide⟩ | 6, _ => ⟨_, rfl, by decide, by decide⟩ | 7, _ => ⟨_, rfl, by decide, by decide⟩
    | n + 8, h => absurd h (by omega)
  exact q j h
def sp_law_bag (K : PySem.W.Frag) : Sp := fun vs H Q _ => ∃ (a : Addr) (ns : List Int) (at_ : Int), vs = [.ref a, .int at_] ∧ SqL K H a (ns.map V.int) ∧ 0 ≤ at_ ∧ at_ < 1000000 ∧
  ∀ H' p, Same H H' → H p = none → Bag H' p → Q (.ref p) H'
theorem ok_law_bag {f : Addr} {fd : FuncData} {k : Nat} (F : Fun K "_law_bag" "_law_bag" s_law_bag f fd) (T : Txt mg) : FnOk P w K mg base CX0 (k + 1) f fd ["_law_script", "_law_at"] (sp_law_bag K) := by
  refine F.ok sc_law_bag (fun vs H Q E h => ?_) (fun cdv A outer s H vs Q E hr h => ?_)
  · obtain ⟨a, ns, m, rfl, _⟩ := h
    rfl
  · obtain ⟨a, ns, m, rfl, hS, hm0, hm1, q⟩ := h
    refine ⟨_, (pss_cons (ps_set (i := 2) sc_law_bag.nd rfl (.inl rfl) pe_int)
      (pss_cons (ps_if (pt_cmpR op_gt (pe_callB call_len_seq (by rfl) T.z_len (by decide +kernel) (pa_cons (pv 0) pa_nil)) pe_int (nomark _)) (pss_one (ps_set (i := 2) sc_law_bag.nd rfl (.inl rfl) (pe_ix ix_list (pv 0) (pe_op op_mod (pv 1) (pe_callB call_len_seq (by rfl) T.z_len (by decide +kernel) (pa_cons (pv 0) pa_nil))) (fun _ _ => rfl)))) pss_nil)
      (pss_cons (ps_set (i := 3) sc_law_bag.nd rfl (.inl rfl) pe_int)
      (pss_cons (ps_if (PW.pt (pw_and (pt_cmpR op_ge (pe_callB call_abs (by rfl) T.z_abs (by decide +kernel) (pa_cons (pv 2) pa_nil)) (pe_op op_pow pe_int pe_int) (nomark _)) (pw_and1 (pt_cmpR op_lt (pv 1) (pe_callB call_len_seq (by rfl) T.z_len (by decide +kernel) (pa_cons (pv 0) pa_nil)) (nomark _))))) (pss_one (ps_set (i := 3) sc_law_bag.nd rfl (.inl rfl) (pe_callB call_abs (by rfl) T.z_abs (by decide +kernel) (pa_cons (pv 2) pa_nil)))) pss_nil)
      (pss_cons (ps_set (i := 4) sc_law_bag.nd rfl (.inl rfl) (pe_tup (pa_cons pe_int (pa_cons pe_int (pa_cons pe_int (pa_cons pe_int (pa_cons pe_int (pa_cons pe_int (pa_cons pe_int (pa_cons pe_int pa_nil))))))))))
      (pss_one (ps_ret (pe_lst (pa_cons (pv 3) (pa_cons (pe_op op_mod (pe_op op_pow (pe_op op_add (pe_op op_add (pe_op op_mod (pv 2) pe_int) (pe_op op_mul pe_int (pv 1))) pe_int) pe_int) (pe_ix ix_tup (pv 4) (pe_op op_mod (pv 1) pe_int) (fun _ _ => rfl))) pa_nil)))))))))), ?_⟩
    have nat8 : (m % 8).toNat < 8 := by omega
    obtain ⟨pr, hpr, pr0, pr1⟩ := primes_at _ nat8
    have hat : atI (primes.map V.int) (m % 8) = some (.int pr) := atI_of (by omega) (by rw [List.getElem?_map, hpr]; rfl)
    -- the way's last part, for any cell and great
    have hcell : ∀ x : Int, (x % 2147483647 + 104729 * m + 7).natAbs < 2 ^ 64 := fun x => by omega
    have two : ∀ {A B : Prop} {b : Bool}, (b = true → A) → (b = false → B) → if b = true then A else B := fun {A B b} h1 h2 => by
      cases b
      · exact iteF (h2 rfl)
      · exact iteT (h1 rfl)
    refine ⟨_, rfl, a, _, rfl, .inl hS, _, _, rfl, rfl, _, rfl, ite2 (fun e => ?g1) (fun e => ?g2)⟩
    case' g1 =>
      have e0 : 0 < ns.length := by
        have z : (0 : Int) < ((ns.map V.int).length : Nat) := of_decide_eq_true e
        rw [List.length_map] at z
        omega
      have hl : (m % ((ns.map V.int).length : Nat)).toNat < ns.length := by
        rw [List.length_map]
        have z1 : 0 ≤ m % (ns.length : Int) := Int.emod_nonneg _ (by omega)
        have z2 : m % (ns.length : Int) < (ns.length : Int) := Int.emod_lt_of_pos _ (by omega)
        omega
      have hc : atI (ns.map V.int) (m % ((ns.map V.int).length : Nat)) = some (.int (ns[(m % ((ns.map V.int).length : Nat)).toNat])) := atI_of (Int.emod_nonneg _ (by rw [List.length_map]; omega)) (by rw [List.getElem?_map, List.getElem?_eq_getElem hl]; rfl)
      refine ⟨_, rfl, _, rfl, _, rfl, a, _, rfl, .inl hS, _, _, rfl, rfl, (by show (0 : Int) < _; rw [List.length_map]; omega), a, _, _, _, rfl, rfl, hS, hc, ?_⟩
      generalize ns[(m % ((ns.map V.int).length : Nat)).toNat] = c
    all_goals
      refine ⟨_, rfl, _, rfl, _, _, rfl, rfl, ⟨by decide, by decide, by decide⟩, _, _, rfl, rfl, _, rfl, ite2 (fun e1 => ?_) (fun e1 => ?_)⟩
    all_goals first
      | refine ⟨_, rfl, _, rfl, a, _, rfl, .inl hS, _, _, rfl, rfl, _, rfl, ite2 (fun e2 => ?_) (fun e2 => ?_)⟩
      | refine iteF ?_
    all_goals try refine ⟨_, rfl, _, rfl, ?_⟩
    all_goals
      refine ⟨(by show 8 ≤ sizeLine; decide), fun tp ntp => ?_⟩
      refine ⟨_, rfl, _, rfl, _, _, rfl, rfl, (by show (0 : Int) < 2147483647; decide), _, rfl, _, _, rfl, rfl, .inl ⟨by decide, by decide⟩, _, _, rfl, rfl, _, _, rfl, rfl, _, _, rfl, rfl, ⟨by decide, by decide, hcell _⟩, _, rfl, _, rfl, _, _, rfl, rfl, (by show (0 : Int) < 8; decide), tp, _, _, _, rfl, rfl, SqT.of (xs := primes.map V.int) upd_same, hat, _, _, rfl, rfl, pr0, (by show 2 ≤ sizeLine; decide), fun p np => ?_⟩
      refine q _ p ((same_upd ntp).trans (same_upd np)) ((same_upd ntp).free np) ⟨_, _, upd_same, ?_, Int.emod_nonneg _ (by omega), Int.lt_trans (Int.emod_lt_of_pos _ pr0) pr1⟩
      first | decide | (split <;> omega)

end
end My

set_option Elab.async false
set_option linter.all false
set_option maxRecDepth 100000
set_option maxHeartbeats 4000000
namespace My
open PySem PySem.Spec PyProof.Rows L2
open Builtin in
/-- two figures -/
def two (i : Int) : Str := if i < 10 then Str.ofString "0" ++ Str.ofString (toString i) else Str.ofString (toString i)
open Builtin in
theorem gives02 {a : Int} (h0 : 0 ≤ a) (h1 : a < 100) (t u : Tok) : Gives («int.__format__» ⟨[.int a t, .str (Str.ofString "02d") u], []⟩) (.str (two a)) := by
  intro prog w A R s hq
  show wpAny _ _ (do
    let _kind ← typeNameOf (.str (Str.ofString "02d") u)
    (do let name ← typeNameOfCut 200 (.int a t)
        _)) _ _ _
  refine wpAny_bind (wpAny_typeNameOf (T := "str") (typeIs_str _ _ _) (by decide) fun _ => ?_)
  refine wpAny_bind (wpAny_typeNameOfCut_int ?_)
  obtain ⟨n, rfl⟩ : ∃ n : Nat, a = n := ⟨a.toNat, (Int.toNat_of_nonneg h0).symm⟩
  have hn : n < 100 := by omega
  clear h0 h1
  show wpAny _ _ (do let r ← overDigitLimit? (n : Int); _) _ _ _
  have hl : ((n : Int)).natAbs.log2 < 1920 := by
    have e : ((n : Int)).natAbs = n := rfl
    rw [e]
    exact Nat.lt_of_le_of_lt (Nat.log2_le_self n) (by omega)
  rw [PySem.overDigitLimit_small hl]
  have key : ∀ z : Str, z = two (n : Int) → wpAny (model prog w) A.in1 (retStr z) (fun fin s' => match fin with | .done f => R (.ok f) s' | .again c' => c'.quiet = true ∧ codeAny (model prog w) A c' R s') (fun e s' => R (.error e) s') s := fun z e => by
    subst e
    exact Gives.of_eq (m := .str (two n)) rfl prog w A R s hq
  refine key _ ?_
  clear hq hl key
  revert n
  decide +kernel
theorem two_len {i : Int} (h0 : 0 ≤ i) (h1 : i < 100) : (two i).length = 2 := by
  obtain ⟨n, rfl⟩ : ∃ n : Nat, i = n := ⟨i.toNat, (Int.toNat_of_nonneg h0).symm⟩
  have hn : n < 100 := by omega
  clear h0 h1
  revert n
  decide +kernel
section
variable {X : Cx} {e o : Expr} {te to : TE}
/-- {x:02d}, x from 0 to 99 -/
def tFmt02 (te : TE) : TE := fun σ H Q => te σ H fun x H1 => ∃ i : Int, x = .int i ∧ 0 ≤ i ∧ i < 100 ∧ Q (.str (two i)) H1
theorem pe_fmt02 {j : Nat} {p1 p2 pos : Pos} (he : PE X e te) : PE X (.FormattedValue e (-1) (some (.JoinedStr [.Constant (.str (Str.ofString "02d")) j p1] p2)) pos) (tFmt02 te) := by
  refine ⟨fun pins s σ H Q I h => ?_⟩
  refine wpAny_FormattedValue_spec (thn (he.run pins s σ H _ I h) fun v s1 hv => ?_)
  obtain ⟨x, H1, I1, r1, i, rfl, h0, h1, q⟩ := hv
  obtain ⟨t, rfl⟩ := r1
  refine wpAny_JoinedStr_one (Calls.Constant_str ?_)
  refine ⟨_, _, rfl, ?_⟩
  exact wpAny_formatField_spec (T := "int") (by decide) (fun s' => typeIs_int s' i t) PySem.F.slot_int_format PySem.F.entry_int_format PySem.F.args_int_format_2 (fun u => gives02 h0 h1 t u) ⟨.str (two i), H1, (I1.tok _), ⟨_, rfl⟩, q⟩ (by decide) (by rw [two_len h0 h1]; decide)
/-- o.name(e) of a text, o wanting a token -/
theorem pet_m1 {id : String} {name : Str} {apos pos : Pos} {r : V → List V → Hp → VK → Prop} (slot : Slot "str" name id) (ty : typeOf (.builtin id) = pure (.type "method_descriptor")) (rule : MtR X id r) (ho : PET X o to) (he : PE X e te)
    (hs : starEach [e] X.env = [(false, eval e X.env)] := by rfl) (hbase : attributeBase o name X.env (eval o X.env) = eval o X.env := by rfl) (hline : (apos.endLine == pos.line) = true := by rfl) :
    PET X (.Call (.Attribute o name apos) [e] [] pos) (tM1 r to te) := by
  intro pins s σ H Q h0 I h
  refine PySem.Call_method1 hbase hs hline (thn (ho pins s σ H _ h0 I h) fun v s1 ⟨x, H1, I1, r1, q1⟩ => ?_)
  obtain ⟨⟨a, rfl⟩, q1⟩ := q1
  obtain ⟨t, rfl⟩ := _root_.id r1
  refine ⟨"str", _, PySem.F.plainAttrs_str, slot, ty, typeIs_str _ _ _, (fun _ e => nomatch e), Calls.callWith_builtin rfl (Calls.evalArgs_plain (Calls.spliced_cons ?_))⟩
  exact thn (he.run pins s1 σ H1 _ I1 q1) fun u s2 ⟨y, H2, I2, r2, q2⟩ => Calls.spliced_nil (rule pins s2 σ H2 _ [y] _ [u] Q I2 r1 (.cons r2 .nil) q2)
theorem pst_set {i : Nat} {x : Str} {pos pos' : Pos} (hN : X.N.Nodup) (hi : X.N[i]? = some x) (hx : Loc X.env.scope x) (he : PET X e te) (hs : swapsWith e (some (.Name x pos')) pos.line X.env = pure false := by rfl) (hf : X.fn x = true ∨ X.env.scope.names.lookup x = some .local := by first | exact .inl rfl | exact .inr rfl | assumption) :
    PST X (.Assign [.Name x pos'] e pos) (tAsg te (gName i)) := by
  intro pins s σ H D h0 I h
  refine wpAny_Assign_Name (thn (he pins s σ H _ h0 I h) fun v s1 ⟨y, H1, I1, r1, q1⟩ => ?_) hs
  exact store_ok I1 hN hi hx r1 (fun s2 I2 => ⟨_, H1, I2, q1⟩) hf
end
/-! ### the text of a minute -/
def tx (m : Int) : Str := Str.ofString (toString (m / 1440)) ++ Str.ofString " " ++ two (m % 1440 / 60) ++ Str.ofString ":" ++ two (m % 60)
section
variable {P : Program} {w : World} {K : PySem.W.Frag} {mg : Str → Option Value} {base : Heap}
abbrev s_hour_of : Stmt := topS 10
abbrev N_hour_of : List Str := ["minute"]
theorem sc_hour_of : FnScope N_hour_of ["minute"] (defScope s_hour_of) := ⟨rfl, rfl, rfl, by decide +kernel, rfl, by decide +kernel, by decide +kernel⟩
def sp_hour_of : Sp := fun vs H Q _ => ∃ m : Int, vs = [.int m] ∧ Q (.int (m % 1440 / 60)) H
theorem ok_hour_of {f : Addr} {fd : FuncData} {k : Nat} (F : Fun K "hour_of" "hour_of" s_hour_of f fd) (T : Txt mg) : FnOk P w K mg base CX0 (k + 1) f fd ["minute"] sp_hour_of := by
  refine F.ok sc_hour_of (fun vs H Q E h => ?_) (fun cdv A outer s H vs Q E hr h => ?_)
  · obtain ⟨m, rfl, _⟩ := h
    rfl
  · obtain ⟨m, rfl, q⟩ := h
    refine ⟨_, (pss_one (ps_ret (pe_op op_fdiv (pe_op op_mod (pv 0) (pe_glob' T.g_MINUTES_OF_DAY (by rfl))) (pe_glob' T.g_MINUTES_OF_HOUR (by rfl))))), ?_⟩
    exact ⟨_, rfl, _, _, rfl, rfl, (by show (0 : Int) < 1440; decide), _, _, rfl, rfl, ⟨by decide, by decide⟩, q⟩
abbrev s_shown : Stmt := topS 11
abbrev N_shown : List Str := ["minute", "day", "rest"]
theorem sc_shown : FnScope N_shown ["minute"] (defScope s_shown) := ⟨rfl, rfl, rfl, by decide +kernel, rfl, by decide +kernel, by decide +kernel⟩
theorem small_log {n : Nat} (h : n < 100000) : n.log2 < 1920 := by
  by_cases z : n = 0
  · rw [z]; decide
  · exact (Nat.log2_lt z).mpr (Nat.lt_of_lt_of_le h (by decide))
theorem str_app (a b : Str) : (a ++ b).length = a.length + b.length := Array.size_append
theorem day_len {i : Int} (h0 : 0 ≤ i) (h1 : i < 100) : (Str.ofString (toString i)).length ≤ 2 := by
  obtain ⟨n, rfl⟩ : ∃ n : Nat, i = n := ⟨i.toNat, (Int.toNat_of_nonneg h0).symm⟩
  have hn : n < 100 := by omega
  clear h0 h1
  revert n
  decide +kernel
theorem empty_app (a : Str) : Str.empty ++ a = a := by
  show (⟨#[] ++ a.cps⟩ : Str) = a
  rw [Array.empty_append]
theorem tx_len {m : Int} (h0 : 0 ≤ m) (h1 : m < 100000) : (tx m).length ≤ 8 := by
  have l1 := day_len (i := m / 1440) (by omega) (by omega)
  have l2 := two_len (i := m % 1440 / 60) (by omega) (by omega)
  have l3 := two_len (i := m % 60) (by omega) (by omega)
  have l4 : (Str.ofString " ").length = 1 := by decide
  have l5 : (Str.ofString ":").length = 1 := by decide
  unfold tx
  rw [str_app, str_app, str_app, str_app]
  omega
def sp_shown : Sp := fun vs H Q _ => ∃ m : Int, vs = [.int m] ∧ 0 ≤ m ∧ m < 100000 ∧ Q (.str (tx m)) H
theorem ok_shown {f : Addr} {fd : FuncData} {k : Nat} (F : Fun K "shown" "shown" s_shown f fd) (T : Txt mg) (C_hour_of : Cal P w K mg base 1 "hour_of" sp_hour_of) : FnOk P w K mg base CX0 2 f fd ["minute"] sp_shown := by
  refine F.ok sc_shown (fun vs H Q E h => ?_) (fun cdv A outer s H vs Q E hr h => ?_)
  · obtain ⟨m, rfl, _⟩ := h
    rfl
  · obtain ⟨m, rfl, h0, h1, q⟩ := h
    refine ⟨_, (pss_cons (ps_set (i := 1) sc_shown.nd rfl (.inl rfl) (pe_op op_fdiv (pv 0) (pe_glob' T.g_MINUTES_OF_DAY (by rfl))))
      (pss_cons (ps_set (i := 2) sc_shown.nd rfl (.inl rfl) (pe_op op_mod (pv 0) (pe_glob' T.g_MINUTES_OF_HOUR (by rfl))))
      (pss_one (ps_ret (pe_joined (PJ.cons (pe_fmt (pv 1)) (PJ.cons pe_str (PJ.cons (pe_fmt02 (pe_cal C_hour_of hr (by decide) (by rfl) (pa_cons (pv 0) pa_nil))) (PJ.cons pe_str (PJ.cons (pe_fmt02 (pv 2)) PJ.nil)))))))))), ?_⟩
    refine ⟨_, rfl, _, _, rfl, rfl, ⟨by decide, by decide⟩, ?_⟩
    refine ⟨_, rfl, _, _, rfl, rfl, (by show (0 : Int) < 60; decide), ?_⟩
    have l1 := day_len (i := m / 1440) (by omega) (by omega)
    have l2 := two_len (i := m % 1440 / 60) (by omega) (by omega)
    have l3 := two_len (i := m % 60) (by omega) (by omega)
    have l4 : (Str.ofString " ").length = 1 := by decide
    have l5 : (Str.ofString ":").length = 1 := by decide
    have l0 : Str.empty.length = 0 := by decide
    have hs : 100 ≤ sizeLine := by decide
    refine ⟨_, rfl, .inr ⟨m / 1440, rfl, small_log (by omega), _, rfl, ?_, _, rfl, ?_, ?_⟩⟩
    · rw [str_app, l0]; exact Nat.le_trans (by omega) hs
    · rw [str_app, str_app, l0, l4]; exact Nat.le_trans (by omega) hs
    · refine ⟨_, rfl, m, rfl, m % 1440 / 60, rfl, by omega, by omega, _, rfl, ?_, _, rfl, ?_, ?_⟩
      · rw [str_app, str_app, str_app, l0, l4]; exact Nat.le_trans (by omega) hs
      · rw [str_app, str_app, str_app, str_app, l0, l4, l5]; exact Nat.le_trans (by omega) hs
      · refine ⟨_, rfl, m % 60, rfl, by omega, by omega, _, rfl, ?_, ?_⟩
        · rw [str_app, str_app, str_app, str_app, str_app, l0, l4, l5]; exact Nat.le_trans (by omega) hs
        · rw [empty_app]
          exact q
end
end My

set_option Elab.async false
set_option linter.all false
set_option maxRecDepth 100000
set_option maxHeartbeats 4000000
namespace My
open PySem PySem.Spec PyProof.Rows L2
theorem two_lt {i : Int} (h : i < 10) : two i = Str.ofString "0" ++ Str.ofString (toString i) := if_pos h
theorem two_ge {i : Int} (h : ¬ i < 10) : two i = Str.ofString (toString i) := if_neg h
/-- no test in a comprehension -/
theorem yesI {σ : L2.St} {H : Hp} {A B : Hp → Prop} (h : A H) : tYes σ H (fun b H3 => if b = true then A H3 else B H3) := by
  show if true = true then A H else B H
  exact iteT h
section
variable {P : Program} {w : World} {K : PySem.W.Frag} {mg : Str → Option Value} {base : Heap}
abbrev s_law_text : Stmt := topS 17
abbrev N_law_text : List Str := ["_law_minute", "_law_day", "_law_rest", "_law_two", "_law_k"]
theorem sc_law_text : FnScope N_law_text ["_law_minute"] (defScope s_law_text) := ⟨rfl, rfl, rfl, by decide +kernel, rfl, by decide +kernel, by decide +kernel⟩
def sp_law_text : Sp := fun vs H Q _ => ∃ m : Int, vs = [.int m] ∧ 0 ≤ m ∧ m < 100000 ∧ ∀ H', Same H H' → Q (.str (tx m)) H'
theorem ok_law_text {f : Addr} {fd : FuncData} {k : Nat} (F : Fun K "_law_text" "_law_text" s_law_text f fd) (T : Txt mg) : FnOk P w K mg base CX0 (k + 1) f fd ["_law_minute"] sp_law_text := by
  refine F.ok sc_law_text (fun vs H Q E h => ?_) (fun cdv A outer s H vs Q E hr h => ?_)
  · obtain ⟨m, rfl, _⟩ := h
    rfl
  · obtain ⟨m, rfl, h0, h1, q⟩ := h
    refine ⟨_, (pss_cons (ps_par (i := 1) (j := 2) (by rfl) sc_law_text.nd rfl rfl (by decide) rfl rfl (pa_cons (pe_op op_fdiv (pv 0) pe_int) (pa_cons (pe_op op_mod (pv 0) pe_int) pa_nil)) (by rfl))
      (pss_cons (ps_setLc (i := 3) (own := [("_law_k", 4)]) (by rfl) sc_law_text.nd rfl rfl (sw_true rfl rfl rfl (by decide +kernel)) (pi_tup (pe_tup (pa_cons (pe_op op_fdiv (pv 2) pe_int) (pa_cons (pe_op op_mod (pv 2) pe_int) pa_nil)))) (blkOk_by (own := [("_law_k", 4)]) (N := N_law_text) (sc := defScope s_law_text) (by decide +kernel)) (fun _ _ _ _ _ => (pg_name (i := 4) sc_law_text.nd rfl (.inl rfl))) (fun _ _ _ _ _ => pts_nil) (fun _ _ _ _ _ => (pe_ifExp (pt_cmpR op_lt (pv 4) pe_int (nomark _)) (pe_op op_add_str pe_str (pe_callTy call_str_int (by rfl) T.z_str (by decide +kernel) (pa_cons (pv 4) pa_nil))) (pe_callTy call_str_int (by rfl) T.z_str (by decide +kernel) (pa_cons (pv 4) pa_nil)))))
      (pss_one (ps_ret (pe_op op_add_str (pe_op op_add_str (pe_op op_add_str (pe_op op_add_str (pe_callTy call_str_int (by rfl) T.z_str (by decide +kernel) (pa_cons (pv 1) pa_nil)) pe_str) (pe_ix ix_list (pv 3) pe_int (fun _ _ => rfl))) pe_str) (pe_ix ix_list (pv 3) pe_int (fun _ _ => rfl))))))), ?_⟩
    refine ⟨_, rfl, _, _, rfl, rfl, ⟨by decide, by decide⟩, _, rfl, _, _, rfl, rfl, (by show (0 : Int) < 1440; decide), _, _, rfl, ?_⟩
    refine ⟨_, rfl, _, _, rfl, rfl, ⟨by decide, by decide⟩, _, rfl, _, _, rfl, rfl, (by show (0 : Int) < 60; decide), (by show 2 ≤ sizeLine; decide), fun tp ntp => ?_⟩
    have em : m % 1440 % 60 = m % 60 := by omega
    have l1 := day_len (i := m / 1440) (by omega) (by omega)
    have l2 := two_len (i := m % 1440 / 60) (by omega) (by omega)
    have l3 := two_len (i := m % 1440 % 60) (by omega) (by omega)
    have l4 : (Str.ofString " ").length = 1 := by decide
    have l5 : (Str.ofString ":").length = 1 := by decide
    have hs : 100 ≤ sizeLine := by decide
    refine ⟨tp, rfl, ⟨_, SqT.of upd_same⟩, fun D nD => ?_⟩
    have nDt : tp ≠ D := fun e => by
      rw [← e, upd_same] at nD
      cases nD
    refine lc_tup (K := K) (a := tp) (xs := [.int (m % 1440 / 60), .int (m % 1440 % 60)]) (fun i H' => Same H H' ∧ H' tp = some (.tup [.int (m % 1440 / 60), .int (m % 1440 % 60)]) ∧ H' D = some (.lst ([V.str (two (m % 1440 / 60)), V.str (two (m % 1440 % 60))].take i))) ⟨(same_upd ntp).trans (same_upd nD), ?_, upd_same⟩ (fun i H' _ p => SqT.of p.2.1) ?_ ?_
    · rw [upd_ne nDt, upd_same]
    · rintro i x H' hx ⟨sm, ht, hD⟩
      have hi : i = 0 ∨ i = 1 := by
        match i, hx with
        | 0, _ => exact .inl rfl
        | 1, _ => exact .inr rfl
      obtain ⟨z, hz0, hz1, rfl, acc, hacc, hal, hnext⟩ : ∃ z : Int, 0 ≤ z ∧ z < 100 ∧ x = .int z ∧ ∃ acc : List V, H' D = some (.lst acc) ∧ acc.length < sizeLine ∧ [V.str (two (m % 1440 / 60)), V.str (two (m % 1440 % 60))].take (i + 1) = acc ++ [.str (two z)] := by
        rcases hi with rfl | rfl
        · exact ⟨m % 1440 / 60, by omega, by omega, (Option.some.inj hx).symm, _, hD, by show 0 < sizeLine; decide, rfl⟩
        · exact ⟨m % 1440 % 60, by omega, by omega, (Option.some.inj hx).symm, _, hD, by show 1 < sizeLine; decide, rfl⟩
      have nx : Same H (upd H' D (.lst (acc ++ [.str (two z)]))) ∧ (upd H' D (.lst (acc ++ [.str (two z)]))) tp = some (.tup [.int (m % 1440 / 60), .int (m % 1440 % 60)]) ∧ (upd H' D (.lst (acc ++ [.str (two z)]))) D = some (.lst ([V.str (two (m % 1440 / 60)), V.str (two (m % 1440 % 60))].take (i + 1))) := by
        refine ⟨fun b o e => ?_, ?_, ?_⟩
        · have nb : b ≠ D := ne_of_none e ((same_upd ntp).free nD)
          rw [upd_ne nb]
          exact sm b o e
        · rw [upd_ne nDt]
          exact ht
        · rw [upd_same, hnext]
      refine ⟨rfl, ?_⟩
      refine yesI ?_
      refine ⟨_, rfl, _, _, rfl, rfl, _, rfl, ite2 (fun e => ?_) (fun e => ?_)⟩
      · have ez : z < 10 := of_decide_eq_true e
        refine ⟨_, rfl, z, rfl, small_log (by omega), _, _, rfl, rfl, ?_, acc, hacc, hal, ?_⟩
        · have := two_len hz0 hz1
          rw [two_lt ez, str_app] at this
          rw [this]
          decide
        · rw [← two_lt ez]; exact nx
      · have ez : ¬ z < 10 := of_decide_eq_false (by simpa using e)
        refine ⟨_, rfl, z, rfl, small_log (by omega), acc, hacc, hal, ?_⟩
        rw [← two_ge ez]; exact nx
    · rintro H' ⟨sm, ht, hD⟩
      refine ⟨_, rfl, m / 1440, rfl, small_log (by omega), _, _, rfl, rfl, ?_, ?_⟩
      · exact Nat.le_trans (by omega) hs
      refine ⟨_, rfl, D, _, 0, _, rfl, rfl, SqL.of hD, atI_nat (j := 0) rfl, _, _, rfl, rfl, ?_, ?_⟩
      · rw [str_app, l4]; exact Nat.le_trans (by omega) hs
      refine ⟨_, _, rfl, rfl, ?_, ?_⟩
      · rw [str_app, str_app, l4, l5]; exact Nat.le_trans (by omega) hs
      refine ⟨_, rfl, D, _, 1, _, rfl, rfl, SqL.of hD, atI_nat (j := 1) rfl, _, _, rfl, rfl, ?_, ?_⟩
      · rw [str_app, str_app, str_app, l4, l5]; exact Nat.le_trans (by omega) hs
      have fin := q _ sm
      unfold tx at fin
      rw [← em] at fin
      exact fin
end
end My

set_option Elab.async false
set_option linter.all false
set_option maxRecDepth 100000
set_option maxHeartbeats 4000000
namespace My
open PySem PySem.Spec PyProof.Rows L2
/-! ### the signs of a minute's text -/
theorem two_tl {n : Nat} (h : n < 100) : (two (n : Int)).cps.toList = [48 + n / 10, 48 + n % 10] := by
  revert n
  decide +kernel
theorem day_tl {n : Nat} (h : n < 10) : (Str.ofString (toString (n : Int))).cps.toList = [48 + n] := by
  revert n
  decide +kernel
theorem app_tl (a b : Str) : (a ++ b).cps.toList = a.cps.toList ++ b.cps.toList := by
  show (a.cps ++ b.cps).toList = _
  rw [Array.toList_append]
def sg (d h r : Nat) : List Nat := [48 + d, 32, 48 + h / 10, 48 + h % 10, 58, 48 + r / 10, 48 + r % 10]
theorem tx_tl {n : Nat} (h : n ≤ 9999) : (tx (n : Int)).cps.toList = sg (n / 1440) (n % 1440 / 60) (n % 60) := by
  unfold tx
  have e1 : ((n : Int) / 1440) = ((n / 1440 : Nat) : Int) := by omega
  have e2 : ((n : Int) % 1440 / 60) = ((n % 1440 / 60 : Nat) : Int) := by omega
  have e3 : ((n : Int) % 60) = ((n % 60 : Nat) : Int) := by omega
  rw [e1, e2, e3, app_tl, app_tl, app_tl, app_tl, day_tl (by omega), two_tl (by omega), two_tl (by omega)]
  rfl
theorem str_ext {a b : Str} (h : a.cps.toList = b.cps.toList) : a = b := by
  cases a with | mk x => cases b with | mk y => exact congrArg Str.mk (Array.toList_inj.mp h)
/-! ### figures -/
def isF (c : Nat) : Bool := decide (c ∈ (Str.ofString "0123456789").cps.toList)
theorem isF_iff (c : Nat) : isF c = true ↔ 48 ≤ c ∧ c ≤ 57 := by
  have e : (Str.ofString "0123456789").cps.toList = [48, 49, 50, 51, 52, 53, 54, 55, 56, 57] := by decide +kernel
  unfold isF
  rw [e, decide_eq_true_eq]
  simp only [List.mem_cons, List.not_mem_nil, or_false]
  omega
def figs (z : Str) : Bool := decide (z.length = 7) && [0, 2, 3, 5, 6].all fun j => isF (z.cps.toList.getD j 0)
theorem figs_sg {z : Str} {d h r : Nat} (e : z.cps.toList = sg d h r) (hd : d < 10) (hh : h < 100) (hr : r < 100) : figs z = true := by
  have hl : z.length = 7 := by
    show z.cps.size = 7
    rw [← Array.length_toList, e]
    rfl
  unfold figs
  rw [e, hl]
  have f0 := (isF_iff (48 + d)).mpr (by omega)
  have f1 := (isF_iff (48 + h / 10)).mpr (by omega)
  have f2 := (isF_iff (48 + h % 10)).mpr (by omega)
  have f3 := (isF_iff (48 + r / 10)).mpr (by omega)
  have f4 := (isF_iff (48 + r % 10)).mpr (by omega)
  show (true && (isF (48 + d) && (isF (48 + h / 10) && (isF (48 + h % 10) && (isF (48 + r / 10) && (isF (48 + r % 10) && true)))))) = true
  rw [f0, f1, f2, f3, f4]
  rfl
theorem figs_true {z : Str} (h : figs z = true) : ∃ a0 a1 a2 a3 a4 a5 a6 : Nat, z = ⟨#[a0, a1, a2, a3, a4, a5, a6]⟩ ∧ (48 ≤ a0 ∧ a0 ≤ 57) ∧ (48 ≤ a2 ∧ a2 ≤ 57) ∧ (48 ≤ a3 ∧ a3 ≤ 57) ∧ (48 ≤ a5 ∧ a5 ≤ 57) ∧ (48 ≤ a6 ∧ a6 ≤ 57) := by
  unfold figs at h
  rw [Bool.and_eq_true, decide_eq_true_eq] at h
  obtain ⟨hl, hf⟩ := h
  have hl' : z.cps.toList.length = 7 := by rw [Array.length_toList]; exact hl
  obtain ⟨a0, a1, a2, a3, a4, a5, a6, e⟩ : ∃ a0 a1 a2 a3 a4 a5 a6 : Nat, z.cps.toList = [a0, a1, a2, a3, a4, a5, a6] := by
    match z.cps.toList, hl' with
    | [a0, a1, a2, a3, a4, a5, a6], _ => exact ⟨a0, a1, a2, a3, a4, a5, a6, rfl⟩
  rw [e] at hf
  have hf' : (isF a0 && (isF a2 && (isF a3 && (isF a5 && (isF a6 && true))))) = true := hf
  simp only [Bool.and_eq_true] at hf'
  obtain ⟨f0, f2, f3, f5, f6, _⟩ := hf'
  exact ⟨a0, a1, a2, a3, a4, a5, a6, str_ext e, (isF_iff _).mp f0, (isF_iff _).mp f2, (isF_iff _).mp f3, (isF_iff _).mp f5, (isF_iff _).mp f6⟩
/-- what read_time reckons of seven signs -/
def val (a0 a2 a3 a5 a6 : Nat) : Nat := (a0 - 48) * 1440 + ((a2 - 48) * 10 + (a3 - 48)) * 60 + ((a5 - 48) * 10 + (a6 - 48))
theorem val_tx {a0 a1 a2 a3 a4 a5 a6 n : Nat} (h : n ≤ 9999) (e : (⟨#[a0, a1, a2, a3, a4, a5, a6]⟩ : Str) = tx (n : Int)) : val a0 a2 a3 a5 a6 = n := by
  have e' : [a0, a1, a2, a3, a4, a5, a6] = sg (n / 1440) (n % 1440 / 60) (n % 60) := by
    rw [← tx_tl h, ← e]
  unfold sg at e'
  simp only [List.cons.injEq, and_true] at e'
  obtain ⟨rfl, rfl, rfl, rfl, rfl, rfl, rfl⟩ := e'
  unfold val
  omega
section
variable {P : Program} {w : World} {K : PySem.W.Frag} {mg : Str → Option Value} {base : Heap}
/-- what a thing that is no text is -/
def NoStr (K : PySem.W.Frag) (H : Hp) (x : V) : Prop := ∃ a : String, TyX K H x (.type a) ∧ kitB a "str" = some false
def Places (K : PySem.W.Frag) (mg : Str → Option Value) : Prop := ∃ a : Addr, mg "FIGURE_PLACES" = some (.ref a) ∧ ∀ H, SqT K H a [.int 0, .int 2, .int 3, .int 5, .int 6]
theorem pe_globR {X : Cx} {x : Str} {pos : Pos} {a : Addr} (h : X.mg x = some (.ref a)) (hg : Gl X x) (hd : (x == ("__debug__" : Str)) = false := by decide) : PE X (.Name x pos) (tC (.ref a)) := pe_glob hg h rfl (hd := hd)
abbrev s_has_figures : Stmt := topS 13
abbrev N_has_figures : List Str := ["text", "place"]
theorem sc_has_figures : FnScope N_has_figures ["text"] (defScope s_has_figures) := ⟨rfl, rfl, rfl, by decide +kernel, rfl, by decide +kernel, by decide +kernel⟩
def sp_has_figures (K : PySem.W.Frag) : Sp := fun vs H Q _ => ∃ x : V, vs = [x] ∧ ((∃ z : Str, x = .str z ∧ z.length ≤ 100000 ∧ ∀ H', Same H H' → Q (.bl (figs z)) H') ∨ (NoStr K H x ∧ Q (.bl false) H))
theorem ok_has_figures {f : Addr} {fd : FuncData} {k : Nat} (F : Fun K "has_figures" "has_figures" s_has_figures f fd) (T : Txt mg) (TP : Places K mg) : FnOk P w K mg base CX0 (k + 1) f fd ["text"] (sp_has_figures K) := by
  refine F.ok sc_has_figures (fun vs H Q E h => ?_) (fun cdv A outer s H vs Q E hr h => ?_)
  · obtain ⟨m, rfl, _⟩ := h
    rfl
  · obtain ⟨x, rfl, h⟩ := h
    obtain ⟨pa, gpa, hpa⟩ := TP
    refine ⟨_, (pss_cons (ps_if (PW.pt (pw_or (pt_not (pt_val (pe_callB call_isi (by rfl) T.z_isinstance (by decide +kernel) (pa_cons (pv 0) (pa_cons (pe_bltn (v := .ty "str") (by rfl) T.z_str (by decide +kernel) rfl) pa_nil))))) (pw_or1 (pt_cmpR op_ne (pe_callB call_len_str (by rfl) T.z_len (by decide +kernel) (pa_cons (pv 0) pa_nil)) (pe_glob' T.g_TEXT_LENGTH (by rfl)) (nomark _))))) (pss_one (ps_ret pe_bl)) pss_nil)
      (pss_one (ps_ret (pe_callB (cr_all (by rfl)) (by rfl) T.z_all (by decide +kernel) (pa_cons (pe_lc (own := [("place", 1)]) (by rfl) sc_has_figures.nd (pi_tup (pe_globR gpa (by rfl))) (blkOk_by (own := [("place", 1)]) (N := N_has_figures) (sc := defScope s_has_figures) (by decide +kernel)) (fun _ _ _ _ _ => (pg_name (i := 1) sc_has_figures.nd rfl (.inl rfl))) (fun _ _ _ _ _ => pts_nil) (fun _ _ _ _ _ => (pe_cmpR op_in_sign (pe_ix ix_str (pv 0) (pv 1) (fun _ _ => rfl)) (pe_globS T.g_FIGURES (by rfl)) rfl))) pa_nil))))), ?_⟩
    rcases h with ⟨z, rfl, hz, q⟩ | ⟨⟨a, ty, kb⟩, q⟩
    · refine ⟨_, rfl, _, _, _, _, true, rfl, .ty "str", .base (.str z), kit_ty (by decide +kernel), true, rfl, ?_⟩
      refine iteF ?_
      have hs : 100000 ≤ sizeLine := by decide
      refine ⟨_, rfl, z, rfl, Nat.le_trans hz hs, rfl, _, rfl, ite2 (fun e => ?_) (fun e => ?_)⟩
      · have hne : ¬ z.length = 7 := fun z7 => by
          rw [z7] at e
          revert e
          decide
        have hf : figs z = false := by
          unfold figs
          rw [decide_eq_false hne]
          rfl
        rw [hf] at q
        exact q _ (Same.refl _)
      · have h7 : z.length = 7 := by
          by_cases c : z.length = 7
          · exact c
          · exfalso
            apply e
            have : ¬ (V.int (z.length : Nat) = V.int 7) := fun q => c (by have := V.int.inj q; omega)
            simp [this]
        have hl' : z.cps.toList.length = 7 := by rw [Array.length_toList]; exact h7
        obtain ⟨a0, a1, a2, a3, a4, a5, a6, e⟩ : ∃ a0 a1 a2 a3 a4 a5 a6 : Nat, z.cps.toList = [a0, a1, a2, a3, a4, a5, a6] := by
          match z.cps.toList, hl' with
          | [a0, a1, a2, a3, a4, a5, a6], _ => exact ⟨a0, a1, a2, a3, a4, a5, a6, rfl⟩
        have hfz : figs z = [isF a0, isF a2, isF a3, isF a5, isF a6].all id := by
          unfold figs
          rw [e, h7]
          rfl
        rw [hfz] at q
        refine ⟨pa, rfl, ⟨_, hpa _⟩, fun D nD => ?_⟩
        refine lc_tup (K := K) (a := pa) (xs := [.int 0, .int 2, .int 3, .int 5, .int 6]) (fun i H' => Same H H' ∧ H' D = some (.lst (([isF a0, isF a2, isF a3, isF a5, isF a6].map V.bl).take i))) ⟨same_upd nD, upd_same⟩ (fun i H' _ p => hpa _) ?_ ?_
        · rintro i x H' hx ⟨sm, hD⟩
          obtain ⟨j, c, rfl, hj, hat, hnext, hal⟩ : ∃ (j : Int) (c : Nat), x = .int j ∧ 0 ≤ j ∧ atI z.cps.toList j = some c ∧ ([isF a0, isF a2, isF a3, isF a5, isF a6].map V.bl).take (i + 1) = ([isF a0, isF a2, isF a3, isF a5, isF a6].map V.bl).take i ++ [.bl (isF c)] ∧ (([isF a0, isF a2, isF a3, isF a5, isF a6].map V.bl).take i).length < sizeLine := by
            rw [e]
            have l5 : 5 < sizeLine := by decide
            match i, hx with
            | 0, hx => exact ⟨0, a0, (Option.some.inj hx).symm, by decide, rfl, rfl, Nat.lt_of_le_of_lt (by decide : 0 ≤ 5) l5⟩
            | 1, hx => exact ⟨2, a2, (Option.some.inj hx).symm, by decide, rfl, rfl, Nat.lt_of_le_of_lt (by decide : 1 ≤ 5) l5⟩
            | 2, hx => exact ⟨3, a3, (Option.some.inj hx).symm, by decide, rfl, rfl, Nat.lt_of_le_of_lt (by decide : 2 ≤ 5) l5⟩
            | 3, hx => exact ⟨5, a5, (Option.some.inj hx).symm, by decide, rfl, rfl, Nat.lt_of_le_of_lt (by decide : 3 ≤ 5) l5⟩
            | 4, hx => exact ⟨6, a6, (Option.some.inj hx).symm, by decide, rfl, rfl, Nat.lt_of_le_of_lt (by decide : 4 ≤ 5) l5⟩
          refine ⟨rfl, yesI ?_⟩
          refine ⟨_, rfl, _, rfl, z, j, c, rfl, rfl, Nat.le_trans hz hs, hat, c, _, rfl, rfl, _, hD, hal, fun b o eb => ?_, ?_⟩
          · rw [upd_ne (ne_of_none eb nD)]
            exact sm b o eb
          · rw [upd_same, hnext]
            rfl
        · rintro H' ⟨sm, hD⟩
          exact ⟨D, [isF a0, isF a2, isF a3, isF a5, isF a6], rfl, SqL.of hD, q _ sm⟩
    · refine ⟨_, rfl, _, _, _, _, false, rfl, .ty "str", ty, kit_ty kb, false, rfl, ?_⟩
      refine iteT ?_
      exact q
end
end My

set_option Elab.async false
set_option linter.all false
set_option maxRecDepth 100000
set_option maxHeartbeats 4000000
namespace My
open PySem PySem.Spec PyProof.Rows L2
/-- what the written part says of BadTime, at C -/
structure BT (K : PySem.W.Frag) (mg : Str → Option Value) (C : Addr) : Prop where
  g : mg "BadTime" = some (.ref C)
  x : PySem.W.excIn K C [.type "ValueError", .type "Exception", .type "BaseException", .type "object"] "ValueError.__new__" = true
  k : PySem.W.keepIn K (.ref C) = true
  b : PySem.W.subIn K (.ref C) (.type "BaseException") = some true
  t : PySem.W.typeIn K (.ref C) = some (.type "type")
theorem cut24 (a0 a1 a2 a3 a4 a5 a6 : Nat) : cutS (⟨#[a0, a1, a2, a3, a4, a5, a6]⟩ : Str) (some 2) (some 4) = ⟨#[a2, a3]⟩ := by
  unfold cutS
  rfl
theorem cut57 (a0 a1 a2 a3 a4 a5 a6 : Nat) : cutS (⟨#[a0, a1, a2, a3, a4, a5, a6]⟩ : Str) (some 5) (some 7) = ⟨#[a5, a6]⟩ := by
  unfold cutS
  rfl
theorem int1 {a : Nat} (h : 48 ≤ a ∧ a ≤ 57) : PySem.intText? (⟨#[a]⟩ : Str) = some ((a - 48 : Nat) : Int) := by
  rw [PySem.intText_digits (x := ⟨#[a]⟩) (fun c hc => by
    have e : c = a := by simpa using hc
    rw [e]; exact h) (by intro z; cases z) (by show 1 ≤ 4300; decide)]
  show some (((0 * 10 + (a - 48) : Nat) : Nat) : Int) = _
  rw [Nat.zero_mul, Nat.zero_add]
theorem int2 {a b : Nat} (ha : 48 ≤ a ∧ a ≤ 57) (hb : 48 ≤ b ∧ b ≤ 57) : PySem.intText? (⟨#[a, b]⟩ : Str) = some (((a - 48) * 10 + (b - 48) : Nat) : Int) := by
  rw [PySem.intText_digits (x := ⟨#[a, b]⟩) (fun c hc => by
    have e : c = a ∨ c = b := by simpa using hc
    rcases e with e | e
    · rw [e]; exact ha
    · rw [e]; exact hb) (by intro z; cases z) (by show 2 ≤ 4300; decide)]
  show some ((((0 * 10 + (a - 48)) * 10 + (b - 48) : Nat) : Nat) : Int) = _
  rw [Nat.zero_mul, Nat.zero_add]
section
variable {P : Program} {w : World} {K : PySem.W.Frag} {mg : Str → Option Value} {base : Heap}
abbrev s_read_time : Stmt := topS 12
abbrev N_read_time : List Str := ["text", "minute"]
theorem sc_read_time : FnScope N_read_time ["text"] (defScope s_read_time) := ⟨rfl, rfl, rfl, by decide +kernel, rfl, by decide +kernel, by decide +kernel⟩
def sp_read_time (K : PySem.W.Frag) (C : Addr) : Sp := fun vs H Q E => ∃ x : V, vs = [x] ∧
  ((∃ z : Str, x = .str z ∧ z.length ≤ 100000 ∧ (∀ n : Nat, n ≤ 9999 → z = tx n → ∀ H', Same H H' → Q (.int n) H') ∧ ((∀ n : Nat, n ≤ 9999 → z ≠ tx n) → ∀ H', Same H H' → E (.ref C) none H')) ∨
   (NoStr K H x ∧ E (.ref C) none H))
theorem ok_read_time {f C : Addr} {fd : FuncData} (F : Fun K "read_time" "read_time" s_read_time f fd) (T : Txt mg) (B : BT K mg C) (C_has_figures : Cal P w K mg base 1 "has_figures" (sp_has_figures K)) (C_shown : Cal P w K mg base 2 "shown" sp_shown) :
    FnOk P w K mg base (L2.CX P w) 3 f fd ["text"] (sp_read_time K C) := by
  refine F.okX sc_read_time (fun vs H Q E h => ?_) (fun cdv A outer s H vs Q E hr h => ?_)
  · obtain ⟨m, rfl, _⟩ := h
    rfl
  · obtain ⟨x, rfl, h⟩ := h
    refine ⟨_, (pss_cons (ps_if (pt_not (pt_val (pe_cal C_has_figures hr (by decide) (by rfl) (pa_cons (pv 0) pa_nil)))) (pss_one (ps_raise rfl (takes_of rfl rfl rfl rfl) (pmk_own PySem.F.excBase_ValueError B.x B.g B.k (raises_own B.b B.t) rfl))) pss_nil)
      (pss_cons (ps_set (i := 1) sc_read_time.nd rfl (.inl rfl) (pe_op op_add (pe_op op_add (pe_op op_mul (pe_callTy call_int_str (by rfl) T.z_int (by decide +kernel) (pa_cons (pe_ix ix_str (pv 0) pe_int (fun _ _ => rfl)) pa_nil)) (pe_glob' T.g_MINUTES_OF_DAY (by rfl))) (pe_op op_mul (pe_callTy call_int_str (by rfl) T.z_int (by decide +kernel) (pa_cons (pe_slice sl_str (pv 0) (po_some pe_int) (po_some pe_int)) pa_nil)) (pe_glob' T.g_MINUTES_OF_HOUR (by rfl)))) (pe_callTy call_int_str (by rfl) T.z_int (by decide +kernel) (pa_cons (pe_slice sl_str (pv 0) (po_some pe_int) (po_some pe_int)) pa_nil))))
      (pss_cons (ps_if (PW.pt (pw_or (pt_cmpR op_gt (pv 1) (pe_glob' T.g_LAST_MINUTE (by rfl)) (nomark _)) (pw_or1 (pt_cmpR op_ne (pe_cal C_shown hr (by decide) (by rfl) (pa_cons (pv 1) pa_nil)) (pv 0) (nomark _))))) (pss_one (ps_raise rfl (takes_of rfl rfl rfl rfl) (pmk_own PySem.F.excBase_ValueError B.x B.g B.k (raises_own B.b B.t) rfl))) pss_nil)
      (pss_one (ps_ret (pv 1)))))), ?_⟩
    rcases h with ⟨z, rfl, hz, q, hE⟩ | ⟨ns, hE⟩
    · refine ⟨_, rfl, _, rfl, .inl ⟨z, rfl, hz, fun H1 sm => ?_⟩⟩
      refine ⟨_, rfl, ?_⟩
      cases hf : figs z with
      | false =>
        refine iteT ?_
        exact hE (fun n hn e => by
          have e2 := figs_sg (z := z) (by rw [e]; exact tx_tl hn) (by omega) (by omega) (by omega)
          rw [hf] at e2
          cases e2) H1 sm
      | true =>
        refine iteF ?_
        obtain ⟨a0, a1, a2, a3, a4, a5, a6, rfl, b0, b2, b3, b5, b6⟩ := figs_true hf
        have hs7 : (7 : Nat) ≤ sizeLine := by decide
        have hM0 : val a0 a2 a3 a5 a6 < 100000 := by unfold val; omega
        have eM : (((a0 - 48 : Nat) : Int) * 1440 + ((((a2 - 48) * 10 + (a3 - 48) : Nat) : Int)) * 60 + ((((a5 - 48) * 10 + (a6 - 48) : Nat) : Int))) = ((val a0 a2 a3 a5 a6 : Nat) : Int) := by
          unfold val
          omega
        refine ⟨_, rfl, _, 0, a0, rfl, rfl, hs7, rfl, _, _, rfl, int1 b0, (by show 1 ≤ 640; decide), _, _, rfl, rfl, .inl ⟨by omega, by omega⟩, ?_⟩
        refine ⟨_, rfl, 2, rfl, 4, rfl, _, rfl, hs7, ?_⟩
        rw [cut24]
        refine ⟨_, _, rfl, int2 b2 b3, (by show 2 ≤ 640; decide), _, _, rfl, rfl, .inl ⟨by omega, by omega⟩, _, _, rfl, rfl, ?_⟩
        refine ⟨_, rfl, 5, rfl, 7, rfl, _, rfl, hs7, ?_⟩
        rw [cut57]
        refine ⟨_, _, rfl, int2 b5 b6, (by show 2 ≤ 640; decide), _, _, rfl, rfl, ?_⟩
        dsimp only
        rw [eM]
        generalize hv : val a0 a2 a3 a5 a6 = v at hM0
        have back : ∀ n : Nat, n ≤ 9999 → (⟨#[a0, a1, a2, a3, a4, a5, a6]⟩ : Str) = tx n → v = n := fun n hn e => by
          rw [← hv]
          exact val_tx hn e
        refine ⟨_, rfl, _, _, rfl, rfl, _, rfl, ite2 (fun e => ?_) (fun e => ?_)⟩
        · have ev : (9999 : Int) < (v : Int) := of_decide_eq_true e
          exact hE (fun n hn z => by have := back n hn z; omega) H1 sm
        · have ev : ¬ (9999 : Int) < (v : Int) := fun c => e (decide_eq_true c)
          refine ⟨_, rfl, (v : Int), rfl, by omega, by omega, _, rfl, rfl, _, rfl, ite2 (fun e2 => ?_) (fun e2 => ?_)⟩
          · have ne : ¬ (⟨#[a0, a1, a2, a3, a4, a5, a6]⟩ : Str) = tx (v : Int) := fun c => by
              rw [c] at e2
              simp at e2
            exact hE (fun n hn z => by
              have := back n hn z
              subst this
              exact ne z) H1 sm
          · have eq : (⟨#[a0, a1, a2, a3, a4, a5, a6]⟩ : Str) = tx (v : Int) := by
              by_cases c : V.str (tx (v : Int)) = V.str ⟨#[a0, a1, a2, a3, a4, a5, a6]⟩
              · exact (V.str.inj c).symm
              · exact absurd (by simp [c]) e2
            exact ⟨_, rfl, q v (by omega) eq H1 sm⟩
    · refine ⟨_, rfl, _, rfl, .inr ⟨ns, ?_⟩⟩
      exact ⟨false, rfl, iteT hE⟩
end
end My

set_option Elab.async false
set_option linter.all false
set_option maxRecDepth 100000
set_option maxHeartbeats 4000000
namespace My
open PySem PySem.Spec PyProof.Rows L2 TL
/-! ### replace and split over the signs -/
theorem repl1 : ∀ l : List Nat, PySem.StrLaws.replL [58] [32] l = l.map fun c => if c = 58 then 32 else c
  | [] => PySem.StrLaws.replL_nil
  | c :: r => by
    by_cases h : c = 58
    · rw [PySem.StrLaws.replL_hit (by intro z; cases z) (by rw [h]; rfl), List.map_cons, if_pos h]
      show [32] ++ PySem.StrLaws.replL [58] [32] r = _
      rw [repl1 r]
      rfl
    · rw [PySem.StrLaws.replL_miss (by
        show ¬ [c] = [58]
        intro e
        exact h (List.cons.inj e).1), List.map_cons, if_neg h, repl1 r]
theorem spl1 (acc : List Nat) (c : Nat) (r : List Nat) : spl [32] 0 acc (c :: r) = if c = 32 then acc :: spl [32] 0 [] r else spl [32] 0 (acc ++ [c]) r := by
  show (if pre [32] (c :: r) = true then acc :: spl [32] 0 [] r else spl [32] 0 (acc ++ [c]) r) = _
  have e : pre [32] (c :: r) = decide (c = 32) := by
    show (([c] : List Nat) == [32]) = _
    by_cases h : c = 32
    · rw [h]; rfl
    · rw [decide_eq_false h]
      simp [h]
  rw [e]
  by_cases h : c = 32
  · rw [decide_eq_true h, if_pos rfl, if_pos h]
  · rw [decide_eq_false h, if_neg Bool.false_ne_true, if_neg h]
theorem spl_mem : ∀ (l acc : List Nat) (w : List Nat), w ∈ spl [32] 0 acc l → ∀ c ∈ w, c ∈ acc ∨ c ∈ l
  | [], acc, w, h, c, hc => by
    have e : w = acc := by
      rw [spl_nil] at h
      simpa using h
    rw [e] at hc
    exact .inl hc
  | d :: r, acc, w, h, c, hc => by
    rw [spl1] at h
    by_cases hd : d = 32
    · rw [if_pos hd] at h
      rcases List.mem_cons.mp h with e | h
      · rw [e] at hc
        exact .inl hc
      · rcases spl_mem r [] w h c hc with q | q
        · cases q
        · exact .inr (List.mem_cons_of_mem _ q)
    · rw [if_neg hd] at h
      rcases spl_mem r _ w h c hc with q | q
      · rcases List.mem_append.mp q with q | q
        · exact .inl q
        · have : c = d := by simpa using q
          rw [this]
          exact .inr (List.mem_cons_self ..)
      · exact .inr (List.mem_cons_of_mem _ q)
def wds (z : Str) : List Str := Txt.split (Txt.replace z (Str.ofString ":") (Str.ofString " ")) (Str.ofString " ")
theorem wds_tl (z : Str) : (wds z).map tl = spl [32] 0 [] ((tl z).map fun c => if c = 58 then 32 else c) := by
  have e1 : tl (Str.ofString " ") = [32] := by decide +kernel
  have e2 : (Str.ofString ":").cps.toList = [58] := by decide +kernel
  have e3 : (Str.ofString " ").cps.toList = [32] := by decide +kernel
  unfold wds
  rw [split_spl _ _ (by rw [e1]; intro z; cases z) (kind_ok (by decide +kernel)), e1]
  show spl [32] 0 [] (Txt.replace z (Str.ofString ":") (Str.ofString " ")).cps.toList = _
  rw [PySem.StrLaws.replace_list (by decide), e2, e3, repl1]
theorem wds_ascii {z : Str} (h : ∀ c ∈ tl z, c < 128) : ∀ w ∈ wds z, ∀ c ∈ tl w, c < 128 := fun w hw c hc => by
  have hm : tl w ∈ (wds z).map tl := List.mem_map_of_mem hw
  rw [wds_tl] at hm
  rcases spl_mem _ _ _ hm c hc with q | q
  · cases q
  · obtain ⟨d, hd, e⟩ := List.mem_map.mp q
    by_cases h58 : d = 58
    · rw [if_pos h58] at e; omega
    · rw [if_neg h58] at e
      rw [← e]
      exact h d hd
def three (d h r : Nat) : List (List Nat) := [[48 + d], [48 + h / 10, 48 + h % 10], [48 + r / 10, 48 + r % 10]]
theorem wds_sg {z : Str} {d h r : Nat} (e : tl z = sg d h r) (hd : d < 10) (hh : h < 100) (hr : r < 100) : (wds z).map tl = three d h r := by
  rw [wds_tl, e]
  unfold sg
  simp only [List.map_cons, List.map_nil]
  rw [if_neg (show ¬ 48 + d = 58 by omega), if_neg (show ¬ (32 : Nat) = 58 by omega), if_neg (show ¬ 48 + h / 10 = 58 by omega), if_neg (show ¬ 48 + h % 10 = 58 by omega), if_pos trivial, if_neg (show ¬ 48 + r / 10 = 58 by omega), if_neg (show ¬ 48 + r % 10 = 58 by omega)]
  rw [spl1, if_neg (show ¬ 48 + d = 32 by omega), spl1, if_pos rfl, spl1, if_neg (show ¬ 48 + h / 10 = 32 by omega), spl1, if_neg (show ¬ 48 + h % 10 = 32 by omega), spl1, if_pos rfl, spl1, if_neg (show ¬ 48 + r / 10 = 32 by omega), spl1, if_neg (show ¬ 48 + r % 10 = 32 by omega), spl_nil]
  rfl
/-! ### a word that is a number -/
def good (w : Str) : Bool := decide (1 ≤ (w.length : Int)) && (decide ((w.length : Int) < 5) && Txt.isdigit w)
theorem digit_ascii {c : Nat} (h : c < 128) : Unicode.isDigit c = true → 48 ≤ c ∧ c ≤ 57 := by
  revert c
  decide +kernel
theorem digit_is {c : Nat} (h : 48 ≤ c ∧ c ≤ 57) : Unicode.isDigit c = true := by
  have q : ∀ c : Nat, c < 128 → 48 ≤ c ∧ c ≤ 57 → Unicode.isDigit c = true := by decide +kernel
  exact q c (by omega) h
theorem good_digits {w : Str} (h : good w = true) (ha : ∀ c ∈ tl w, c < 128) : PySem.NumText.AllDigits (tl w) ∧ tl w ≠ [] ∧ w.length ≤ 4 := by
  unfold good at h
  rw [Bool.and_eq_true, Bool.and_eq_true, decide_eq_true_eq, decide_eq_true_eq] at h
  obtain ⟨h1, h2, h3⟩ := h
  unfold Txt.isdigit at h3
  rw [Bool.and_eq_true] at h3
  have hl := len_tl w
  refine ⟨fun c hc => ?_, fun e => ?_, by omega⟩
  · have q := (Array.all_eq_true_iff_forall_mem.mp h3.2) c (Array.mem_toList_iff.mp hc)
    exact digit_ascii (ha c hc) q
  · rw [e] at hl
    have : w.length = 0 := hl
    omega
theorem good_of {w : Str} (h : PySem.NumText.AllDigits (tl w)) (h1 : 1 ≤ (tl w).length) (h2 : (tl w).length < 5) : good w = true := by
  have hl := len_tl w
  have e : Txt.isdigit w = true := by
    unfold Txt.isdigit
    rw [Bool.and_eq_true]
    refine ⟨decide_eq_true (by omega), Array.all_eq_true_iff_forall_mem.mpr fun c hc => digit_is (h c (Array.mem_toList_iff.mpr hc))⟩
  unfold good
  rw [e, decide_eq_true (show (1 : Int) ≤ (w.length : Int) by omega), decide_eq_true (show (w.length : Int) < 5 by omega)]
  rfl
theorem all_sg {z : Str} {d h r : Nat} (e : tl z = sg d h r) (hd : d < 10) (hh : h < 100) (hr : r < 100) : ∃ a b c : Str, wds z = [a, b, c] ∧ good a = true ∧ good b = true ∧ good c = true ∧
    PySem.NumText.digitsVal (tl a) = d ∧ PySem.NumText.digitsVal (tl b) = h ∧ PySem.NumText.digitsVal (tl c) = r := by
  have q := wds_sg e hd hh hr
  have hl : (wds z).length = 3 := by
    rw [← List.length_map (f := tl), q]
    rfl
  obtain ⟨a, b, c, e3⟩ : ∃ a b c : Str, wds z = [a, b, c] := by
    match wds z, hl with
    | [a, b, c], _ => exact ⟨a, b, c, rfl⟩
  rw [e3] at q
  simp only [List.map_cons, List.map_nil, three, List.cons.injEq, and_true] at q
  obtain ⟨qa, qb, qc⟩ := q
  have d1 : ∀ x : Nat, x < 10 → PySem.NumText.AllDigits [48 + x] := fun x hx c hc => by
    have : c = 48 + x := by simpa using hc
    omega
  have d2 : ∀ x : Nat, x < 100 → PySem.NumText.AllDigits [48 + x / 10, 48 + x % 10] := fun x hx c hc => by
    have : c = 48 + x / 10 ∨ c = 48 + x % 10 := by simpa using hc
    omega
  have v2 : ∀ x : Nat, PySem.NumText.digitsVal [48 + x / 10, 48 + x % 10] = x := fun x => by
    show (0 * 10 + (48 + x / 10 - 48)) * 10 + (48 + x % 10 - 48) = x
    omega
  refine ⟨a, b, c, e3, good_of (by rw [qa]; exact d1 d hd) (by rw [qa]; exact (by decide : 1 ≤ 1)) (by rw [qa]; exact (by decide : 1 < 5)), good_of (by rw [qb]; exact d2 h hh) (by rw [qb]; exact (by decide : 1 ≤ 2)) (by rw [qb]; exact (by decide : 2 < 5)),
    good_of (by rw [qc]; exact d2 r hr) (by rw [qc]; exact (by decide : 1 ≤ 2)) (by rw [qc]; exact (by decide : 2 < 5)), ?_, by rw [qb]; exact v2 h, by rw [qc]; exact v2 r⟩
  rw [qa]
  show 0 * 10 + (48 + d - 48) = d
  omega
end My

set_option Elab.async false
set_option linter.all false
set_option maxRecDepth 100000
set_option maxHeartbeats 4000000
namespace My
open PySem PySem.Spec PyProof.Rows L2 TL
theorem dv4 {l : List Nat} (h : PySem.NumText.AllDigits l) (hl : l.length ≤ 4) : PySem.NumText.digitsVal l < 10000 := by
  have b : ∀ c ∈ l, c - 48 ≤ 9 := fun c hc => by have := h c hc; omega
  match l, hl, b with
  | [], _, _ => decide
  | [a], _, b =>
    have := b a (by simp)
    show 0 * 10 + (a - 48) < 10000
    omega
  | [a, c], _, b =>
    have := b a (by simp)
    have := b c (by simp)
    show (0 * 10 + (a - 48)) * 10 + (c - 48) < 10000
    omega
  | [a, c, d], _, b =>
    have := b a (by simp)
    have := b c (by simp)
    have := b d (by simp)
    show ((0 * 10 + (a - 48)) * 10 + (c - 48)) * 10 + (d - 48) < 10000
    omega
  | [a, c, d, e], _, b =>
    have := b a (by simp)
    have := b c (by simp)
    have := b d (by simp)
    have := b e (by simp)
    show (((0 * 10 + (a - 48)) * 10 + (c - 48)) * 10 + (d - 48)) * 10 + (e - 48) < 10000
    omega
theorem good_int {w : Str} (h : good w = true) (ha : ∀ c ∈ tl w, c < 128) : ∃ n : Nat, n < 10000 ∧ n = PySem.NumText.digitsVal (tl w) ∧ PySem.intText? w = some (n : Int) ∧ w.length ≤ 640 := by
  obtain ⟨h1, h2, h3⟩ := good_digits h ha
  exact ⟨_, dv4 h1 (by rw [← len_tl]; exact h3), rfl, PySem.intText_digits h1 h2 (by omega), by omega⟩
theorem repl_len (z : Str) : (Txt.replace z (Str.ofString ":") (Str.ofString " ")).length = z.length := by
  have e2 : (Str.ofString ":").cps.toList = [58] := by decide +kernel
  have e3 : (Str.ofString " ").cps.toList = [32] := by decide +kernel
  have e := PySem.StrLaws.replace_list (x := z) (y := Str.ofString ":") (z := Str.ofString " ") (by decide)
  rw [e2, e3, repl1] at e
  rw [len_tl, len_tl z]
  show (Txt.replace z (Str.ofString ":") (Str.ofString " ")).cps.toList.length = _
  rw [e, List.length_map]
theorem wds_len {z : Str} (h : z.length ≤ 100000) : (wds z).length ≤ 100002 := by
  have e := PyProof.Rows.split_le (Txt.replace z (Str.ofString ":") (Str.ofString " ")) (Str.ofString " ")
  rw [repl_len] at e
  unfold wds
  omega
theorem spl_len : ∀ (l acc w : List Nat), w ∈ spl [32] 0 acc l → w.length ≤ acc.length + l.length
  | [], acc, w, h => by
    rw [spl_nil] at h
    have e : w = acc := by simpa using h
    rw [e]
    exact Nat.le_add_right _ _
  | d :: r, acc, w, h => by
    rw [spl1] at h
    by_cases hd : d = 32
    · rw [if_pos hd] at h
      rcases List.mem_cons.mp h with e | h
      · rw [e]
        exact Nat.le_add_right _ _
      · have := spl_len r [] w h
        simp only [List.length_nil, List.length_cons] at *
        omega
    · rw [if_neg hd] at h
      have := spl_len r _ w h
      simp only [List.length_append, List.length_cons, List.length_nil] at *
      omega
theorem word_len {z v : Str} (h : v ∈ wds z) : v.length ≤ z.length := by
  have hm : tl v ∈ (wds z).map tl := List.mem_map_of_mem h
  rw [wds_tl] at hm
  have := spl_len _ _ _ hm
  rw [List.length_map, List.length_nil, Nat.zero_add, ← len_tl, ← len_tl] at this
  exact this
section
variable {P : Program} {w : World} {K : PySem.W.Frag} {mg : Str → Option Value} {base : Heap}
abbrev s_law_read : Stmt := topS 18
abbrev N_law_read : List Str := ["_law_text_here", "_law_words", "_law_minute", "_law_word"]
theorem sc_law_read : FnScope N_law_read ["_law_text_here"] (defScope s_law_read) := ⟨rfl, rfl, rfl, by decide +kernel, rfl, by decide +kernel, by decide +kernel⟩
def sp_law_read : Sp := fun vs H Q _ => ∃ z : Str, vs = [.str z] ∧ z.length ≤ 100000 ∧ (∀ c ∈ tl z, c < 128) ∧ (∀ n : Nat, n ≤ 9999 → z = tx n → ∀ H', Same H H' → Q (.int n) H') ∧ ((∀ n : Nat, n ≤ 9999 → z ≠ tx n) → ∀ H', Same H H' → Q .non H')
theorem ok_law_read {f : Addr} {fd : FuncData} (F : Fun K "_law_read" "_law_read" s_law_read f fd) (T : Txt mg) (C_law_text : Cal P w K mg base 1 "_law_text" sp_law_text) :
    FnOk P w K mg base CX0 2 f fd ["_law_text_here"] sp_law_read := by
  obtain ⟨oc, od, kV, doc, pm, an, cdv, ct, osl, rfl, lk, hcd⟩ := F.ex
  refine fn_ofT lk hcd sc_law_read (by decide +kernel) (by decide) (fun vs H Q E h => ?_) (fun A outer s H vs Q E hr h => ?_)
  · obtain ⟨z, rfl, _⟩ := h
    rfl
  · obtain ⟨z, rfl, hz, ha, q, qn⟩ := h
    refine ⟨_, psst_cons (pst_set (i := 1) sc_law_read.nd rfl (.inl rfl) (pet_m1 PySem.F.slot_str_split PySem.F.type_str_split mt_split (CwR.pet_replC (pv 0)) pe_str))
      (PSsT.of (PSs.nox
      (pss_cons (ps_if (PW.pt (pw_or (pt_cmpR op_ne (pe_callB call_len_seq (by rfl) T.z_len (by decide +kernel) (pa_cons (pv 1) pa_nil)) pe_int (nomark _)) (pw_or1 (pt_not (pt_val (pe_callB (cr_all (by rfl)) (by rfl) T.z_all (by decide +kernel) (pa_cons (pe_lc (own := [("_law_word", 3)]) (by rfl) sc_law_read.nd (pi_list (pv 1)) (blkOk_by (own := [("_law_word", 3)]) (N := N_law_read) (sc := defScope s_law_read) (by decide +kernel)) (fun _ _ _ _ _ => (pg_name (i := 3) sc_law_read.nd rfl (.inl rfl))) (fun _ _ _ _ _ => pts_nil) (fun _ _ _ _ _ => (pe_and (pe_chain op_le op_lt pe_int (pe_callB call_len_str (by rfl) T.z_len (by decide +kernel) (pa_cons (pv 3) pa_nil)) pe_int) (pe_one (pe_m0 PySem.F.slot_str_isdigit PySem.F.type_str_isdigit mt_isdigit (pv 3)))))) pa_nil))))))) (pss_one (ps_ret pe_non)) pss_nil)
      (pss_cons (ps_set (i := 2) sc_law_read.nd rfl (.inl rfl) (pe_op op_add (pe_op op_add (pe_op op_mul (pe_callTy call_int_str (by rfl) T.z_int (by decide +kernel) (pa_cons (pe_ix ix_list (pv 1) pe_int (fun _ _ => rfl)) pa_nil)) pe_int) (pe_op op_mul (pe_callTy call_int_str (by rfl) T.z_int (by decide +kernel) (pa_cons (pe_ix ix_list (pv 1) pe_int (fun _ _ => rfl)) pa_nil)) pe_int)) (pe_callTy call_int_str (by rfl) T.z_int (by decide +kernel) (pa_cons (pe_ix ix_list (pv 1) pe_int (fun _ _ => rfl)) pa_nil))))
      (pss_one (ps_ret (pe_ifExp (PW.pt (pw_and (pt_cmpR op_le (pv 2) pe_int (nomark _)) (pw_and1 (pt_cmpR op_eq (pe_cal C_law_text hr (by decide) (by rfl) (pa_cons (pv 2) pa_nil)) (pv 0) (nomark _))))) (pv 2) pe_non))))))), ?_⟩
    have hsz : 1000000 ≤ sizeLine := by decide
    refine ⟨_, rfl, z, rfl, ?_, ⟨_, rfl⟩, _, _, rfl, rfl, by decide, ?_, fun wp nwp => ?_⟩
    · have : (Str.ofString " ").length = 1 := by decide
      rw [this]
      omega
    · rw [repl_len]
      exact Nat.le_trans (by omega) hsz
    have hW : SqL K (upd H wp (.lst ((wds z).map V.str))) wp ((wds z).map V.str) := SqL.of upd_same
    have s1 : Same H (upd H wp (.lst ((wds z).map V.str))) := same_upd nwp
    have facts : ∀ n : Nat, n ≤ 9999 → z = tx n → ∃ a b c : Str, wds z = [a, b, c] ∧ good a = true ∧ good b = true ∧ good c = true ∧ PySem.NumText.digitsVal (tl a) * 1440 + PySem.NumText.digitsVal (tl b) * 60 + PySem.NumText.digitsVal (tl c) = n := fun n hn e => by
      obtain ⟨a, b, c, e3, ga, gb, gc, va, vb, vc⟩ := all_sg (z := z) (by rw [e]; exact tx_tl hn) (by omega) (by omega) (by omega)
      exact ⟨a, b, c, e3, ga, gb, gc, by rw [va, vb, vc]; omega⟩
    refine ⟨_, rfl, wp, _, rfl, .inl hW, rfl, _, rfl, ite2 (fun e => ?_) (fun e => ?_)⟩
    · refine qn (fun n hn ez => ?_) _ s1
      obtain ⟨a, b, c, e3, _⟩ := facts n hn ez
      rw [e3] at e
      exact absurd e (by simp)
    have h3 : (wds z).length = 3 := by
      by_cases c : (wds z).length = 3
      · exact c
      · exfalso
        apply e
        have : ¬ (V.int (((wds z).map V.str).length : Nat) = V.int 3) := fun q => c (by have := V.int.inj q; rw [List.length_map] at this; omega)
        simp only [this, decide_false, Bool.not_false]
    refine ⟨_, rfl, wp, rfl, ⟨_, hW⟩, fun D nD => ?_⟩
    have nDw : wp ≠ D := fun e => by
      rw [← e, upd_same] at nD
      cases nD
    have hsz3 : 3 < sizeLine := by decide
    refine lc_list (K := K) (a := wp) (xs := (wds z).map V.str) (fun i H' => Same H H' ∧ H' wp = some (.lst ((wds z).map V.str)) ∧ H' D = some (.lst ((((wds z).map good).map V.bl).take i))) ⟨s1.trans (same_upd nD), by rw [upd_ne nDw, upd_same]; rfl, upd_same⟩ (fun i H' _ p => SqL.of p.2.1) ?_ ?_
    · rintro i x H' hx ⟨sm, hw, hD⟩
      obtain ⟨v, hv, rfl⟩ : ∃ v : Str, (wds z)[i]? = some v ∧ x = .str v := by
        rw [List.getElem?_map] at hx
        cases e : (wds z)[i]? with
        | none => rw [e] at hx; cases hx
        | some v => rw [e] at hx; exact ⟨v, rfl, (Option.some.inj hx).symm⟩
      have hnext : (((wds z).map good).map V.bl).take (i + 1) = (((wds z).map good).map V.bl).take i ++ [.bl (good v)] := by
        rw [List.take_add_one, List.getElem?_map, List.getElem?_map, hv]
        rfl
      have hal : ((((wds z).map good).map V.bl).take i).length < sizeLine := by
        rw [List.length_take, List.length_map, List.length_map, h3]
        exact Nat.lt_of_le_of_lt (Nat.min_le_right _ _) hsz3
      have nx : Same H (upd H' D (.lst ((((wds z).map good).map V.bl).take i ++ [.bl (good v)]))) ∧ (upd H' D (.lst ((((wds z).map good).map V.bl).take i ++ [.bl (good v)]))) wp = some (.lst ((wds z).map V.str)) ∧ (upd H' D (.lst ((((wds z).map good).map V.bl).take i ++ [.bl (good v)]))) D = some (.lst ((((wds z).map good).map V.bl).take (i + 1))) := by
        refine ⟨fun b o eb => ?_, ?_, ?_⟩
        · rw [upd_ne (ne_of_none eb (s1.free nD))]
          exact sm b o eb
        · rw [upd_ne nDw]
          exact hw
        · rw [upd_same, hnext]
      have hvl : v.length ≤ sizeLine := Nat.le_trans (word_len (List.mem_of_getElem? hv)) (Nat.le_trans hz (Nat.le_trans (by decide) hsz))
      refine ⟨rfl, yesI ?_⟩
      refine ⟨_, rfl, v, rfl, hvl, _, _, rfl, rfl, _, rfl, ite2 (fun e1 => ?_) (fun e1 => ?_)⟩
      · refine ⟨_, _, rfl, rfl, _, rfl, ite2 (fun e2 => ?_) (fun e2 => ?_)⟩
        · have eg : good v = Txt.isdigit v := by
            unfold good
            rw [e1, e2]
            rfl
          rw [eg] at nx
          exact ⟨_, rfl, ⟨_, rfl⟩, v, rfl, rfl, trivial, _, hD, hal, nx⟩
        · have eg : good v = false := by
            unfold good
            rw [Bool.eq_false_iff.mpr e2, Bool.false_and, Bool.and_false]
          rw [eg] at nx
          exact ⟨_, hD, hal, nx⟩
      · have eg : good v = false := by
          unfold good
          rw [Bool.eq_false_iff.mpr e1, Bool.false_and]
        rw [eg] at nx
        exact ⟨_, rfl, iteF ⟨_, hD, hal, nx⟩⟩
    · rintro H' ⟨sm, hw, hD⟩
      have eD : (((wds z).map good).map V.bl).take ((wds z).map V.str).length = ((wds z).map good).map V.bl := List.take_of_length_le (by rw [List.length_map, List.length_map, List.length_map]; exact Nat.le_refl _)
      rw [eD] at hD
      refine ⟨D, (wds z).map good, rfl, SqL.of hD, _, rfl, ite2 (fun e1 => ?_) (fun e1 => ?_)⟩
      · refine qn (fun n hn ez => ?_) _ sm
        obtain ⟨a, b, c, e3, ga, gb, gc, _⟩ := facts n hn ez
        rw [e3] at e1
        simp [ga, gb, gc] at e1
      obtain ⟨a, b, c, e3⟩ : ∃ a b c : Str, wds z = [a, b, c] := by
        match wds z, h3 with
        | [a, b, c], _ => exact ⟨a, b, c, rfl⟩
      have hall : ((wds z).map good).all id = true := by
        cases c : ((wds z).map good).all id with
        | true => rfl
        | false => rw [c] at e1; exact absurd rfl e1
      rw [e3] at hall
      simp only [List.map_cons, List.map_nil, List.all_cons, List.all_nil, id, Bool.and_true, Bool.and_eq_true] at hall
      obtain ⟨ga, gb, gc⟩ := hall
      have hasc := wds_ascii ha
      rw [e3] at hasc
      obtain ⟨n0, l0, v0, i0, j0⟩ := good_int ga (hasc a (by simp))
      obtain ⟨n1, l1, v1, i1, j1⟩ := good_int gb (hasc b (by simp))
      obtain ⟨n2, l2, v2, i2, j2⟩ := good_int gc (hasc c (by simp))
      have hL : SqL K H' wp ((wds z).map V.str) := SqL.of hw
      rw [e3] at hL
      refine ⟨_, rfl, wp, _, 0, _, rfl, rfl, hL, atI_nat (j := 0) rfl, _, _, rfl, i0, j0, _, _, rfl, rfl, .inl ⟨by omega, by omega⟩, ?_⟩
      refine ⟨_, rfl, wp, _, 1, _, rfl, rfl, hL, atI_nat (j := 1) rfl, _, _, rfl, i1, j1, _, _, rfl, rfl, .inl ⟨by omega, by omega⟩, _, _, rfl, rfl, ?_⟩
      refine ⟨_, rfl, wp, _, 2, _, rfl, rfl, hL, atI_nat (j := 2) rfl, _, _, rfl, i2, j2, _, _, rfl, rfl, ?_⟩
      have eM : ((n0 : Int) * 1440 + (n1 : Int) * 60 + (n2 : Int)) = ((n0 * 1440 + n1 * 60 + n2 : Nat) : Int) := by omega
      dsimp only
      rw [eM]
      have back : ∀ n : Nat, n ≤ 9999 → z = tx n → n0 * 1440 + n1 * 60 + n2 = n := fun n hn ez => by
        obtain ⟨a', b', c', e3', _, _, _, hv⟩ := facts n hn ez
        rw [e3] at e3'
        cases e3'
        rw [v0, v1, v2]
        exact hv
      generalize n0 * 1440 + n1 * 60 + n2 = M at back
      refine ⟨_, rfl, _, _, rfl, rfl, _, rfl, ite2 (fun e2 => ?_) (fun e2 => ?_)⟩
      · have hM : (M : Int) ≤ 9999 := of_decide_eq_true e2
        refine ⟨_, rfl, (M : Int), rfl, by omega, by omega, fun H2 sm2 => ?_⟩
        refine ⟨_, rfl, rfl, _, rfl, ite2 (fun e4 => ?_) (fun e4 => ?_)⟩
        · have ez : z = tx (M : Int) := (V.str.inj (of_decide_eq_true e4)).symm
          exact ⟨_, rfl, q M (by omega) ez _ (sm.trans sm2)⟩
        · refine qn (fun n hn ez => ?_) _ (sm.trans sm2)
          have := back n hn ez
          subst this
          exact e4 (decide_eq_true (by rw [← ez]))
      · refine iteF (qn (fun n hn ez => ?_) _ sm)
        have := back n hn ez
        exact e2 (decide_eq_true (by show (M : Int) ≤ 9999; omega))
end
end My

set_option Elab.async false
set_option linter.all false
set_option maxRecDepth 100000
set_option maxHeartbeats 4000000
namespace My
open PySem PySem.Spec PyProof.Rows L2 TL
/-- a plain text of at most n signs -/
def Asc (n : Nat) (v : Str) : Prop := v.length ≤ n ∧ ∀ c ∈ tl v, c < 128
theorem Asc.app {a b : Nat} {x y : Str} (hx : Asc a x) (hy : Asc b y) : Asc (a + b) (x ++ y) := by
  refine ⟨by rw [str_app]; exact Nat.add_le_add hx.1 hy.1, fun c hc => ?_⟩
  rw [tl_append] at hc
  rcases List.mem_append.mp hc with q | q
  · exact hx.2 c q
  · exact hy.2 c q
theorem Asc.mono {a b : Nat} {x : Str} (h : Asc a x) (hab : a ≤ b) : Asc b x := ⟨Nat.le_trans h.1 hab, h.2⟩
theorem Asc.cut {n : Nat} {x : Str} (h : Asc n x) (lo hi : Option Int) : Asc n (cutS x lo hi) :=
  ⟨Nat.le_trans (cutS_length x lo hi) h.1, fun c hc => h.2 c (List.mem_of_mem_drop (List.mem_of_mem_take hc))⟩
theorem Asc.lit {n : Nat} {x : Str} (h : (decide (x.length ≤ n) && (tl x).all fun c => decide (c < 128)) = true) : Asc n x := by
  rw [Bool.and_eq_true, decide_eq_true_eq, List.all_eq_true] at h
  exact ⟨h.1, fun c hc => of_decide_eq_true (h.2 c hc)⟩
theorem Asc.one {x : Str} {c : Nat} {i : Int} (h : ∀ c ∈ tl x, c < 128) (hc : atI x.cps.toList i = some c) : Asc 1 (⟨#[c]⟩ : Str) := by
  refine ⟨Nat.le_refl 1, fun d hd => ?_⟩
  have e : d = c := by simpa using hd
  rw [e]
  refine h c ?_
  unfold atI at hc
  cases e2 : ixN x.cps.toList.length i with
  | none => rw [e2] at hc; cases hc
  | some j =>
    rw [e2] at hc
    exact List.mem_of_getElem? hc
theorem reps_tl (c : Nat) : ∀ (n : Nat) (acc : Array Nat), ((List.replicate n (#[c] : Array Nat)).foldl (· ++ ·) acc).toList = acc.toList ++ List.replicate n c
  | 0, acc => by
    show acc.toList = acc.toList ++ []
    rw [List.append_nil]
  | n + 1, acc => by
    rw [List.replicate_succ, List.foldl_cons, reps_tl c n, Array.toList_append, List.append_assoc, List.replicate_succ]
    rfl
theorem nines : Asc 4000 (Txt.mul (Str.ofString "9") 4000) := by
  have e : tl (Txt.mul (Str.ofString "9") 4000) = List.replicate 4000 57 := by
    have e9 : Str.ofString "9" = ⟨#[57]⟩ := by decide +kernel
    unfold Txt.mul
    rw [e9, if_neg (by decide), if_neg (by decide)]
    show ((List.replicate 4000 (#[57] : Array Nat)).foldl (· ++ ·) #[]).toList = _
    rw [reps_tl]
    rfl
  refine ⟨?_, fun c hc => ?_⟩
  · rw [len_tl, e, List.length_replicate]
    exact Nat.le_refl _
  · rw [e] at hc
    have := (List.mem_replicate.mp hc).2
    omega
section
variable {X : Cx}
/-- a text times a number -/
theorem op_mulS : OpR X (binaryOp .Mult) (fun x y H Q => ∃ (z : Str) (n : Int), x = .str z ∧ y = .int n ∧ MulOk z n ∧ Q (.str (Txt.mul z n)) H) := by
  intro pins s σ H x y v u Q I rx ry h
  obtain ⟨z, n, rfl, rfl, hok, q⟩ := h
  obtain ⟨t, rfl⟩ := rx
  obtain ⟨t', rfl⟩ := ry
  exact SB.mul hok fun t' k => ⟨.str _, H, I.tok k, ⟨t', rfl⟩, q⟩
end
theorem sp2 {n : Nat} (h : n ≤ 9999) : ∃ a b : Str, Txt.split (tx n) (Str.ofString " ") = [a, b] ∧ Asc 10 a ∧ Asc 10 b := by
  have e1 : tl (Str.ofString " ") = [32] := by decide +kernel
  have q := split_spl (tx n) (Str.ofString " ") (by rw [e1]; intro z; cases z) (kind_ok (by decide +kernel))
  rw [e1, show tl (tx (n : Int)) = _ from tx_tl h] at q
  generalize hd : n / 1440 = d at q
  generalize hh : n % 1440 / 60 = hr at q
  generalize hr' : n % 60 = r at q
  have d1 : d < 10 := by omega
  have d2 : hr < 100 := by omega
  have d3 : r < 100 := by omega
  unfold sg at q
  rw [spl1, if_neg (show ¬ 48 + d = 32 by omega), spl1, if_pos rfl, spl1, if_neg (show ¬ 48 + hr / 10 = 32 by omega), spl1, if_neg (show ¬ 48 + hr % 10 = 32 by omega), spl1, if_neg (by decide), spl1, if_neg (show ¬ 48 + r / 10 = 32 by omega), spl1, if_neg (show ¬ 48 + r % 10 = 32 by omega), spl_nil] at q
  have hl : (Txt.split (tx n) (Str.ofString " ")).length = 2 := by
    rw [← List.length_map (f := tl), q]
    rfl
  obtain ⟨a, b, e⟩ : ∃ a b : Str, Txt.split (tx n) (Str.ofString " ") = [a, b] := by
    match Txt.split (tx n) (Str.ofString " "), hl with
    | [a, b], _ => exact ⟨a, b, rfl⟩
  rw [e] at q
  simp only [List.map_cons, List.map_nil, List.nil_append, List.cons_append, List.cons.injEq, and_true] at q
  refine ⟨a, b, e, ⟨?_, ?_⟩, ⟨?_, ?_⟩⟩
  · rw [len_tl, q.1]; show 1 ≤ 10; decide
  · rw [q.1]; intro c hc
    have : c = 48 + d := by simpa using hc
    omega
  · rw [len_tl, q.2]; show 5 ≤ 10; decide
  · rw [q.2]; intro c hc
    simp only [List.mem_cons, List.not_mem_nil, or_false] at hc
    omega
theorem atI_of' {α : Type} {xs : List α} {z : Int} {v : α} (h0 : 0 ≤ z) (h : xs[z.toNat]? = some v) : atI xs z = some v := by
  have e : z = (z.toNat : Int) := (Int.toNat_of_nonneg h0).symm
  rw [e]
  exact atI_nat h
theorem pick {n : Nat} {ys : List Str} (h : ∀ y ∈ ys, Asc n y) {d : Int} (h0 : 0 ≤ d) (h1 : d < (ys.length : Int)) : ∃ v : Str, atI (ys.map V.str) d = some (.str v) ∧ Asc n v := by
  have hl : d.toNat < ys.length := by omega
  exact ⟨ys[d.toNat], atI_of h0 (by rw [List.getElem?_map, List.getElem?_eq_getElem hl]; rfl), h _ (List.getElem_mem hl)⟩
theorem tx_asc {n : Nat} (h : n ≤ 9999) : Asc 8 (tx n) := by
  refine ⟨tx_len (by omega) (by omega), fun c hc => ?_⟩
  rw [show tl (tx (n : Int)) = _ from tx_tl h] at hc
  unfold sg at hc
  simp only [List.mem_cons, List.not_mem_nil, or_false] at hc
  omega
theorem Sx.of {p : Addr} {H H' : Hp} (h : ∀ b, b ≠ p → H' b = H b) : Sx p H H' := fun b o hb e => by
  rw [h b hb]
  exact e
theorem Sx.trans {p : Addr} {H H1 H2 : Hp} (a : Sx p H H1) (b : Sx p H1 H2) : Sx p H H2 := fun c o hc e => b c o hc (a c o hc e)
theorem Sx.same {p : Addr} {H H' : Hp} (h : Same H H') : Sx p H H' := fun b o _ e => h b o e
theorem Bag.some {p : Addr} {H : Hp} (h : Bag H p) : ∃ o, H p = some o := by
  obtain ⟨g, s, e, _⟩ := h
  exact ⟨_, e⟩
theorem Bag.same {p : Addr} {H H' : Hp} (h : Bag H p) (sm : Same H H') : Bag H' p := by
  obtain ⟨g, s, e, r⟩ := h
  exact ⟨g, s, sm _ _ e, r⟩
theorem Bag.ne {p l : Addr} {H : Hp} (h : Bag H p) (hl : H l = none) : l ≠ p := fun e => by
  obtain ⟨o, q⟩ := h.some
  rw [e, q] at hl
  cases hl
section
variable {P : Program} {w : World} {K : PySem.W.Frag} {mg : Str → Option Value} {base : Heap}
abbrev s_law_near : Stmt := topS 19
abbrev N_law_near : List Str := ["_law_bag_here", "_law_text_here", "_law_signs", "_law_way", "_law_spot", "_law_sign", "_law_words"]
theorem sc_law_near : FnScope N_law_near ["_law_bag_here", "_law_text_here"] (defScope s_law_near) := ⟨rfl, rfl, rfl, by decide +kernel, rfl, by decide +kernel, by decide +kernel⟩
def sp_law_near : Sp := fun vs H Q _ => ∃ (p : Addr) (n : Nat), vs = [.ref p, .str (tx n)] ∧ Bag H p ∧ n ≤ 9999 ∧ ∀ v H', Asc 5000 v → Bag H' p → Sx p H H' → Q (.str v) H'
theorem ok_law_near {f : Addr} {fd : FuncData} (F : Fun K "_law_near" "_law_near" s_law_near f fd) (T : Txt mg) (C_law_take : Cal P w K mg base 1 "_law_take" sp_law_take) : FnOk P w K mg base CX0 2 f fd ["_law_bag_here", "_law_text_here"] sp_law_near := by
  refine F.ok sc_law_near (fun vs H Q E h => ?_) (fun cdv A outer s H vs Q E hr h => ?_)
  · obtain ⟨p, n, rfl, _⟩ := h
    rfl
  · obtain ⟨p, n, rfl, hB, hn, q⟩ := h
    refine ⟨_, (pss_cons (ps_set (i := 2) sc_law_near.nd rfl (.inl rfl) pe_str)
      (pss_cons (ps_par (i := 3) (j := 4) (by rfl) sc_law_near.nd rfl rfl (by decide) rfl rfl (pa_cons (pe_cal C_law_take hr (by decide) (by rfl) (pa_cons (pv 0) (pa_cons pe_int pa_nil))) (pa_cons (pe_cal C_law_take hr (by decide) (by rfl) (pa_cons (pv 0) (pa_cons (pe_callB call_len_str (by rfl) T.z_len (by decide +kernel) (pa_cons (pv 1) pa_nil)) pa_nil))) pa_nil)) (by rfl))
      (pss_cons (ps_set (i := 5) sc_law_near.nd rfl (.inl rfl) (pe_ix ix_str (pv 2) (pe_cal C_law_take hr (by decide) (by rfl) (pa_cons (pv 0) (pa_cons (pe_callB call_len_str (by rfl) T.z_len (by decide +kernel) (pa_cons (pv 2) pa_nil)) pa_nil))) (fun _ _ => rfl)))
      (pss_cons (ps_set (i := 6) sc_law_near.nd rfl (.inl rfl) (pe_split (pv 1) pe_str))
      (pss_cons (ps_if (pt_cmpR op_eq (pv 3) pe_int (nomark _)) (pss_one (ps_ret (pe_op op_add_str (pe_op op_add_str (pe_slice sl_str (pv 1) po_none (po_some (pv 4))) (pv 5)) (pe_slice sl_str (pv 1) (po_some (pv 4)) po_none)))) pss_nil)
      (pss_cons (ps_if (pt_cmpR op_eq (pv 3) pe_int (nomark _)) (pss_one (ps_ret (pe_op op_add_str (pe_slice sl_str (pv 1) po_none (po_some (pv 4))) (pe_slice sl_str (pv 1) (po_some (pe_op op_add (pv 4) pe_int)) po_none)))) pss_nil)
      (pss_cons (ps_if (pt_cmpR op_eq (pv 3) pe_int (nomark _)) (pss_one (ps_ret (pe_op op_add_str (pe_op op_add_str (pe_slice sl_str (pv 1) po_none (po_some (pv 4))) (pv 5)) (pe_slice sl_str (pv 1) (po_some (pe_op op_add (pv 4) pe_int)) po_none)))) pss_nil)
      (pss_cons (ps_if (pt_cmpR op_eq (pv 3) pe_int (nomark _)) (pss_one (ps_ret (pe_op op_add_str (pe_op op_add_str (pe_ix ix_list (pv 6) pe_int (fun _ _ => rfl)) pe_str) (pe_ix ix_list (pe_lst (pa_cons pe_str (pa_cons pe_str (pa_cons pe_str (pa_cons pe_str (pa_cons pe_str (pa_cons pe_str (pa_cons pe_str pa_nil)))))))) (pe_cal C_law_take hr (by decide) (by rfl) (pa_cons (pv 0) (pa_cons pe_int pa_nil))) (fun _ _ => rfl))))) pss_nil)
      (pss_cons (ps_if (pt_cmpR op_eq (pv 3) pe_int (nomark _)) (pss_one (ps_ret (pe_op op_add_str (pe_op op_add_str (pe_ix ix_list (pe_lst (pa_cons pe_str (pa_cons pe_str (pa_cons pe_str (pa_cons pe_str (pa_cons pe_str (pa_cons pe_str (pa_cons pe_str pa_nil)))))))) (pe_cal C_law_take hr (by decide) (by rfl) (pa_cons (pv 0) (pa_cons pe_int pa_nil))) (fun _ _ => rfl)) pe_str) (pe_ix ix_list (pv 6) pe_int (fun _ _ => rfl))))) pss_nil)
      (pss_cons (ps_if (pt_cmpR op_eq (pv 3) pe_int (nomark _)) (pss_one (ps_ret (pe_ix ix_list (pe_lst (pa_cons pe_str (pa_cons pe_str (pa_cons pe_str (pa_cons pe_str (pa_cons pe_str (pa_cons pe_str (pa_cons (pe_op op_add_str (pe_op op_mulS pe_str pe_int) pe_str) (pa_cons pe_str pa_nil))))))))) (pe_cal C_law_take hr (by decide) (by rfl) (pa_cons (pv 0) (pa_cons pe_int pa_nil))) (fun _ _ => rfl)))) pss_nil)
      (pss_one (ps_ret (pe_ix ix_list (pe_lst (pa_cons (pe_op op_add_str (pv 1) pe_str) (pa_cons (pe_op op_add_str pe_str (pv 1)) (pa_cons (pe_op op_add_str (pv 1) (pv 1)) (pa_cons (pe_ix ix_list (pv 6) pe_int (fun _ _ => rfl)) (pa_cons (pe_op op_add_str (pv 1) pe_str) pa_nil)))))) (pe_cal C_law_take hr (by decide) (by rfl) (pa_cons (pv 0) (pa_cons pe_int pa_nil))) (fun _ _ => rfl)))))))))))))), ?_⟩
    have ha := tx_asc hn
    obtain ⟨wa, wb, ew, hwa, hwb⟩ := sp2 hn
    have hs : 10000 ≤ sizeLine := by decide
    have hs8 : (tx (n : Int)).length ≤ sizeLine := Nat.le_trans ha.1 (by decide)
    have ht1 : 0 < (tx (n : Int)).length := by
      rw [len_tl, show tl (tx (n : Int)) = _ from tx_tl hn]
      show 0 < 7
      decide
    refine ⟨_, rfl, p, 8, rfl, hB, by decide, by decide, fun way H1 w0 w1 B1 s1 => ?_⟩
    refine ⟨_, rfl, _, rfl, _, rfl, hs8, p, _, rfl, B1, by omega, by have := ha.1; omega, fun spot H2 p0 p1 B2 s2 => ?_⟩
    refine ⟨_, _, rfl, ?_⟩
    refine ⟨_, rfl, _, rfl, _, rfl, _, rfl, by decide, p, _, rfl, B2, by decide, by decide, fun si H3 g0 g1 B3 s3 => ?_⟩
    have hSG : Asc 20 (Str.ofString " 0123456789:;-+_.aZ~") := Asc.lit (by decide +kernel)
    have hl20 : (Str.ofString " 0123456789:;-+_.aZ~").cps.toList.length = 20 := by decide +kernel
    have hsi : si.toNat < (Str.ofString " 0123456789:;-+_.aZ~").cps.toList.length := by
      rw [hl20]
      have : (Str.ofString " 0123456789:;-+_.aZ~").length = 20 := by decide +kernel
      rw [this] at g1
      omega
    have hat := atI_of' (xs := (Str.ofString " 0123456789:;-+_.aZ~").cps.toList) g0 (List.getElem?_eq_getElem hsi)
    generalize (Str.ofString " 0123456789:;-+_.aZ~").cps.toList[si.toNat] = sc at hat
    have hsc : Asc 1 (⟨#[sc]⟩ : Str) := Asc.one hSG.2 hat
    refine ⟨_, si, sc, rfl, rfl, by decide, hat, ?_⟩
    refine ⟨_, rfl, ⟨_, rfl⟩, _, _, rfl, rfl, by decide, Nat.le_trans (Nat.add_le_add_right ha.1 2) (by decide), fun wp nwp => ?_⟩
    rw [ew]
    have S3 : Sx p H H3 := ((Sx.of s1).trans (Sx.of s2)).trans (Sx.of s3)
    have S4 : Sx p H (upd H3 wp (.lst (([wa, wb] : List Str).map V.str))) := S3.trans (Sx.same (same_upd nwp))
    have B4 : Bag (upd H3 wp (.lst (([wa, wb] : List Str).map V.str))) p := B3.same (same_upd nwp)
    have hW : SqL K (upd H3 wp (.lst (([wa, wb] : List Str).map V.str))) wp [.str wa, .str wb] := SqL.of upd_same
    have hwp : wp ≠ p := B3.ne nwp
    have hWe : (upd H3 wp (.lst (([wa, wb] : List Str).map V.str))) wp = some (.lst [.str wa, .str wb]) := upd_same
    generalize upd H3 wp (.lst (([wa, wb] : List Str).map V.str)) = H4 at *
    have fits : ∀ {a b : Str}, Asc 4500 a → Asc 4500 b → a.length + b.length ≤ sizeLine := fun x y => Nat.le_trans (Nat.add_le_add x.1 y.1) (by decide)
    have c1 := ha.cut none (some spot)
    have c2 := ha.cut (some spot) none
    have c3 := ha.cut (some (spot + 1)) none
    refine ⟨_, rfl, rfl, _, rfl, ite2 (fun e => ?_) (fun e => ?_)⟩
    · refine ⟨_, rfl, _, rfl, spot, rfl, _, rfl, hs8, _, rfl, _, _, rfl, rfl, fits (c1.mono (by decide)) (hsc.mono (by decide)), ?_⟩
      refine ⟨_, rfl, _, rfl, spot, rfl, _, rfl, hs8, _, _, rfl, rfl, fits ((c1.app hsc).mono (by decide)) (c2.mono (by decide)), ?_⟩
      exact q _ _ (((c1.app hsc).app c2).mono (by decide)) B4 S4
    refine ⟨_, rfl, rfl, _, rfl, ite2 (fun e => ?_) (fun e => ?_)⟩
    · refine ⟨_, rfl, _, rfl, spot, rfl, _, rfl, hs8, ?_⟩
      refine ⟨_, rfl, _, rfl, _, _, rfl, rfl, _, rfl, _, rfl, hs8, _, _, rfl, rfl, fits (c1.mono (by decide)) (c3.mono (by decide)), ?_⟩
      exact q _ _ ((c1.app c3).mono (by decide)) B4 S4
    refine ⟨_, rfl, rfl, _, rfl, ite2 (fun e => ?_) (fun e => ?_)⟩
    · refine ⟨_, rfl, _, rfl, spot, rfl, _, rfl, hs8, _, rfl, _, _, rfl, rfl, fits (c1.mono (by decide)) (hsc.mono (by decide)), ?_⟩
      refine ⟨_, rfl, _, rfl, _, _, rfl, rfl, _, rfl, _, rfl, hs8, _, _, rfl, rfl, fits ((c1.app hsc).mono (by decide)) (c3.mono (by decide)), ?_⟩
      exact q _ _ (((c1.app hsc).app c3).mono (by decide)) B4 S4
    refine ⟨_, rfl, rfl, _, rfl, ite2 (fun e => ?_) (fun e => ?_)⟩
    · refine ⟨_, rfl, wp, _, 0, _, rfl, rfl, hW, atI_nat (j := 0) rfl, _, _, rfl, rfl, fits (hwa.mono (by decide)) (Asc.lit (n := 4500) (by decide +kernel)), ?_⟩
      refine ⟨by show 7 ≤ sizeLine; decide, fun lp nlp => ?_⟩
      have B5 := B4.same (same_upd (o := .lst ([Str.ofString "24:00", Str.ofString "7:05", Str.ofString "07:5", Str.ofString "007:05", Str.ofString "23:60", Str.ofString "00:00", Str.ofString "09:08"].map V.str)) nlp)
      refine ⟨_, rfl, p, 7, rfl, B5, by decide, by decide, fun d H6 d0 d1 B6 s6 => ?_⟩
      obtain ⟨v, hv, av⟩ := pick (n := 20) (ys := [Str.ofString "24:00", Str.ofString "7:05", Str.ofString "07:5", Str.ofString "007:05", Str.ofString "23:60", Str.ofString "00:00", Str.ofString "09:08"]) (by
        intro y hy
        simp only [List.mem_cons, List.not_mem_nil, or_false] at hy
        rcases hy with rfl | rfl | rfl | rfl | rfl | rfl | rfl <;> exact Asc.lit (by decide +kernel)) d0 d1
      have hlp : H6 lp = some (.lst ([Str.ofString "24:00", Str.ofString "7:05", Str.ofString "07:5", Str.ofString "007:05", Str.ofString "23:60", Str.ofString "00:00", Str.ofString "09:08"].map V.str)) := by
        rw [s6 lp (B4.ne nlp), upd_same]
        rfl
      refine ⟨lp, _, d, _, rfl, rfl, SqL.of hlp, hv, _, _, rfl, rfl, fits ((hwa.app (Asc.lit (n := 1) (x := Str.ofString " ") (by decide +kernel))).mono (by decide)) (av.mono (by decide)), ?_⟩
      exact q _ _ (((hwa.app (Asc.lit (n := 1) (x := Str.ofString " ") (by decide +kernel))).app av).mono (by decide)) B6 ((S4.trans (Sx.same (same_upd nlp))).trans (Sx.of s6))
    refine ⟨_, rfl, rfl, _, rfl, ite2 (fun e => ?_) (fun e => ?_)⟩
    · refine ⟨by show 7 ≤ sizeLine; decide, fun lp nlp => ?_⟩
      have B5 := B4.same (same_upd (o := .lst ([Str.ofString "6", Str.ofString "7", Str.ofString "06", Str.ofString "-1", Str.ofString "+1", Str.ofString "1_0", Str.ofString ""].map V.str)) nlp)
      refine ⟨_, rfl, p, 7, rfl, B5, by decide, by decide, fun d H6 d0 d1 B6 s6 => ?_⟩
      obtain ⟨v, hv, av⟩ := pick (n := 20) (ys := [Str.ofString "6", Str.ofString "7", Str.ofString "06", Str.ofString "-1", Str.ofString "+1", Str.ofString "1_0", Str.ofString ""]) (by
        intro y hy
        simp only [List.mem_cons, List.not_mem_nil, or_false] at hy
        rcases hy with rfl | rfl | rfl | rfl | rfl | rfl | rfl <;> exact Asc.lit (by decide +kernel)) d0 d1
      have hlp : H6 lp = some (.lst ([Str.ofString "6", Str.ofString "7", Str.ofString "06", Str.ofString "-1", Str.ofString "+1", Str.ofString "1_0", Str.ofString ""].map V.str)) := by
        rw [s6 lp (B4.ne nlp), upd_same]
        rfl
      have hWl : H6 wp = some (.lst [.str wa, .str wb]) := by
        rw [s6 wp hwp, upd_ne (fun z => by rw [z, nlp] at hWe; cases hWe)]
        exact hWe
      refine ⟨lp, _, d, _, rfl, rfl, SqL.of hlp, hv, _, _, rfl, rfl, fits (av.mono (by decide)) (Asc.lit (n := 4500) (by decide +kernel)), ?_⟩
      refine ⟨_, rfl, wp, _, 1, _, rfl, rfl, SqL.of hWl, atI_nat (j := 1) rfl, _, _, rfl, rfl, fits ((av.app (Asc.lit (n := 1) (x := Str.ofString " ") (by decide +kernel))).mono (by decide)) (hwb.mono (by decide)), ?_⟩
      exact q _ _ (((av.app (Asc.lit (n := 1) (x := Str.ofString " ") (by decide +kernel))).app hwb).mono (by decide)) B6 ((S4.trans (Sx.same (same_upd nlp))).trans (Sx.of s6))
    refine ⟨_, rfl, rfl, _, rfl, ite2 (fun e => ?_) (fun e => ?_)⟩
    · have h9 : Asc 4006 (Txt.mul (Str.ofString "9") 4000 ++ Str.ofString " 00:00") := nines.app (Asc.lit (n := 6) (x := Str.ofString " 00:00") (by decide +kernel))
      refine ⟨_, _, rfl, rfl, ⟨by decide, fun _ _ => by decide, fun _ _ => by decide⟩, _, _, rfl, rfl, fits (nines.mono (by decide)) (Asc.lit (n := 4500) (by decide +kernel)), by show 8 ≤ sizeLine; decide, fun lp nlp => ?_⟩
      generalize Txt.mul (Str.ofString "9") 4000 ++ Str.ofString " 00:00" = nn at *
      have B5 := B4.same (same_upd (o := .lst ([Str.ofString "6 22:39", Str.ofString "6 22:40", Str.ofString "0 00:00", Str.ofString "", Str.ofString ":", Str.ofString " ", nn, Str.ofString "1 2 03:04"].map V.str)) nlp)
      refine ⟨_, rfl, p, 8, rfl, B5, by decide, by decide, fun d H6 d0 d1 B6 s6 => ?_⟩
      obtain ⟨v, hv, av⟩ := pick (n := 4006) (ys := [Str.ofString "6 22:39", Str.ofString "6 22:40", Str.ofString "0 00:00", Str.ofString "", Str.ofString ":", Str.ofString " ", nn, Str.ofString "1 2 03:04"]) (by
        intro y hy
        simp only [List.mem_cons, List.not_mem_nil, or_false] at hy
        rcases hy with rfl | rfl | rfl | rfl | rfl | rfl | rfl | rfl <;> first | exact h9 | exact Asc.lit (by decide +kernel)) d0 d1
      have hlp : H6 lp = some (.lst ([Str.ofString "6 22:39", Str.ofString "6 22:40", Str.ofString "0 00:00", Str.ofString "", Str.ofString ":", Str.ofString " ", nn, Str.ofString "1 2 03:04"].map V.str)) := by
        rw [s6 lp (B4.ne nlp), upd_same]
        rfl
      refine ⟨lp, _, d, _, rfl, rfl, SqL.of hlp, hv, ?_⟩
      exact q _ _ (av.mono (by decide)) B6 ((S4.trans (Sx.same (same_upd nlp))).trans (Sx.of s6))
    have t1 : Asc 20 (tx (n : Int) ++ Str.ofString " ") := (ha.app (Asc.lit (n := 1) (by decide +kernel))).mono (by decide)
    have t2 : Asc 20 (Str.ofString " " ++ tx (n : Int)) := ((Asc.lit (n := 1) (by decide +kernel)).app ha).mono (by decide)
    have t3 : Asc 20 (tx (n : Int) ++ tx (n : Int)) := (ha.app ha).mono (by decide)
    have t4 : Asc 20 (tx (n : Int) ++ Str.ofString ":00") := (ha.app (Asc.lit (n := 3) (by decide +kernel))).mono (by decide)
    refine ⟨_, rfl, _, _, rfl, rfl, fits (ha.mono (by decide)) (Asc.lit (n := 4500) (by decide +kernel)), _, rfl, _, _, rfl, rfl, fits (Asc.lit (n := 4500) (by decide +kernel)) (ha.mono (by decide)), _, rfl, _, rfl, _, _, rfl, rfl, fits (ha.mono (by decide)) (ha.mono (by decide)), ?_⟩
    refine ⟨_, rfl, wp, _, 1, _, rfl, rfl, hW, atI_nat (j := 1) rfl, _, rfl, _, _, rfl, rfl, fits (ha.mono (by decide)) (Asc.lit (n := 4500) (by decide +kernel)), by show 5 ≤ sizeLine; decide, fun lp nlp => ?_⟩
    have B5 := B4.same (same_upd (o := .lst ([tx (n : Int) ++ Str.ofString " ", Str.ofString " " ++ tx (n : Int), tx (n : Int) ++ tx (n : Int), wb, tx (n : Int) ++ Str.ofString ":00"].map V.str)) nlp)
    refine ⟨_, rfl, p, 5, rfl, B5, by decide, by decide, fun d H6 d0 d1 B6 s6 => ?_⟩
    obtain ⟨v, hv, av⟩ := pick (n := 20) (ys := [tx (n : Int) ++ Str.ofString " ", Str.ofString " " ++ tx (n : Int), tx (n : Int) ++ tx (n : Int), wb, tx (n : Int) ++ Str.ofString ":00"]) (by
      intro y hy
      simp only [List.mem_cons, List.not_mem_nil, or_false] at hy
      rcases hy with rfl | rfl | rfl | rfl | rfl
      · exact t1
      · exact t2
      · exact t3
      · exact hwb.mono (by decide)
      · exact t4) d0 d1
    have hlp : H6 lp = some (.lst ([tx (n : Int) ++ Str.ofString " ", Str.ofString " " ++ tx (n : Int), tx (n : Int) ++ tx (n : Int), wb, tx (n : Int) ++ Str.ofString ":00"].map V.str)) := by
      rw [s6 lp (B4.ne nlp), upd_same]
      rfl
    refine ⟨lp, _, d, _, rfl, rfl, SqL.of hlp, hv, ?_⟩
    exact q _ _ (av.mono (by decide)) B6 ((S4.trans (Sx.same (same_upd nlp))).trans (Sx.of s6))
end
end My

set_option Elab.async false
set_option linter.all false
set_option maxRecDepth 100000
set_option maxHeartbeats 4000000
namespace My
open PySem PySem.Spec PyProof.Rows L2 TL
/-- isinstance of the caught error, its class told when it is read -/
theorem call_isE' {X : Cx} {a D : Addr} {oe : Obj} {pn : List (Addr × Obj)} {cls : Value} {d : Option Addr} (C : ExcC X.K D) (hz : Zc cls d oe) (hf : ∃ vs, oe.data = .fields vs) :
    CallR (X.suite a ((a, oe) :: pn)) (.builtin "isinstance") (fun xs H Q => cls = .ref D ∧ d = none ∧ rIsE X.K D a xs H Q) := by
  intro pins s σ H xs us Q I r h
  obtain ⟨e1, e2, h⟩ := h
  subst e1
  subst e2
  exact call_isE C hz hf pins s σ H xs us Q I r h
structure BT2 (K : PySem.W.Frag) (mg : Str → Option Value) (C N : Addr) : Prop where
  g : mg "NoText" = some (.ref N)
  x : ExcC K C
  m : PySem.W.exmOne K (.ref C) (.ref C) = some true
  k1 : PySem.W.kitOne K (.ref C) (.type "ValueError") = some true
  k2 : PySem.W.kitOne K (.ref C) (.ref N) = some false
section
variable {P : Program} {w : World} {K : PySem.W.Frag} {mg : Str → Option Value} {base : Heap}
abbrev s_law_told : Stmt := topS 20
abbrev N_law_told : List Str := ["_law_thing", "e"]
theorem sc_law_told : FnScope N_law_told ["_law_thing"] (defScope s_law_told) := ⟨rfl, rfl, rfl, by decide +kernel, rfl, by decide +kernel, by decide +kernel⟩
def sp_law_told (K : PySem.W.Frag) : Sp := fun vs H Q _ => ∃ x : V, vs = [x] ∧
  ((∃ z : Str, x = .str z ∧ z.length ≤ 100000 ∧ (∀ n : Nat, n ≤ 9999 → z = tx n → ∀ H', Same H H' → Q (.int n) H') ∧ ((∀ n : Nat, n ≤ 9999 → z ≠ tx n) → ∀ H', Same H H' → Q (.str (Str.ofString "bad")) H')) ∨
   (NoStr K H x ∧ ∀ H', Same H H' → Q (.str (Str.ofString "bad")) H'))
theorem ok_law_told {f fR C N : Addr} {fd fdR : FuncData} (F : Fun K "_law_told" "_law_told" s_law_told f fd) (T : Txt mg) (B : BT K mg C) (B2 : BT2 K mg C N)
    (GR : FnOk P w K mg base (L2.CX P w) 3 fR fdR ["text"] (sp_read_time K C)) (gR : mg "read_time" = some (.ref fR)) (kR : PySem.W.keepIn K (.ref fR) = true) (bR : Binds K fdR ["text"] []) :
    FnOk P w K mg base CX0 4 f fd ["_law_thing"] (sp_law_told K) := by
  refine F.ok sc_law_told (fun vs H Q E h => ?_) (fun cdv A outer s H vs Q E hr h => ?_)
  · obtain ⟨x, rfl, _⟩ := h
    rfl
  · obtain ⟨x, rfl, h⟩ := h
    refine ⟨_, pss_one (ps_try_as (i := 1) (Wout := fun _ _ _ _ => False) rfl rfl sc_law_told.nd rfl rfl ⟨rfl, by decide, Or.inl B.g⟩ takes0
      (fun W pn xe tk _ => pss_one (ps_ret (pe_callS GR hr rfl gR kR bR (fun σ => passAt tk σ) (pa_cons (pv 0) pa_nil))))
      (fun a oe cls d pn hz hf => pss_one (ps_ret (pe_ifExp (PW.pt (pw_and (pt_val (pe_callB (call_isE' B2.x hz hf) (by rfl) T.z_isinstance (by decide +kernel) (pa_cons (pv 1) (pa_cons (pe_bltn (v := .ty "ValueError") (by rfl) T.z_ValueError (by decide +kernel) rfl) pa_nil))))
        (pw_and1 (pt_not (pt_val (pe_callB (call_isE' B2.x hz hf) (by rfl) T.z_isinstance (by decide +kernel) (pa_cons (pv 1) (pa_cons (pe_globR B2.g (by rfl)) pa_nil)))))))) pe_str pe_str)))), ?_⟩
    rcases h with ⟨z, rfl, hz, q, qn⟩ | ⟨ns, qn⟩
    · refine ⟨_, rfl, _, rfl, .inl ⟨z, rfl, hz, fun n hn e H' sm => q n hn e H' sm, fun hne H' sm => ?_⟩⟩
      refine ⟨true, B2.m, fun _ a0 ha0 => ?_, fun z => Bool.noConfusion z⟩
      refine ⟨_, rfl, rfl, rfl, .ty "ValueError", _, true, rfl, fun u r => r, B2.k1, true, rfl, iteT ?_⟩
      refine ⟨_, rfl, rfl, rfl, .ref N, _, false, rfl, fun u r => r, B2.k2, false, rfl, iteT ?_⟩
      exact qn hne H' sm
    · refine ⟨_, rfl, _, rfl, .inr ⟨ns, ?_⟩⟩
      refine ⟨true, B2.m, fun _ a0 ha0 => ?_, fun z => Bool.noConfusion z⟩
      refine ⟨_, rfl, rfl, rfl, .ty "ValueError", _, true, rfl, fun u r => r, B2.k1, true, rfl, iteT ?_⟩
      refine ⟨_, rfl, rfl, rfl, .ref N, _, false, rfl, fun u r => r, B2.k2, false, rfl, iteT ?_⟩
      exact qn _ (Same.refl _)
end
end My

set_option Elab.async false
set_option linter.all false
set_option maxRecDepth 100000
set_option maxHeartbeats 4000000
namespace My
open PySem PySem.Spec PyProof.Rows L2 TL
theorem tx_inj {m n : Nat} (hm : m ≤ 9999) (hn : n ≤ 9999) (e : tx m = tx n) : m = n := by
  have q : sg (m / 1440) (m % 1440 / 60) (m % 60) = sg (n / 1440) (n % 1440 / 60) (n % 60) := by rw [← tx_tl hm, ← tx_tl hn, e]
  unfold sg at q
  simp only [List.cons.injEq, and_true] at q
  omega
theorem Sx.toSame {p : Addr} {H H1 H2 : Hp} (a : Same H H1) (b : Sx p H1 H2) (np : H p = none) : Same H H2 := fun c o e => b c o (ne_of_none e np) (a c o e)
theorem neF (v : V) : V.bl (!decide (v = v)) = V.bl false := by
  rw [decide_eq_true rfl]
  rfl
theorem isF' {v : V} (h : v ≠ .non) : V.bl (decide (v = V.non)) = V.bl false := by
  rw [decide_eq_false h]
section
variable {P : Program} {w : World} {K : PySem.W.Frag} {mg : Str → Option Value} {base : Heap}
abbrev s_law : Stmt := topS 21
abbrev N_law : List Str := ["_law_script", "_law_k", "_law_bag_here", "_law_minute", "_law_text_here", "_law_turn", "_law_told_here", "_law_near_here", "_law_due", "_law_thing"]
theorem sc_law : FnScope N_law ["_law_script"] (defScope s_law) := ⟨rfl, rfl, rfl, by decide +kernel, rfl, by decide +kernel, by decide +kernel⟩
def sp_law (K : PySem.W.Frag) : Sp := fun vs H Q _ => ∃ (a : Addr) (ns : List Int), vs = [.ref a] ∧ SqL K H a (ns.map V.int) ∧ ns.length ≤ 63 ∧ ∀ H', Q (.bl true) H'
theorem ok_law {f : Addr} {fd : FuncData} (F : Fun K "law" "law" s_law f fd) (T : Txt mg) (C_law_bag : Cal P w K mg base 1 "_law_bag" (sp_law_bag K)) (C_law_take : Cal P w K mg base 1 "_law_take" sp_law_take) (C_law_text : Cal P w K mg base 1 "_law_text" sp_law_text)
    (C_shown : Cal P w K mg base 2 "shown" sp_shown) (C_law_told : Cal P w K mg base 4 "_law_told" (sp_law_told K)) (C_law_near : Cal P w K mg base 2 "_law_near" sp_law_near) (C_law_read : Cal P w K mg base 2 "_law_read" sp_law_read) :
    FnOk P w K mg base CX0 5 f fd ["_law_script"] (sp_law K) := by
  refine F.ok sc_law (fun vs H Q E h => ?_) (fun cdv A outer s H vs Q E hr h => ?_)
  · obtain ⟨a, ns, rfl, _⟩ := h
    rfl
  · obtain ⟨a, ns, rfl, hS, hlen, q⟩ := h
    refine ⟨_, (pss_cons (ps_for PassesOwn.never rfl (pi_range1 (by rfl) T.z_range (pa_cons (pe_callB (call_max2 rfl) (by rfl) T.z_max (by decide +kernel) (pa_cons pe_int (pa_cons (pe_callB (call_min2 rfl) (by rfl) T.z_min (by decide +kernel) (pa_cons pe_int (pa_cons (pe_callB call_len_seq (by rfl) T.z_len (by decide +kernel) (pa_cons (pv 0) pa_nil)) pa_nil))) pa_nil))) pa_nil)) (pg_name (i := 1) sc_law.nd rfl (.inl rfl))
        (pss_cons (ps_set (i := 2) sc_law.nd rfl (.inl rfl) (pe_cal C_law_bag hr (by decide) (by rfl) (pa_cons (pv 0) (pa_cons (pv 1) pa_nil))))
        (pss_cons (ps_set (i := 3) sc_law.nd rfl (.inl rfl) (pe_ix ix_tup (pe_tup (pa_cons (pe_cal C_law_take hr (by decide) (by rfl) (pa_cons (pv 2) (pa_cons pe_int pa_nil))) (pa_cons (pe_cal C_law_take hr (by decide) (by rfl) (pa_cons (pv 2) (pa_cons pe_int pa_nil))) (pa_cons (pe_op op_sub pe_int (pe_cal C_law_take hr (by decide) (by rfl) (pa_cons (pv 2) (pa_cons pe_int pa_nil)))) (pa_cons pe_int pa_nil))))) (pe_cal C_law_take hr (by decide) (by rfl) (pa_cons (pv 2) (pa_cons pe_int pa_nil))) (fun _ _ => rfl)))
        (pss_cons (ps_set (i := 4) sc_law.nd rfl (.inl rfl) (pe_cal C_law_text hr (by decide) (by rfl) (pa_cons (pv 3) pa_nil)))
        (pss_cons (ps_if (PW.pt (pw_or (pt_cmpR op_ne (pe_cal C_shown hr (by decide) (by rfl) (pa_cons (pv 3) pa_nil)) (pv 4) (nomark _)) (pw_or1 (pt_not (pt_val (pe_callB call_isi (by rfl) T.z_isinstance (by decide +kernel) (pa_cons (pe_cal C_shown hr (by decide) (by rfl) (pa_cons (pv 3) pa_nil)) (pa_cons (pe_bltn (v := .ty "str") (by rfl) T.z_str (by decide +kernel) rfl) pa_nil)))))))) (pss_one (ps_ret pe_bl)) pss_nil)
        (pss_cons (ps_for PassesOwn.never rfl (pi_range1 (by rfl) T.z_range (pa_cons pe_int pa_nil)) (pg_name (i := 5) sc_law.nd rfl (.inl rfl))
          (pss_cons (ps_set (i := 6) sc_law.nd rfl (.inl rfl) (pe_cal C_law_told hr (by decide) (by rfl) (pa_cons (pv 4) pa_nil)))
          (pss_one (ps_if (PW.pt (pw_or (pt_val (pe_callB call_isi (by rfl) T.z_isinstance (by decide +kernel) (pa_cons (pv 6) (pa_cons (pe_bltn (v := .ty "bool") (by rfl) T.z_bool (by decide +kernel) rfl) pa_nil)))) (pw_or1 (pt_cmpR op_ne (pv 6) (pv 3) (nomark _))))) (pss_one (ps_ret pe_bl)) pss_nil))))
        (pss_cons (ps_for PassesOwn.never rfl (pi_range1 (by rfl) T.z_range (pa_cons pe_int pa_nil)) (pg_name (i := 5) sc_law.nd rfl (.inl rfl))
          (pss_cons (ps_set (i := 7) sc_law.nd rfl (.inl rfl) (pe_cal C_law_near hr (by decide) (by rfl) (pa_cons (pv 2) (pa_cons (pv 4) pa_nil))))
          (pss_cons (ps_set (i := 8) sc_law.nd rfl (.inl rfl) (pe_cal C_law_read hr (by decide) (by rfl) (pa_cons (pv 7) pa_nil)))
          (pss_one (ps_if (pt_cmpR op_ne (pe_cal C_law_told hr (by decide) (by rfl) (pa_cons (pv 7) pa_nil)) (pe_ifExp (pt_cmpR op_isN (pv 8) pe_non (nomark _)) pe_str (pv 8)) (nomark _)) (pss_one (ps_ret pe_bl)) pss_nil)))))
        (pss_cons (ps_set (i := 9) sc_law.nd rfl (.inl rfl) (pe_ix ix_list (pe_lst (pa_cons pe_non (pa_cons (pv 3) (pa_cons pe_bl (pa_cons (pe_lst (pa_cons (pv 4) pa_nil)) (pa_cons (pe_tup (pa_cons (pv 4) pa_nil)) (pa_cons (pe_lst (pa_cons pe_int (pa_cons pe_int (pa_cons pe_int pa_nil)))) pa_nil))))))) (pe_cal C_law_take hr (by decide) (by rfl) (pa_cons (pv 2) (pa_cons pe_int pa_nil))) (fun _ _ => rfl)))
        (pss_one (ps_if (pt_cmpR op_ne (pe_cal C_law_told hr (by decide) (by rfl) (pa_cons (pv 9) pa_nil)) pe_str (nomark _)) (pss_one (ps_ret pe_bl)) pss_nil))))))))))
      (pss_one (ps_ret pe_bl))), ?_⟩
    have nN : ∃ N : Int, (if (if ((ns.map V.int).length : Int) < 60 then ((ns.map V.int).length : Int) else 60) > 8 then (if ((ns.map V.int).length : Int) < 60 then ((ns.map V.int).length : Int) else 60) else 8) = N ∧ 0 ≤ N ∧ N ≤ 60 := ⟨_, rfl, by split <;> (try split) <;> omega, by split <;> (try split) <;> omega⟩
    obtain ⟨N, eN, hN0, hN1⟩ := nN
    refine ⟨_, rfl, a, _, rfl, .inl hS, _, _, rfl, _, _, rfl, N, ?_, by omega, by omega, ?_⟩
    · rw [← eN]
    refine for_range (lo := 0) (n := N.toNat) (fun i σ H' => (∃ x1 x2 x3 x4 x5 x6 x7 x8 x9, σ = [some (.ref a), x1, x2, x3, x4, x5, x6, x7, x8, x9]) ∧ Same H H') ⟨⟨_, _, _, _, _, _, _, _, _, rfl⟩, Same.refl _⟩ ?_ ?_
    · rintro i σ H1 hi ⟨⟨x1, x2, x3, x4, x5, x6, x7, x8, x9, rfl⟩, sm1⟩
      -- the bag
      refine ⟨_, rfl, _, rfl, a, ns, _, rfl, sm1.seq hS, by omega, by omega, fun H2 p sm2 np B2 => ?_⟩
      have npH : H p = none := sm1.free np
      have smH2 : Same H H2 := sm1.trans sm2
      -- the minute
      refine ⟨_, rfl, p, 10000, rfl, B2, by decide, by decide, fun d1 H3 a1 b1 B3 s3 => ?_⟩
      refine ⟨_, rfl, p, 60, rfl, B3, by decide, by decide, fun d2 H4 a2 b2 B4 s4 => ?_⟩
      refine ⟨_, rfl, p, 60, rfl, B4, by decide, by decide, fun d3 H5 a3 b3 B5 s5 => ?_⟩
      refine ⟨_, _, rfl, rfl, by show 4 ≤ sizeLine; decide, fun tp ntp => ?_⟩
      have smH5 : Same H H5 := Sx.toSame smH2 (((Sx.of s3).trans (Sx.of s4)).trans (Sx.of s5)) npH
      have B6 : Bag (upd H5 tp (.tup [.int d1, .int d2, .int (9999 - d3), .int 0])) p := B5.same (same_upd ntp)
      refine ⟨_, rfl, p, 4, rfl, B6, by decide, by decide, fun d4 H7 a4 b4 B7 s7 => ?_⟩
      have htp : H7 tp = some (.tup [.int d1, .int d2, .int (9999 - d3), .int 0]) := by
        rw [s7 tp (B5.ne ntp), upd_same]
      have smH7 : Same H H7 := Sx.toSame (smH5.trans (same_upd ntp)) (Sx.of s7) npH
      obtain ⟨m, hm, hat⟩ : ∃ m : Nat, m ≤ 9999 ∧ atI [V.int d1, V.int d2, V.int (9999 - d3), V.int 0] d4 = some (.int m) := by
        have c : d4 = 0 ∨ d4 = 1 ∨ d4 = 2 ∨ d4 = 3 := by omega
        rcases c with rfl | rfl | rfl | rfl
        · exact ⟨d1.toNat, by omega, by rw [Int.toNat_of_nonneg a1]; rfl⟩
        · exact ⟨d2.toNat, by omega, by rw [Int.toNat_of_nonneg a2]; rfl⟩
        · exact ⟨(9999 - d3).toNat, by omega, by rw [Int.toNat_of_nonneg (by omega)]; rfl⟩
        · exact ⟨0, by omega, rfl⟩
      refine ⟨tp, _, d4, _, rfl, rfl, SqT.of htp, hat, ?_⟩
      -- its text
      refine ⟨_, rfl, (m : Int), rfl, by omega, by omega, fun H8 sm8 => ?_⟩
      have smH8 : Same H H8 := smH7.trans sm8
      have B8 : Bag H8 p := B7.same sm8
      refine ⟨_, rfl, (m : Int), rfl, by omega, by omega, _, rfl, rfl, false, neF _, iteF ?_⟩
      refine ⟨_, rfl, (m : Int), rfl, by omega, by omega, _, _, _, _, true, rfl, .ty "str", .base (.str _), kit_ty (by decide +kernel), true, rfl, iteF ?_⟩
      have tl8 : (tx (m : Int)).length ≤ 100000 := Nat.le_trans (tx_asc hm).1 (by decide)
      -- told twice
      refine ⟨2, rfl, by decide, by decide, ?_⟩
      refine for_range (lo := 0) (n := 2) (fun j σ H' => (∃ y5 y6, σ = [some (.ref a), some (.int (0 + i)), some (.ref p), some (.int m), some (.str (tx m)), y5, y6, x7, x8, x9]) ∧ Same H H' ∧ Bag H' p) ⟨⟨_, _, rfl⟩, smH8, B8⟩ ?_ ?_
      · rintro j σ H9 hj ⟨⟨y5, y6, rfl⟩, sm9, B9⟩
        refine ⟨_, rfl, _, rfl, .inl ⟨_, rfl, tl8, fun n hn e H10 sm10 => ?_, fun hne => absurd rfl (hne m hm)⟩⟩
        obtain rfl := tx_inj hm hn e
        refine ⟨_, rfl, _, _, _, _, false, rfl, .ty "bool", .base (.int _), kit_ty (by decide +kernel), false, rfl, iteF ?_⟩
        refine ⟨_, rfl, _, rfl, rfl, false, neF _, iteF ?_⟩
        exact ⟨⟨_, _, rfl⟩, sm9.trans sm10, B9.same sm10⟩
      rintro σ H9 ⟨⟨y5, y6, rfl⟩, sm9, B9⟩
      -- three near texts
      refine ⟨3, rfl, by decide, by decide, ?_⟩
      refine for_range (lo := 0) (n := 3) (fun j σ H' => (∃ y5 y6 y7 y8, σ = [some (.ref a), some (.int (0 + i)), some (.ref p), some (.int m), some (.str (tx m)), y5, y6, y7, y8, x9]) ∧ Same H H' ∧ Bag H' p) ⟨⟨_, _, _, _, rfl⟩, sm9, B9⟩ ?_ ?_
      · rintro j σ H10 hj ⟨⟨z5, z6, z7, z8, rfl⟩, sm10, B10⟩
        refine ⟨_, rfl, _, rfl, p, m, rfl, B10, hm, fun v H11 av B11 s11 => ?_⟩
        have sm11 : Same H H11 := Sx.toSame sm10 s11 npH
        have lv : v.length ≤ 100000 := Nat.le_trans av.1 (by decide)
        refine ⟨_, rfl, v, rfl, lv, av.2, fun n hn e H12 sm12 => ?_, fun hne H12 sm12 => ?_⟩
        · refine ⟨_, rfl, _, rfl, .inl ⟨v, rfl, lv, fun n' hn' e' H13 sm13 => ?_, fun hne => absurd e (hne n hn)⟩⟩
          obtain rfl := tx_inj hn hn' (e.symm.trans e')
          refine ⟨_, rfl, rfl, false, isF' (by intro z; cases z), iteF ?_⟩
          refine ⟨_, rfl, rfl, false, neF _, iteF ?_⟩
          exact ⟨⟨_, _, _, _, rfl⟩, (sm11.trans sm12).trans sm13, (B11.same sm12).same sm13⟩
        · refine ⟨_, rfl, _, rfl, .inl ⟨v, rfl, lv, fun n' hn' e' => absurd e' (hne n' hn'), fun _ H13 sm13 => ?_⟩⟩
          refine ⟨_, rfl, rfl, true, rfl, iteT ?_⟩
          refine ⟨rfl, false, neF _, iteF ?_⟩
          exact ⟨⟨_, _, _, _, rfl⟩, (sm11.trans sm12).trans sm13, (B11.same sm12).same sm13⟩
      rintro σ H10 ⟨⟨z5, z6, z7, z8, rfl⟩, sm10, B10⟩
      -- a thing that is no text
      refine ⟨_, rfl, _, rfl, by show 1 ≤ sizeLine; decide, fun l1 n1 => ?_⟩
      refine ⟨_, rfl, by show 1 ≤ sizeLine; decide, fun t1 n2 => ?_⟩
      refine ⟨by show 3 ≤ sizeLine; decide, fun l2 n3 => ?_⟩
      refine ⟨by show 6 ≤ sizeLine; decide, fun lp n4 => ?_⟩
      have S1 := same_upd (o := .lst [.str (tx (m : Int))]) n1
      have S2 := same_upd (o := .tup [.str (tx (m : Int))]) n2
      have S3 := same_upd (o := .lst [.int 0, .int 7, .int 5]) n3
      have S4 := same_upd (o := .lst [.non, .int (m : Int), .bl true, .ref l1, .ref t1, .ref l2]) n4
      have Bd := (((B10.same S1).same S2).same S3).same S4
      have smd := (((sm10.trans S1).trans S2).trans S3).trans S4
      have e1 := S4 _ _ (S3 _ _ (S2 l1 _ (upd_same (H := H10) (o := .lst [.str (tx (m : Int))]))))
      have e2 := S4 _ _ (S3 t1 _ upd_same)
      have e3 := S4 l2 _ upd_same
      have nl1 : l1 ≠ p := B10.ne n1
      have nt1 : t1 ≠ p := (B10.same S1).ne n2
      have nl2 : l2 ≠ p := ((B10.same S1).same S2).ne n3
      have nlp : lp ≠ p := (((B10.same S1).same S2).same S3).ne n4
      refine ⟨_, rfl, p, 6, rfl, Bd, by decide, by decide, fun d H12 d0 d1 B12 s12 => ?_⟩
      have hlp : H12 lp = some (.lst [.non, .int (m : Int), .bl true, .ref l1, .ref t1, .ref l2]) := by
        rw [s12 lp nlp, upd_same]
      have f1 := (s12 l1 nl1).trans e1
      have f2 := (s12 t1 nt1).trans e2
      have f3 := (s12 l2 nl2).trans e3
      have sm12 : Same H H12 := Sx.toSame smd (Sx.of s12) npH
      obtain ⟨x, hat, nst⟩ : ∃ x : V, atI [V.non, .int (m : Int), .bl true, .ref l1, .ref t1, .ref l2] d = some x ∧ NoStr K H12 x := by
        have c : d = 0 ∨ d = 1 ∨ d = 2 ∨ d = 3 ∨ d = 4 ∨ d = 5 := by omega
        rcases c with rfl | rfl | rfl | rfl | rfl | rfl
        · exact ⟨_, rfl, "NoneType", .base .non, by decide +kernel⟩
        · exact ⟨_, rfl, "int", .base (.int _), by decide +kernel⟩
        · exact ⟨_, rfl, "bool", .base (.bl _), by decide +kernel⟩
        · exact ⟨_, rfl, "list", .base (.lst f1), by decide +kernel⟩
        · exact ⟨_, rfl, "tuple", .base (.tup f2), by decide +kernel⟩
        · exact ⟨_, rfl, "list", .base (.lst f3), by decide +kernel⟩
      refine ⟨lp, _, d, x, rfl, rfl, SqL.of hlp, hat, ?_⟩
      refine ⟨_, rfl, x, rfl, .inr ⟨nst, fun H13 sm13 => ?_⟩⟩
      refine ⟨rfl, false, neF _, iteF ?_⟩
      exact ⟨⟨_, _, _, _, _, _, _, _, _, rfl⟩, sm12.trans sm13⟩
    · rintro σ H1 ⟨_, sm1⟩
      exact q _
end
end My

set_option Elab.async false
set_option linter.all false
set_option maxRecDepth 100000
set_option maxHeartbeats 4000000
namespace My
open PySem PySem.Spec PyProof.Rows L2 TL
theorem cal_mk {P : Program} {w : World} {K : PySem.W.Frag} {mg : Str → Option Value} {base : Heap} {k : Nat} {x : Str} {sp : Sp} {f : Addr} {fd : FuncData} {ps : List Str} (F : FnOk P w K mg base CX0 k f fd ps sp) (g : mg x = some (.ref f)) (kp : PySem.W.keepIn K (.ref f) = true) (b : Binds K fd ps []) : Cal P w K mg base k x sp := ⟨f, fd, ps, F, g, kp, b⟩
theorem all_mk {l : PySem.W.OpenLaw} {w : World} {K : PySem.W.Frag} {h : Heap} {mg : Str → Option Value} {fa fp C N f0 f1 f2 f3 f4 f5 f6 f7 f8 f9 f10 : Addr} (X : K.In h) (G : h.Ns mainGlobals mg) (hfa : mg "law" = some (.ref fa))
    {odp od0 an0 od1 an1 od2 an2 od3 an3 od4 an4 od5 an5 od6 an6 od7 an7 od8 an8 od9 an9 od10 an10 : Option Addr} {slp sl0 sl1 sl2 sl3 sl4 sl5 sl6 sl7 sl8 sl9 sl10 : Array (Option Value)} {oc0 kV0 dc0 pm0 cd0 ct0 oc1 kV1 dc1 pm1 cd1 ct1 oc2 kV2 dc2 pm2 cd2 ct2 oc3 kV3 dc3 pm3 cd3 ct3 oc4 kV4 dc4 pm4 cd4 ct4 oc5 kV5 dc5 pm5 cd5 ct5 oc6 kV6 dc6 pm6 cd6 ct6 oc7 kV7 dc7 pm7 cd7 ct7 oc8 kV8 dc8 pm8 cd8 ct8 oc9 kV9 dc9 pm9 cd9 ct9 oc10 kV10 dc10 pm10 cd10 ct10 : Value} {t_LAST_MINUTE t_MINUTES_OF_DAY t_MINUTES_OF_HOUR t_TEXT_LENGTH t_FIGURES u0 u1 u2 u3 u4 : Tok} {np : Nat}
    (a0 : PySem.W.nsIn K mainGlobals "hour_of" = some (some (.ref f0))) (l0 : K.lookup f0 = some ⟨oc0, od0, .func (PySem.W.fnOf "hour_of" "hour_of" (defArgs s_hour_of) (defBody s_hour_of) (defScope s_hour_of) .none kV0 dc0 pm0 an0 cd0 ct0), sl0⟩) (c0 : PySem.W.codeIn K cd0 "hour_of" = true) (k0 : PySem.W.keepIn K (.ref f0) = true)
    (a1 : PySem.W.nsIn K mainGlobals "shown" = some (some (.ref f1))) (l1 : K.lookup f1 = some ⟨oc1, od1, .func (PySem.W.fnOf "shown" "shown" (defArgs s_shown) (defBody s_shown) (defScope s_shown) .none kV1 dc1 pm1 an1 cd1 ct1), sl1⟩) (c1 : PySem.W.codeIn K cd1 "shown" = true) (k1 : PySem.W.keepIn K (.ref f1) = true)
    (a2 : PySem.W.nsIn K mainGlobals "read_time" = some (some (.ref f2))) (l2 : K.lookup f2 = some ⟨oc2, od2, .func (PySem.W.fnOf "read_time" "read_time" (defArgs s_read_time) (defBody s_read_time) (defScope s_read_time) .none kV2 dc2 pm2 an2 cd2 ct2), sl2⟩) (c2 : PySem.W.codeIn K cd2 "read_time" = true) (k2 : PySem.W.keepIn K (.ref f2) = true)
    (a3 : PySem.W.nsIn K mainGlobals "has_figures" = some (some (.ref f3))) (l3 : K.lookup f3 = some ⟨oc3, od3, .func (PySem.W.fnOf "has_figures" "has_figures" (defArgs s_has_figures) (defBody s_has_figures) (defScope s_has_figures) .none kV3 dc3 pm3 an3 cd3 ct3), sl3⟩) (c3 : PySem.W.codeIn K cd3 "has_figures" = true) (k3 : PySem.W.keepIn K (.ref f3) = true)
    (a4 : PySem.W.nsIn K mainGlobals "_law_bag" = some (some (.ref f4))) (l4 : K.lookup f4 = some ⟨oc4, od4, .func (PySem.W.fnOf "_law_bag" "_law_bag" (defArgs s_law_bag) (defBody s_law_bag) (defScope s_law_bag) .none kV4 dc4 pm4 an4 cd4 ct4), sl4⟩) (c4 : PySem.W.codeIn K cd4 "_law_bag" = true) (k4 : PySem.W.keepIn K (.ref f4) = true)
    (a5 : PySem.W.nsIn K mainGlobals "_law_take" = some (some (.ref f5))) (l5 : K.lookup f5 = some ⟨oc5, od5, .func (PySem.W.fnOf "_law_take" "_law_take" (defArgs s_law_take) (defBody s_law_take) (defScope s_law_take) .none kV5 dc5 pm5 an5 cd5 ct5), sl5⟩) (c5 : PySem.W.codeIn K cd5 "_law_take" = true) (k5 : PySem.W.keepIn K (.ref f5) = true)
    (a6 : PySem.W.nsIn K mainGlobals "_law_text" = some (some (.ref f6))) (l6 : K.lookup f6 = some ⟨oc6, od6, .func (PySem.W.fnOf "_law_text" "_law_text" (defArgs s_law_text) (defBody s_law_text) (defScope s_law_text) .none kV6 dc6 pm6 an6 cd6 ct6), sl6⟩) (c6 : PySem.W.codeIn K cd6 "_law_text" = true) (k6 : PySem.W.keepIn K (.ref f6) = true)
    (a7 : PySem.W.nsIn K mainGlobals "_law_read" = some (some (.ref f7))) (l7 : K.lookup f7 = some ⟨oc7, od7, .func (PySem.W.fnOf "_law_read" "_law_read" (defArgs s_law_read) (defBody s_law_read) (defScope s_law_read) .none kV7 dc7 pm7 an7 cd7 ct7), sl7⟩) (c7 : PySem.W.codeIn K cd7 "_law_read" = true) (k7 : PySem.W.keepIn K (.ref f7) = true)
    (a8 : PySem.W.nsIn K mainGlobals "_law_near" = some (some (.ref f8))) (l8 : K.lookup f8 = some ⟨oc8, od8, .func (PySem.W.fnOf "_law_near" "_law_near" (defArgs s_law_near) (defBody s_law_near) (defScope s_law_near) .none kV8 dc8 pm8 an8 cd8 ct8), sl8⟩) (c8 : PySem.W.codeIn K cd8 "_law_near" = true) (k8 : PySem.W.keepIn K (.ref f8) = true)
    (a9 : PySem.W.nsIn K mainGlobals "_law_told" = some (some (.ref f9))) (l9 : K.lookup f9 = some ⟨oc9, od9, .func (PySem.W.fnOf "_law_told" "_law_told" (defArgs s_law_told) (defBody s_law_told) (defScope s_law_told) .none kV9 dc9 pm9 an9 cd9 ct9), sl9⟩) (c9 : PySem.W.codeIn K cd9 "_law_told" = true) (k9 : PySem.W.keepIn K (.ref f9) = true)
    (a10 : PySem.W.nsIn K mainGlobals "law" = some (some (.ref f10))) (l10 : K.lookup f10 = some ⟨oc10, od10, .func (PySem.W.fnOf "law" "law" (defArgs s_law) (defBody s_law) (defScope s_law) .none kV10 dc10 pm10 an10 cd10 ct10), sl10⟩) (c10 : PySem.W.codeIn K cd10 "law" = true) (k10 : PySem.W.keepIn K (.ref f10) = true)
    (z_len : PySem.W.nsIn K mainGlobals "len" = some none)
    (z_abs : PySem.W.nsIn K mainGlobals "abs" = some none)
    (z_all : PySem.W.nsIn K mainGlobals "all" = some none)
    (z_str : PySem.W.nsIn K mainGlobals "str" = some none)
    (z_int : PySem.W.nsIn K mainGlobals "int" = some none)
    (z_isinstance : PySem.W.nsIn K mainGlobals "isinstance" = some none)
    (z_range : PySem.W.nsIn K mainGlobals "range" = some none)
    (z_max : PySem.W.nsIn K mainGlobals "max" = some none)
    (z_min : PySem.W.nsIn K mainGlobals "min" = some none)
    (z_bool : PySem.W.nsIn K mainGlobals "bool" = some none)
    (z_ValueError : PySem.W.nsIn K mainGlobals "ValueError" = some none)
    (g_LAST_MINUTE : PySem.W.nsIn K mainGlobals "LAST_MINUTE" = some (some (.int 9999 t_LAST_MINUTE)))
    (g_MINUTES_OF_DAY : PySem.W.nsIn K mainGlobals "MINUTES_OF_DAY" = some (some (.int 1440 t_MINUTES_OF_DAY)))
    (g_MINUTES_OF_HOUR : PySem.W.nsIn K mainGlobals "MINUTES_OF_HOUR" = some (some (.int 60 t_MINUTES_OF_HOUR)))
    (g_TEXT_LENGTH : PySem.W.nsIn K mainGlobals "TEXT_LENGTH" = some (some (.int 7 t_TEXT_LENGTH)))
    (g_FIGURES : PySem.W.nsIn K mainGlobals "FIGURES" = some (some (.str "0123456789" t_FIGURES)))
    (g_FP : PySem.W.nsIn K mainGlobals "FIGURE_PLACES" = some (some (.ref fp))) (l_FP : K.lookup fp = some ⟨.type "tuple", odp, .seq #[.int 0 u0, .int 2 u1, .int 3 u2, .int 5 u3, .int 6 u4] np, slp⟩)
    (gB : PySem.W.nsIn K mainGlobals "BadTime" = some (some (.ref C)))
    (gN : PySem.W.nsIn K mainGlobals "NoText" = some (some (.ref N)))
    (xB : PySem.W.excIn K C [.type "ValueError", .type "Exception", .type "BaseException", .type "object"] "ValueError.__new__" = true)
    (kB : PySem.W.keepIn K (.ref C) = true)
    (bB : PySem.W.subIn K (.ref C) (.type "BaseException") = some true)
    (tB : PySem.W.typeIn K (.ref C) = some (.type "type"))
    (e1 : PySem.W.findIn K (.ref C) "__getattribute__" = some (some (.builtin "BaseException.__getattribute__")))
    (e2 : PySem.W.findIn K (.ref C) "__getattr__" = some none)
    (e4 : PySem.W.hasDictIn K C = true)
    (e5 : PySem.W.findIn K (.ref C) "__class__" = some (some (.builtin "object.__class__")))
    (e6 : PySem.W.specialIn K (.builtin "object.__class__") "__get__" = some (some (.builtin "getset_descriptor.__get__")))
    (e7 : PySem.W.takesIn K (.builtin "object.__class__") = some true)
    (e8 : PySem.W.mroIn K C (.type "object") = some true)
    (sB : PySem.W.subIn K (.ref C) (.ref C) = some true)
    (kt1 : PySem.W.kitOne K (.ref C) (.type "ValueError") = some true)
    (kt2 : PySem.W.kitOne K (.ref C) (.ref N) = some false) :
    ∃ fd : FuncData, (∀ (s : Shared) (v : Value), BindsTo s fd ⟨[v], []⟩ [("_law_script", v)]) ∧ ∀ base : Heap, K.In base → base.Ns mainGlobals mg → FnOk l.prog w K mg base CX0 5 fa fd ["_law_script"] (sp_law K) := by
  have e := hfa.symm.trans (PySem.W.mg_of X G a10)
  cases e
  have F0 := fun_mk (st := s_hour_of) l0 c0 k0
  have b0 := F0.binds (ps := ["minute"]) fun _ _ _ _ _ _ us hl => match us, hl with | [_], _ => rfl
  have F1 := fun_mk (st := s_shown) l1 c1 k1
  have b1 := F1.binds (ps := ["minute"]) fun _ _ _ _ _ _ us hl => match us, hl with | [_], _ => rfl
  have F2 := fun_mk (st := s_read_time) l2 c2 k2
  have b2 := F2.binds (ps := ["text"]) fun _ _ _ _ _ _ us hl => match us, hl with | [_], _ => rfl
  have F3 := fun_mk (st := s_has_figures) l3 c3 k3
  have b3 := F3.binds (ps := ["text"]) fun _ _ _ _ _ _ us hl => match us, hl with | [_], _ => rfl
  have F4 := fun_mk (st := s_law_bag) l4 c4 k4
  have b4 := F4.binds (ps := ["_law_script", "_law_at"]) fun _ _ _ _ _ _ us hl => match us, hl with | [_, _], _ => rfl
  have F5 := fun_mk (st := s_law_take) l5 c5 k5
  have b5 := F5.binds (ps := ["_law_bag_here", "_law_many"]) fun _ _ _ _ _ _ us hl => match us, hl with | [_, _], _ => rfl
  have F6 := fun_mk (st := s_law_text) l6 c6 k6
  have b6 := F6.binds (ps := ["_law_minute"]) fun _ _ _ _ _ _ us hl => match us, hl with | [_], _ => rfl
  have F7 := fun_mk (st := s_law_read) l7 c7 k7
  have b7 := F7.binds (ps := ["_law_text_here"]) fun _ _ _ _ _ _ us hl => match us, hl with | [_], _ => rfl
  have F8 := fun_mk (st := s_law_near) l8 c8 k8
  have b8 := F8.binds (ps := ["_law_bag_here", "_law_text_here"]) fun _ _ _ _ _ _ us hl => match us, hl with | [_, _], _ => rfl
  have F9 := fun_mk (st := s_law_told) l9 c9 k9
  have b9 := F9.binds (ps := ["_law_thing"]) fun _ _ _ _ _ _ us hl => match us, hl with | [_], _ => rfl
  have F10 := fun_mk (st := s_law) l10 c10 k10
  have b10 := F10.binds (ps := ["_law_script"]) fun _ _ _ _ _ _ us hl => match us, hl with | [_], _ => rfl
  have T : Txt mg := { z_len := PySem.W.mg_none_of X G z_len, z_abs := PySem.W.mg_none_of X G z_abs, z_all := PySem.W.mg_none_of X G z_all, z_str := PySem.W.mg_none_of X G z_str, z_int := PySem.W.mg_none_of X G z_int, z_isinstance := PySem.W.mg_none_of X G z_isinstance, z_range := PySem.W.mg_none_of X G z_range, z_max := PySem.W.mg_none_of X G z_max, z_min := PySem.W.mg_none_of X G z_min, z_bool := PySem.W.mg_none_of X G z_bool, z_ValueError := PySem.W.mg_none_of X G z_ValueError, g_LAST_MINUTE := ⟨_, PySem.W.mg_of X G g_LAST_MINUTE⟩, g_MINUTES_OF_DAY := ⟨_, PySem.W.mg_of X G g_MINUTES_OF_DAY⟩, g_MINUTES_OF_HOUR := ⟨_, PySem.W.mg_of X G g_MINUTES_OF_HOUR⟩, g_TEXT_LENGTH := ⟨_, PySem.W.mg_of X G g_TEXT_LENGTH⟩, g_FIGURES := ⟨_, PySem.W.mg_of X G g_FIGURES⟩ }
  have TP : Places K mg := ⟨fp, PySem.W.mg_of X G g_FP, fun H => .inr ⟨_, _, _, l_FP, rfl, rfl, (by show 5 ≤ sizeLine; decide), .cons ⟨_, rfl⟩ (.cons ⟨_, rfl⟩ (.cons ⟨_, rfl⟩ (.cons ⟨_, rfl⟩ (.cons ⟨_, rfl⟩ .nil))))⟩⟩
  have B : BT K mg C := ⟨PySem.W.mg_of X G gB, xB, kB, bB, tB⟩
  have B2 : BT2 K mg C N := ⟨PySem.W.mg_of X G gN, ⟨e1, e2, bB, e4, e5, e6, e7, e8⟩, PySem.W.exm_ref bB e4 tB sB, kt1, kt2⟩
  refine ⟨PySem.W.fnOf "law" "law" (defArgs s_law) (defBody s_law) (defScope s_law) .none kV10 dc10 pm10 an10 cd10 ct10, fun s v => .of_eq rfl, fun base _ _ => ?_⟩
  have C0 : Cal l.prog w K mg base 1 "hour_of" sp_hour_of := cal_mk (ok_hour_of F0 T) (PySem.W.mg_of X G a0) k0 b0
  have C1 : Cal l.prog w K mg base 2 "shown" sp_shown := cal_mk (ok_shown (k := 0) F1 T C0) (PySem.W.mg_of X G a1) k1 b1
  have C3 : Cal l.prog w K mg base 1 "has_figures" (sp_has_figures K) := cal_mk (ok_has_figures F3 T TP) (PySem.W.mg_of X G a3) k3 b3
  have C4 : Cal l.prog w K mg base 1 "_law_bag" (sp_law_bag K) := cal_mk (ok_law_bag F4 T) (PySem.W.mg_of X G a4) k4 b4
  have C5 : Cal l.prog w K mg base 1 "_law_take" sp_law_take := cal_mk (ok_law_take F5) (PySem.W.mg_of X G a5) k5 b5
  have C6 : Cal l.prog w K mg base 1 "_law_text" sp_law_text := cal_mk (ok_law_text F6 T) (PySem.W.mg_of X G a6) k6 b6
  have C7 : Cal l.prog w K mg base 2 "_law_read" sp_law_read := cal_mk (ok_law_read F7 T C6) (PySem.W.mg_of X G a7) k7 b7
  have C8 : Cal l.prog w K mg base 2 "_law_near" sp_law_near := cal_mk (ok_law_near F8 T C5) (PySem.W.mg_of X G a8) k8 b8
  have C9 : Cal l.prog w K mg base 4 "_law_told" (sp_law_told K) := cal_mk (ok_law_told F9 T B B2 (ok_read_time F2 T B C3 C1) (PySem.W.mg_of X G a2) k2 b2) (PySem.W.mg_of X G a9) k9 b9
  exact ok_law F10 T C4 C5 C6 C1 C9 C8 C7
end My

set_option Elab.async false
set_option linter.all false
open PySem PySem.W PyProof.Rows
set_option maxRecDepth 100000 in
set_option maxHeartbeats 0 in
theorem PySem.Challenge.cw_whistleboard_k01_minutes_shown_holds : PySem.Challenge.rw_whistleboard_k01_minutes_shown.Holds := by
  w_on; o_law; k_head; (case hw => w_witness2)
  k_fill
  refine L2.walk_ofK (l := PySem.Challenge.rw_whistleboard_k01_minutes_shown) (n := 63) (k := 5) (x := "_law_script") (CX := L2.CX0) (sp := My.sp_law) rfl (by decide) rfl ⟨rfl, by decide, by decide⟩ (fun w h Y => PySem.W.kIn_of Y) ?F (fun _ _ a ns hl _ hS => ⟨a, ns, rfl, hS, hl, fun _ => rfl⟩) (fun _ _ _ _ h => h)
  case F =>
    intro w mg fa h KX G hmg
    refine' My.all_mk KX G hmg ?a0 ?l0 ?c0 ?k0 ?a1 ?l1 ?c1 ?k1 ?a2 ?l2 ?c2 ?k2 ?a3 ?l3 ?c3 ?k3 ?a4 ?l4 ?c4 ?k4 ?a5 ?l5 ?c5 ?k5 ?a6 ?l6 ?c6 ?k6 ?a7 ?l7 ?c7 ?k7 ?a8 ?l8 ?c8 ?k8 ?a9 ?l9 ?c9 ?k9 ?a10 ?l10 ?c10 ?k10 ?z_len ?z_abs ?z_all ?z_str ?z_int ?z_isinstance ?z_range ?z_max ?z_min ?z_bool ?z_ValueError ?g_LAST_MINUTE ?g_MINUTES_OF_DAY ?g_MINUTES_OF_HOUR ?g_TEXT_LENGTH ?g_FIGURES ?g_FP ?l_FP ?gB ?gN ?xB ?kB ?bB ?tB ?e1 ?e2 ?e4 ?e5 ?e6 ?e7 ?e8 ?sB ?kt1 ?kt2
    (case a0 => k_is)
    (case l0 => k_is)
    (case c0 => k_is)
    (case k0 => k_is)
    (case a1 => k_is)
    (case l1 => k_is)
    (case c1 => k_is)
    (case k1 => k_is)
    (case a2 => k_is)
    (case l2 => k_is)
    (case c2 => k_is)
    (case k2 => k_is)
    (case a3 => k_is)
    (case l3 => k_is)
    (case c3 => k_is)
    (case k3 => k_is)
    (case a4 => k_is)
    (case l4 => k_is)
    (case c4 => k_is)
    (case k4 => k_is)
    (case a5 => k_is)
    (case l5 => k_is)
    (case c5 => k_is)
    (case k5 => k_is)
    (case a6 => k_is)
    (case l6 => k_is)
    (case c6 => k_is)
    (case k6 => k_is)
    (case a7 => k_is)
    (case l7 => k_is)
    (case c7 => k_is)
    (case k7 => k_is)
    (case a8 => k_is)
    (case l8 => k_is)
    (case c8 => k_is)
    (case k8 => k_is)
    (case a9 => k_is)
    (case l9 => k_is)
    (case c9 => k_is)
    (case k9 => k_is)
    (case a10 => k_is)
    (case l10 => k_is)
    (case c10 => k_is)
    (case k10 => k_is)
    (case z_len => k_is)
    (case z_abs => k_is)
    (case z_all => k_is)
    (case z_str => k_is)
    (case z_int => k_is)
    (case z_isinstance => k_is)
    (case z_range => k_is)
    (case z_max => k_is)
    (case z_min => k_is)
    (case z_bool => k_is)
    (case z_ValueError => k_is)
    (case g_LAST_MINUTE => k_is)
    (case g_MINUTES_OF_DAY => k_is)
    (case g_MINUTES_OF_HOUR => k_is)
    (case g_TEXT_LENGTH => k_is)
    (case g_FIGURES => k_is)
    (case g_FP => k_is)
    (case l_FP => k_is)
    (case gB => k_is)
    (case gN => k_is)
    (case xB => k_exc)
    (case kB => k_is)
    (case bB => k_is)
    (case tB => k_is)
    (case e1 => k_is)
    (case e2 => k_is)
    (case e4 => k_is)
    (case e5 => k_is)
    (case e6 => k_is)
    (case e7 => k_is)
    (case e8 => k_is)
    (case sB => first | k_is | rfl | decide +kernel)
    (case kt1 => first | k_is | rfl | decide +kernel)
    (case kt2 => first | k_is | rfl | decide +kernel)
