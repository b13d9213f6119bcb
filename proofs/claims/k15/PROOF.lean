import PyProof.Rows.All
import Wide.All
import OpenK.AllK
import Wide.FinOn
import PySem.Challenge.RW_whistleboard_k15_what_are_hands
import HandS.ForMost
import HandS.ForExc
import HandS.Flow
import HandS.IsInst
import HandS.More
import HandS.Walk
import HandS.Zip
import HandS.Defaults
import HandS.CallSlots
import HandS.MakeKw
import HandS.FStr
import HandS.ExcInit
import HandS.TupAny
import HandS.Deep
import KE.GoesEnum
import KE.GoesMore
import KE.SortData
import HandS.SetKeys
import HandS.SetBool
import HandS.MakeKwOnly
import HandS.Style
import PyProof.Rows.IntBool
set_option Elab.async false
set_option linter.all false
set_option maxRecDepth 100000
set_option maxHeartbeats 4000000
/-! The data layer: values as trees (W), a store of what may change (Sto), readings over these. -/
namespace DL
open PySem PySem.Spec PyProof.Rows L2

inductive W where
  | non | bl (b : Bool) | int (i : Int) | str (x : Str) | ty (n : String)
  | tup (xs : List W) | lst (xs : List W) | scr (ns : List Int)
  | dct (ks : List Key) (xs : List W) | ins (C : Addr) (ns : List Str) (xs : List W)
  | ref (a : Addr)
inductive WO where
  | lst (xs : List W) | dK (kvs : List (Key × W)) | dT (kvs : List (List Key × W)) | ins (C dx : Addr) (fs : List (Str × W)) | own (x : Addr) | tup (xs : List W)
abbrev Sto := Addr → Option WO
def up (S : Sto) (a : Addr) (o : WO) : Sto := fun b => if b = a then some o else S b
theorem up_same {S : Sto} {a : Addr} {o : WO} : up S a o a = some o := by unfold up; rw [if_pos rfl]
theorem up_ne {S : Sto} {a b : Addr} {o : WO} (h : b ≠ a) : up S a o b = S b := by unfold up; rw [if_neg h]
theorem up_up {S : Sto} {a : Addr} {o u : WO} : up (up S a o) a u = up S a u := by
  funext b; unfold up; split <;> rfl
def del (S : Sto) (a : Addr) : Sto := fun b => if b = a then none else S b
theorem del_same {S : Sto} {a : Addr} : del S a a = none := by unfold del; rw [if_pos rfl]
theorem del_ne {S : Sto} {a b : Addr} (h : b ≠ a) : del S a b = S b := by unfold del; rw [if_neg h]
theorem del_new {S : Sto} {a : Addr} {o : WO} (h : S a = none) : del (up S a o) a = S := by
  funext b
  by_cases e : b = a
  · subst e; rw [del_same, h]
  · rw [del_ne e, up_ne e]
theorem sne {S : Sto} {a b : Addr} {o : WO} (h : S a = some o) (h' : S b = none) : a ≠ b := by
  intro e; subst e; rw [h] at h'; cases h'
theorem sne2 {S : Sto} {a b : Addr} {o u : WO} (h : S a = some o) (h' : S b = some u) (d : o ≠ u) : a ≠ b := by
  intro e; subst e; rw [h] at h'; exact d (Option.some.inj h')

/-- a text as texts are: its signs, its length -/
def svb (x : Str) : Bool := x.cps.all (fun c => decide (c < 1114112)) && decide (x.length ≤ sizeLine)
abbrev sv (x : Str) : Prop := svb x = true
theorem sv_iff {x : Str} : sv x ↔ (∀ c ∈ x.cps.toList, c < 1114112) ∧ x.length ≤ sizeLine := by
  unfold sv svb
  rw [Bool.and_eq_true, ← Array.all_toList, List.all_eq_true]
  constructor
  · intro h; exact ⟨fun c hc => of_decide_eq_true (h.1 c hc), of_decide_eq_true h.2⟩
  · intro h; exact ⟨fun c hc => decide_eq_true (h.1 c hc), decide_eq_true h.2⟩
/-- where the script stands -/
def ScrAt (K : PySem.W.Frag) (S : Sto) (H : Hp) (a : Addr) (ns : List Int) : Prop := (∃ o, H a = some (.frz o (.lst (ns.map V.int))) ∧ S a = none) ∨ ∃ (o : Obj) (its : Array Value) (n : Nat), K.lookup a = some o ∧ o.cls = .type "list" ∧ o.dict = none ∧ o.data = .seq its n ∧ its.size ≤ sizeLine ∧ Vals (ns.map V.int) its.toList
mutual
inductive RW (K : PySem.W.Frag) (S : Sto) (H : Hp) : W → V → Prop
  | non : RW K S H .non .non
  | bl (b : Bool) : RW K S H (.bl b) (.bl b)
  | int (i : Int) : RW K S H (.int i) (.int i)
  | str (x : Str) (ok : sv x) : RW K S H (.str x) (.str x)
  | ty (n : String) : RW K S H (.ty n) (.ty n)
  | tup {a : Addr} {ws : List W} {vs : List V} (h : H a = some (.tup vs)) (n : S a = none) (r : RWs K S H ws vs) : RW K S H (.tup ws) (.ref a)
  | tupK {a : Addr} {ws : List W} {vs : List V} (h : ∃ (o : Obj) (its : Array Value) (n : Nat), K.lookup a = some o ∧ o.cls = .type "tuple" ∧ o.data = .seq its n ∧ its.size ≤ sizeLine ∧ Vals vs its.toList) (r : RWs K S H ws vs) : RW K S H (.tup ws) (.ref a)
  | lst {a : Addr} {ws : List W} {vs : List V} (h : H a = some (.lst vs)) (n : S a = none) (r : RWs K S H ws vs) : RW K S H (.lst ws) (.ref a)
  | scr {a : Addr} {ns : List Int} (h : ScrAt K S H a ns) : RW K S H (.scr ns) (.ref a)
  | dct {a : Addr} {ks : List Key} {ws : List W} {vs : List V} (h : Rd H a (.dK (ks.zip vs))) (n : S a = none) (e : ks.length = vs.length) (r : RWs K S H ws vs) : RW K S H (.dct ks ws) (.ref a)
  | ins {a C dx : Addr} {ns : List Str} {ws : List W} {vs : List V} (h : H a = some (.ins C dx (ns.zip vs))) (o : H dx = some (.own a)) (n : S a = none) (m : S dx = none) (e : ns.length = vs.length) (r : RWs K S H ws vs) : RW K S H (.ins C ns ws) (.ref a)
  | ref (a : Addr) : RW K S H (.ref a) (.ref a)
inductive RWs (K : PySem.W.Frag) (S : Sto) (H : Hp) : List W → List V → Prop
  | nil : RWs K S H [] []
  | cons {w : W} {v : V} {ws : List W} {vs : List V} (h : RW K S H w v) (t : RWs K S H ws vs) : RWs K S H (w :: ws) (v :: vs)
end
/-- pairs of a name (a key) and a value -/
abbrev RWp {κ : Type} (K : PySem.W.Frag) (S : Sto) (H : Hp) : List (κ × W) → List (κ × V) → Prop := Paired fun p q => p.1 = q.1 ∧ RW K S H p.2 q.2

/-- what stands and is not of the store stays so -/
structure Nx (S : Sto) (H : Hp) (S' : Sto) (H' : Hp) : Prop where
  keep : ∀ b o, H b = some o → S b = none → H' b = some o
  dom : ∀ b o, H b = some o → S b = none → S' b = none
theorem Nx.refl {S : Sto} {H : Hp} : Nx S H S H := ⟨fun _ _ h _ => h, fun _ _ _ h => h⟩
theorem Nx.trans {S S1 S2 : Sto} {H H1 H2 : Hp} (a : Nx S H S1 H1) (b : Nx S1 H1 S2 H2) : Nx S H S2 H2 :=
  ⟨fun x o h n => b.keep x o (a.keep x o h n) (a.dom x o h n), fun x o h n => b.dom x o (a.keep x o h n) (a.dom x o h n)⟩
section
variable {K : PySem.W.Frag} {S S' : Sto} {H H' : Hp}
mutual
theorem RW.mono (x : Nx S H S' H') : ∀ {w : W} {v : V}, RW K S H w v → RW K S' H' w v
  | _, _, .non => .non
  | _, _, .bl b => .bl b
  | _, _, .int i => .int i
  | _, _, .str y ok => .str y ok
  | _, _, .ty n => .ty n
  | _, _, .tup h n r => .tup (x.keep _ _ h n) (x.dom _ _ h n) (RWs.mono x r)
  | _, _, .tupK h r => .tupK h (RWs.mono x r)
  | _, _, .lst h n r => .lst (x.keep _ _ h n) (x.dom _ _ h n) (RWs.mono x r)
  | _, _, .scr h => .scr (h.elim (fun ⟨o, z, n⟩ => .inl ⟨o, x.keep _ _ z n, x.dom _ _ z n⟩) .inr)
  | _, _, .dct h n e r => .dct (h.elim (fun z => .inl (x.keep _ _ z n)) fun ⟨o, z⟩ => .inr ⟨o, x.keep _ _ z n⟩) (h.elim (fun z => x.dom _ _ z n) fun ⟨o, z⟩ => x.dom _ _ z n) e (RWs.mono x r)
  | _, _, .ins h o n m e r => .ins (x.keep _ _ h n) (x.keep _ _ o m) (x.dom _ _ h n) (x.dom _ _ o m) e (RWs.mono x r)
  | _, _, .ref a => .ref a
theorem RWs.mono (x : Nx S H S' H') : ∀ {ws : List W} {vs : List V}, RWs K S H ws vs → RWs K S' H' ws vs
  | _, _, .nil => .nil
  | _, _, .cons h t => .cons (RW.mono x h) (RWs.mono x t)
end
theorem RWp.mono {κ : Type} (x : Nx S H S' H') {fs : List (κ × W)} {gs : List (κ × V)} (h : RWp K S H fs gs) : RWp K S' H' fs gs := Paired.mapP h fun _ _ r => ⟨r.1, r.2.mono x⟩
theorem RWs.len : ∀ {ws : List W} {vs : List V}, RWs K S H ws vs → ws.length = vs.length
  | _, _, .nil => rfl
  | _, _, .cons _ t => congrArg Nat.succ (RWs.len t)
theorem RWs.app : ∀ {ws us : List W} {vs zs : List V}, RWs K S H ws vs → RWs K S H us zs → RWs K S H (ws ++ us) (vs ++ zs)
  | _, _, _, _, .nil, t => t
  | _, _, _, _, .cons h r, t => .cons h (RWs.app r t)
theorem RWs.get : ∀ {ws : List W} {vs : List V} {i : Nat} {w : W}, RWs K S H ws vs → ws[i]? = some w → ∃ v, vs[i]? = some v ∧ RW K S H w v
  | _, _, i, _, .nil, e => by simp at e
  | _, _, 0, _, .cons h _, e => by simp at e; subst e; exact ⟨_, rfl, h⟩
  | _, _, i + 1, w, .cons _ t, e => RWs.get (i := i) t (by simpa using e)
theorem RWs.get' : ∀ {ws : List W} {vs : List V} {i : Nat} {v : V}, RWs K S H ws vs → vs[i]? = some v → ∃ w, ws[i]? = some w ∧ RW K S H w v
  | _, _, i, _, .nil, e => by simp at e
  | _, _, 0, _, .cons h _, e => by simp at e; subst e; exact ⟨_, rfl, h⟩
  | _, _, i + 1, w, .cons _ t, e => RWs.get' (i := i) t (by simpa using e)
theorem RWs.set {w : W} {v : V} (h : RW K S H w v) : ∀ {ws : List W} {vs : List V} (i : Nat), RWs K S H ws vs → RWs K S H (ws.set i w) (vs.set i v)
  | _, _, _, .nil => .nil
  | _, _, 0, .cons _ t => .cons h t
  | _, _, i + 1, .cons q t => .cons q (RWs.set h i t)
theorem RWs.drop : ∀ {ws : List W} {vs : List V} (n : Nat), RWs K S H ws vs → RWs K S H (ws.drop n) (vs.drop n)
  | _, _, 0, r => r
  | _, _, _ + 1, .nil => .nil
  | _, _, n + 1, .cons _ t => RWs.drop n t
theorem RWs.take : ∀ {ws : List W} {vs : List V} (n : Nat), RWs K S H ws vs → RWs K S H (ws.take n) (vs.take n)
  | _, _, 0, _ => .nil
  | _, _, _ + 1, .nil => .nil
  | _, _, n + 1, .cons h t => .cons h (RWs.take n t)
theorem RWs.reverse {ws : List W} {vs : List V} (r : RWs K S H ws vs) : RWs K S H ws.reverse vs.reverse := by
  induction ws generalizing vs with
  | nil => cases r; exact .nil
  | cons w ws ih =>
    cases r with
    | cons h t =>
      rw [List.reverse_cons, List.reverse_cons]
      exact (ih t).app (.cons h .nil)
theorem RWs.ints (ns : List Int) : RWs K S H (ns.map W.int) (ns.map V.int) := by
  induction ns with
  | nil => exact .nil
  | cons n ns ih => exact .cons (.int n) ih
theorem RWs.ints_inv : ∀ {ns : List Int} {vs : List V}, RWs K S H (ns.map W.int) vs → vs = ns.map V.int
  | [], _, .nil => rfl
  | n :: ns, _, .cons h t => by cases h; rw [RWs.ints_inv t]; rfl
theorem RWs.bls_inv : ∀ {ns : List Bool} {vs : List V}, RWs K S H (ns.map W.bl) vs → vs = ns.map V.bl
  | [], _, .nil => rfl
  | n :: ns, _, .cons h t => by cases h; rw [RWs.bls_inv t]; rfl
theorem RWs.strs {ns : List Str} (h : ∀ x ∈ ns, sv x) : RWs K S H (ns.map W.str) (ns.map V.str) := by
  induction ns with
  | nil => exact .nil
  | cons n ns ih => exact .cons (.str n (h n (List.mem_cons_self ..))) (ih fun x hx => h x (List.mem_cons_of_mem _ hx))
theorem RWs.strs_inv : ∀ {ns : List Str} {vs : List V}, RWs K S H (ns.map W.str) vs → vs = ns.map V.str
  | [], _, .nil => rfl
  | n :: ns, _, .cons h t => by cases h; rw [RWs.strs_inv t]; rfl
theorem RWp.fst {κ : Type} {fs : List (κ × W)} {gs : List (κ × V)} (r : RWp K S H fs gs) : fs.map (·.1) = gs.map (·.1) := by
  induction r with
  | nil => rfl
  | cons h t ih => simp only [List.map_cons, h.1, ih]
theorem RWp.snd {κ : Type} {fs : List (κ × W)} {gs : List (κ × V)} (r : RWp K S H fs gs) : RWs K S H (fs.map (·.2)) (gs.map (·.2)) := by
  induction r with
  | nil => exact .nil
  | cons h t ih => exact .cons h.2 ih
theorem RWp.len {κ : Type} {fs : List (κ × W)} {gs : List (κ × V)} (r : RWp K S H fs gs) : fs.length = gs.length := Paired.length r
theorem RWp.zip {κ : Type} {ks : List κ} {ws : List W} {vs : List V} (e : ks.length = vs.length) (r : RWs K S H ws vs) : RWp K S H (ks.zip ws) (ks.zip vs) := by
  induction ks generalizing ws vs with
  | nil => exact .nil
  | cons k ks ih =>
    cases r with
    | nil => cases e
    | cons h t => exact .cons ⟨rfl, h⟩ (ih (by simpa using e) t)
theorem RWp.look {κ : Type} [BEq κ] [LawfulBEq κ] {fs : List (κ × W)} {gs : List (κ × V)} {f : κ} {w : W} (r : RWp K S H fs gs) (e : fs.lookup f = some w) : ∃ v, gs.lookup f = some v ∧ RW K S H w v := by
  induction r with
  | nil => cases e
  | @cons p q fs gs h t ih =>
    obtain ⟨p1, p2⟩ := p
    obtain ⟨q1, q2⟩ := q
    obtain ⟨h1, h2⟩ := h
    simp only at h1 h2
    subst h1
    rw [List.lookup_cons] at e ⊢
    cases hb : f == p1 with
    | true => rw [hb] at e; simp only at e ⊢; cases e; exact ⟨_, rfl, h2⟩
    | false => rw [hb] at e; simp only at e ⊢; exact ih e
theorem RWp.lookN {κ : Type} [BEq κ] [LawfulBEq κ] {fs : List (κ × W)} {gs : List (κ × V)} {f : κ} (r : RWp K S H fs gs) (e : fs.lookup f = none) : gs.lookup f = none := by
  induction r with
  | nil => rfl
  | @cons p q fs gs h t ih =>
    obtain ⟨p1, p2⟩ := p
    obtain ⟨q1, q2⟩ := q
    obtain ⟨h1, h2⟩ := h
    simp only at h1 h2
    subst h1
    rw [List.lookup_cons] at e ⊢
    cases hb : f == p1 with
    | true => rw [hb] at e; cases e
    | false => rw [hb] at e; simp only at e ⊢; exact ih e
end

/-- an object of the store and what stands there -/
inductive RO (K : PySem.W.Frag) (S : Sto) (H : Hp) (a : Addr) : WO → Prop
  | lst {ws : List W} {vs : List V} (h : H a = some (.lst vs)) (r : RWs K S H ws vs) : RO K S H a (.lst ws)
  | dK {kvs : List (Key × W)} {gs : List (Key × V)} (h : H a = some (.dK gs)) (r : RWp K S H kvs gs) : RO K S H a (.dK kvs)
  | dT {kvs : List (List Key × W)} {gs : List (List Key × V)} (h : H a = some (.dT gs)) (r : RWp K S H kvs gs) : RO K S H a (.dT kvs)
  | ins {C dx : Addr} {fs : List (Str × W)} {gs : List (Str × V)} (h : H a = some (.ins C dx gs)) (m : S dx = some (.own a)) (r : RWp K S H fs gs) : RO K S H a (.ins C dx fs)
  | own {x : Addr} (h : H a = some (.own x)) : RO K S H a (.own x)
  | tup {ws : List W} {vs : List V} (h : H a = some (.tup vs)) (r : RWs K S H ws vs) : RO K S H a (.tup ws)
def Rel (K : PySem.W.Frag) (S : Sto) (H : Hp) : Prop := ∀ a o, S a = some o → RO K S H a o
section
variable {K : PySem.W.Frag} {S S' : Sto} {H H' : Hp} {a b : Addr}
theorem Rel.ne (r : Rel K S H) {o : WO} (h : S a = some o) (n : H b = none) : b ≠ a := by
  intro e; subst e
  cases r _ _ h with
  | lst q _ => rw [n] at q; cases q
  | dK q _ => rw [n] at q; cases q
  | dT q _ => rw [n] at q; cases q
  | ins q _ _ => rw [n] at q; cases q
  | own q => rw [n] at q; cases q
  | tup q _ => rw [n] at q; cases q
theorem Rel.free (r : Rel K S H) (n : H b = none) : S b = none := by
  cases h : S b with
  | none => rfl
  | some o => exact absurd rfl (r.ne h n)
theorem RO.mono {o : WO} (x : Nx S H S' H') (h : RO K S H a o) (ha : H' a = H a) (hd : ∀ d, S d = some (.own a) → S' d = some (.own a)) : RO K S' H' a o := by
  cases h with
  | lst h r => exact .lst (ha.trans h) (r.mono x)
  | dK h r => exact .dK (ha.trans h) (RWp.mono x r)
  | dT h r => exact .dT (ha.trans h) (RWp.mono x r)
  | ins h m r => exact .ins (ha.trans h) (hd _ m) (RWp.mono x r)
  | own h => exact .own (ha.trans h)
  | tup h r => exact .tup (ha.trans h) (r.mono x)
/-- a new object beside the store -/
theorem Nx.new {o : HO} (n : H a = none) : Nx S H S (upd H a o) := ⟨fun b u h _ => by rw [upd_ne (ne_of_none h n)]; exact h, fun _ _ _ h => h⟩
theorem Rel.new {o : HO} (r : Rel K S H) (n : H a = none) : Rel K S (upd H a o) := fun b u h => (r b u h).mono (Nx.new n) (upd_ne fun e => (r.ne h n) e.symm) fun _ h => h
/-- a new object of the store -/
theorem Nx.newS {o : HO} {u : WO} (n : H a = none) : Nx S H (up S a u) (upd H a o) := ⟨fun b u h _ => by rw [upd_ne (ne_of_none h n)]; exact h, fun b _ h q => by rw [up_ne (ne_of_none h n)]; exact q⟩
theorem Rel.newS {o : HO} {u : WO} (r : Rel K S H) (n : H a = none) (h : RO K (up S a u) (upd H a o) a u) : Rel K (up S a u) (upd H a o) := fun b u' q => by
  by_cases e : b = a
  · subst e; rw [up_same] at q; cases q; exact h
  · rw [up_ne e] at q
    refine (r b u' q).mono (Nx.newS n) (upd_ne e) fun d hd => ?_
    rw [up_ne fun e => r.ne hd n e.symm]
    exact hd
/-- an object of the store changes -/
theorem Nx.wr {o : HO} {u u' : WO} (h : S a = some u) : Nx S H (up S a u') (upd H a o) :=
  ⟨fun b _ hb q => by rw [upd_ne fun e => by subst e; rw [h] at q; cases q]; exact hb, fun b _ _ q => by rw [up_ne fun e => by subst e; rw [h] at q; cases q]; exact q⟩
theorem Rel.wr {o : HO} {u u' : WO} (r : Rel K S H) (h : S a = some u) (hn : ∀ x, u ≠ .own x) (q : RO K (up S a u') (upd H a o) a u') : Rel K (up S a u') (upd H a o) := fun b v hb => by
  by_cases e : b = a
  · subst e; rw [up_same] at hb; cases hb; exact q
  · rw [up_ne e] at hb
    refine (r b v hb).mono (Nx.wr h) (upd_ne e) fun d hd => ?_
    rw [up_ne fun e => by subst e; rw [h] at hd; cases hd; exact hn _ rfl]
    exact hd
/-- anything but an instance's own dict may be forgotten -/
theorem Nx.forget : Nx S H (del S a) H := ⟨fun _ _ h _ => h, fun b o _ n => by
    by_cases e : b = a
    · subst e; exact del_same
    · rw [del_ne e]; exact n⟩
theorem Rel.forget {o : WO} (r : Rel K S H) (h : S a = some o) (hn : ∀ x, o ≠ .own x) : Rel K (del S a) H := fun b u hb => by
  have hne : b ≠ a := fun e => by subst e; rw [del_same] at hb; cases hb
  rw [del_ne hne] at hb
  refine (r b u hb).mono Nx.forget rfl fun d hd => ?_
  rw [del_ne fun e => by subst e; rw [h] at hd; cases hd; exact hn _ rfl]
  exact hd

end
/-! ### readings -/
/-- an exception: its class, its fields, the slots, the store -/
abbrev XD := Value → Option (List (Str × W)) → List (Option W) → Sto → Prop
/-- the slots, and what is wanted of an exception -/
structure Om where
  s : List (Option W)
  ex : XD
def Om.set (ω : Om) (i : Nat) (w : Option W) : Om := ⟨ω.s.set i w, ω.ex⟩
abbrev WQ := W → Sto → Prop
abbrev DE' := Om → Sto → WQ → Prop
abbrev DT' := Om → Sto → (Bool → Sto → Prop) → Prop
abbrev DA' := Om → Sto → (List W → Sto → Prop) → Prop
structure Out where
  nx : Om → Sto → Prop
  rt : WQ
  bk : Om → Sto → Prop := fun _ _ => False
  ct : Om → Sto → Prop := fun _ _ => False
abbrev DS' := Out → Om → Sto → Prop
structure RS (K : PySem.W.Frag) (S : Sto) (H : Hp) (σ : L2.St) (ω : List (Option W)) : Prop where
  len : σ.length = ω.length
  at' : ∀ (i : Nat) (w : W), ω[i]? = some (some w) → ∃ v, σ[i]? = some (some v) ∧ RW K S H w v
section
variable {K : PySem.W.Frag} {S S' : Sto} {H H' : Hp} {σ : L2.St} {ω : List (Option W)}
theorem RS.mono (x : Nx S H S' H') (r : RS K S H σ ω) : RS K S' H' σ ω := ⟨r.len, fun i w h => let ⟨v, e, q⟩ := r.at' i w h; ⟨v, e, q.mono x⟩⟩
theorem RS.set {w : W} {v : V} (r : RS K S H σ ω) (h : RW K S H w v) (i : Nat) : RS K S H (σ.set i (some v)) (ω.set i (some w)) := by
  refine ⟨by rw [List.length_set, List.length_set]; exact r.len, fun j u e => ?_⟩
  by_cases hj : i = j
  · subst hj
    rw [List.getElem?_set] at e ⊢
    simp only [if_true] at e ⊢
    by_cases hl : i < ω.length
    · rw [if_pos hl] at e
      cases e
      rw [if_pos (by rw [r.len]; exact hl)]
      exact ⟨v, rfl, h⟩
    · rw [if_neg hl] at e; cases e
  · rw [List.getElem?_set_ne hj] at e ⊢
    exact r.at' j u e
end
/-- the fields of an exception -/
def Xr (K : PySem.W.Frag) (S : Sto) (H : Hp) : Option (List (Str × W)) → Option Addr → Prop
  | none, none => True
  | some fs, some d => ∃ gs, H d = some (.xd gs) ∧ S d = none ∧ RWp K S H fs gs
  | _, _ => False
def FinW (K : PySem.W.Frag) (Z : WX) (S : Sto) (H : Hp) (ex : XD) : Prop := ∀ c fs l S' σ' H' d, Nx S H S' H' → Rel K S' H' → RS K S' H' σ' l → Xr K S' H' fs d → ex c fs l S' → Z c d σ' H'
def XF : XD := fun _ _ _ _ => False
abbrev Z0 : WX := fun _ _ _ _ => False
theorem FinW.to {K : PySem.W.Frag} {Z : WX} {S S' : Sto} {H H' : Hp} {ex : XD} (f : FinW K Z S H ex) (x : Nx S H S' H') : FinW K Z S' H' ex := fun c fs l S2 σ2 H2 d y => f c fs l S2 σ2 H2 d (x.trans y)
theorem FinW.zero {K : PySem.W.Frag} {Z : WX} {S : Sto} {H : Hp} : FinW K Z S H XF := fun _ _ _ _ _ _ _ _ _ _ _ h => h.elim
/-- one state of both -/
structure At (K : PySem.W.Frag) (Z : WX) (S : Sto) (H : Hp) (σ : L2.St) (ω : Om) : Prop where
  rel : Rel K S H
  rs : RS K S H σ ω.s
  fx : FinW K Z S H ω.ex
theorem At.to {K : PySem.W.Frag} {Z : WX} {S S' : Sto} {H H' : Hp} {σ : L2.St} {ω : Om} (a : At K Z S H σ ω) (x : Nx S H S' H') (r : Rel K S' H') : At K Z S' H' σ ω := ⟨r, a.rs.mono x, a.fx.to x⟩
/-- the end of an expression -/
def Fin (K : PySem.W.Frag) (S : Sto) (H : Hp) (Qd : WQ) (Q : VK) : Prop := ∀ w S' v H', Nx S H S' H' → Rel K S' H' → RW K S' H' w v → Qd w S' → Q v H'
def uE (K : PySem.W.Frag) (Z : WX) (td : DE') : TE := fun σ H Q => ∃ ω S Qd, At K Z S H σ ω ∧ td ω S Qd ∧ Fin K S H Qd Q
def uT (K : PySem.W.Frag) (Z : WX) (td : DT') : TT := fun σ H Q => ∃ (ω : Om) (S : Sto) (Qd : Bool → Sto → Prop), At K Z S H σ ω ∧ td ω S Qd ∧ ∀ b S' H', Nx S H S' H' → Rel K S' H' → Qd b S' → Q b H'
def uA (K : PySem.W.Frag) (Z : WX) (td : DA') : TA := fun σ H Q => ∃ (ω : Om) (S : Sto) (Qd : List W → Sto → Prop), At K Z S H σ ω ∧ td ω S Qd ∧ ∀ ws S' vs H', Nx S H S' H' → Rel K S' H' → RWs K S' H' ws vs → Qd ws S' → Q vs H'
structure FinS (K : PySem.W.Frag) (Z : WX) (S : Sto) (H : Hp) (Dd : Out) (D : Ends) : Prop where
  nx : ∀ ω' S' σ' H', Nx S H S' H' → At K Z S' H' σ' ω' → Dd.nx ω' S' → D.nx σ' H'
  rt : ∀ w S' v H', Nx S H S' H' → Rel K S' H' → RW K S' H' w v → Dd.rt w S' → D.rt v H'
  bk : ∀ ω' S' σ' H', Nx S H S' H' → At K Z S' H' σ' ω' → Dd.bk ω' S' → D.bk σ' H'
  ct : ∀ ω' S' σ' H', Nx S H S' H' → At K Z S' H' σ' ω' → Dd.ct ω' S' → D.ct σ' H'
theorem FinS.to {K : PySem.W.Frag} {Z : WX} {S S' : Sto} {H H' : Hp} {Dd : Out} {D : Ends} (f : FinS K Z S H Dd D) (x : Nx S H S' H') : FinS K Z S' H' Dd D :=
  ⟨fun ω' S2 σ' H2 y => f.nx ω' S2 σ' H2 (x.trans y), fun w S2 v H2 y => f.rt w S2 v H2 (x.trans y), fun ω' S2 σ' H2 y => f.bk ω' S2 σ' H2 (x.trans y), fun ω' S2 σ' H2 y => f.ct ω' S2 σ' H2 (x.trans y)⟩
def uS (K : PySem.W.Frag) (Z : WX) (td : DS') : TS := fun D σ H => ∃ ω S Dd, At K Z S H σ ω ∧ td Dd ω S ∧ FinS K Z S H Dd D
theorem PE.im {X : Cx} {e : Expr} {t t' : TE} (h : PE X e t) (i : ∀ σ H Q, t' σ H Q → t σ H Q) : PE X e t' := ⟨fun pins s σ H Q I q => h.run pins s σ H Q I (i σ H Q q)⟩
theorem PT.im {X : Cx} {e : Expr} {t t' : TT} (h : PT X e t) (i : ∀ σ H Q, t' σ H Q → t σ H Q) : PT X e t' := ⟨fun pins s σ H Q I q => h.run pins s σ H Q I (i σ H Q q)⟩
theorem PW.im {X : Cx} {e : Expr} {t t' : TT} (h : PW X e t) (i : ∀ σ H Q, t' σ H Q → t σ H Q) : PW X e t' := ⟨fun wh pins s σ H Q I q => h.run wh pins s σ H Q I (i σ H Q q)⟩
theorem PA.im {X : Cx} {e : List Expr} {t t' : TA} (h : PA X e t) (i : ∀ σ H Q, t' σ H Q → t σ H Q) : PA X e t' := ⟨fun pos pins s σ H Q I q => h.run pos pins s σ H Q I (i σ H Q q)⟩
theorem PK.im {X : Cx} {e : List Keyword} {t t' : TA} (h : PK X e t) (i : ∀ σ H Q, t' σ H Q → t σ H Q) : PK X e t' := ⟨fun pos pins s σ H Q I q => h.run pos pins s σ H Q I (i σ H Q q)⟩
theorem PS.im {X : Cx} {e : Stmt} {t t' : TS} (h : PS X e t) (i : ∀ D σ H, t' D σ H → t D σ H) : PS X e t' := ⟨fun pins s σ H D I q => h.run pins s σ H D I (i D σ H q)⟩
theorem PSs.im {X : Cx} {e : List Stmt} {t t' : TS} (h : PSs X e t) (i : ∀ D σ H, t' D σ H → t D σ H) : PSs X e t' := ⟨fun pins s σ H D I q => h.run pins s σ H D I (i D σ H q)⟩
abbrev DE (X : Cx) (Z : WX) (e : Expr) (td : DE') : Prop := PE X e (uE X.K Z td)
abbrev DT (X : Cx) (Z : WX) (e : Expr) (td : DT') : Prop := PT X e (uT X.K Z td)
abbrev DWt (X : Cx) (Z : WX) (e : Expr) (td : DT') : Prop := PW X e (uT X.K Z td)
abbrev DA (X : Cx) (Z : WX) (e : List Expr) (td : DA') : Prop := PA X e (uA X.K Z td)
abbrev DKw (X : Cx) (Z : WX) (e : List Keyword) (td : DA') : Prop := PK X e (uA X.K Z td)
abbrev DS (X : Cx) (Z : WX) (e : Stmt) (td : DS') : Prop := PS X e (uS X.K Z td)
abbrev DSs (X : Cx) (Z : WX) (e : List Stmt) (td : DS') : Prop := PSs X e (uS X.K Z td)
end DL

set_option Elab.async false
set_option linter.all false
set_option maxRecDepth 100000
set_option maxHeartbeats 4000000
namespace DL
open PySem PySem.Spec PyProof.Rows L2

theorem sz_of {n : Nat} (h : n ≤ 1000000) : n ≤ sizeLine := Nat.le_trans h (by decide)
theorem sz_lt {n : Nat} (h : n < 1000000) : n < sizeLine := Nat.lt_of_lt_of_le h (by decide)
/-! ### what a value of the store is to be read as -/
def view (S : Sto) : W → W
  | .ref a => match S a with
    | some (.lst xs) => .lst xs
    | some (.dK kvs) => .dct (kvs.map (·.1)) (kvs.map (·.2))
    | _ => .ref a
  | w => w
section
variable {K : PySem.W.Frag} {S : Sto} {H : Hp} {w : W} {v : V} {xs : List W}
theorem view_lst (r : Rel K S H) (h : RW K S H w v) (e : view S w = .lst xs) : ∃ a vs, v = .ref a ∧ H a = some (.lst vs) ∧ RWs K S H xs vs := by
  cases h <;> simp only [view] at e <;> try cases e
  case lst a vs h n q => exact ⟨_, _, rfl, h, q⟩
  case ref a =>
    split at e
    · rename_i ys hs
      cases e
      cases r _ _ hs with
      | lst h q => exact ⟨_, _, rfl, h, q⟩
    all_goals cases e
theorem zip_prod {κ : Type} : ∀ kvs : List (κ × W), (kvs.map (·.1)).zip (kvs.map (·.2)) = kvs
  | [] => rfl
  | (k, w) :: t => by rw [List.map_cons, List.map_cons, List.zip_cons_cons, zip_prod t]
theorem view_dct {ks : List Key} (r : Rel K S H) (h : RW K S H w v) (e : view S w = .dct ks xs) : ∃ a gs, v = .ref a ∧ Rd H a (.dK gs) ∧ RWp K S H (ks.zip xs) gs ∧ ks.length = xs.length := by
  cases h <;> simp only [view] at e <;> try cases e
  case dct => exact ⟨_, _, rfl, by assumption, RWp.zip (by assumption) (by assumption), (by assumption : _ = _).trans (RWs.len (by assumption)).symm⟩
  case ref a =>
    split at e
    · cases e
    · rename_i kvs hs
      cases e
      cases r _ _ hs with
      | dK h q => exact ⟨_, _, rfl, .inl h, by rw [zip_prod]; exact q, by simp⟩
    · cases e
theorem view_dctR {a : Addr} {ks : List Key} (r : Rel K S H) (e : view S (.ref a) = .dct ks xs) : ∃ gs, H a = some (.dK gs) ∧ RWp K S H (ks.zip xs) gs ∧ ks.length = xs.length := by
  simp only [view] at e
  split at e
  · cases e
  · rename_i kvs hs
    cases e
    cases r _ _ hs with
    | dK h q => exact ⟨_, h, by rw [zip_prod]; exact q, by simp⟩
  · cases e
theorem view_tup (h : RW K S H w v) (e : view S w = .tup xs) : ∃ a vs, v = .ref a ∧ SqT K H a vs ∧ RWs K S H xs vs := by
  cases h <;> simp only [view] at e <;> try cases e
  case tup a vs h n q => exact ⟨_, _, rfl, .inl (.inl h), q⟩
  case tupK a vs h q => exact ⟨_, _, rfl, .inr h, q⟩
  case ref a => split at e <;> cases e
theorem view_scr {ns : List Int} (h : RW K S H w v) (e : view S w = .scr ns) : ∃ a, v = .ref a ∧ SqL K H a (ns.map V.int) := by
  cases h <;> simp only [view] at e <;> try cases e
  case scr h => exact ⟨_, rfl, h.elim (fun ⟨o, z, _⟩ => .inl (.inr ⟨o, z⟩)) .inr⟩
  case ref a => split at e <;> cases e
theorem view_str {x : Str} (h : RW K S H w v) (e : view S w = .str x) : v = .str x ∧ sv x := by
  cases h <;> simp only [view] at e <;> try cases e
  case str ok => exact ⟨rfl, ok⟩
  case ref a => split at e <;> cases e
end

/-! ### names and constants -/
def dVar (i : Nat) : DE' := fun ω S Q => match ω.s[i]? with
  | some (some w) => Q w S
  | _ => False
def dC (w : W) : DE' := fun _ S Q => Q w S
section
variable {X : Cx} {Z : WX}
theorem Fin.one {K : PySem.W.Frag} {S : Sto} {H : Hp} {Qd : WQ} {Q : VK} (f : Fin K S H Qd Q) (r : Rel K S H) {w : W} {v : V} (h : RW K S H w v) (q : Qd w S) : Q v H := f w S v H Nx.refl r h q
theorem dv (i : Nat) {x : Str} {pos : Pos} (hN : X.N[i]? = some x := by rfl) (hv : Vis X.env.scope x := by first | exact Or.inl rfl | exact Or.inr (Or.inl rfl) | exact Or.inr (Or.inr rfl)) (hd : (x == ("__debug__" : Str)) = false := by decide)
    (hcd : (x == ("__classdict__" : Str)) = false := by decide) : DE X Z (.Name x pos) (dVar i) := PE.im (pe_var hN hv hd hcd) fun σ H Q ⟨ω, S, Qd, a, h, f⟩ => by
  unfold dVar at h
  split at h
  · rename_i w e
    obtain ⟨v, ev, r⟩ := a.rs.at' i w e
    exact ⟨v, ev, f.one a.rel r h⟩
  · exact h.elim
theorem de_c {e : Expr} {v : V} {w : W} (h : PE X e (tC v)) (r : ∀ S H, RW X.K S H w v) : DE X Z e (dC w) := PE.im h fun σ H Q ⟨ω, S, Qd, a, q, f⟩ => f.one a.rel (r S H) q
theorem de_int {i : Int} {j pos} : DE X Z (.Constant (.int i) j pos) (dC (.int i)) := de_c pe_int fun _ _ => .int i
theorem de_bl {b : Bool} {j pos} : DE X Z (.Constant (.bool b) j pos) (dC (.bl b)) := de_c pe_bl fun _ _ => .bl b
theorem de_non {j pos} : DE X Z (.Constant .none j pos) (dC .non) := de_c pe_non fun _ _ => .non
theorem de_str {x : Str} {j pos} (ok : sv x := by decide +kernel) : DE X Z (.Constant (.str x) j pos) (dC (.str x)) := de_c pe_str fun _ _ => .str x ok
/-- a module's constant -/
def GW (K : PySem.W.Frag) (mg : Str → Option Value) (x : Str) (w : W) : Prop := ∃ v u, mg x = some u ∧ RelV v u ∧ ∀ S H, RW K S H w v
theorem de_glob {x : Str} {w : W} {pos : Pos} (g : GW X.K X.mg x w) (hg : Gl X x := by rfl) (hd : (x == ("__debug__" : Str)) = false := by decide) : DE X Z (.Name x pos) (dC w) := by
  obtain ⟨v, u, hm, r, q⟩ := g
  exact de_c (pe_glob hg hm r hd) q
theorem de_ty {x : Str} {n : String} {pos : Pos} (hm : X.mg x = none) (hv : bootBuiltins x = some (.type n) := by decide +kernel) (hg : Gl X x := by rfl) (hn : x ≠ "__name__" := by decide) (hd : (x == ("__debug__" : Str)) = false := by decide) : DE X Z (.Name x pos) (dC (.ty n)) :=
  de_c (pe_bltn (v := .ty n) hg hm hv rfl hn hd) fun _ _ => .ty n
end

/-! ### two values, one value -/
abbrev D2 := W → W → Sto → WQ → Prop
def uR (K : PySem.W.Frag) (rd : D2) : R2 := fun x y H Q => ∃ w1 w2 S Qd, Rel K S H ∧ RW K S H w1 x ∧ RW K S H w2 y ∧ rd w1 w2 S Qd ∧ Fin K S H Qd Q
def dOp (rd : D2) (ta tb : DE') : DE' := fun ω S Q => ta ω S fun x S1 => tb ω S1 fun y S2 => rd x y S2 Q
def uU (K : PySem.W.Frag) (rd : W → Sto → WQ → Prop) : V → Hp → VK → Prop := fun x H Q => ∃ w S Qd, Rel K S H ∧ RW K S H w x ∧ rd w S Qd ∧ Fin K S H Qd Q
def dUn (rd : W → Sto → WQ → Prop) (ta : DE') : DE' := fun ω S Q => ta ω S fun x S1 => rd x S1 Q
theorem uOp {K : PySem.W.Frag} {rd : D2} {ta tb : DE'} {σ : L2.St} {H : Hp} {Q : VK} (h : uE K Z (dOp rd ta tb) σ H Q) : tOp (uR K rd) (uE K Z ta) (uE K Z tb) σ H Q := by
  obtain ⟨ω, S, Qd, a, h, f⟩ := h
  refine ⟨ω, S, _, a, h, fun w S1 v H1 x1 r1 q1 h1 => ?_⟩
  refine ⟨ω, S1, _, a.to x1 r1, h1, fun w2 S2 v2 H2 x2 r2 q2 h2 => ?_⟩
  exact ⟨w, w2, S2, Qd, r2, q1.mono x2, q2, h2, fun w S' v H' x r q h => f w S' v H' (x1.trans (x2.trans x)) r q h⟩
theorem uUn {K : PySem.W.Frag} {rd : W → Sto → WQ → Prop} {ta : DE'} {σ : L2.St} {H : Hp} {Q : VK} (h : uE K Z (dUn rd ta) σ H Q) : tUn (uU K rd) (uE K Z ta) σ H Q := by
  obtain ⟨ω, S, Qd, a, h, f⟩ := h
  refine ⟨ω, S, _, a, h, fun w S1 v H1 x1 r1 q1 h1 => ?_⟩
  exact ⟨w, S1, Qd, r1, q1, h1, fun w S' v H' x r q h => f w S' v H' (x1.trans x) r q h⟩
section
variable {X : Cx} {Z : WX} {a b c : Expr} {ta tb tc : DE'} {pos : Pos} {rd rd' : D2}
abbrev OD (X : Cx) (f : Value → Value → Sem Value) (rd : D2) : Prop := OpR X f (uR X.K rd)
theorem de_op {op : Operator} (ho : OD X (binaryOp op) rd) (ha : DE X Z a ta) (hb : DE X Z b tb) : DE X Z (.BinOp a op b pos) (dOp rd ta tb) := PE.im (pe_op ho ha hb) fun _ _ _ => uOp
theorem de_cmp {op : CmpOp} (ho : OD X (compareOp op) rd) (ha : DE X Z a ta) (hb : DE X Z b tb) (hm : behindInMarks op b = false := by first | exact nomark _ | rfl) : DE X Z (.Compare a [op] [b] pos) (dOp rd ta tb) := PE.im (pe_cmpR ho ha hb hm) fun _ _ _ => uOp
end
/-- whole numbers -/
def dI (C : Int → Int → Prop) (g : Int → Int → W) : D2 := fun a b S Q => match a, b with
  | .int i, .int j => C i j ∧ Q (g i j) S
  | _, _ => False
def dI0 (g : Int → Int → W) : D2 := fun a b S Q => match a, b with
  | .int i, .int j => Q (g i j) S
  | _, _ => False
theorem int_inv {K : PySem.W.Frag} {S : Sto} {H : Hp} {i : Int} {v : V} (h : RW K S H (.int i) v) : v = .int i := by cases h; rfl
theorem OpR.im {X : Cx} {f : Value → Value → Sem Value} {r r' : R2} (h : OpR X f r) (i : ∀ x y H Q, r' x y H Q → r x y H Q) : OpR X f r' := fun pins s σ H x y v u Q I rx ry q => h pins s σ H x y v u Q I rx ry (i _ _ _ _ q)
theorem odI {X : Cx} {f : Value → Value → Sem Value} {C : Int → Int → Prop} {g : Int → Int → V} {gw : Int → Int → W} (h : OpR X f (rI C g)) (hg : ∀ K S H i j, RW K S H (gw i j) (g i j)) : OD X f (dI C gw) := OpR.im h fun x y H Q ⟨w1, w2, S, Qd, r, r1, r2, q, fi⟩ => by
  unfold dI at q
  split at q
  · cases r1; cases r2
    exact ⟨_, _, rfl, rfl, q.1, fi.one r (hg ..) q.2⟩
  · exact q.elim
theorem odI0 {X : Cx} {f : Value → Value → Sem Value} {g : Int → Int → V} {gw : Int → Int → W} (h : OpR X f (rI0 g)) (hg : ∀ K S H i j, RW K S H (gw i j) (g i j)) : OD X f (dI0 gw) := OpR.im h fun x y H Q ⟨w1, w2, S, Qd, r, r1, r2, q, fi⟩ => by
  unfold dI0 at q
  split at q
  · cases r1; cases r2
    exact ⟨_, _, rfl, rfl, fi.one r (hg ..) q⟩
  · exact q.elim
section
variable {X : Cx} {Z : WX}
def dSub : D2 := dI0 fun i j => .int (i - j)
theorem oa_sub : OD X (binaryOp .Sub) dSub := odI0 op_sub fun _ _ _ i j => .int _
def dMul : D2 := dI CMul fun i j => .int (i * j)
theorem oa_mul : OD X (binaryOp .Mult) dMul := odI op_mul fun _ _ _ i j => .int _
def dDiv : D2 := dI CDiv fun i j => .int (i / j)
theorem oa_div : OD X (binaryOp .FloorDiv) dDiv := odI op_fdiv fun _ _ _ i j => .int _
def dMod : D2 := dI (fun _ j => 0 < j) fun i j => .int (i % j)
theorem oa_mod : OD X (binaryOp .Mod) dMod := odI op_mod fun _ _ _ i j => .int _
def dPow : D2 := dI CPow fun i j => .int (i ^ j.toNat)
theorem oa_pow : OD X (binaryOp .Pow) dPow := odI op_pow fun _ _ _ i j => .int _
/-- +: numbers, texts, lists, tuples -/
def dAdd : D2 := fun a b S Q => match view S a, view S b with
  | .int i, .int j => Q (.int (i + j)) S
  | .str x, .str y => x.length + y.length ≤ 1000000 ∧ Q (.str (x ++ y)) S
  | .lst xs, .lst ys => xs.length + ys.length ≤ 1000000 ∧ Q (.lst (xs ++ ys)) S
  | .tup xs, .tup ys => xs.length + ys.length ≤ 1000000 ∧ Q (.tup (xs ++ ys)) S
  | _, _ => False
theorem str_app (a b : Str) : (a ++ b).length = a.length + b.length := Array.size_append
theorem sv_app {x y : Str} (hx : sv x) (hy : sv y) (h : x.length + y.length ≤ 1000000) : sv (x ++ y) := by
  rw [sv_iff] at hx hy ⊢
  refine ⟨fun c hc => ?_, by rw [str_app]; exact sz_of h⟩
  have e : (x ++ y).cps.toList = x.cps.toList ++ y.cps.toList := Array.toList_append
  rw [e, List.mem_append] at hc
  exact hc.elim (hx.1 c) (hy.1 c)
theorem view_int {K : PySem.W.Frag} {S : Sto} {H : Hp} {w : W} {v : V} {i : Int} (h : RW K S H w v) (e : view S w = .int i) : v = .int i := by
  cases h <;> simp only [view] at e <;> try cases e
  case int => rfl
  case ref a => split at e <;> cases e
theorem oa_add : OD X (binaryOp .Add) dAdd := by
  intro pins s σ H x y v u Q I rx ry ⟨w1, w2, S, Qd, r, r1, r2, q, fi⟩
  unfold dAdd at q
  split at q
  · rename_i i j e1 e2
    cases view_int r1 e1; cases view_int r2 e2
    exact op_add pins s σ H _ _ v u Q I rx ry ⟨_, _, rfl, rfl, fi.one r (.int _) q⟩
  · rename_i i j e1 e2
    obtain ⟨rfl, o1⟩ := view_str r1 e1
    obtain ⟨rfl, o2⟩ := view_str r2 e2
    exact op_add_str pins s σ H _ _ v u Q I rx ry ⟨_, _, rfl, rfl, sz_of q.1, fi.one r (.str _ (sv_app o1 o2 q.1)) q.2⟩
  · rename_i i j e1 e2
    obtain ⟨a, vs, rfl, h1, s1⟩ := view_lst r r1 e1
    obtain ⟨b, us, rfl, h2, s2⟩ := view_lst r r2 e2
    exact op_cat pins s σ H _ _ v u Q I rx ry ⟨a, b, vs, us, rfl, rfl, h1, h2, by rw [← s1.len, ← s2.len]; exact sz_of q.1, fun p np => fi _ _ _ _ (Nx.new np) (r.new np) (.lst upd_same (r.free np) ((s1.app s2).mono (Nx.new np))) q.2⟩
  · rename_i i j e1 e2
    obtain ⟨a, vs, rfl, h1, s1⟩ := view_tup r1 e1
    obtain ⟨b, us, rfl, h2, s2⟩ := view_tup r2 e2
    refine op_catA pins s σ H _ _ v u Q I rx ry ⟨a, b, vs, us, rfl, rfl, h1, h2, by rw [← s1.len, ← s2.len]; exact sz_of q.1, fun ev => ?_, fun _ ev => ?_, fun _ _ p np => fi _ _ _ _ (Nx.new np) (r.new np) (.tup upd_same (r.free np) ((s1.app s2).mono (Nx.new np))) q.2⟩
    · subst ev
      cases s1
      refine fi.one r ?_ q.2
      cases r2 <;> simp only [view] at e2 <;> try cases e2
      · rename_i hh nn rr; exact .tup hh nn rr
      · rename_i hh rr; exact .tupK hh rr
      · split at e2 <;> cases e2
    · subst ev
      cases s2
      refine fi.one r ?_ (by simpa using q.2)
      cases r1 <;> simp only [view] at e1 <;> try cases e1
      · rename_i hh nn rr; exact .tup hh nn rr
      · rename_i hh rr; exact .tupK hh rr
      · split at e1 <;> cases e1
  · exact q.elim
def dNeg : W → Sto → WQ → Prop := fun a S Q => match a with
  | .int i => Q (.int (-i)) S
  | _ => False
theorem de_neg {a : Expr} {ta : DE'} {pos : Pos} (ha : DE X Z a ta) : DE X Z (.UnaryOp .USub a pos) (dUn dNeg ta) := PE.im (pe_un un_neg ha) fun σ H Q h => by
  obtain ⟨ω, S, Qd, a, h, f⟩ := h
  refine ⟨ω, S, _, a, h, fun w S1 v H1 x1 r1 q1 h1 => ?_⟩
  unfold dNeg at h1
  split at h1
  · cases q1; exact ⟨_, rfl, f _ _ _ _ x1 r1 (.int _) h1⟩
  · exact h1.elim
end
end DL

set_option Elab.async false
set_option linter.all false
set_option maxRecDepth 100000
set_option maxHeartbeats 4000000
namespace DL
open PySem PySem.Spec PyProof.Rows L2

/-! ### data -/
mutual
def pd : W → PyData
  | .non => .none
  | .bl b => .bool b
  | .int i => .int i
  | .str x => .str x
  | .tup xs => .tuple (pds xs)
  | .lst xs => .list (pds xs)
  | .scr ns => .list (ns.map PyData.int)
  | _ => .none
def pds : List W → List PyData
  | [] => []
  | w :: ws => pd w :: pds ws
end
mutual
def isD : W → Bool
  | .non | .bl _ | .int _ | .str _ | .scr _ => true
  | .tup xs | .lst xs => isDs xs
  | _ => false
def isDs : List W → Bool
  | [] => true
  | w :: ws => isD w && isDs ws
end
mutual
def dep : W → Nat
  | .tup xs | .lst xs => deps xs + 1
  | .scr _ => 1
  | _ => 0
def deps : List W → Nat
  | [] => 0
  | w :: ws => max (dep w) (deps ws)
end
/-- data, not too deep -/
def okD (w : W) : Bool := isD w && decide (dep w ≤ 60)
def weq (a b : W) : Bool := PyData.eqv (pd a) (pd b)
theorem pds_map (ws : List W) : pds ws = ws.map pd := by
  induction ws with
  | nil => rfl
  | cons w ws ih => rw [pds, ih]; rfl
theorem isDs_all (ws : List W) : isDs ws = ws.all isD := by
  induction ws with
  | nil => rfl
  | cons w ws ih => rw [isDs, ih]; rfl
theorem deps_le {ws : List W} {n : Nat} (h : ∀ w ∈ ws, dep w ≤ n) : deps ws ≤ n := by
  induction ws with
  | nil => exact Nat.zero_le _
  | cons w ws ih =>
    rw [deps]
    exact Nat.max_le.mpr ⟨h w (List.mem_cons_self ..), ih fun x hx => h x (List.mem_cons_of_mem _ hx)⟩
theorem deps_mem {ws : List W} {w : W} (h : w ∈ ws) : dep w ≤ deps ws := by
  induction ws with
  | nil => cases h
  | cons x ws ih =>
    rw [deps]
    rcases List.mem_cons.mp h with rfl | h
    · exact Nat.le_max_left _ _
    · exact Nat.le_trans (ih h) (Nat.le_max_right _ _)
/-- data less than so deep -/
def ND (n : Nat) (w : W) : Prop := isD w = true ∧ dep w ≤ n
theorem ND.ok {n : Nat} {w : W} (h : ND n w) (hn : n ≤ 60) : okD w = true := by
  unfold okD
  rw [h.1, decide_eq_true (Nat.le_trans h.2 hn)]
  rfl
theorem ND.mono {n m : Nat} {w : W} (h : ND n w) (hn : n ≤ m) : ND m w := ⟨h.1, Nat.le_trans h.2 hn⟩
theorem ND.lst {n : Nat} {ws : List W} (h : ∀ w ∈ ws, ND n w) : ND (n + 1) (.lst ws) := by
  refine ⟨?_, ?_⟩
  · show isDs ws = true
    rw [isDs_all, List.all_eq_true]
    exact fun x hx => (h x hx).1
  · show deps ws + 1 ≤ n + 1
    exact Nat.succ_le_succ (deps_le fun w hw => (h w hw).2)
theorem ND.tup {n : Nat} {ws : List W} (h : ∀ w ∈ ws, ND n w) : ND (n + 1) (.tup ws) := by
  refine ⟨?_, ?_⟩
  · show isDs ws = true
    rw [isDs_all, List.all_eq_true]
    exact fun x hx => (h x hx).1
  · show deps ws + 1 ≤ n + 1
    exact Nat.succ_le_succ (deps_le fun w hw => (h w hw).2)
theorem ND.of_tup {n : Nat} {ws : List W} (h : ND n (.tup ws)) : ∀ w ∈ ws, ND (n - 1) w := fun w hw => by
  obtain ⟨h1, h2⟩ := h
  have h1' : isDs ws = true := h1
  rw [isDs_all, List.all_eq_true] at h1'
  have h2' : deps ws + 1 ≤ n := h2
  have := deps_mem hw
  exact ⟨h1' w hw, by omega⟩
theorem ND.of_lst {n : Nat} {ws : List W} (h : ND n (.lst ws)) : ∀ w ∈ ws, ND (n - 1) w := fun w hw => by
  obtain ⟨h1, h2⟩ := h
  have h1' : isDs ws = true := h1
  rw [isDs_all, List.all_eq_true] at h1'
  have h2' : deps ws + 1 ≤ n := h2
  have := deps_mem hw
  exact ⟨h1' w hw, by omega⟩
theorem ND.int {n : Nat} (i : Int) : ND n (.int i) := ⟨rfl, Nat.zero_le _⟩
theorem ND.str {n : Nat} (x : Str) : ND n (.str x) := ⟨rfl, Nat.zero_le _⟩
theorem ND.bl {n : Nat} (b : Bool) : ND n (.bl b) := ⟨rfl, Nat.zero_le _⟩
theorem ND.non {n : Nat} : ND n .non := ⟨rfl, Nat.zero_le _⟩
section
variable {K : PySem.W.Frag} {S : Sto} {H : Hp}
mutual
theorem RW.dp : ∀ {w : W} {v : V}, RW K S H w v → isD w = true → Dp K H v (pd w) ∧ (pd w).canLay0 = true
  | _, _, .non, _ => ⟨.non, rfl⟩
  | _, _, .bl b, _ => ⟨.bl b, rfl⟩
  | _, _, .int i, _ => ⟨.int i, rfl⟩
  | _, _, .str x ok, _ => ⟨.str x, by
      have h := sv_iff.mp ok
      show x.cps.all (· < 0x110000) = true
      rw [← Array.all_toList, List.all_eq_true]
      exact fun c hc => decide_eq_true (h.1 c hc)⟩
  | _, _, .tup h n r, d => ⟨.tup (.inl (.inl h)) (RWs.dp r d).1, (RWs.dp r d).2⟩
  | _, _, .tupK h r, d => ⟨.tup (.inr h) (RWs.dp r d).1, (RWs.dp r d).2⟩
  | _, _, .lst h n r, d => ⟨.lst (.inl (.inl h)) (RWs.dp r d).1, (RWs.dp r d).2⟩
  | _, _, @RW.scr _ _ _ a ns h, d => ⟨.lst (h.elim (fun ⟨o, z, _⟩ => .inl (.inr ⟨o, z⟩)) .inr) (by
      clear h
      induction ns with
      | nil => exact .nil
      | cons i ns ih => exact .cons (.int i) (ih rfl)), by
      show PyData.canLayAll0 (ns.map PyData.int) = true
      clear h
      induction ns with
      | nil => rfl
      | cons i ns ih => rw [List.map_cons, PyData.canLayAll0, ih rfl]; rfl⟩
  | _, _, .ty n, d => nomatch d
  | _, _, .dct .., d => nomatch d
  | _, _, .ins .., d => nomatch d
  | _, _, .ref _, d => nomatch d
theorem RWs.dp : ∀ {ws : List W} {vs : List V}, RWs K S H ws vs → isDs ws = true → DpAll K H vs (pds ws) ∧ PyData.canLayAll0 (pds ws) = true
  | _, _, .nil, _ => ⟨.nil, rfl⟩
  | _, _, @RWs.cons _ _ _ w v ws vs h t, d => by
    rw [isDs, Bool.and_eq_true] at d
    have q1 := RW.dp h d.1
    have q2 := RWs.dp t d.2
    refine ⟨.cons q1.1 q2.1, ?_⟩
    rw [pds, PyData.canLayAll0, q1.2, q2.2]
    rfl
end
mutual
theorem depth_pd : ∀ (w : W), (pd w).depth ≤ dep w
  | .non | .bl _ | .int _ | .str _ | .ty _ | .dct _ _ | .ins _ _ _ | .ref _ => by simp [pd, PyData.depth]
  | .tup xs => by
    have := depth_pds xs
    show PyData.depthAll (pds xs) + 1 ≤ deps xs + 1
    omega
  | .lst xs => by
    have := depth_pds xs
    show PyData.depthAll (pds xs) + 1 ≤ deps xs + 1
    omega
  | .scr ns => by
    show PyData.depthAll (ns.map PyData.int) + 1 ≤ 1
    have : PyData.depthAll (ns.map PyData.int) = 0 := by
      induction ns with
      | nil => rfl
      | cons n ns ih => rw [List.map_cons, PyData.depthAll, ih]; rfl
    omega
theorem depth_pds : ∀ (ws : List W), PyData.depthAll (pds ws) ≤ deps ws
  | [] => Nat.le_refl _
  | w :: ws => by
    have h1 := depth_pd w
    have h2 := depth_pds ws
    rw [pds, PyData.depthAll, deps]
    omega
end
theorem RW.shaped {w : W} {v : V} (h : RW K S H w v) (d : okD w = true) : Dp K H v (pd w) ∧ SeqAt.shaped (pd w) = true := by
  unfold okD at d
  rw [Bool.and_eq_true] at d
  have q := h.dp d.1
  have := depth_pd w
  have d2 := of_decide_eq_true d.2
  refine ⟨q.1, ?_⟩
  show ((pd w).canLay0 && decide ((pd w).depth ≤ 64)) = true
  rw [q.2, decide_eq_true (by omega : (pd w).depth ≤ 64)]
  rfl
theorem view_dp {w : W} {v : V} (r : Rel K S H) (h : RW K S H w v) (d : okD (view S w) = true) : Dp K H v (pd (view S w)) ∧ SeqAt.shaped (pd (view S w)) = true := by
  cases e : view S w with
  | lst xs =>
    rw [e] at d
    obtain ⟨a, vs, rfl, h1, q⟩ := view_lst r h e
    have z : RW K (fun _ => none) H (.lst xs) (.ref a) → Dp K H (.ref a) (pd (.lst xs)) ∧ SeqAt.shaped (pd (.lst xs)) = true := fun z => z.shaped d
    unfold okD at d
    rw [Bool.and_eq_true] at d
    have q1 := q.dp d.1
    have := depth_pd (.lst xs)
    have d2 := of_decide_eq_true d.2
    refine ⟨.lst (.inl (.inl h1)) q1.1, ?_⟩
    show ((pd (.lst xs)).canLay0 && decide ((pd (.lst xs)).depth ≤ 64)) = true
    rw [show (pd (.lst xs)).canLay0 = true from q1.2, decide_eq_true (by omega : (pd (W.lst xs)).depth ≤ 64)]
    rfl
  | _ =>
    have e2 : view S w = w := by
      cases w with
      | ref a =>
        exfalso
        cases hs : S a with
        | none => simp [view, hs, okD, isD] at d
        | some o =>
          cases o with
          | lst ys => simp [view, hs] at e
          | _ => simp [view, hs, okD, isD] at d
      | _ => rfl
    rw [← e, e2]
    exact h.shaped (by rw [← e2]; exact d)
end
theorem weq_refl {w : W} (h : isD w = true) : weq w w = true := by
  have : ∀ d : PyData, (∀ x, d ≠ .dict x) → True := fun _ _ => trivial
  have key : ∀ w : W, isD w = true → PyData.eqv (pd w) (pd w) = true := by
    intro w
    refine W.rec (motive_1 := fun w => isD w = true → PyData.eqv (pd w) (pd w) = true) (motive_2 := fun ws => isDs ws = true → PyData.eqvAll (pds ws) (pds ws) = true) ?_ ?_ ?_ ?_ ?_ ?_ ?_ ?_ ?_ ?_ ?_ ?_ ?_ w
    · intro _; rfl
    · intro b _; simp [pd, PyData.eqv]
    · intro i _; simp [pd, PyData.eqv]
    · intro x _; simp [pd, PyData.eqv]
    · intro n h; cases h
    · intro xs ih h; rw [pd, PyData.eqv]; exact ih h
    · intro xs ih h; rw [pd, PyData.eqv]; exact ih h
    · intro ns _
      rw [pd, PyData.eqv]
      induction ns with
      | nil => rfl
      | cons n ns ih => rw [List.map_cons, PyData.eqvAll, ih rfl]; simp [PyData.eqv]
    · intro _ _ _ h; cases h
    · intro _ _ _ _ h; cases h
    · intro _ h; cases h
    · intro _; rfl
    · intro w ws h1 h2 h
      rw [isDs, Bool.and_eq_true] at h
      rw [pds, PyData.eqvAll, h1 h.1, h2 h.2]; rfl
  exact key w h

/-! ### == != in, by data -/
theorem hu65 {k : Nat} {A : Around} (hr : Room k A) : A.units + 65 < cLine := by have := hr.un; omega
section
variable {X : Cx} {Z : WX} {k : Nat}
def dEq : D2 := fun a b S Q => okD (view S a) = true ∧ okD (view S b) = true ∧ Q (.bl (weq (view S a) (view S b))) S
def dNe : D2 := fun a b S Q => okD (view S a) = true ∧ okD (view S b) = true ∧ Q (.bl (!weq (view S a) (view S b))) S
theorem oc_eq (hr : Room k X.A) : OD X (compareOp .Eq) dEq := OpR.im (op_eqD hr.units) fun x y H Q ⟨w1, w2, S, Qd, r, r1, r2, ⟨d1, d2, q⟩, fi⟩ =>
  ⟨_, _, (view_dp r r1 d1).1, (view_dp r r2 d2).1, (view_dp r r1 d1).2, (view_dp r r2 d2).2, fi.one r (.bl _) q⟩
theorem oc_ne (hr : Room k X.A) : OD X (compareOp .NotEq) dNe := OpR.im (op_neD hr.units) fun x y H Q ⟨w1, w2, S, Qd, r, r1, r2, ⟨d1, d2, q⟩, fi⟩ =>
  ⟨_, _, (view_dp r r1 d1).1, (view_dp r r2 d2).1, (view_dp r r1 d1).2, (view_dp r r2 d2).2, fi.one r (.bl _) q⟩
/-- dicts by their keys -/
def wval {κ : Type} [DecidableEq κ] (kvs : List (κ × W)) (k : κ) : Option W := (kvs.find? fun kv => decide (kv.1 = k)).map (·.2)
def wput {κ : Type} [DecidableEq κ] (kvs : List (κ × W)) (k : κ) (v : W) : List (κ × W) := if (kvs.any fun kv => decide (kv.1 = k)) = true then kvs.map (fun kv => if kv.1 = k then (kv.1, v) else kv) else kvs ++ [(k, v)]
def wdrop {κ : Type} [DecidableEq κ] (kvs : List (κ × W)) (k : κ) : List (κ × W) := kvs.filter fun kv => decide (kv.1 ≠ k)
def wkey : W → Option Key
  | .int i => some (.inl i)
  | .str x => some (.inr x)
  | _ => none
theorem wkey_rel {K : PySem.W.Frag} {S : Sto} {H : Hp} {w : W} {v : V} {k : Key} (r : RW K S H w v) (h : wkey w = some k) : v = kV k := by
  cases r <;> simp only [wkey, Option.some.injEq] at h <;> first | (subst h; rfl) | cases h
theorem wval_rel {κ : Type} [DecidableEq κ] {K : PySem.W.Frag} {S : Sto} {H : Hp} {kvs : List (κ × W)} {gs : List (κ × V)} (r : RWp K S H kvs gs) (k : κ) : (∃ w v, wval kvs k = some w ∧ valV gs k = some v ∧ RW K S H w v) ∨ (wval kvs k = none ∧ valV gs k = none) := by
  induction r with
  | nil => exact .inr ⟨rfl, rfl⟩
  | @cons p q kvs gs h t ih =>
    obtain ⟨p1, p2⟩ := p
    obtain ⟨q1, q2⟩ := q
    obtain ⟨h1, h2⟩ := h
    simp only at h1 h2
    subst h1
    by_cases e : p1 = k
    · exact .inl ⟨p2, q2, by simp [wval, List.find?_cons, e], by simp [valV, List.find?_cons, e], h2⟩
    · have e1 : wval ((p1, p2) :: kvs) k = wval kvs k := by simp [wval, List.find?_cons, e]
      have e2 : valV ((p1, q2) :: gs) k = valV gs k := by simp [valV, List.find?_cons, e]
      rw [e1, e2]
      exact ih
/-- x in y: lists, tuples of data; a sign in a text; a key in a dict -/
def inW (S : Sto) (a b : W) : Option Bool := match view S b with
  | .lst xs => if okD a && okD (.lst xs) then some (xs.any fun y => weq y a) else none
  | .tup xs => if okD a && okD (.tup xs) then some (xs.any fun y => weq y a) else none
  | .str z => match a with
    | .str x => match x.cps.toList with
      | [c] => some (decide (c ∈ z.cps.toList))
      | _ => none
    | _ => none
  | .dct ks ws => match wkey a with
    | some k => some (wval (ks.zip ws) k).isSome
    | none => none
  | _ => none
def dIn : D2 := fun a b S Q => match inW S a b with
  | some r => Q (.bl r) S
  | none => False
def dNotIn : D2 := fun a b S Q => match inW S a b with
  | some r => Q (.bl (!r)) S
  | none => False
theorem any_pds (xs : List W) (a : W) : ((pds xs).any fun z => PyData.eqv z (pd a)) = xs.any fun y => weq y a := by
  rw [pds_map, List.any_map]
  rfl
theorem oc_in (hr : Room k X.A) : OD X (compareOp .In) dIn := by
  intro pins s σ H x y v u Q I rx ry ⟨w1, w2, S, Qd, r, r1, r2, q, fi⟩
  unfold dIn at q
  split at q
  · rename_i b e
    unfold inW at e
    split at e
    · rename_i xs ev
      split at e
      · rename_i ok
        cases e
        rw [Bool.and_eq_true] at ok
        have d1 := r1.shaped ok.1
        have d2 := view_dp r r2 (by rw [ev]; exact ok.2)
        rw [ev] at d2
        refine op_inD (hu65 hr) pins s σ H x y v u Q I rx ry ⟨_, _, d1.1, d2.1, d1.2, d2.2, ?_⟩
        rw [any_pds]
        exact fi.one r (.bl _) q
      · cases e
    · rename_i xs ev
      split at e
      · rename_i ok
        cases e
        rw [Bool.and_eq_true] at ok
        have d1 := r1.shaped ok.1
        have d2 := view_dp r r2 (by rw [ev]; exact ok.2)
        rw [ev] at d2
        obtain ⟨as, z1⟩ := Dp.reads I _ x v d1.1 rx
        obtain ⟨bs, z2⟩ := Dp.reads I _ y u d2.1 ry
        refine SeqAt.in_tuple_reads z2 z1 (SeqAt.canLay_of_shaped d2.2) (SeqAt.canLay_of_shaped d1.2) (room_in_shaped d1.2 (hu65 hr)) ⟨.bl _, H, I, rfl, ?_⟩
        rw [any_pds]
        exact fi.one r (.bl _) q
      · cases e
    · rename_i z ev
      obtain ⟨rfl, _⟩ := view_str r2 ev
      split at e
      · rename_i x'
        split at e
        · rename_i c ec
          cases e
          cases r1
          refine op_in_sign pins s σ H _ _ v u Q I rx ry ⟨c, z, ?_, rfl, fi.one r (.bl _) q⟩
          have : x' = ⟨#[c]⟩ := by
            obtain ⟨⟨l⟩⟩ := x'
            have : l = [c] := ec
            rw [this]
          rw [this]
        · cases e
      · cases e
    · rename_i ks ws ev
      split at e
      · rename_i k' hk
        cases e
        obtain ⟨a, gs, rfl, h1, rp, _⟩ := view_dct r r2 ev
        obtain rfl := wkey_rel r1 hk
        cases ry
        refine d_in (hu_of hr) I (.inl ⟨gs, k', h1, rfl, rfl⟩) rx fun s' I' => ⟨.bl _, H, I', rfl, ?_⟩
        rcases wval_rel rp k' with ⟨w, z, e1, e2, _⟩ | ⟨e1, e2⟩
        · rw [e2]; rw [e1] at q; exact fi.one r (.bl _) q
        · rw [e2]; rw [e1] at q; exact fi.one r (.bl _) q
      · cases e
    · cases e
  · exact q.elim
theorem oc_notin (hr : Room k X.A) : OD X (compareOp .NotIn) dNotIn := by
  intro pins s σ H x y v u Q I rx ry ⟨w1, w2, S, Qd, r, r1, r2, q, fi⟩
  unfold dNotIn at q
  split at q
  · rename_i b e
    unfold inW at e
    split at e
    · rename_i xs ev
      split at e
      · rename_i ok
        cases e
        rw [Bool.and_eq_true] at ok
        have d1 := r1.shaped ok.1
        have d2 := view_dp r r2 (by rw [ev]; exact ok.2)
        rw [ev] at d2
        refine op_notInD (hu65 hr) pins s σ H x y v u Q I rx ry ⟨_, _, d1.1, d2.1, d1.2, d2.2, ?_⟩
        rw [any_pds]
        exact fi.one r (.bl _) q
      · cases e
    · rename_i xs ev
      split at e
      · rename_i ok
        cases e
        rw [Bool.and_eq_true] at ok
        have d1 := r1.shaped ok.1
        have d2 := view_dp r r2 (by rw [ev]; exact ok.2)
        rw [ev] at d2
        obtain ⟨as, z1⟩ := Dp.reads I _ x v d1.1 rx
        obtain ⟨bs, z2⟩ := Dp.reads I _ y u d2.1 ry
        refine SeqAt.notIn_tuple_reads z2 z1 (SeqAt.canLay_of_shaped d2.2) (SeqAt.canLay_of_shaped d1.2) (room_in_shaped d1.2 (hu65 hr)) ⟨.bl _, H, I, rfl, ?_⟩
        rw [any_pds]
        exact fi.one r (.bl _) q
      · cases e
    · rename_i z ev
      obtain ⟨rfl, _⟩ := view_str r2 ev
      split at e
      · rename_i x'
        split at e
        · rename_i c ec
          cases e
          cases r1
          refine op_notIn_sign pins s σ H _ _ v u Q I rx ry ⟨c, z, ?_, rfl, fi.one r (.bl _) q⟩
          have : x' = ⟨#[c]⟩ := by
            obtain ⟨⟨l⟩⟩ := x'
            have : l = [c] := ec
            rw [this]
          rw [this]
        · cases e
      · cases e
    · rename_i ks ws ev
      split at e
      · rename_i k' hk
        cases e
        obtain ⟨a, gs, rfl, h1, rp, _⟩ := view_dct r r2 ev
        obtain rfl := wkey_rel r1 hk
        cases ry
        refine d_notIn (hu_of hr) I (.inl ⟨gs, k', h1, rfl, rfl⟩) rx fun s' I' => ⟨.bl _, H, I', rfl, ?_⟩
        rcases wval_rel rp k' with ⟨w, z, e1, e2, _⟩ | ⟨e1, e2⟩
        · rw [e2]; rw [e1] at q; exact fi.one r (.bl _) q
        · rw [e2]; rw [e1] at q; exact fi.one r (.bl _) q
      · cases e
    · cases e
  · exact q.elim
end
end DL

set_option Elab.async false
set_option linter.all false
set_option maxRecDepth 100000
set_option maxHeartbeats 4000000
namespace DL
open PySem PySem.Spec PyProof.Rows L2

/-! ### order, None -/
section
variable {X : Cx} {Z : WX} {k : Nat}
def dLt : D2 := fun a b S Q => match a, b with
  | .int i, .int j => Q (.bl (decide (i < j))) S
  | .str x, .str y => Q (.bl (decide (x.cps.toList < y.cps.toList))) S
  | _, _ => False
def dLe : D2 := fun a b S Q => match a, b with
  | .int i, .int j => Q (.bl (decide (i ≤ j))) S
  | .str x, .str y => Q (.bl (!decide (y.cps.toList < x.cps.toList))) S
  | _, _ => False
def dGt : D2 := fun a b S Q => match a, b with
  | .int i, .int j => Q (.bl (decide (j < i))) S
  | .str x, .str y => Q (.bl (decide (y.cps.toList < x.cps.toList))) S
  | _, _ => False
def dGe : D2 := fun a b S Q => match a, b with
  | .int i, .int j => Q (.bl (decide (j ≤ i))) S
  | .str x, .str y => Q (.bl (!decide (x.cps.toList < y.cps.toList))) S
  | _, _ => False
theorem oc_lt : OD X (compareOp .Lt) dLt := by
  intro pins s σ H x y v u Q I rx ry ⟨w1, w2, S, Qd, r, r1, r2, q, fi⟩
  unfold dLt at q
  split at q
  · cases r1; cases r2; exact op_lt pins s σ H _ _ v u Q I rx ry ⟨_, _, rfl, rfl, fi.one r (.bl _) q⟩
  · cases r1; cases r2; exact op_lt_str pins s σ H _ _ v u Q I rx ry ⟨_, _, rfl, rfl, fi.one r (.bl _) q⟩
  · exact q.elim
theorem oc_le : OD X (compareOp .LtE) dLe := by
  intro pins s σ H x y v u Q I rx ry ⟨w1, w2, S, Qd, r, r1, r2, q, fi⟩
  unfold dLe at q
  split at q
  · cases r1; cases r2; exact op_le pins s σ H _ _ v u Q I rx ry ⟨_, _, rfl, rfl, fi.one r (.bl _) q⟩
  · cases r1; cases r2; exact op_le_str pins s σ H _ _ v u Q I rx ry ⟨_, _, rfl, rfl, fi.one r (.bl _) q⟩
  · exact q.elim
theorem oc_gt : OD X (compareOp .Gt) dGt := by
  intro pins s σ H x y v u Q I rx ry ⟨w1, w2, S, Qd, r, r1, r2, q, fi⟩
  unfold dGt at q
  split at q
  · cases r1; cases r2; exact op_gt pins s σ H _ _ v u Q I rx ry ⟨_, _, rfl, rfl, fi.one r (.bl _) q⟩
  · cases r1; cases r2; exact op_gt_str pins s σ H _ _ v u Q I rx ry ⟨_, _, rfl, rfl, fi.one r (.bl _) q⟩
  · exact q.elim
theorem oc_ge : OD X (compareOp .GtE) dGe := by
  intro pins s σ H x y v u Q I rx ry ⟨w1, w2, S, Qd, r, r1, r2, q, fi⟩
  unfold dGe at q
  split at q
  · cases r1; cases r2; exact op_ge pins s σ H _ _ v u Q I rx ry ⟨_, _, rfl, rfl, fi.one r (.bl _) q⟩
  · cases r1; cases r2; exact op_ge_str pins s σ H _ _ v u Q I rx ry ⟨_, _, rfl, rfl, fi.one r (.bl _) q⟩
  · exact q.elim
def isN : W → Bool
  | .non => true
  | _ => false
def dIsN : D2 := fun a b S Q => match b with
  | .non => Q (.bl (isN a)) S
  | _ => False
def dNotN : D2 := fun a b S Q => match b with
  | .non => Q (.bl (!isN a)) S
  | _ => False
theorem isN_rel {K : PySem.W.Frag} {S : Sto} {H : Hp} {w : W} {v : V} (r : RW K S H w v) : decide (v = .non) = isN w := by
  cases r <;> simp [isN]
theorem oc_is : OD X (compareOp .Is) dIsN := OpR.im op_isN fun x y H Q ⟨w1, w2, S, Qd, r, r1, r2, q, fi⟩ => by
  unfold dIsN at q
  split at q
  · cases r2; exact ⟨rfl, by rw [isN_rel r1]; exact fi.one r (.bl _) q⟩
  · exact q.elim
theorem oc_isnot : OD X (compareOp .IsNot) dNotN := OpR.im op_notN fun x y H Q ⟨w1, w2, S, Qd, r, r1, r2, q, fi⟩ => by
  unfold dNotN at q
  split at q
  · cases r2; exact ⟨rfl, by rw [isN_rel r1]; exact fi.one r (.bl _) q⟩
  · exact q.elim
end

/-! ### truth and tests -/
def tru (S : Sto) (w : W) : Option Bool := match view S w with
  | .non => some false
  | .bl b => some b
  | .int i => some (i != 0)
  | .str x => some ((x.length : Int) != 0)
  | .lst xs => some (!xs.isEmpty)
  | .tup xs => some (!xs.isEmpty)
  | .dct ks _ => match w with
    | .ref _ => some (!ks.isEmpty)
    | _ => none
  | _ => none
theorem tru_rel {K : PySem.W.Frag} {S : Sto} {H : Hp} {w : W} {v : V} {b : Bool} (r : Rel K S H) (h : RW K S H w v) (e : tru S w = some b) : TruV K v H b := by
  unfold tru at e
  split at e
  · rename_i ev; cases e
    cases h <;> simp only [view] at ev <;> first | rfl | (split at ev <;> cases ev) | cases ev
  · rename_i b' ev; cases e
    cases h <;> simp only [view] at ev <;> first | (cases ev; rfl) | cases ev | (split at ev <;> cases ev)
  · rename_i i ev; cases e
    cases view_int h ev; rfl
  · rename_i x ev; cases e
    obtain ⟨rfl, ok⟩ := view_str h ev
    exact ⟨(sv_iff.mp ok).2, rfl⟩
  · rename_i xs ev; cases e
    obtain ⟨a, vs, rfl, h1, q⟩ := view_lst r h ev
    refine .inl ⟨vs, .inl (.inl h1), ?_⟩
    cases q <;> rfl
  · rename_i xs ev; cases e
    obtain ⟨a, vs, rfl, h1, q⟩ := view_tup h ev
    refine .inr (.inl ⟨vs, h1, ?_⟩)
    cases q <;> rfl
  · rename_i ks ws ev
    split at e
    case h_2 => cases e
    rename_i ad
    cases e
    cases h
    obtain ⟨gs, h1, q, el⟩ := view_dctR r ev
    refine .inr (.inr ⟨gs, h1, ?_⟩)
    cases ks with
    | nil => cases q; rfl
    | cons k ks => cases ws with
      | nil => cases el
      | cons w ws => cases q; rfl
  · cases e
def dTru (ta : DE') : DT' := fun ω S Q => ta ω S fun w S1 => match tru S1 w with
  | some b => Q b S1
  | none => False
def dTest (ta : DE') : DT' := fun ω S Q => ta ω S fun w S1 => match w with
  | .bl b => Q b S1
  | _ => False
section
variable {X : Cx} {Z : WX} {a b c : Expr} {ta tb tc : DE'} {pos : Pos} {rd rd' : D2} {t u : DT'} {rest : List Expr}
theorem dt_tru (ha : DE X Z a ta) (he : ∀ whole, isTrue a X.env whole = (do let v ← whole; standAt a.pos; holding [v] (truthy v)) := by intro _; rfl) : DT X Z a (dTru ta) := PT.im (pt_truth ha he) fun σ H Q ⟨ω, S, Qd, a, h, f⟩ => by
  refine ⟨ω, S, _, a, h, fun w S1 v H1 x1 r1 q1 h1 => ?_⟩
  split at h1
  · rename_i b e; exact ⟨b, tru_rel r1 q1 e, f b S1 H1 x1 r1 h1⟩
  · exact h1.elim
theorem uTest {K : PySem.W.Frag} {te : TE} (ht : ∀ σ H Q, uE K Z ta σ H Q → te σ H Q) {σ : L2.St} {H : Hp} {Q : Bool → Hp → Prop} (h : uT K Z (dTest ta) σ H Q) : tTest te σ H Q := by
  obtain ⟨ω, S, Qd, a, h, f⟩ := h
  refine ht _ _ _ ⟨ω, S, _, a, h, fun w S1 v H1 x1 r1 q1 h1 => ?_⟩
  split at h1
  · cases q1; exact ⟨_, rfl, f _ _ _ x1 r1 h1⟩
  · exact h1.elim
theorem dt_cmp {op : CmpOp} (ho : OD X (compareOp op) rd) (ha : DE X Z a ta) (hb : DE X Z b tb) (hm : behindInMarks op b = false := by first | exact nomark _ | rfl) : DT X Z (.Compare a [op] [b] pos) (dTest (dOp rd ta tb)) :=
  PT.im (pt_cmpR ho ha hb hm) fun _ _ _ h => uTest (fun _ _ _ => uOp) h
/-- a < b < c -/
def dChain (rd rd' : D2) (ta tb tc : DE') : DE' := fun ω S Q => ta ω S fun x S1 => tb ω S1 fun y S2 => rd x y S2 fun z S3 => match z with
  | .bl true => tc ω S3 fun w S4 => rd' y w S4 Q
  | .bl false => Q (.bl false) S3
  | _ => False
theorem uChain {K : PySem.W.Frag} {σ : L2.St} {H : Hp} {Q : VK} (h : uE K Z (dChain rd rd' ta tb tc) σ H Q) : tChain (uR K rd) (uR K rd') (uE K Z ta) (uE K Z tb) (uE K Z tc) σ H Q := by
  obtain ⟨ω, S, Qd, a, h, f⟩ := h
  refine ⟨ω, S, _, a, h, fun w S1 v H1 x1 r1 q1 h1 => ?_⟩
  refine ⟨ω, S1, _, a.to x1 r1, h1, fun w2 S2 v2 H2 x2 r2 q2 h2 => ?_⟩
  refine ⟨w, w2, S2, _, r2, q1.mono x2, q2, h2, fun w3 S3 v3 H3 x3 r3 q3 h3 => ?_⟩
  split at h3
  · cases q3
    refine ⟨true, rfl, ?_⟩
    rw [if_pos rfl]
    refine ⟨ω, S3, _, a.to (x1.trans (x2.trans x3)) r3, h3, fun w4 S4 v4 H4 x4 r4 q4 h4 => ?_⟩
    exact ⟨w2, w4, S4, Qd, r4, q2.mono (x3.trans x4), q4, h4, fun w S' v H' x r q h => f w S' v H' (x1.trans (x2.trans (x3.trans (x4.trans x)))) r q h⟩
  · cases q3
    refine ⟨false, rfl, ?_⟩
    rw [if_neg Bool.false_ne_true]
    exact f _ _ _ _ (x1.trans (x2.trans x3)) r3 (.bl _) h3
  · exact h3.elim
theorem de_chain {op op' : CmpOp} (ho : OD X (compareOp op) rd) (ho' : OD X (compareOp op') rd') (ha : DE X Z a ta) (hb : DE X Z b tb) (hc : DE X Z c tc) (hm : lastMarks [op, op'] [b, c] = false := by with_unfolding_all rfl) :
    DE X Z (.Compare a [op, op'] [b, c] pos) (dChain rd rd' ta tb tc) := PE.im (pe_chain ho ho' ha hb hc hm) fun _ _ _ => uChain
theorem dt_chain {op op' : CmpOp} (ho : OD X (compareOp op) rd) (ho' : OD X (compareOp op') rd') (ha : DE X Z a ta) (hb : DE X Z b tb) (hc : DE X Z c tc) (hm : lastMarks [op, op'] [b, c] = false := by with_unfolding_all rfl) :
    DT X Z (.Compare a [op, op'] [b, c] pos) (dTest (dChain rd rd' ta tb tc)) := PT.im (pt_chain ho ho' ha hb hc hm) fun _ _ _ h => uTest (fun _ _ _ => uChain) h
def dAnd (t u : DT') : DT' := fun ω S Q => t ω S fun c S1 => if c = true then u ω S1 Q else Q false S1
def dOr (t u : DT') : DT' := fun ω S Q => t ω S fun c S1 => if c = true then Q true S1 else u ω S1 Q
def dNot (t : DT') : DT' := fun ω S Q => t ω S fun c S1 => Q (!c) S1
theorem dw_and1 (ha : DT X Z a t) : DWt X Z (.BoolOp .And [a] pos) t := pw_and1 ha
theorem dw_or1 (ha : DT X Z a t) : DWt X Z (.BoolOp .Or [a] pos) t := pw_or1 ha
theorem dw_and (ha : DT X Z a t) (hb : DWt X Z (.BoolOp .And (b :: rest) pos) u) : DWt X Z (.BoolOp .And (a :: b :: rest) pos) (dAnd t u) := PW.im (pw_and ha hb) fun σ H Q ⟨ω, S, Qd, a, h, f⟩ => by
  refine ⟨ω, S, _, a, h, fun b S1 H1 x1 r1 h1 => ?_⟩
  cases b with
  | true =>
    rw [if_pos rfl] at h1 ⊢
    exact ⟨ω, S1, Qd, a.to x1 r1, h1, fun b S2 H2 x2 => f b S2 H2 (x1.trans x2)⟩
  | false =>
    rw [if_neg Bool.false_ne_true] at h1 ⊢
    exact f _ _ _ x1 r1 h1
theorem dw_or (ha : DT X Z a t) (hb : DWt X Z (.BoolOp .Or (b :: rest) pos) u) : DWt X Z (.BoolOp .Or (a :: b :: rest) pos) (dOr t u) := PW.im (pw_or ha hb) fun σ H Q ⟨ω, S, Qd, a, h, f⟩ => by
  refine ⟨ω, S, _, a, h, fun b S1 H1 x1 r1 h1 => ?_⟩
  cases b with
  | false =>
    rw [if_neg Bool.false_ne_true] at h1 ⊢
    exact ⟨ω, S1, Qd, a.to x1 r1, h1, fun b S2 H2 x2 => f b S2 H2 (x1.trans x2)⟩
  | true =>
    rw [if_pos rfl] at h1 ⊢
    exact f _ _ _ x1 r1 h1
theorem dt_not (ha : DT X Z a t) : DT X Z (.UnaryOp .Not a pos) (dNot t) := PT.im (pt_not ha) fun σ H Q ⟨ω, S, Qd, a, h, f⟩ => ⟨ω, S, _, a, h, fun b S1 H1 x1 r1 h1 => f _ _ _ x1 r1 h1⟩
/-- as values -/
def dAndV (ta tb : DE') : DE' := fun ω S Q => ta ω S fun x S1 => match tru S1 x with
  | some true => tb ω S1 Q
  | some false => Q x S1
  | none => False
def dOrV (ta tb : DE') : DE' := fun ω S Q => ta ω S fun x S1 => match tru S1 x with
  | some true => Q x S1
  | some false => tb ω S1 Q
  | none => False
def dNotV (ta : DE') : DE' := fun ω S Q => ta ω S fun x S1 => match tru S1 x with
  | some b => Q (.bl (!b)) S1
  | none => False
theorem de_one {op} (h : DE X Z a ta) : DE X Z (.BoolOp op [a] pos) ta := pe_one h
theorem de_and (ha : DE X Z a ta) (hb : DE X Z (.BoolOp .And (b :: rest) pos) tb) : DE X Z (.BoolOp .And (a :: b :: rest) pos) (dAndV ta tb) := PE.im (pe_andT ha hb) fun σ H Q ⟨ω, S, Qd, a, h, f⟩ => by
  refine ⟨ω, S, _, a, h, fun w S1 v H1 x1 r1 q1 h1 => ?_⟩
  split at h1
  · rename_i e
    exact ⟨true, tru_rel r1 q1 e, by rw [if_pos rfl]; exact ⟨ω, S1, Qd, a.to x1 r1, h1, fun w S' v H' x r q h => f w S' v H' (x1.trans x) r q h⟩⟩
  · rename_i e
    exact ⟨false, tru_rel r1 q1 e, by rw [if_neg Bool.false_ne_true]; exact f _ _ _ _ x1 r1 q1 h1⟩
  · exact h1.elim
theorem de_or (ha : DE X Z a ta) (hb : DE X Z (.BoolOp .Or (b :: rest) pos) tb) : DE X Z (.BoolOp .Or (a :: b :: rest) pos) (dOrV ta tb) := PE.im (pe_orT ha hb) fun σ H Q ⟨ω, S, Qd, a, h, f⟩ => by
  refine ⟨ω, S, _, a, h, fun w S1 v H1 x1 r1 q1 h1 => ?_⟩
  split at h1
  · rename_i e
    exact ⟨true, tru_rel r1 q1 e, by rw [if_pos rfl]; exact f _ _ _ _ x1 r1 q1 h1⟩
  · rename_i e
    exact ⟨false, tru_rel r1 q1 e, by rw [if_neg Bool.false_ne_true]; exact ⟨ω, S1, Qd, a.to x1 r1, h1, fun w S' v H' x r q h => f w S' v H' (x1.trans x) r q h⟩⟩
  · exact h1.elim
theorem de_not (ha : DE X Z a ta) : DE X Z (.UnaryOp .Not a pos) (dNotV ta) := PE.im (pe_notT ha) fun σ H Q ⟨ω, S, Qd, a, h, f⟩ => by
  refine ⟨ω, S, _, a, h, fun w S1 v H1 x1 r1 q1 h1 => ?_⟩
  split at h1
  · rename_i b e; exact ⟨b, tru_rel r1 q1 e, f _ _ _ _ x1 r1 (.bl _) h1⟩
  · exact h1.elim
def dIf (t : DT') (ta tb : DE') : DE' := fun ω S Q => t ω S fun c S1 => if c = true then ta ω S1 Q else tb ω S1 Q
theorem de_if (hc : DT X Z c t) (ha : DE X Z a ta) (hb : DE X Z b tb) : DE X Z (.IfExp c a b pos) (dIf t ta tb) := PE.im (pe_ifExp hc ha hb) fun σ H Q ⟨ω, S, Qd, a, h, f⟩ => by
  refine ⟨ω, S, _, a, h, fun b S1 H1 x1 r1 h1 => ?_⟩
  cases b with
  | false =>
    rw [if_neg Bool.false_ne_true] at h1 ⊢
    exact ⟨ω, S1, Qd, a.to x1 r1, h1, fun w S' v H' x r q h => f w S' v H' (x1.trans x) r q h⟩
  | true =>
    rw [if_pos rfl] at h1 ⊢
    exact ⟨ω, S1, Qd, a.to x1 r1, h1, fun w S' v H' x r q h => f w S' v H' (x1.trans x) r q h⟩
end

/-! ### arguments, displays, calls of built-ins -/
def dNil : DA' := fun _ S Q => Q [] S
def dCons (ta : DE') (tr : DA') : DA' := fun ω S Q => ta ω S fun x S1 => tr ω S1 fun xs S2 => Q (x :: xs) S2
abbrev DC' := List W → Sto → WQ → Prop
def uC (K : PySem.W.Frag) (rd : DC') : List V → Hp → VK → Prop := fun xs H Q => ∃ ws S Qd, Rel K S H ∧ RWs K S H ws xs ∧ rd ws S Qd ∧ Fin K S H Qd Q
def dCB (rd : DC') (t : DA') : DE' := fun ω S Q => t ω S fun ws S1 => rd ws S1 Q
section
variable {X : Cx} {Z : WX} {e : Expr} {es : List Expr} {te : DE'} {t : DA'} {pos : Pos} {rd : DC'}
theorem da_nil : DA X Z [] dNil := PA.im pa_nil fun σ H Q ⟨ω, S, Qd, a, h, f⟩ => f _ _ _ _ Nx.refl a.rel .nil h
theorem uCons {K : PySem.W.Frag} {σ : L2.St} {H : Hp} {Q : List V → Hp → Prop} (h : uA K Z (dCons te t) σ H Q) : tCons (uE K Z te) (uA K Z t) σ H Q := by
  obtain ⟨ω, S, Qd, a, h, f⟩ := h
  refine ⟨ω, S, _, a, h, fun w S1 v H1 x1 r1 q1 h1 => ?_⟩
  exact ⟨ω, S1, _, a.to x1 r1, h1, fun ws S2 vs H2 x2 r2 q2 h2 => f _ _ _ _ (x1.trans x2) r2 (.cons (q1.mono x2) q2) h2⟩
theorem da_cons (ha : DE X Z e te) (hr : DA X Z es t) (hs : starEach (e :: es) X.env = (false, eval e X.env) :: starEach es X.env := by rfl) : DA X Z (e :: es) (dCons te t) := PA.im (pa_cons ha hr hs) fun _ _ _ => uCons
theorem dk_nil : DKw X Z [] dNil := PK.im pk_nil fun σ H Q ⟨ω, S, Qd, a, h, f⟩ => f _ _ _ _ Nx.refl a.rel .nil h
theorem dk_cons {kws : List Keyword} {nm : Option Str} {kpos : Pos} (ha : DE X Z e te) (hr : DKw X Z kws t) : DKw X Z (⟨nm, e, kpos⟩ :: kws) (dCons te t) := PK.im (pk_cons ha hr) fun _ _ _ => uCons
def dTup (t : DA') : DE' := fun ω S Q => t ω S fun ws S1 => ws.length ≤ 1000000 ∧ Q (.tup ws) S1
def dLst (t : DA') : DE' := fun ω S Q => t ω S fun ws S1 => ws.length ≤ 1000000 ∧ Q (.lst ws) S1
/-- a list that may change -/
def dLstM (t : DA') : DE' := fun ω S Q => t ω S fun ws S1 => ws.length ≤ 1000000 ∧ ∀ p, S1 p = none → Q (.ref p) (up S1 p (.lst ws))
theorem de_tup {x1} (h : DA X Z es t) : DE X Z (.Tuple es x1 pos) (dTup t) := PE.im (pe_tup h) fun σ H Q ⟨ω, S, Qd, a, h, f⟩ => by
  refine ⟨ω, S, _, a, h, fun ws S1 vs H1 x1 r1 q1 h1 => ⟨by rw [← q1.len]; exact sz_of h1.1, fun p np => ?_⟩⟩
  exact f _ _ _ _ (x1.trans (Nx.new np)) (r1.new np) (.tup upd_same (r1.free np) (q1.mono (Nx.new np))) h1.2
theorem de_lst (h : DA X Z es t) : DE X Z (.List es pos) (dLst t) := PE.im (pe_lst h) fun σ H Q ⟨ω, S, Qd, a, h, f⟩ => by
  refine ⟨ω, S, _, a, h, fun ws S1 vs H1 x1 r1 q1 h1 => ⟨by rw [← q1.len]; exact sz_of h1.1, fun p np => ?_⟩⟩
  exact f _ _ _ _ (x1.trans (Nx.new np)) (r1.new np) (.lst upd_same (r1.free np) (q1.mono (Nx.new np))) h1.2
theorem de_lstM (h : DA X Z es t) : DE X Z (.List es pos) (dLstM t) := PE.im (pe_lst h) fun σ H Q ⟨ω, S, Qd, a, h, f⟩ => by
  refine ⟨ω, S, _, a, h, fun ws S1 vs H1 x1 r1 q1 h1 => ⟨by rw [← q1.len]; exact sz_of h1.1, fun p np => ?_⟩⟩
  exact f _ _ _ _ (x1.trans (Nx.newS np)) (r1.newS np (.lst upd_same (q1.mono (Nx.newS np)))) (.ref p) (h1.2 p (r1.free np))
abbrev CD (X : Cx) (f : Value) (rd : DC') : Prop := CallR X f (uC X.K rd)
theorem CallR.im {X : Cx} {f : Value} {r r' : List V → Hp → VK → Prop} (h : CallR X f r) (i : ∀ xs H Q, r' xs H Q → r xs H Q) : CallR X f r' := fun pins s σ H xs us Q I rx q => h pins s σ H xs us Q I rx (i _ _ _ q)
theorem uCB {K : PySem.W.Frag} {σ : L2.St} {H : Hp} {Q : VK} (h : uE K Z (dCB rd t) σ H Q) : tCB (uC K rd) (uA K Z t) σ H Q := by
  obtain ⟨ω, S, Qd, a, h, f⟩ := h
  exact ⟨ω, S, _, a, h, fun ws S1 vs H1 x1 r1 q1 h1 => ⟨ws, S1, Qd, r1, q1, h1, fun w S' v H' x r q h => f w S' v H' (x1.trans x) r q h⟩⟩
variable {x : Str} {p : Pos} {id : String}
theorem de_callB (hc : CD X (.builtin id) rd) (hm : X.mg x = none) (ha : DA X Z (e :: es) t) (hv : bootBuiltins x = some (.builtin id) := by decide +kernel) (hg : Gl X x := by rfl) (hn : x ≠ "__name__" := by decide) (hdb : (x == ("__debug__" : Str)) = false := by decide)
    (he : starEach (e :: es) X.env = (false, eval e X.env) :: starEach es X.env := by rfl) (hpl : (backTo pos (starEach es X.env)).any (·.1) = false := by rfl) : DE X Z (.Call (.Name x p) (e :: es) [] pos) (dCB rd t) := PE.im (pe_callB hc hg hm hv ha hn hdb he hpl) fun _ _ _ => uCB
theorem de_callTy (hc : CD X (.type id) rd) (hm : X.mg x = none) (ha : DA X Z (e :: es) t) (hv : bootBuiltins x = some (.type id) := by decide +kernel) (hg : Gl X x := by rfl) (hn : x ≠ "__name__" := by decide) (hdb : (x == ("__debug__" : Str)) = false := by decide)
    (he : starEach (e :: es) X.env = (false, eval e X.env) :: starEach es X.env := by rfl) (hpl : (backTo pos (starEach es X.env)).any (·.1) = false := by rfl) : DE X Z (.Call (.Name x p) (e :: es) [] pos) (dCB rd t) := PE.im (pe_callTy hc hg hm hv ha hn hdb he hpl) fun _ _ _ => uCB
end
section
variable {X : Cx} {Z : WX}
theorem RWs.one {K : PySem.W.Frag} {S : Sto} {H : Hp} {w : W} {vs : List V} (h : RWs K S H [w] vs) : ∃ v, vs = [v] ∧ RW K S H w v := by
  cases h with | cons h t => cases t; exact ⟨_, rfl, h⟩
theorem RWs.two {K : PySem.W.Frag} {S : Sto} {H : Hp} {w w' : W} {vs : List V} (h : RWs K S H [w, w'] vs) : ∃ v v', vs = [v, v'] ∧ RW K S H w v ∧ RW K S H w' v' := by
  cases h with | cons h t => cases t with | cons h' t => cases t; exact ⟨_, _, rfl, h, h'⟩
def dLen : DC' := fun ws S Q => match ws with
  | [w] => match view S w with
    | .lst xs => Q (.int xs.length) S
    | .tup xs => Q (.int xs.length) S
    | .scr ns => Q (.int ns.length) S
    | .str x => Q (.int x.length) S
    | .dct ks _ => Q (.int ks.length) S
    | _ => False
  | _ => False
theorem cd_len : CD X (.builtin "len") dLen := by
  intro pins s σ H xs us Q I rx ⟨ws, S, Qd, r, rs, q, fi⟩
  unfold dLen at q
  split at q
  · obtain ⟨v, rfl, r1⟩ := rs.one
    split at q
    · rename_i ys e
      obtain ⟨a, vs, rfl, h1, q1⟩ := view_lst r r1 e
      rw [q1.len] at q
      exact call_len_seq pins s σ H _ us Q I rx ⟨a, vs, rfl, .inl (.inl (.inl h1)), fi.one r (.int _) q⟩
    · rename_i ys e
      obtain ⟨a, vs, rfl, h1, q1⟩ := view_tup r1 e
      rw [q1.len] at q
      exact call_len_seq pins s σ H _ us Q I rx ⟨a, vs, rfl, .inr h1, fi.one r (.int _) q⟩
    · rename_i ys e
      obtain ⟨a, rfl, h1⟩ := view_scr r1 e
      exact call_len_seq pins s σ H _ us Q I rx ⟨a, _, rfl, .inl h1, fi.one r (.int _) (by rw [List.length_map]; exact q)⟩
    · rename_i ys e
      obtain ⟨rfl, ok⟩ := view_str r1 e
      exact call_len_str pins s σ H _ us Q I rx ⟨_, rfl, (sv_iff.mp ok).2, fi.one r (.int _) q⟩
    · rename_i ks ys e
      obtain ⟨a, gs, rfl, h1, q1, el⟩ := view_dct r r1 e
      have : gs.length = ks.length := by rw [← RWp.len q1, List.length_zip]; omega
      obtain ⟨u, rfl, ru⟩ := vals1 rx
      cases ru
      exact d_len I h1 fun t s' I' => ⟨.int gs.length, H, I', ⟨t, rfl⟩, fi.one r (.int _) (by rw [this]; exact q)⟩
    · exact q.elim
  · exact q.elim
def dAbs : DC' := fun ws S Q => match ws with
  | [.int i] => Q (.int (if i < 0 then -i else i)) S
  | _ => False
theorem cd_abs : CD X (.builtin "abs") dAbs := CallR.im call_abs fun xs H Q ⟨ws, S, Qd, r, rs, q, fi⟩ => by
  unfold dAbs at q
  split at q
  · obtain ⟨v, rfl, r1⟩ := rs.one; cases r1; exact ⟨_, rfl, fi.one r (.int _) q⟩
  · exact q.elim
def dMax2 : DC' := fun ws S Q => match ws with
  | [.int i, .int j] => Q (.int (if j > i then j else i)) S
  | _ => False
theorem cd_max2 (hc : X.calm = true := by rfl) : CD X (.builtin "max") dMax2 := CallR.im (call_max2 hc) fun xs H Q ⟨ws, S, Qd, r, rs, q, fi⟩ => by
  unfold dMax2 at q
  split at q
  · obtain ⟨v, v', rfl, r1, r2⟩ := rs.two; cases r1; cases r2; exact ⟨_, _, rfl, fi.one r (.int _) q⟩
  · exact q.elim
def dMin2 : DC' := fun ws S Q => match ws with
  | [.int i, .int j] => Q (.int (if j < i then j else i)) S
  | _ => False
theorem cd_min2 (hc : X.calm = true := by rfl) : CD X (.builtin "min") dMin2 := CallR.im (call_min2 hc) fun xs H Q ⟨ws, S, Qd, r, rs, q, fi⟩ => by
  unfold dMin2 at q
  split at q
  · obtain ⟨v, v', rfl, r1, r2⟩ := rs.two; cases r1; cases r2; exact ⟨_, _, rfl, fi.one r (.int _) q⟩
  · exact q.elim
/-- all, any of a list of truths -/
def bls : List W → Option (List Bool)
  | [] => some []
  | .bl b :: ws => (bls ws).map (b :: ·)
  | _ => none
theorem bls_eq : ∀ {ws : List W} {bs : List Bool}, bls ws = some bs → ws = bs.map W.bl
  | [], bs, h => by cases h; rfl
  | w :: ws, bs, h => by
    cases w <;> simp only [bls] at h <;> try cases h
    rename_i b
    cases e : bls ws with
    | none => rw [e] at h; cases h
    | some cs => rw [e] at h; cases h; rw [bls_eq e]; rfl
theorem bls_map (bs : List Bool) : bls (bs.map W.bl) = some bs := by
  induction bs with
  | nil => rfl
  | cons b bs ih => rw [List.map_cons, bls, ih]; rfl
def dAll : DC' := fun ws S Q => match ws with
  | [w] => match view S w with
    | .lst xs => match bls xs with
      | some bs => Q (.bl (bs.all id)) S
      | none => False
    | _ => False
  | _ => False
def dAny : DC' := fun ws S Q => match ws with
  | [w] => match view S w with
    | .lst xs => match bls xs with
      | some bs => Q (.bl (bs.any id)) S
      | none => False
    | _ => False
  | _ => False
theorem cd_all (hc : X.calm = true := by rfl) : CD X (.builtin "all") dAll := CallR.im (cr_all hc) fun xs H Q ⟨ws, S, Qd, r, rs, q, fi⟩ => by
  unfold dAll at q
  split at q
  · obtain ⟨v, rfl, r1⟩ := rs.one
    split at q
    · rename_i ys e
      obtain ⟨a, vs, rfl, h1, q1⟩ := view_lst r r1 e
      split at q
      · rename_i bs eb
        rw [bls_eq eb] at q1
        rw [q1.bls_inv] at h1
        exact ⟨a, bs, rfl, .inl (.inl h1), fi.one r (.bl _) q⟩
      · exact q.elim
    · exact q.elim
  · exact q.elim
theorem cd_any (hc : X.calm = true := by rfl) : CD X (.builtin "any") dAny := CallR.im (cr_any hc) fun xs H Q ⟨ws, S, Qd, r, rs, q, fi⟩ => by
  unfold dAny at q
  split at q
  · obtain ⟨v, rfl, r1⟩ := rs.one
    split at q
    · rename_i ys e
      obtain ⟨a, vs, rfl, h1, q1⟩ := view_lst r r1 e
      split at q
      · rename_i bs eb
        rw [bls_eq eb] at q1
        rw [q1.bls_inv] at h1
        exact ⟨a, bs, rfl, .inl (.inl h1), fi.one r (.bl _) q⟩
      · exact q.elim
    · exact q.elim
  · exact q.elim
/-- list(x), tuple(x) -/
def dListOf : DC' := fun ws S Q => match ws with
  | [w] => match view S w with
    | .lst xs => Q (.lst xs) S
    | .tup xs => Q (.lst xs) S
    | _ => False
  | _ => False
def dListOfM : DC' := fun ws S Q => match ws with
  | [w] => match view S w with
    | .lst xs => ∀ p, S p = none → Q (.ref p) (up S p (.lst xs))
    | .tup xs => ∀ p, S p = none → Q (.ref p) (up S p (.lst xs))
    | _ => False
  | _ => False
def dTupOf : DC' := fun ws S Q => match ws with
  | [w] => match view S w with
    | .lst xs => Q (.tup xs) S
    | .tup xs => Q (.tup xs) S
    | _ => False
  | _ => False
theorem cd_list : CD X (.type "list") dListOf := CallR.im call_list_of fun xs H Q ⟨ws, S, Qd, r, rs, q, fi⟩ => by
  unfold dListOf at q
  split at q
  · obtain ⟨v, rfl, r1⟩ := rs.one
    split at q
    · rename_i ys e
      obtain ⟨a, vs, rfl, h1, q1⟩ := view_lst r r1 e
      exact ⟨a, vs, rfl, .inl (.inl (.inl h1)), fun p np => fi _ _ _ _ (Nx.new np) (r.new np) (.lst upd_same (r.free np) (q1.mono (Nx.new np))) q⟩
    · rename_i ys e
      obtain ⟨a, vs, rfl, h1, q1⟩ := view_tup r1 e
      exact ⟨a, vs, rfl, .inr h1, fun p np => fi _ _ _ _ (Nx.new np) (r.new np) (.lst upd_same (r.free np) (q1.mono (Nx.new np))) q⟩
    · exact q.elim
  · exact q.elim
theorem cd_listM : CD X (.type "list") dListOfM := CallR.im call_list_of fun xs H Q ⟨ws, S, Qd, r, rs, q, fi⟩ => by
  unfold dListOfM at q
  split at q
  · obtain ⟨v, rfl, r1⟩ := rs.one
    split at q
    · rename_i ys e
      obtain ⟨a, vs, rfl, h1, q1⟩ := view_lst r r1 e
      exact ⟨a, vs, rfl, .inl (.inl (.inl h1)), fun p np => fi _ _ _ _ (Nx.newS np) (r.newS np (.lst upd_same (q1.mono (Nx.newS np)))) (.ref p) (q p (r.free np))⟩
    · rename_i ys e
      obtain ⟨a, vs, rfl, h1, q1⟩ := view_tup r1 e
      exact ⟨a, vs, rfl, .inr h1, fun p np => fi _ _ _ _ (Nx.newS np) (r.newS np (.lst upd_same (q1.mono (Nx.newS np)))) (.ref p) (q p (r.free np))⟩
    · exact q.elim
  · exact q.elim
theorem view_tup_self {K : PySem.W.Frag} {S : Sto} {H : Hp} {w : W} {v : V} {xs : List W} (h : RW K S H w v) (e : view S w = .tup xs) : RW K S H (.tup xs) v := by
  cases h <;> simp only [view] at e <;> try cases e
  case tup => exact .tup (by assumption) (by assumption) (by assumption)
  case tupK => exact .tupK (by assumption) (by assumption)
  case ref a => split at e <;> cases e
theorem cd_tuple : CD X (.type "tuple") dTupOf := CallR.im call_tuple_of fun xs H Q ⟨ws, S, Qd, r, rs, q, fi⟩ => by
  unfold dTupOf at q
  split at q
  · obtain ⟨v, rfl, r1⟩ := rs.one
    split at q
    · rename_i ys e
      obtain ⟨a, vs, rfl, h1, q1⟩ := view_lst r r1 e
      exact ⟨a, vs, rfl, .inl ⟨.inl (.inl h1), fun p np => fi _ _ _ _ (Nx.new np) (r.new np) (.tup upd_same (r.free np) (q1.mono (Nx.new np))) q⟩⟩
    · rename_i ys e
      have r2 := view_tup_self r1 e
      obtain ⟨a, vs, rfl, h1, q1⟩ := view_tup r1 e
      exact ⟨a, vs, rfl, .inr ⟨h1, fi.one r r2 q⟩⟩
    · exact q.elim
  · exact q.elim
end
end DL

set_option Elab.async false
set_option linter.all false
set_option maxRecDepth 100000
set_option maxHeartbeats 4000000
namespace DL
open PySem PySem.Spec PyProof.Rows L2

/-! ### statements -/
def dNext : DS' := fun D ω S => D.nx ω S
def dSeq (t u : DS') : DS' := fun D ω S => t { D with nx := u D } ω S
def dDrop (te : DE') : DS' := fun D ω S => te ω S fun _ S1 => D.nx ω S1
def dRet (te : DE') : DS' := fun D ω S => te ω S D.rt
def dRetN : DS' := fun D _ S => D.rt .non S
def dIfS (c : DT') (t u : DS') : DS' := fun D ω S => c ω S fun b S1 => if b = true then t D ω S1 else u D ω S1
def dBrk : DS' := fun D ω S => D.bk ω S
def dCnt : DS' := fun D ω S => D.ct ω S
def dSet (i : Nat) (te : DE') : DS' := fun D ω S => te ω S fun w S1 => D.nx (ω.set i (some w)) S1
section
variable {X : Cx} {Z : WX} {st : Stmt} {rest : List Stmt} {t u : DS'} {e : Expr} {te : DE'} {pos : Pos}
theorem dss_nil : DSs X Z [] dNext := PSs.im pss_nil fun D σ H ⟨ω, S, Dd, a, h, f⟩ => f.nx _ _ _ _ Nx.refl a h
theorem ds_pass : DS X Z (.Pass pos) dNext := PS.im ps_pass fun D σ H ⟨ω, S, Dd, a, h, f⟩ => f.nx _ _ _ _ Nx.refl a h
theorem ds_break : DS X Z (.Break pos) dBrk := PS.im ps_break fun D σ H ⟨ω, S, Dd, a, h, f⟩ => f.bk _ _ _ _ Nx.refl a h
theorem ds_continue : DS X Z (.Continue pos) dCnt := PS.im ps_continue fun D σ H ⟨ω, S, Dd, a, h, f⟩ => f.ct _ _ _ _ Nx.refl a h
theorem dss_one (h1 : DS X Z st t) : DSs X Z [st] t := pss_one h1
theorem dss_cons (h1 : DS X Z st t) (h2 : DSs X Z rest u) : DSs X Z (st :: rest) (dSeq t u) := PSs.im (pss_cons h1 h2) fun D σ H ⟨ω, S, Dd, a, h, f⟩ =>
  ⟨ω, S, { Dd with nx := u Dd }, a, h, ⟨fun ω' S' σ' H' x a' h' => ⟨ω', S', Dd, a', h', f.to x⟩, f.rt, f.bk, f.ct⟩⟩
theorem ds_expr (he : DE X Z e te) (hs : swapsWith e none pos.line X.env = pure false := by rfl) : DS X Z (.Expr e pos) (dDrop te) := PS.im (ps_expr he hs) fun D σ H ⟨ω, S, Dd, a, h, f⟩ =>
  ⟨ω, S, _, a, h, fun w S1 v H1 x1 r1 q1 h1 => f.nx _ _ _ _ x1 (a.to x1 r1) h1⟩
theorem ds_ret (he : DE X Z e te) : DS X Z (.Return (some e) pos) (dRet te) := PS.im (ps_ret he) fun D σ H ⟨ω, S, Dd, a, h, f⟩ => ⟨ω, S, _, a, h, f.rt⟩
theorem ds_retN : DS X Z (.Return none pos) dRetN := PS.im ps_retN fun D σ H ⟨ω, S, Dd, a, h, f⟩ => f.rt _ _ _ _ Nx.refl a.rel .non h
theorem ds_if {c : Expr} {a b : List Stmt} {tc : DT'} (hc : DT X Z c tc) (ha : DSs X Z a t) (hb : DSs X Z b u) : DS X Z (.If c a b pos) (dIfS tc t u) := PS.im (ps_if hc ha hb) fun D σ H ⟨ω, S, Dd, a, h, f⟩ => by
  refine ⟨ω, S, _, a, h, fun b S1 H1 x1 r1 h1 => ?_⟩
  cases b with
  | true => rw [if_pos rfl] at h1 ⊢; exact ⟨ω, S1, Dd, a.to x1 r1, h1, f.to x1⟩
  | false => rw [if_neg Bool.false_ne_true] at h1 ⊢; exact ⟨ω, S1, Dd, a.to x1 r1, h1, f.to x1⟩
theorem ds_never : DS X Z st (fun _ _ _ => False) := PS.im ps_never fun D σ H ⟨ω, S, Dd, a, h, f⟩ => h.elim
theorem dss_never {sts : List Stmt} : DSs X Z sts (fun _ _ _ => False) := PSs.im pss_never fun D σ H ⟨ω, S, Dd, a, h, f⟩ => h.elim
theorem ds_doc {x : Str} {j : Nat} {pos pos'} : DS X Z (.Expr (.Constant (.str x) j pos) pos') dNext := PS.im ps_doc fun D σ H ⟨ω, S, Dd, a, h, f⟩ => f.nx _ _ _ _ Nx.refl a h
theorem At.set {K : PySem.W.Frag} {S : Sto} {H : Hp} {σ : L2.St} {ω : Om} {w : W} {v : V} (a : At K Z S H σ ω) (r : RW K S H w v) (i : Nat) : At K Z S H (σ.set i (some v)) (ω.set i (some w)) := ⟨a.rel, a.rs.set r i, a.fx⟩
theorem ds_set {i : Nat} {x : Str} {pos' : Pos} (hN : X.N.Nodup) (he : DE X Z e te) (hi : X.N[i]? = some x := by rfl) (hx : Loc X.env.scope x := by first | exact .inl rfl | exact .inr rfl) (hs : swapsWith e (some (.Name x pos')) pos.line X.env = pure false := by rfl)
    (hf : X.fn x = true ∨ X.env.scope.names.lookup x = some .local := by first | exact .inl rfl | exact .inr rfl | assumption) : DS X Z (.Assign [.Name x pos'] e pos) (dSet i te) := PS.im (ps_set hN hi hx he hs hf) fun D σ H ⟨ω, S, Dd, a, h, f⟩ =>
  ⟨ω, S, _, a, h, fun w S1 v H1 x1 r1 q1 h1 => f.nx _ _ _ _ x1 ((a.to x1 r1).set q1 i) h1⟩
end

/-! ### targets -/
inductive Tg where
  | nm (i : Nat)
  | tp (ts : List Tg)
mutual
def gOf (K : PySem.W.Frag) : Tg → TG
  | .nm i => gName i
  | .tp ts => gTup K ts.length (gsOf K ts)
def gsOf (K : PySem.W.Frag) : List Tg → TGs
  | [] => gNil
  | t :: ts => gCons (gOf K t) (gsOf K ts)
end
mutual
def tbind : Tg → W → Om → Option Om
  | .nm i, w, ω => some (ω.set i (some w))
  | .tp ts, .tup ws, ω => tbinds ts ws ω
  | .tp _, _, _ => none
def tbinds : List Tg → List W → Om → Option Om
  | [], [], ω => some ω
  | t :: ts, w :: ws, ω => match tbind t w ω with
    | some ω' => tbinds ts ws ω'
    | none => none
  | _, _, _ => none
end
mutual
def tix : Tg → List Nat
  | .nm i => [i]
  | .tp ts => tixs ts
def tixs : List Tg → List Nat
  | [] => []
  | t :: ts => tix t ++ tixs ts
end
theorem wipe_set {σ : L2.St} {i : Nat} {x : Option V} : ∀ {vs : List Nat}, i ∈ vs → wipe (σ.set i x) vs = wipe σ vs
  | v :: vs, h => by
    unfold wipe
    by_cases hm : i ∈ vs
    · rw [wipe_set hm]
    · have e : i = v := by
        rcases List.mem_cons.mp h with h | h
        · exact h
        · exact absurd h hm
      subst e
      clear h
      have : ∀ (us : List Nat), i ∉ us → wipe (σ.set i x) us = (wipe σ us).set i x := by
        intro us
        induction us with
        | nil => intro _; rfl
        | cons u us ih =>
          intro hu
          unfold wipe
          rw [ih (fun z => hu (List.mem_cons_of_mem _ z)), List.set_comm]
          exact fun e => hu (by rw [e]; exact List.mem_cons_self ..)
      rw [this vs hm, List.set_set]
section
variable {K : PySem.W.Frag} {S : Sto} {H : Hp}
mutual
theorem tbind_ok : ∀ {t : Tg} {w : W} {v : V} {σ : L2.St} {ω ω' : Om}, tbind t w ω = some ω' → At K Z S H σ ω → RW K S H w v →
    ∃ σ', At K Z S H σ' ω' ∧ (∀ vs, (∀ i ∈ tix t, i ∈ vs) → wipe σ' vs = wipe σ vs) ∧ ∀ Q : L2.St → Hp → Prop, Q σ' H → gOf K t v σ H Q
  | .nm i, w, v, σ, ω, ω', h, a, r => by
    cases h
    exact ⟨_, a.set r i, fun vs hv => wipe_set (hv i (List.mem_singleton.mpr rfl)), fun Q q => q⟩
  | .tp ts, w, v, σ, ω, ω', h, a, r => by
    cases w with
    | tup ws =>
      have h' : tbinds ts ws ω = some ω' := h
      obtain ⟨ad, vs, rfl, sq, rs⟩ := view_tup (xs := ws) r rfl
      obtain ⟨σ', a', hw, hq⟩ := tbinds_ok h' a rs
      refine ⟨σ', a', hw, fun Q q => ⟨ad, vs, rfl, sq, ?_, hq Q q⟩⟩
      rw [← rs.len]
      exact tbinds_len h'
    | _ => cases h
theorem tbinds_ok : ∀ {ts : List Tg} {ws : List W} {us : List V} {σ : L2.St} {ω ω' : Om}, tbinds ts ws ω = some ω' → At K Z S H σ ω → RWs K S H ws us →
    ∃ σ', At K Z S H σ' ω' ∧ (∀ vs, (∀ i ∈ tixs ts, i ∈ vs) → wipe σ' vs = wipe σ vs) ∧ ∀ Q : L2.St → Hp → Prop, Q σ' H → gsOf K ts us σ H Q
  | [], ws, us, σ, ω, ω', h, a, r => by
    cases ws with
    | nil =>
      cases h
      cases r
      exact ⟨σ, a, fun _ _ => rfl, fun Q q => ⟨rfl, q⟩⟩
    | cons w ws => cases h
  | t :: ts, ws, us, σ, ω, ω', h, a, r => by
    cases ws with
    | nil => cases h
    | cons w ws =>
      cases r with
      | cons r rs =>
        unfold tbinds at h
        split at h
        · rename_i ω1 e1
          obtain ⟨σ1, a1, w1, q1⟩ := tbind_ok e1 a r
          obtain ⟨σ2, a2, w2, q2⟩ := tbinds_ok h a1 rs
          refine ⟨σ2, a2, fun vs hv => ?_, fun Q q => ⟨_, _, rfl, q1 _ (q2 Q q)⟩⟩
          rw [w2 vs fun i hi => hv i (List.mem_append_right _ hi), w1 vs fun i hi => hv i (List.mem_append_left _ hi)]
        · cases h
theorem tbinds_len : ∀ {ts : List Tg} {ws : List W} {ω ω' : Om}, tbinds ts ws ω = some ω' → ws.length = ts.length
  | [], ws, ω, ω', h => by
    cases ws with
    | nil => rfl
    | cons w ws => cases h
  | t :: ts, ws, ω, ω', h => by
    cases ws with
    | nil => cases h
    | cons w ws =>
      unfold tbinds at h
      split at h
      · exact congrArg Nat.succ (tbinds_len h)
      · cases h
end
end
def dAsgT (T : Tg) (te : DE') : DS' := fun D ω S => te ω S fun w S1 => match tbind T w ω with
  | some ω' => D.nx ω' S1
  | none => False
section
variable {X : Cx} {Z : WX} {e tg : Expr} {te : DE'} {pos : Pos} {T : Tg}
theorem dg_nm {i : Nat} {x : Str} (hN : X.N.Nodup) (hi : X.N[i]? = some x := by rfl) (hx : Loc X.env.scope x := by first | exact .inl rfl | exact .inr rfl) (hf : X.fn x = true ∨ X.env.scope.names.lookup x = some .local := by first | exact .inl rfl | exact .inr rfl | assumption) : PG X (.Name x pos) (gOf X.K (.nm i)) := pg_name hN hi hx hf
theorem dgs_nil : PGs X [] (gsOf X.K []) := pgs_nil
theorem dgs_cons {es : List Expr} {ts : List Tg} (h1 : PG X e (gOf X.K T)) (h2 : PGs X es (gsOf X.K ts)) (hs : (assignEach (e :: es) X.env).map (·.2) = assign e X.env :: (assignEach es X.env).map (·.2) := by rfl) : PGs X (e :: es) (gsOf X.K (T :: ts)) := pgs_cons h1 h2 hs
theorem dg_tp {es : List Expr} {k : Nat} {ts : List Tg} (h : PGs X es (gsOf X.K ts)) (hc : X.calm = true := by rfl) (hn : (assignEach es X.env).length = ts.length := by rfl) (hst : (assignEach es X.env).findIdx? (·.1) = none := by rfl) : PG X (.Tuple es k pos) (gOf X.K (.tp ts)) := pg_tup hc h hn hst
theorem ds_asgT (he : DE X Z e te) (hg : PG X tg (gOf X.K T)) (hs : swapsWithSole [tg] e pos.line X.env = pure false := by rfl) (hw : swappedStores [tg] e X.env = pure none := by rfl) (h1 : (assignEach [tg] X.env).map (·.2) = [assign tg X.env] := by rfl) :
    DS X Z (.Assign [tg] e pos) (dAsgT T te) := PS.im (ps_asg he hg hs hw h1) fun D σ H ⟨ω, S, Dd, a, h, f⟩ => by
  refine ⟨ω, S, _, a, h, fun w S1 v H1 x1 r1 q1 h1 => ?_⟩
  split at h1
  · rename_i ω' e'
    obtain ⟨σ', a', _, hq⟩ := tbind_ok e' (a.to x1 r1) q1
    exact hq _ (f.nx _ _ _ _ x1 a' h1)
  · exact h1.elim
end

/-! ### what is walked -/
/-- J walks the things xs, as long as the store is so -/
structure Src (K : PySem.W.Frag) (S0 : Sto) (H0 : Hp) (J : It) (xs : List W) (ok : Sto → Prop) : Prop where
  go : ∀ i S H, Nx S0 H0 S H → Rel K S H → ok S → i < xs.length → J.go i H
  yld : ∀ i S H x H', Nx S0 H0 S H → Rel K S H → ok S → i < xs.length → J.yld i H x H' → ∃ w, xs[i]? = some w ∧ Nx S H S H' ∧ Rel K S H' ∧ RW K S H' w x
  stop : ∀ i S H, Nx S0 H0 S H → Rel K S H → ok S → i = xs.length → J.stop i H
abbrev DI' := Om → Sto → (List W → (Sto → Prop) → Sto → Prop) → Prop
def uI (K : PySem.W.Frag) (Z : WX) (di : DI') : TI := fun σ H R => ∃ (ω : Om) (S : Sto) (Qd : List W → (Sto → Prop) → Sto → Prop), At K Z S H σ ω ∧ di ω S Qd ∧ ∀ xs ok S' H' J, Nx S H S' H' → Rel K S' H' → Src K S' H' J xs ok → Qd xs ok S' → R J H'
abbrev DI (X : Cx) (Z : WX) (tg iter : Expr) (di : DI') : Prop := PI X tg iter (uI X.K Z di)
theorem PI.im {X : Cx} {tg e : Expr} {t t' : TI} (h : PI X tg e t) (i : ∀ σ H R, t' σ H R → t σ H R) : PI X tg e t' := ⟨fun pins s σ H R I q => h.run pins s σ H R I (i σ H R q)⟩
theorem PI.cases {X : Cx} {tg e : Expr} {t t' u : TI} (h : PI X tg e t) (h' : PI X tg e t') (i : ∀ σ H R, u σ H R → t σ H R ∨ t' σ H R) : PI X tg e u := ⟨fun pins s σ H R I q => by
  rcases i σ H R q with z | z
  · exact h.run pins s σ H R I z
  · exact h'.run pins s σ H R I z⟩
/-- a list, a tuple, a text -/
def seqW (S : Sto) (w : W) : Option (List W) := match view S w with
  | .lst xs => some xs
  | .tup xs => some xs
  | .scr ns => some (ns.map W.int)
  | .str x => some (x.cps.toList.map fun c => W.str ⟨#[c]⟩)
  | _ => none
def dSeqI (te : DE') : DI' := fun ω S Q => te ω S fun w S1 => match seqW S1 w with
  | some xs => Q xs (fun S' => seqW S' w = some xs) S1
  | none => False
section
variable {X : Cx} {Z : WX} {tg l : Expr} {te : DE'}
/-- any of these, by the values -/
def iAny (K : PySem.W.Frag) (te : TE) : TI := fun σ H R => te σ H fun x H1 => (∃ a xs, x = .ref a ∧ SqL K H1 a xs ∧ R (Itl K a) H1) ∨ (∃ a xs, x = .ref a ∧ SqT K H1 a xs ∧ R (Itt K a) H1) ∨ ∃ z, x = .str z ∧ R (Its z) H1
theorem pi_any {te : TE} (hl : PE X l te) : PI X tg l (iAny X.K te) := by
  refine ⟨fun pins s σ H R I h => ?_⟩
  refine thn (hl.run pins s σ H _ I h) fun v s1 ⟨x, H1, I1, r1, q1⟩ => ?_
  rcases q1 with ⟨a, xs, ex, hq, q⟩ | ⟨a, xs, ex, hq, q⟩ | ⟨z, ex, q⟩
  · subst ex
    cases r1
    obtain ⟨its, rv, p, hz⟩ := I1.list hq
    refine wpAny_pyIter_list p.isList ⟨s1.heap.objs.size, [s1.heap.objs.size], _, _, H1, rfl, I1.kept (t' := s1.toks) fun b o e => Heap.get?_push_of_some _ e, turn_list a _, ⟨_, Heap.get?_push_size _ rfl, rfl, rfl⟩, fun b hb => ?_, q⟩
    obtain rfl : b = s1.heap.objs.size := by simpa using hb
    exact I1.fpOk (Nat.le_refl _) (I1.hok.fresh (Nat.le_refl _))
  · subst ex
    cases r1
    obtain ⟨its, rv, p, hz⟩ := I1.tuple hq
    refine wpAny_pyIter_tuple (show s1.heap.IsTuple a its.toArray from p) ⟨s1.heap.objs.size, [s1.heap.objs.size], _, _, H1, rfl, I1.kept (t' := s1.toks) fun b o e => Heap.get?_push_of_some _ e, turn_tuple a _, ⟨_, Heap.get?_push_size _ rfl, rfl, rfl⟩, fun b hb => ?_, q⟩
    obtain rfl : b = s1.heap.objs.size := by simpa using hb
    exact I1.fpOk (Nat.le_refl _) (I1.hok.fresh (Nat.le_refl _))
  · subst ex
    obtain ⟨t, rfl⟩ := r1
    cases ha : z.cps.all (· < 128)
    · exact wpAny_pyIter_wide ha (pi_one (tk := s1.toks) I1 _ (turn_str _ z t "str_iterator" (.inr rfl)) ⟨_, Heap.get?_push_size _ rfl, rfl, rfl⟩ q)
    · exact wpAny_pyIter_ascii ha (pi_one (tk := s1.toks) I1 _ (turn_str _ z t "str_ascii_iterator" (.inl rfl)) ⟨_, Heap.get?_push_size _ rfl, rfl, rfl⟩ q)
end
theorem src_l {K : PySem.W.Frag} {S0 : Sto} {H0 : Hp} {a : Addr} {xs : List W} {ok : Sto → Prop} (h : ∀ S H, Nx S0 H0 S H → Rel K S H → ok S → ∃ vs, SqL K H a vs ∧ RWs K S H xs vs) : Src K S0 H0 (Itl K a) xs ok := by
  refine ⟨fun i S H x r o hi => ?_, fun i S H v H' x r o hi y => ?_, fun i S H x r o hi => ?_⟩
  · obtain ⟨vs, sq, rs⟩ := h S H x r o
    have hl := rs.len
    exact ⟨vs, vs[i], sq, by simp [show i < vs.length by omega]⟩
  · obtain ⟨vs, sq, rs⟩ := h S H x r o
    obtain ⟨e, y⟩ := y
    subst e
    obtain ⟨w, ew, rw'⟩ := rs.get' (y vs sq)
    exact ⟨w, ew, Nx.refl, r, rw'⟩
  · obtain ⟨vs, sq, rs⟩ := h S H x r o
    exact ⟨vs, sq, by rw [← rs.len, hi]; exact Nat.le_refl _⟩
theorem src_t {K : PySem.W.Frag} {S0 : Sto} {H0 : Hp} {a : Addr} {xs : List W} {ok : Sto → Prop} (h : ∀ S H, Nx S0 H0 S H → Rel K S H → ok S → ∃ vs, SqT K H a vs ∧ RWs K S H xs vs) : Src K S0 H0 (Itt K a) xs ok := by
  refine ⟨fun i S H x r o hi => ?_, fun i S H v H' x r o hi y => ?_, fun i S H x r o hi => ?_⟩
  · obtain ⟨vs, sq, rs⟩ := h S H x r o
    have hl := rs.len
    exact ⟨vs, vs[i], sq, by simp [show i < vs.length by omega]⟩
  · obtain ⟨vs, sq, rs⟩ := h S H x r o
    obtain ⟨e, y⟩ := y
    subst e
    obtain ⟨w, ew, rw'⟩ := rs.get' (y vs sq)
    exact ⟨w, ew, Nx.refl, r, rw'⟩
  · obtain ⟨vs, sq, rs⟩ := h S H x r o
    exact ⟨vs, sq, by rw [← rs.len, hi]; exact Nat.le_refl _⟩
theorem sv_sign {z : Str} {c : Nat} (h : sv z) (hc : c ∈ z.cps.toList) : sv ⟨#[c]⟩ := by
  rw [sv_iff] at h ⊢
  exact ⟨fun d hd => by simp at hd; rw [hd]; exact h.1 c hc, by show 1 ≤ sizeLine; decide⟩
theorem src_s {K : PySem.W.Frag} {S0 : Sto} {H0 : Hp} {z : Str} {ok : Sto → Prop} (h : sv z) : Src K S0 H0 (Its z) (z.cps.toList.map fun c => W.str ⟨#[c]⟩) ok := by
  have hl : (z.cps.toList.map fun c => W.str ⟨#[c]⟩).length = z.cps.size := by rw [List.length_map, Array.length_toList]
  refine ⟨fun i S H x r o hi => by rw [hl] at hi; exact hi, fun i S H v H' x r o hi y => ?_, fun i S H x r o hi => by rw [hi, hl]; exact Nat.le_refl _⟩
  obtain ⟨e, c, hc, rfl⟩ := y
  subst e
  have hc' : z.cps.toList[i]? = some c := by simpa using hc
  exact ⟨.str ⟨#[c]⟩, by rw [List.getElem?_map, hc']; rfl, Nx.refl, r, .str _ (sv_sign h (List.mem_of_getElem? hc'))⟩
theorem seqW_src {K : PySem.W.Frag} {S0 : Sto} {H0 : Hp} {w : W} {v : V} {xs : List W} (r : Rel K S0 H0) (h : RW K S0 H0 w v) (e : seqW S0 w = some xs) :
    (∃ a vs, v = .ref a ∧ SqL K H0 a vs ∧ RWs K S0 H0 xs vs ∧ ∀ S H, Nx S0 H0 S H → Rel K S H → seqW S w = some xs → ∃ us, SqL K H a us ∧ RWs K S H xs us) ∨
    (∃ a vs, v = .ref a ∧ SqT K H0 a vs ∧ RWs K S0 H0 xs vs ∧ ∀ S H, Nx S0 H0 S H → Rel K S H → seqW S w = some xs → ∃ us, SqT K H a us ∧ RWs K S H xs us) ∨
    ∃ z, v = .str z ∧ sv z ∧ xs = z.cps.toList.map fun c => W.str ⟨#[c]⟩ := by
  cases w with
  | lst ys =>
    obtain rfl : ys = xs := Option.some.inj e
    obtain ⟨a, vs, rfl, h1, q⟩ := view_lst (xs := ys) r h rfl
    refine .inl ⟨a, vs, rfl, .inl (.inl h1), q, fun S H x r' _ => ?_⟩
    obtain ⟨b, us, eb, h2, q2⟩ := view_lst (xs := ys) r' (h.mono x) rfl
    cases eb
    exact ⟨us, .inl (.inl h2), q2⟩
  | tup ys =>
    obtain rfl : ys = xs := Option.some.inj e
    obtain ⟨a, vs, rfl, h1, q⟩ := view_tup (xs := ys) h rfl
    refine .inr (.inl ⟨a, vs, rfl, h1, q, fun S H x r' _ => ?_⟩)
    obtain ⟨b, us, eb, h2, q2⟩ := view_tup (xs := ys) (h.mono x) rfl
    cases eb
    exact ⟨us, h2, q2⟩
  | scr ns =>
    cases e
    obtain ⟨a, rfl, h1⟩ := view_scr (ns := ns) h rfl
    refine .inl ⟨a, _, rfl, h1, RWs.ints ns, fun S H x r' _ => ?_⟩
    obtain ⟨b, eb, h2⟩ := view_scr (ns := ns) (h.mono x) rfl
    cases eb
    exact ⟨_, h2, RWs.ints ns⟩
  | str z =>
    cases e
    obtain ⟨rfl, ok⟩ := view_str (x := z) h rfl
    exact .inr (.inr ⟨z, rfl, ok, rfl⟩)
  | ref a =>
    have key : ∀ S, seqW S (.ref a) = some xs → S a = some (.lst xs) := fun S e => by
      cases hs : S a with
      | none => simp [seqW, view, hs] at e
      | some o =>
        cases o with
        | lst ys => simp [seqW, view, hs] at e; rw [e]
        | _ => simp [seqW, view, hs] at e
    cases h
    have get : ∀ S H, Rel K S H → seqW S (.ref a) = some xs → ∃ us, SqL K H a us ∧ RWs K S H xs us := fun S H r e => by
      cases r _ _ (key S e) with
      | lst h q => exact ⟨_, .inl (.inl h), q⟩
    obtain ⟨vs, sq, q⟩ := get S0 H0 r e
    exact .inl ⟨a, vs, rfl, sq, q, fun S H _ r' e' => get S H r' e'⟩
  | _ => cases e
theorem lst_src {K : PySem.W.Frag} {S0 : Sto} {H0 : Hp} {w : W} {v : V} {xs : List W} (r : Rel K S0 H0) (h : RW K S0 H0 w v) (e : view S0 w = .lst xs) :
    ∃ a vs, v = .ref a ∧ SqL K H0 a vs ∧ ∀ S H, Nx S0 H0 S H → Rel K S H → seqW S w = some xs → ∃ us, SqL K H a us ∧ RWs K S H xs us := by
  obtain ⟨a, vs, rfl, h1, q⟩ := view_lst r h e
  refine ⟨a, vs, rfl, .inl (.inl h1), fun S H x r' e' => ?_⟩
  have e2 : view S w = .lst xs := by
    cases w with
    | lst ys => exact e
    | ref b =>
      cases hs : S b with
      | none => simp [seqW, view, hs] at e'
      | some o =>
        cases o with
        | lst ys => simp [seqW, view, hs] at e'; simp [view, hs, e']
        | _ => simp [seqW, view, hs] at e'
    | _ => cases e
  obtain ⟨b, us, eb, h2, q2⟩ := view_lst r' (h.mono x) e2
  cases eb
  exact ⟨us, .inl (.inl h2), q2⟩
theorem tup_src {K : PySem.W.Frag} {S0 : Sto} {H0 : Hp} {w : W} {v : V} {xs : List W} (h : RW K S0 H0 w v) (e : view S0 w = .tup xs) :
    ∃ a vs, v = .ref a ∧ SqT K H0 a vs ∧ ∀ S H, Nx S0 H0 S H → ∃ us, SqT K H a us ∧ RWs K S H xs us := by
  obtain ⟨a, vs, rfl, h1, q⟩ := view_tup h e
  have h' := view_tup_self h e
  refine ⟨a, vs, rfl, h1, fun S H x => ?_⟩
  obtain ⟨b, us, eb, h2, q2⟩ := view_tup (xs := xs) (h'.mono x) rfl
  cases eb
  exact ⟨us, h2, q2⟩
section
variable {X : Cx} {Z : WX} {tg l : Expr} {te : DE'}
theorem di_seq (hl : DE X Z l te) : DI X Z tg l (dSeqI te) := PI.im (pi_any hl) fun σ H R ⟨ω, S, Qd, a, h, f⟩ => by
  refine ⟨ω, S, _, a, h, fun w S1 v H1 x1 r1 q1 h1 => ?_⟩
  split at h1
  · rename_i xs e
    rcases seqW_src r1 q1 e with ⟨b, vs, rfl, sq, _, hh⟩ | ⟨b, vs, rfl, sq, _, hh⟩ | ⟨z, rfl, ok, rfl⟩
    · exact .inl ⟨b, vs, rfl, sq, f _ _ _ _ _ x1 r1 (src_l hh) h1⟩
    · exact .inr (.inl ⟨b, vs, rfl, sq, f _ _ _ _ _ x1 r1 (src_t hh) h1⟩)
    · exact .inr (.inr ⟨z, rfl, f _ _ _ _ _ x1 r1 (src_s ok) h1⟩)
  · exact h1.elim
/-- range -/
def irange (lo : Int) (n : Nat) : List W := (List.range n).map fun (i : Nat) => W.int (lo + i)
def dRng1 (t : DA') : DI' := fun ω S Q => t ω S fun ws S1 => match ws with
  | [.int j] => (-(2 ^ 62) ≤ j ∧ j < 2 ^ 62) ∧ Q (irange 0 j.toNat) (fun _ => True) S1
  | _ => False
def dRng2 (t : DA') : DI' := fun ω S Q => t ω S fun ws S1 => match ws with
  | [.int i, .int j] => (-(2 ^ 62) ≤ i ∧ i < 2 ^ 62 ∧ -(2 ^ 62) ≤ j ∧ j < 2 ^ 62) ∧ Q (irange i (j - i).toNat) (fun _ => True) S1
  | _ => False
theorem src_r {K : PySem.W.Frag} {S0 : Sto} {H0 : Hp} {lo : Int} {n : Nat} : Src K S0 H0 (Itr lo n) (irange lo n) (fun _ => True) := by
  have hl : (irange lo n).length = n := by unfold irange; rw [List.length_map, List.length_range]
  refine ⟨fun i S H x r o hi => by rw [hl] at hi; exact hi, fun i S H v H' x r o hi y => ?_, fun i S H x r o hi => by rw [hi, hl]; exact Nat.le_refl _⟩
  obtain ⟨e, rfl⟩ := y
  subst e
  rw [hl] at hi
  refine ⟨.int (lo + i), ?_, Nx.refl, r, .int _⟩
  unfold irange
  rw [List.getElem?_map, List.getElem?_range hi]
  rfl
theorem di_range1 {a : Expr} {t : DA'} {p pos : Pos} (hm : X.mg "range" = none) (ha : DA X Z [a] t) (hg : Gl X "range" := by rfl) (hs : starEach [a] X.env = [(false, eval a X.env)] := by rfl) : DI X Z tg (.Call (.Name "range" p) [a] [] pos) (dRng1 t) := PI.im (pi_range1 hg hm ha hs) fun σ H R ⟨ω, S, Qd, a, h, f⟩ => by
  refine ⟨ω, S, _, a, h, fun ws S1 vs H1 x1 r1 q1 h1 => ?_⟩
  split at h1
  · obtain ⟨v, rfl, q⟩ := q1.one
    cases q
    exact ⟨_, rfl, h1.1.1, h1.1.2, f _ _ _ _ _ x1 r1 src_r h1.2⟩
  · exact h1.elim
theorem di_range2 {a b : Expr} {t : DA'} {p pos : Pos} (hm : X.mg "range" = none) (ha : DA X Z [a, b] t) (hg : Gl X "range" := by rfl) (hs : starEach [a, b] X.env = [(false, eval a X.env), (false, eval b X.env)] := by rfl) (hs2 : starEach [b] X.env = [(false, eval b X.env)] := by rfl) :
    DI X Z tg (.Call (.Name "range" p) [a, b] [] pos) (dRng2 t) := PI.im (pi_range2 hg hm ha hs hs2) fun σ H R ⟨ω, S, Qd, a, h, f⟩ => by
  refine ⟨ω, S, _, a, h, fun ws S1 vs H1 x1 r1 q1 h1 => ?_⟩
  split at h1
  · obtain ⟨v, v', rfl, q, q'⟩ := q1.two
    cases q; cases q'
    exact ⟨_, _, rfl, h1.1, f _ _ _ _ _ x1 r1 src_r h1.2⟩
  · exact h1.elim
/-- enumerate of a list -/
def ienum (xs : List W) : List W := (List.range xs.length).zip xs |>.map fun p => W.tup [.int (p.1 : Nat), p.2]
theorem ienum_len (xs : List W) : (ienum xs).length = xs.length := by unfold ienum; simp
theorem ienum_at {xs : List W} {i : Nat} {w : W} (h : xs[i]? = some w) : (ienum xs)[i]? = some (.tup [.int (i : Nat), w]) := by
  unfold ienum
  have hi : i < xs.length := (List.getElem?_eq_some_iff.mp h).1
  have e : ((List.range xs.length).zip xs)[i]? = some (i, w) := List.getElem?_zip_eq_some.mpr ⟨List.getElem?_range hi, h⟩
  rw [List.getElem?_map, e]
  rfl
def dEnumI (t : DA') : DI' := fun ω S Q => t ω S fun ws S1 => match ws with
  | [w] => match view S1 w with
    | .lst xs => Q (ienum xs) (fun S' => seqW S' w = some xs) S1
    | _ => False
  | _ => False
theorem Rel.newT {K : PySem.W.Frag} {S : Sto} {H : Hp} {a : Addr} {ws : List W} {vs : List V} (r : Rel K S H) (n : H a = none) (q : RWs K S H ws vs) : RW K S (upd H a (.tup vs)) (.tup ws) (.ref a) := .tup upd_same (r.free n) (q.mono (Nx.new n))
theorem src_e {K : PySem.W.Frag} {S0 : Sto} {H0 : Hp} {a : Addr} {xs : List W} {ok : Sto → Prop} (h : ∀ S H, Nx S0 H0 S H → Rel K S H → ok S → ∃ vs, SqL K H a vs ∧ RWs K S H xs vs) : Src K S0 H0 (Ite K a) (ienum xs) ok := by
  refine ⟨fun i S H x r o hi => ?_, fun i S H v H' x r o hi y => ?_, fun i S H x r o hi => ?_⟩
  · obtain ⟨vs, sq, rs⟩ := h S H x r o
    have hl := rs.len
    rw [ienum_len] at hi
    exact ⟨vs, vs[i], sq, by simp [show i < vs.length by omega]⟩
  · obtain ⟨vs, sq, rs⟩ := h S H x r o
    obtain ⟨T, x', rfl, hT, rfl, y⟩ := y
    obtain ⟨w, ew, rw'⟩ := rs.get' (y vs sq)
    exact ⟨_, ienum_at ew, Nx.new hT, r.new hT, r.newT hT (.cons (.int _) (.cons rw' .nil))⟩
  · obtain ⟨vs, sq, rs⟩ := h S H x r o
    exact ⟨vs, sq, by rw [← rs.len, hi, ienum_len]; exact Nat.le_refl _⟩
theorem di_enum {e : Expr} {t : DA'} {p pos tpos : Pos} {elts : List Expr} {kk : Nat} (hm : X.mg "enumerate" = none) (ha : DA X Z [e] t) (hg : Gl X "enumerate" := by rfl) (hs : starEach [e] X.env = [(false, eval e X.env)] := by rfl) :
    DI X Z (.Tuple elts kk tpos) (.Call (.Name "enumerate" p) [e] [] pos) (dEnumI t) := PI.im (pi_enum hg hm ha hs) fun σ H R ⟨ω, S, Qd, a, h, f⟩ => by
  refine ⟨ω, S, _, a, h, fun ws S1 vs H1 x1 r1 q1 h1 => ?_⟩
  split at h1
  · rename_i w
    obtain ⟨v, rfl, q⟩ := q1.one
    split at h1
    · rename_i xs e
      have e' : seqW S1 w = some xs := by unfold seqW; rw [e]
      obtain ⟨b, vs, rfl, sq, hh⟩ := lst_src r1 q e
      exact ⟨b, vs, rfl, sq, f _ _ _ _ _ x1 r1 (src_e hh) h1⟩
    · exact h1.elim
  · exact h1.elim
end
end DL

set_option Elab.async false
set_option linter.all false
set_option maxRecDepth 100000
set_option maxHeartbeats 4000000
namespace DL
open PySem PySem.Spec PyProof.Rows L2

/-! ### for, while -/
def dFor (di : DI') (T : Tg) (tb : DS') : DS' := fun D ω S => di ω S fun xs ok S1 => ∃ P : Nat → Om → Sto → Prop, P 0 ω S1 ∧ (∀ i ω' S', P i ω' S' → ok S') ∧
  (∀ i w ω' S', xs[i]? = some w → P i ω' S' → ∃ ω2, tbind T w ω' = some ω2 ∧ tb { D with nx := P (i + 1), ct := P (i + 1), bk := D.nx } ω2 S') ∧ ∀ ω' S', P xs.length ω' S' → D.nx ω' S'
def dWhile (c : DT') (tb : DS') : DS' := fun D ω S => ∃ P : Nat → Om → Sto → Prop, (∃ m, P m ω S) ∧ ∀ m ω' S', P m ω' S' →
  c ω' S' fun b S1 => if b = true then ∃ N : Om → Sto → Prop, (∀ ω2 S2, N ω2 S2 → ∃ m', m' < m ∧ P m' ω2 S2) ∧ tb { D with nx := N, ct := N, bk := D.nx } ω' S1 else D.nx ω' S1
section
variable {X : Cx} {Z : WX} {tg iter : Expr} {body : List Stmt} {di : DI'} {T : Tg} {tb : DS'} {pos : Pos}
theorem ds_for (hp : PassesOwn (model X.prog X.w) X.A X.env X.xe) (hi : DI X Z tg iter di) (hg : PG X tg (gOf X.K T)) (hb : DSs X Z body tb) (hc : X.calm = true := by rfl) (hs : ∀ x, foldedSetIterable iter X.env x = pure x := by intro _; rfl) :
    DS X Z (.For tg iter body [] pos) (dFor di T tb) := PS.im (ps_for hp hc hi hg hb hs) fun D σ H ⟨ω, S, Dd, a, h, f⟩ => by
  refine ⟨ω, S, _, a, h, fun xs ok S1 H1 J x1 r1 src ⟨P, p0, pk, ps, pe⟩ => ?_⟩
  refine ⟨fun i m σ' H' => m = xs.length - i ∧ i ≤ xs.length ∧ ∃ ω' S', At X.K Z S' H' σ' ω' ∧ Nx S1 H1 S' H' ∧ P i ω' S', ⟨xs.length, by simp, Nat.zero_le _, ω, S1, a.to x1 r1, Nx.refl, p0⟩, ?_⟩
  rintro i m σ' H' ⟨rfl, hi, ω', S', a', x', p⟩
  by_cases hlt : i < xs.length
  · refine .inr ⟨src.go i S' H' x' a'.rel (pk _ _ _ p) hlt, fun σ2 H2 => ∃ ω2 S2, At X.K Z S2 H2 σ2 ω2 ∧ Nx S1 H1 S2 H2 ∧ P (i + 1) ω2 S2, fun σ2 H2 ⟨ω2, S2, a2, x2, p2⟩ => ⟨xs.length - (i + 1), by omega, rfl, hlt, ω2, S2, a2, x2, p2⟩, fun v H2 y => ?_⟩
    obtain ⟨w, ew, x2, r2, q2⟩ := src.yld i S' H' v H2 x' a'.rel (pk _ _ _ p) hlt y
    obtain ⟨ω2, eb, hb⟩ := ps i w ω' S' ew p
    obtain ⟨σ3, a3, _, hq⟩ := tbind_ok eb (a'.to x2 r2) q2
    refine hq _ ⟨ω2, S', _, a3, hb, ⟨fun ω4 S4 σ4 H4 x4 a4 p4 => ⟨ω4, S4, a4, x'.trans (x2.trans x4), p4⟩, (f.to (x1.trans (x'.trans x2))).rt, fun ω4 S4 σ4 H4 x4 a4 p4 => f.nx _ _ _ _ (x1.trans (x'.trans (x2.trans x4))) a4 p4, fun ω4 S4 σ4 H4 x4 a4 p4 => ⟨ω4, S4, a4, x'.trans (x2.trans x4), p4⟩⟩⟩
  · have e : i = xs.length := by omega
    subst e
    exact .inl ⟨src.stop _ S' H' x' a'.rel (pk _ _ _ p) rfl, f.nx _ _ _ _ (x1.trans x') a' (pe _ _ p)⟩
theorem ds_while {c : Expr} {tc : DT'} (hp : PassesOwn (model X.prog X.w) X.A X.env X.xe) (hc : DT X Z c tc) (hb : DSs X Z body tb) : DS X Z (.While c body [] pos) (dWhile tc tb) := PS.im (ps_while hp hc hb) fun D σ H ⟨ω, S, Dd, a, h, f⟩ => by
  obtain ⟨P, ⟨m0, p0⟩, turn⟩ := h
  refine ⟨fun m σ' H' => ∃ ω' S', At X.K Z S' H' σ' ω' ∧ Nx S H S' H' ∧ P m ω' S', ⟨m0, ω, S, a, Nx.refl, p0⟩, ?_⟩
  rintro m σ' H' ⟨ω', S', a', x', p⟩
  refine ⟨ω', S', _, a', turn m ω' S' p, fun b S1 H1 x1 r1 h1 => ?_⟩
  cases b with
  | true =>
    rw [if_pos rfl] at h1 ⊢
    obtain ⟨N, hN, h1⟩ := h1
    refine ⟨fun σ2 H2 => ∃ ω2 S2, At X.K Z S2 H2 σ2 ω2 ∧ Nx S H S2 H2 ∧ N ω2 S2, fun σ2 H2 ⟨ω2, S2, a2, x2, n2⟩ => ?_, ?_⟩
    · obtain ⟨m', hm, p2⟩ := hN ω2 S2 n2
      exact ⟨m', hm, ω2, S2, a2, x2, p2⟩
    · exact ⟨ω', S1, _, a'.to x1 r1, h1, ⟨fun ω4 S4 σ4 H4 x4 a4 p4 => ⟨ω4, S4, a4, x'.trans (x1.trans x4), p4⟩, (f.to (x'.trans x1)).rt, fun ω4 S4 σ4 H4 x4 a4 p4 => f.nx _ _ _ _ (x'.trans (x1.trans x4)) a4 p4, fun ω4 S4 σ4 H4 x4 a4 p4 => ⟨ω4, S4, a4, x'.trans (x1.trans x4), p4⟩⟩⟩
  | false =>
    rw [if_neg Bool.false_ne_true] at h1 ⊢
    exact f.nx _ _ _ _ (x'.trans x1) (a'.to x1 r1) h1
end

/-! ### list comprehensions -/
def wps (ω : List (Option W)) : List Nat → List (Option W)
  | [] => ω
  | v :: vs => (wps ω vs).set v none
/-- the block's own slots forgotten; nothing is raised there -/
def wp (ω : Om) (vs : List Nat) : Om := ⟨wps ω.s vs, XF⟩
theorem At.wipe {K : PySem.W.Frag} {S : Sto} {H : Hp} {σ : L2.St} {ω : Om} (a : At K Z S H σ ω) (vs : List Nat) : At K Z0 S H (L2.wipe σ vs) (wp ω vs) := by
  refine ⟨a.rel, ?_, .zero⟩
  show RS K S H (L2.wipe σ vs) (wps ω.s vs)
  have := a.rs
  clear a
  induction vs with
  | nil => exact this
  | cons v vs ih =>
    refine ⟨by rw [L2.wipe, wps, List.length_set, List.length_set]; exact ih.len, fun i w e => ?_⟩
    unfold wps at e
    unfold L2.wipe
    rw [List.getElem?_set] at e
    by_cases hv : v = i
    · rw [if_pos hv] at e
      split at e <;> cases e
    · rw [if_neg hv] at e
      rw [List.getElem?_set_ne hv]
      exact ih.at' i w e
/-- the list p is locked away as data -/
theorem Rel.frz {K : PySem.W.Frag} {S : Sto} {H : Hp} {p : Addr} {ws : List W} (r : Rel K S H) (h : S p = some (.lst ws)) : Nx S H (del S p) H ∧ Rel K (del S p) H ∧ RW K (del S p) H (.lst ws) (.ref p) := by
  have x : Nx S H (del S p) H := ⟨fun _ _ h _ => h, fun b o _ n => by
    by_cases e : b = p
    · subst e; exact del_same
    · rw [del_ne e]; exact n⟩
  refine ⟨x, fun b o hb => ?_, ?_⟩
  · have hn : b ≠ p := fun e => by subst e; rw [del_same] at hb; cases hb
    rw [del_ne hn] at hb
    refine (r b o hb).mono x rfl fun d hd => ?_
    rw [del_ne fun e => by subst e; rw [h] at hd; cases hd]
    exact hd
  · cases r _ _ h with
    | lst h1 q => exact .lst h1 del_same (q.mono x)
def dLc (di : DI') (T : Tg) (tt : DT') (te : DE') (own : List Nat) : DE' := fun ω S Q => di ω S fun xs ok S1 => ∀ p, S1 p = none → ∃ P : Nat → List W → Sto → Prop, P 0 [] (up S1 p (.lst [])) ∧
  (∀ i acc S', P i acc S' → ok S' ∧ S' p = some (.lst acc)) ∧
  (∀ i w acc S', xs[i]? = some w → P i acc S' → ∃ ω2, tbind T w (wp ω own) = some ω2 ∧ tt ω2 S' fun b S3 => if b = true then te ω2 S3 fun v S4 => ∃ acc', S4 p = some (.lst acc') ∧ acc'.length < 1000000 ∧ P (i + 1) (acc' ++ [v]) (up S4 p (.lst (acc' ++ [v]))) else ∃ acc', P (i + 1) acc' S3) ∧
  ∀ acc S', P xs.length acc S' → Q (.lst acc) (del S' p)
def dYes : DT' := fun _ S Q => Q true S
section
variable {X : Cx} {Z : WX} {tg iter elt : Expr} {ifs : List Expr} {di : DI'} {T : Tg} {tt : DT'} {te : DE'} {pos : Pos} {scope : Scope} {own : List (Str × Nat)}
abbrev DTs (X : Cx) (Z : WX) (ifs : List Expr) (t : DT') : Prop := PTs X ifs (uT X.K Z t)
theorem dts_nil : DTs X Z [] dYes := ⟨fun pins s σ H Q I ⟨ω, S, Qd, a, h, f⟩ => (pts_nil (X := X)).run pins s σ H Q I (f _ _ _ Nx.refl a.rel h)⟩
theorem dts_one {c : Expr} {t : DT'} (h : DT X Z c t) : DTs X Z [c] t := pts_one h
theorem uLc {K : PySem.W.Frag} {vs : List Nat} (hT : ∀ i ∈ tix T, i ∈ vs) {σ : L2.St} {H : Hp} {Q : VK} (h : uE K Z (dLc di T tt te vs) σ H Q) : tLc (uI K Z di) (gOf K T) (uT K Z0 tt) (uE K Z0 te) vs σ H Q := by
  obtain ⟨ω, S, Qd, a, h, f⟩ := h
  refine ⟨ω, S, _, a, h, fun xs ok S1 H1 J x1 r1 src hp => fun D nD => ?_⟩
  obtain ⟨P, p0, pk, ps, pe⟩ := hp D (r1.free nD)
  have aw := (a.to x1 r1).wipe vs
  have r2 : Rel K (up S1 D (.lst [])) (upd H1 D (.lst [])) := r1.newS nD (.lst upd_same .nil)
  refine ⟨fun i m H' => m = xs.length - i ∧ i ≤ xs.length ∧ ∃ acc S', Rel K S' H' ∧ Nx S1 H1 S' H' ∧ P i acc S', ⟨xs.length, by simp, Nat.zero_le _, [], _, r2, Nx.newS nD, p0⟩, ?_⟩
  rintro i m H' ⟨rfl, hi, acc, S', r', x', p⟩
  by_cases hlt : i < xs.length
  · refine .inr ⟨src.go i S' H' x' r' (pk _ _ _ p).1 hlt, fun H2 => ∃ acc S2, Rel K S2 H2 ∧ Nx S1 H1 S2 H2 ∧ P (i + 1) acc S2, fun H2 ⟨acc2, S2, r2, x2, p2⟩ => ⟨xs.length - (i + 1), by omega, rfl, hlt, acc2, S2, r2, x2, p2⟩, fun v H2 y => ?_⟩
    obtain ⟨w, ew, x2, r2, q2⟩ := src.yld i S' H' v H2 x' r' (pk _ _ _ p).1 hlt y
    obtain ⟨ω2, eb, hb⟩ := ps i w acc S' ew p
    obtain ⟨σ3, a3, hw, hq⟩ := tbind_ok eb (aw.to (x'.trans x2) r2) q2
    refine hq _ ⟨?_, ω2, S', _, a3, hb, fun b S3 H3 x3 r3 h3 => ?_⟩
    · rw [hw vs hT]
      have : ∀ (σ : L2.St) (us : List Nat), (∀ i ∈ us, i ∈ vs) → L2.wipe (L2.wipe σ us) vs = L2.wipe σ vs := by
        intro σ us
        induction us with
        | nil => intro _; rfl
        | cons u us ih =>
          intro hu
          show L2.wipe ((L2.wipe σ us).set u none) vs = _
          rw [wipe_set (hu u (List.mem_cons_self ..))]
          exact ih fun i hi => hu i (List.mem_cons_of_mem _ hi)
      exact this σ vs fun _ h => h
    · cases b with
      | true =>
        rw [if_pos rfl] at h3 ⊢
        refine ⟨ω2, S3, _, a3.to x3 r3, h3, fun w4 S4 v4 H4 x4 r4 q4 h4 => ?_⟩
        obtain ⟨acc', hs, hl, p5⟩ := h4
        cases r4 _ _ hs with
        | @lst _ vs' hH rs =>
          refine ⟨vs', hH, by rw [← rs.len]; exact sz_lt hl, acc' ++ [w4], _, r4.wr hs (fun _ z => by cases z) (.lst upd_same ((rs.app (.cons q4 .nil)).mono (Nx.wr hs))), x'.trans (x2.trans (x3.trans (x4.trans (Nx.wr hs)))), p5⟩
      | false =>
        rw [if_neg Bool.false_ne_true] at h3 ⊢
        obtain ⟨acc', p5⟩ := h3
        exact ⟨acc', S3, r3, x'.trans (x2.trans x3), p5⟩
  · have e : i = xs.length := by omega
    subst e
    obtain ⟨ok', hs⟩ := pk _ _ _ p
    obtain ⟨xf, rf, qf⟩ := r'.frz hs
    exact .inl ⟨src.stop _ S' H' x' r' ok' rfl, f _ _ _ _ (x1.trans (x'.trans xf)) rf qf (pe _ _ p)⟩
theorem de_lc (hN : X.N.Nodup) (hi : DI X Z tg iter di) (ok : BlkOk X.N X.env.scope scope own)
    (hg : ∀ (s : Shared) (H : Hp) (C : Addr) (cl : List (Str × Addr)) (fp : List Addr), PG (X.blk s H scope (compEnvC scope cl C X.env) fp) tg (gOf X.K T)) (ht : ∀ (s : Shared) (H : Hp) (C : Addr) (cl : List (Str × Addr)) (fp : List Addr), DTs (X.blk s H scope (compEnvC scope cl C X.env) fp) Z0 ifs tt)
    (he : ∀ (s : Shared) (H : Hp) (C : Addr) (cl : List (Str × Addr)) (fp : List Addr), DE (X.blk s H scope (compEnvC scope cl C X.env) fp) Z0 elt te) (hT : ∀ i ∈ tix T, i ∈ own.map (·.2) := by decide) (hc : X.calm = true := by rfl) (hs : ∀ x, foldedSetIterable iter X.env x = pure x := by intro _; rfl) :
    DE X Z (.ListComp elt [⟨tg, iter, ifs, 0⟩] scope pos) (dLc di T tt te (own.map (·.2))) := PE.im (pe_lc hc hN hi ok hg ht he hs) fun _ _ _ => uLc hT
theorem ds_setLc {i : Nat} {y : Str} {py spos : Pos} (hN : X.N.Nodup) (hi : DI X Z tg iter di) (ok : BlkOk X.N X.env.scope scope own)
    (hg : ∀ (s : Shared) (H : Hp) (C : Addr) (cl : List (Str × Addr)) (fp : List Addr), PG (X.blk s H scope (compEnvC scope cl C X.env) fp) tg (gOf X.K T)) (ht : ∀ (s : Shared) (H : Hp) (C : Addr) (cl : List (Str × Addr)) (fp : List Addr), DTs (X.blk s H scope (compEnvC scope cl C X.env) fp) Z0 ifs tt)
    (he : ∀ (s : Shared) (H : Hp) (C : Addr) (cl : List (Str × Addr)) (fp : List Addr), DE (X.blk s H scope (compEnvC scope cl C X.env) fp) Z0 elt te) (hsw : swapsWith (.ListComp elt [⟨tg, iter, ifs, 0⟩] scope pos) (some (.Name y py)) spos.line X.env = pure true) (hT : ∀ i ∈ tix T, i ∈ own.map (·.2) := by decide) (hy : X.N[i]? = some y := by rfl) (hyl : X.env.scope.names.lookup y = some .local := by rfl) (hc : X.calm = true := by rfl) (hs : ∀ x, foldedSetIterable iter X.env x = pure x := by intro _; rfl) :
    DS X Z (.Assign [.Name y py] (.ListComp elt [⟨tg, iter, ifs, 0⟩] scope pos) spos) (dSet i (dLc di T tt te (own.map (·.2)))) := PS.im (ps_setLc hc hN hy hyl hsw hi ok hg ht he hs) fun D σ H ⟨ω, S, Dd, a, h, f⟩ =>
  uLc hT ⟨ω, S, _, a, h, fun w S1 v H1 x1 r1 q1 h1 => f.nx _ _ _ _ x1 ((a.to x1 r1).set q1 i) h1⟩
end

/-! ### defs -/
abbrev XW := Value → Option (List (Str × W)) → Sto → Prop
abbrev DSp := List W → Sto → WQ → XW → Prop
/-- what is let out of a def -/
def FinX (K : PySem.W.Frag) (S : Sto) (H : Hp) (Ed : XW) (E : XK) : Prop := ∀ c fs S' H' d, Nx S H S' H' → Rel K S' H' → Xr K S' H' fs d → Ed c fs S' → E c d H'
def X0 : XW := fun _ _ _ => False
theorem FinX.zero {K : PySem.W.Frag} {S : Sto} {H : Hp} {E : XK} : FinX K S H X0 E := fun _ _ _ _ _ _ _ _ h => h.elim
theorem FinX.to {K : PySem.W.Frag} {S S' : Sto} {H H' : Hp} {Ed : XW} {E : XK} (f : FinX K S H Ed E) (x : Nx S H S' H') : FinX K S' H' Ed E := fun c fs S2 H2 d y => f c fs S2 H2 d (x.trans y)
def uSp (K : PySem.W.Frag) (dsp : DSp) : Sp := fun vs H Q E => ∃ ws S Qd Ed, Rel K S H ∧ RWs K S H ws vs ∧ dsp ws S Qd Ed ∧ Fin K S H Qd Q ∧ FinX K S H Ed E
def startW (N : List Str) (ws : List W) : List (Option W) := ws.map some ++ List.replicate (N.length - ws.length) none
theorem RS.start {K : PySem.W.Frag} {S : Sto} {H : Hp} {N : List Str} {ws : List W} {vs : List V} (rs : RWs K S H ws vs) : RS K S H (start N vs) (startW N ws) := by
  refine ⟨by unfold L2.start startW; simp [rs.len], fun i w e => ?_⟩
  unfold startW at e
  unfold L2.start
  have hl := rs.len
  by_cases hi : i < ws.length
  · rw [List.getElem?_append_left (by rw [List.length_map]; exact hi), List.getElem?_map] at e
    rw [List.getElem?_append_left (by rw [List.length_map]; omega), List.getElem?_map]
    cases h : ws[i]? with
    | none => rw [h] at e; cases e
    | some w' =>
      rw [h] at e
      cases e
      obtain ⟨v, ev, rv⟩ := rs.get h
      exact ⟨v, by rw [ev]; rfl, rv⟩
  · rw [List.getElem?_append_right (by rw [List.length_map]; omega)] at e
    have := List.mem_of_getElem? e
    rw [List.mem_replicate] at this
    cases this.2
section
variable {P : Program} {w : World} {K : PySem.W.Frag} {mg : Str → Option Value} {base : Heap}
/-- a def that lets nothing out -/
theorem Fun.okD {x qual : Str} {st : Stmt} {f : Addr} {fd : FuncData} {N ps : List Str} {k : Nat} {dsp : DSp} (F : Fun K x qual st f fd) (sc : FnScope N ps (defScope st)) (td : DS')
    (hb : ∀ (cdv : Value) (A : Around) (outer : List Env) (s : Shared) (H : Hp) (E : XK), Room k (A.deeper (envOfC qual (defScope st) s.heap.objs.size f cdv)) → DSs (cxOf CX0 P w K mg base N qual (defScope st) f cdv A outer s H E).nox Z0 (defBody st) td)
    (len : ∀ ws S Q E, dsp ws S Q E → ws.length = ps.length) (hd : ∀ ws S Q E, dsp ws S Q E → td { nx := fun _ S' => Q .non S', rt := Q } ⟨startW N ws, XF⟩ S) : FnOk P w K mg base CX0 (k + 1) f fd ps (uSp K dsp) := by
  refine F.ok sc (fun vs H Q E ⟨ws, S, Qd, Ed, r, rs, h, _⟩ => by rw [← rs.len]; exact len _ _ _ _ h) fun cdv A outer s H vs Q E hr ⟨ws, S, Qd, Ed, r, rs, h, f, fx⟩ => ⟨_, hb cdv A outer s H E hr, ?_⟩
  exact ⟨⟨startW N ws, XF⟩, S, _, ⟨r, RS.start rs, .zero⟩, hd ws S Qd Ed h, ⟨fun ω' S' σ' H' x a q => f _ _ _ _ x a.rel .non q, f, fun _ _ _ _ _ _ q => q.elim, fun _ _ _ _ _ _ q => q.elim⟩⟩
/-- a def that may let something out -/
theorem Fun.okDX {x qual : Str} {st : Stmt} {f : Addr} {fd : FuncData} {N ps : List Str} {k : Nat} {dsp : DSp} (F : Fun K x qual st f fd) (sc : FnScope N ps (defScope st)) (td : DS')
    (hb : ∀ (cdv : Value) (A : Around) (outer : List Env) (s : Shared) (H : Hp) (E : XK), Room k (A.deeper (envOfC qual (defScope st) s.heap.objs.size f cdv)) → DSs (cxOf (L2.CX P w) P w K mg base N qual (defScope st) f cdv A outer s H E) (fun c d _ H' => E c d H') (defBody st) td)
    (len : ∀ ws S Q E, dsp ws S Q E → ws.length = ps.length) (hd : ∀ ws S Q E, dsp ws S Q E → td { nx := fun _ S' => Q .non S', rt := Q } ⟨startW N ws, fun c fs _ S' => E c fs S'⟩ S) : FnOk P w K mg base (L2.CX P w) (k + 1) f fd ps (uSp K dsp) := by
  refine F.okX sc (fun vs H Q E ⟨ws, S, Qd, Ed, r, rs, h, _⟩ => by rw [← rs.len]; exact len _ _ _ _ h) fun cdv A outer s H vs Q E hr ⟨ws, S, Qd, Ed, r, rs, h, f, fx⟩ => ⟨_, hb cdv A outer s H E hr, ?_⟩
  exact ⟨⟨startW N ws, fun c fs _ S' => Ed c fs S'⟩, S, _, ⟨r, RS.start rs, fun c fs l S' σ' H' d x r' _ xr e => fx c fs S' H' d x r' xr e⟩, hd ws S Qd Ed h, ⟨fun ω' S' σ' H' x a q => f _ _ _ _ x a.rel .non q, f, fun _ _ _ _ _ _ q => q.elim, fun _ _ _ _ _ _ q => q.elim⟩⟩
/-- called by its name, it lets nothing out -/
def CalD (P : Program) (w : World) (K : PySem.W.Frag) (mg : Str → Option Value) (base : Heap) (k : Nat) (x : Str) (dsp : DSp) : Prop :=
  ∃ (f : Addr) (fd : FuncData) (ps : List Str), FnOk P w K mg base CX0 k f fd ps (uSp K dsp) ∧ mg x = some (.ref f) ∧ PySem.W.keepIn K (.ref f) = true ∧ Binds K fd ps []
def CalX (P : Program) (w : World) (K : PySem.W.Frag) (mg : Str → Option Value) (base : Heap) (k : Nat) (x : Str) (dsp : DSp) : Prop :=
  ∃ (f : Addr) (fd : FuncData) (ps : List Str), FnOk P w K mg base (L2.CX P w) k f fd ps (uSp K dsp) ∧ mg x = some (.ref f) ∧ PySem.W.keepIn K (.ref f) = true ∧ Binds K fd ps []
def dCall (dsp : DSp) (t : DA') : DE' := fun ω S Q => t ω S fun ws S1 => dsp ws S1 Q X0
def dCallX (dsp : DSp) (t : DA') : DE' := fun ω S Q => t ω S fun ws S1 => dsp ws S1 Q fun c fs S' => ω.ex c fs ω.s S'
theorem uCall {K : PySem.W.Frag} {Z : WX} {dsp : DSp} {t : DA'} {E : XK} {σ : L2.St} {H : Hp} {Q : VK} (h : uE K Z (dCall dsp t) σ H Q) : tCall (uSp K dsp) [] E (uA K Z t) σ H Q := by
  obtain ⟨ω, S, Qd, a, h, f⟩ := h
  refine ⟨ω, S, _, a, h, fun ws S1 vs H1 x1 r1 q1 h1 => ?_⟩
  show uSp K dsp (vs ++ []) H1 Q E
  rw [List.append_nil]
  exact ⟨ws, S1, Qd, X0, r1, q1, h1, fun w S' v H' x r q h => f w S' v H' (x1.trans x) r q h, .zero⟩
theorem de_call {X : Cx} {Z : WX} {k j : Nat} {x : Str} {dsp : DSp} {p pos : Pos} {e : Expr} {es : List Expr} {t : DA'} (c : CalD X.prog X.w X.K X.mg X.base k x dsp) (hr : Room j X.A) (ha : DA X Z (e :: es) t) (hk : k ≤ j := by decide) (hg : Gl X x := by rfl)
    (hdb : (x == ("__debug__" : Str)) = false := by decide) (he : starEach (e :: es) X.env = (false, eval e X.env) :: starEach es X.env := by rfl) (hpl : (backTo pos (starEach es X.env)).any (·.1) = false := by rfl) :
    DE X Z (.Call (.Name x p) (e :: es) [] pos) (dCall dsp t) := by
  obtain ⟨f, fd, ps, F, hm, kp, b⟩ := c
  exact PE.im (pe_call F (hr.mono hk) hg hm kp b .nil pass0 ha hdb he hpl) fun _ _ _ => uCall
end
end DL

set_option Elab.async false
set_option linter.all false
set_option maxRecDepth 100000
set_option maxHeartbeats 4000000
namespace DL
open PySem PySem.Spec PyProof.Rows L2

/-! ### enumerate, zip of lists and tuples in any mix: true is a tuple -/
def SqB (b : Bool) (K : PySem.W.Frag) (H : Hp) (a : Addr) (xs : List V) : Prop := if b then SqT K H a xs else SqL K H a xs
def ItB (b : Bool) (h : Heap) (it a : Addr) (i : Nat) : Prop := if b then h.IsTupleIter it a i else h.IsListIter it a i
def DaB (b : Bool) (h : Heap) (a : Addr) (items : Array Value) : Prop := if b then h.IsTuple a items else h.IsList a items
def obB (b : Bool) (a : Addr) : Obj := if b then { cls := .type "tuple_iterator", data := .fields #[.ref a, .int 0 0] } else { cls := .type "list_iterator", data := .fields #[.ref a, .int 0 0] }
theorem dr_B {prog : Program} {w : World} {A : Around} (b : Bool) (hh : A.handled = none) (it a : Addr) (hne : a ≠ it) (items : Array Value) :
    Draws prog w A it [it, a] items.size (fun i v => items[i]? = some v) (fun i h => ItB b h it a i ∧ DaB b h a items) := by
  cases b
  · exact Draws.list hh it a hne items
  · exact Draws.tuple hh it a hne items
theorem bg_B (b : Bool) (a : Addr) (items : Array Value) : Begins (.ref a) (obB b a) fun h => DaB b h a items := by
  cases b
  · exact begins_list a items
  · exact begins_tuple a items
theorem it_B {b : Bool} {h : Heap} {it a : Addr} (e : h.get? it = some (obB b a)) : ItB b h it a 0 := by
  cases b
  · exact ⟨_, e, rfl, rfl⟩
  · exact ⟨_, e, rfl, rfl⟩
theorem ItB.obj {b : Bool} {h : Heap} {it a : Addr} {i : Nat} (st : ItB b h it a i) : ∃ o, h.get? it = some o ∧ ∀ v, o.data ≠ .cell v := by
  cases b
  · obtain ⟨o, e, _, d⟩ := st
    exact ⟨o, e, fun v z => by rw [d] at z; cases z⟩
  · obtain ⟨o, e, _, d⟩ := st
    exact ⟨o, e, fun v z => by rw [d] at z; cases z⟩
theorem ItB.keep {b : Bool} {h h' : Heap} {it a : Addr} {i : Nat} (st : ItB b h it a i) (k : ∀ o, h.get? it = some o → h'.get? it = some o) : ItB b h' it a i := by
  cases b
  · exact Heap.IsListIter.at st k
  · exact Heap.IsTupleIter.at st k
section
variable {X : Cx} {pins : List (Addr × Obj)} {σ : L2.St} {H : Hp} {s : Shared} {a : Addr} {b : Bool} {xs ys : List V}
theorem sq_B (I : Inv X pins σ H s) (h : SqB b X.K H a xs) : ∃ its : List Value, Vals xs its ∧ DaB b s.heap a its.toArray := by
  cases b
  · obtain ⟨its, r, p, _⟩ := I.list h
    exact ⟨its, r, p.isList⟩
  · obtain ⟨its, r, p, _⟩ := I.tuple h
    exact ⟨its, r, p⟩
theorem sq_Bi (I : Inv X pins σ H s) (h : SqB b X.K H a xs) (h' : SqB b X.K H a ys) : xs = ys := by
  cases b
  · exact I.list_inj h h'
  · exact I.tuple_inj h h'
end
/-! #### enumerate of a tuple -/
def IteT (K : PySem.W.Frag) (a : Addr) : It where
  go := fun i H => ∃ (xs : List V) (x : V), SqT K H a xs ∧ xs[i]? = some x
  yld := fun i H v H' => ∃ T x, v = .ref T ∧ H T = none ∧ H' = upd H T (.tup [.int (i : Nat), x]) ∧ ∀ xs, SqT K H a xs → xs[i]? = some x
  stop := fun i H => ∃ xs : List V, SqT K H a xs ∧ xs.length = i
theorem turn_enT {P : Program} {w : World} {K : PySem.W.Frag} {elts : List Expr} {kk : Nat} {tpos : Pos} (a e it : Addr) :
    Turn P w K (.Tuple elts kk tpos) (IteT K a) [e, it] e (fun i h => (∃ old, IsEnum h e it ((i : Nat) : Int) old) ∧ h.IsTupleIter it a i ∧ e ≠ it ∧ a ≠ it ∧ e ≠ a) where
  mem := List.mem_cons_self ..
  obj := fun i h ⟨⟨old, he⟩, ⟨o, ho, _, hd⟩, _⟩ b hb => by
    rcases List.mem_cons.mp hb with z | hb
    · subst z; exact ⟨_, he, fun _ q => nomatch q⟩
    · cases List.mem_singleton.mp hb
      exact ⟨o, ho, fun v q => by rw [hd] at q; cases q⟩
  keep := fun i h h' ⟨⟨old, he⟩, hi, ns⟩ k => ⟨⟨old, k e (List.mem_cons_self ..) _ he⟩, hi.at fun o q => k it (List.mem_cons_of_mem _ (List.mem_cons_self ..)) o q, ns⟩
  item := fun X hP hw hK hc i pins s σ H E I hf ⟨⟨old, he⟩, hit, hne, hai, hea⟩ ⟨xs, x, hq, hx⟩ => by
    subst hP hw hK
    obtain ⟨its, rv, p, _⟩ := I.tuple hq
    obtain ⟨u, hu, ru⟩ := rv.get hx
    have hlt : i < its.toArray.size := by
      rw [List.size_toArray]
      exact (List.getElem?_eq_some_iff.mp hu).1
    refine wpAny_pyNext_enum_itemD (Draws.tuple (A := X.A.in1) (show X.A.in1.handled = none from I.ok.hd hc) it a hai its.toArray) he ⟨hit, p⟩ hlt hne (fun z => ?_) fun y h' tk py ho st' hT hz hk => ?_
    · rcases List.mem_cons.mp z with z | z
      · exact hne z
      · exact hea (List.mem_singleton.mp z)
    obtain rfl : y = u := by
      have : its[i]? = some y := by simpa using py
      rw [hu] at this
      exact (Option.some.inj this).symm
    refine ⟨_, rfl, wpAny_letOwnedTupleGo_enum (s := { s with heap := h', toks := tk + 1 }) ho fun h2 he2 sb => ?_⟩
    have el : e < s.heap.objs.size := Heap.lt_size he
    have il : it < s.heap.objs.size := let ⟨_, q, _⟩ := hit; Heap.lt_size q
    have hT2 := (sb.2 _ (Nat.ne_of_gt el)).trans hT
    have new : ObjOk X.prog X.w (upd H s.heap.objs.size (.tup [.int (i : Nat), x])) h2 s.heap.objs.size (.tup [.int (i : Nat), x]) :=
      ⟨by show 2 ≤ sizeLine; decide, [.int i tk, y], .cons ⟨_, rfl⟩ (.cons ru .nil), ⟨_, hT2, rfl, _, rfl⟩⟩
    have J := I.turnedNew (t' := tk + 1) (ch := [e, it]) (fun b ob hb q => (sb.2 b fun z => hb (by simp [z])).trans (hk b ob (fun z => hb (by simp [z])) (fun z => hb (by simp [z])) q)) hf (Nat.le_refl _) new
    have ec : ((i + 1 : Nat) : Int) = (i : Int) + 1 := by omega
    refine ⟨.ref s.heap.objs.size, _, J, rfl, ⟨_, x, rfl, I.hok.fresh (Nat.le_refl _), rfl, fun zs hz' => by rw [I.tuple_inj hz' hq]; exact hx⟩, ⟨⟨y, by rw [ec]; exact he2⟩, st'.1.at fun o q => (sb.2 it (Ne.symm hne)).trans q, hne, hai, hea⟩, fun b hb => ?_⟩
    have hb' : b < s.heap.objs.size := by
      rcases List.mem_cons.mp hb with z | z
      · rw [z]; exact el
      · rw [List.mem_singleton.mp z]; exact il
    rw [upd_ne (Nat.ne_of_lt hb')]
    exact (hf b hb).1
  done := fun X hP hw hK hc i pins s σ H E I hf ⟨⟨old, he⟩, hit, hne, hai, hea⟩ ⟨xs, hq, hx⟩ => by
    subst hP hw hK
    obtain ⟨its, rv, p, _⟩ := I.tuple hq
    obtain ⟨f0, f1, f2, f3, f4, f5⟩ := hf it (List.mem_cons_of_mem _ (List.mem_cons_self ..))
    have hl : i = its.toArray.size := by rw [List.size_toArray, ← rv.length]; exact hx.symm
    exact wpAny_pyNext_enum_endD (Draws.tuple (A := X.A.in1) (show X.A.in1.handled = none from I.ok.hd hc) it a hai its.toArray) he ⟨hl ▸ hit, p⟩ fun h' eb => ⟨rfl, I.turned (t' := s.toks) (fun b o hb q => eb b o hb q) f0 f1 f3 f4 f5⟩
  self := fun A i s Q E ⟨⟨_, he⟩, _⟩ h => wpAny_pyIter_enum he h
set_option maxHeartbeats 1000000 in
theorem meets_en1 {v : Value} {o : Obj} {H : Heap → Prop} (B : Begins v o H) :
    Meets (Builtin.«enumerate.__new__» ⟨[.type "enumerate", v], []⟩) (fun _ R s => H s.heap ∧
      R (.ok (.ret (.ref (s.heap.push o).objs.size))) { s with heap := (s.heap.push o).push { cls := .type "enumerate", data := .fields #[.none, .bool false, .ref s.heap.objs.size, rawInt 0, .none, .none] } }) :=
  .of_wp fun prog w A R s ⟨h1, h⟩ => by
    obtain ⟨hp, g, d, tk, os⟩ := s
    have hsub := sub_enumerate
    have q1 : ∀ {A' : Around} {E : Value → Shared → Prop} {Q : Value → Shared → Prop}, Q (.ref hp.objs.size) ⟨hp.push o, g, d, tk, os⟩ → wpAny (model prog w) A' (pyIter v) Q E ⟨hp, g, d, tk, os⟩ := fun q => B.iter prog w _ _ ⟨hp, g, d, tk, os⟩ _ h1 q
    wp_walk using q1
    refine wpAny_stack_any fun st => wpAny_pure ?_
    split
    · rename_i c _ _ _ _ _
      cases (c == Value.type "enumerate") <;> (wp_walk using q1; exact ⟨_, rfl, h⟩)
    · wp_walk using q1
      exact ⟨_, rfl, h⟩
theorem call_en1 {prog : Program} {w : World} {A : Around} {E : Value → Shared → Prop} {s : Shared} {v : Value} {o : Obj} {H : Heap → Prop} {Q : Value → Shared → Prop} (B : Begins v o H) (h1 : H s.heap)
    (h : ∀ h', IsEnum h' (s.heap.objs.size + 1) s.heap.objs.size 0 .none → h'.get? s.heap.objs.size = some o → (∀ b o, s.heap.get? b = some o → h'.get? b = some o) → Q (.ref (s.heap.objs.size + 1)) { s with heap := h' }) :
    wpAny (model prog w) A (call (.type "enumerate") [v]) Q E s := by
  refine callType_new F.called_enumerate (by decide) (F.typeCall_enumerate_1 _) (F.newCall_enumerate_1 _) (fun obj => F.args_object_init_2 obj _) F.entry_enumerate_new (meets_en1 B) ⟨h1, ?_⟩
  have hz : (s.heap.push o).objs.size = s.heap.objs.size + 1 := Heap.size_push ..
  show _ ∧ _
  rw [hz]
  have he : IsEnum ((s.heap.push o).push { cls := .type "enumerate", data := .fields #[.none, .bool false, .ref s.heap.objs.size, rawInt 0, .none, .none] }) (s.heap.objs.size + 1) s.heap.objs.size 0 .none := by
    have q := Heap.get?_push_size (s.heap.push o) (o := { cls := .type "enumerate", data := .fields #[.none, .bool false, .ref s.heap.objs.size, rawInt 0, .none, .none] }) rfl
    rwa [hz] at q
  exact ⟨⟨_, he, rfl⟩, h _ he (Heap.get?_push_of_some _ (Heap.get?_push_size _ B.free)) fun b o x => Heap.get?_push_of_some _ (Heap.get?_push_of_some _ x)⟩
/-- enumerate of a list or a tuple -/
def iEnA (K : PySem.W.Frag) (ta : TA) : TI := fun σ H R => ta σ H fun vs H1 => ∃ a xs, vs = [.ref a] ∧ ((SqL K H1 a xs ∧ R (Ite K a) H1) ∨ (SqT K H1 a xs ∧ R (IteT K a) H1))
theorem pi_enA {X : Cx} {e : Expr} {ta : TA} {p pos tpos : Pos} {elts : List Expr} {kk : Nat} (hg : Gl X "enumerate") (hm : X.mg "enumerate" = none) (ha : PA X [e] ta) (hs : starEach [e] X.env = [(false, eval e X.env)] := by rfl) :
    PI X (.Tuple elts kk tpos) (.Call (.Name "enumerate" p) [e] [] pos) (iEnA X.K ta) := by
  refine ⟨fun pins s σ H R I h => Call_ (ld_blt I hg hm boot_enumerate (PyProof.Rows.callWith_type1 (thn (ha.run pos pins s σ H _ I h) fun us s1 ⟨vs, H1, I1, r1, a, xs, ex, q⟩ => ?_) hs rfl))⟩
  subst ex
  cases r1 with
  | cons r rr =>
    cases rr
    cases r
    have two : ∀ b ∈ [s1.heap.objs.size + 1, s1.heap.objs.size], FpOk X pins H1 b := fun b hb => by
      have hle : s1.heap.objs.size ≤ b := by
        rcases List.mem_cons.mp hb with z | z
        · rw [z]; exact Nat.le_succ _
        · rw [List.mem_singleton.mp z]; exact Nat.le_refl _
      exact I1.fpOk hle (I1.hok.fresh hle)
    rcases q with ⟨hq, q⟩ | ⟨hq, q⟩
    · obtain ⟨its, rv, p', _⟩ := I1.list hq
      refine call_en1 (begins_list a its.toArray) p'.isList fun h' he hi hk => wpAny_pyIter_enum he ?_
      exact ⟨s1.heap.objs.size + 1, [s1.heap.objs.size + 1, s1.heap.objs.size], _, _, H1, rfl, I1.kept (t' := s1.toks) hk, turn_enum a _ _, ⟨⟨_, he⟩, ⟨_, hi, rfl, rfl⟩, Nat.succ_ne_self _⟩, two, q⟩
    · obtain ⟨its, rv, p', _⟩ := I1.tuple hq
      have la : a < s1.heap.objs.size := let ⟨_, z, _⟩ := p'; Heap.lt_size z
      refine call_en1 (begins_tuple a its.toArray) p' fun h' he hi hk => wpAny_pyIter_enum he ?_
      exact ⟨s1.heap.objs.size + 1, [s1.heap.objs.size + 1, s1.heap.objs.size], _, _, H1, rfl, I1.kept (t' := s1.toks) hk, turn_enT a _ _, ⟨⟨_, he⟩, ⟨_, hi, rfl, rfl⟩, Nat.succ_ne_self _, Nat.ne_of_lt la, Nat.ne_of_gt (Nat.lt_succ_of_lt la)⟩, two, q⟩
def dEnum (t : DA') : DI' := fun ω S Q => t ω S fun ws S1 => match ws with
  | [w] => match view S1 w with
    | .lst xs => Q (ienum xs) (fun S' => seqW S' w = some xs) S1
    | .tup xs => Q (ienum xs) (fun _ => True) S1
    | _ => False
  | _ => False
theorem src_eT {K : PySem.W.Frag} {S0 : Sto} {H0 : Hp} {a : Addr} {xs : List W} (h : ∀ S H, Nx S0 H0 S H → ∃ vs, SqT K H a vs ∧ RWs K S H xs vs) : Src K S0 H0 (IteT K a) (ienum xs) (fun _ => True) := by
  refine ⟨fun i S H x r o hi => ?_, fun i S H v H' x r o hi y => ?_, fun i S H x r o hi => ?_⟩
  · obtain ⟨vs, sq, rs⟩ := h S H x
    have hl := rs.len
    rw [ienum_len] at hi
    exact ⟨vs, vs[i], sq, by simp [show i < vs.length by omega]⟩
  · obtain ⟨vs, sq, rs⟩ := h S H x
    obtain ⟨T, x', rfl, hT, rfl, y⟩ := y
    obtain ⟨w, ew, rw'⟩ := rs.get' (y vs sq)
    exact ⟨_, ienum_at ew, Nx.new hT, r.new hT, r.newT hT (.cons (.int _) (.cons rw' .nil))⟩
  · obtain ⟨vs, sq, rs⟩ := h S H x
    exact ⟨vs, sq, by rw [hi, ienum_len, rs.len]⟩
theorem di_enA {X : Cx} {Z : WX} {e : Expr} {t : DA'} {p pos tpos : Pos} {elts : List Expr} {kk : Nat} (hm : X.mg "enumerate" = none) (ha : DA X Z [e] t) (hg : Gl X "enumerate" := by rfl) (hs : starEach [e] X.env = [(false, eval e X.env)] := by rfl) :
    DI X Z (.Tuple elts kk tpos) (.Call (.Name "enumerate" p) [e] [] pos) (dEnum t) := PI.im (pi_enA hg hm ha hs) fun σ H R ⟨ω, S, Qd, a, h, f⟩ => by
  refine ⟨ω, S, _, a, h, fun ws S1 vs H1 x1 r1 q1 h1 => ?_⟩
  split at h1
  · obtain ⟨v, rfl, q⟩ := q1.one
    split at h1
    · rename_i xs e
      obtain ⟨b, vs, rfl, sq, hh⟩ := lst_src r1 q e
      exact ⟨b, vs, rfl, .inl ⟨sq, f _ _ _ _ _ x1 r1 (src_e hh) h1⟩⟩
    · rename_i xs e
      obtain ⟨b, vs, rfl, sq, hh⟩ := tup_src q e
      exact ⟨b, vs, rfl, .inr ⟨sq, f _ _ _ _ _ x1 r1 (src_eT hh) h1⟩⟩
    · exact h1.elim
  · exact h1.elim

/-! #### zip -/
def ItzB (K : PySem.W.Frag) (c1 c2 : Bool) (a b : Addr) : It where
  go := fun i H => ∃ (xs ys : List V) (x y : V), SqB c1 K H a xs ∧ SqB c2 K H b ys ∧ xs[i]? = some x ∧ ys[i]? = some y
  yld := fun i H v H' => ∃ T x y, v = .ref T ∧ H T = none ∧ H' = upd H T (.tup [x, y]) ∧ (∀ xs, SqB c1 K H a xs → xs[i]? = some x) ∧ ∀ ys, SqB c2 K H b ys → ys[i]? = some y
  stop := fun i H => ∃ xs ys : List V, SqB c1 K H a xs ∧ SqB c2 K H b ys ∧ i = min xs.length ys.length
theorem turn_zB {P : Program} {w : World} {K : PySem.W.Frag} {elts : List Expr} {kk : Nat} {tpos : Pos} {c1 c2 : Bool} {a b z TI TO i1 i2 : Addr} (D : ZipSep2 z TI TO i1 i2 [i1, a] [i2, b]) (ha : a ≠ i1) (hb : b ≠ i2) :
    Turn P w K (.Tuple elts kk tpos) (ItzB K c1 c2 a b) [z, TI, TO, i1, i2] z (fun i h => IsZip h z TI TO .none ∧ IsTupOf2 h TI (.ref i1) (.ref i2) ∧ (∃ x y, IsTupOf2 h TO x y) ∧ ItB c1 h i1 a i ∧ ItB c2 h i2 b i) where
  mem := List.mem_cons_self ..
  obj := fun i h ⟨hz, hTI, ⟨x, y, hTO⟩, h1, h2⟩ c hc => by
    have hc' : c = z ∨ c = TI ∨ c = TO ∨ c = i1 ∨ c = i2 := by simpa using hc
    rcases hc' with q | q | q | q | q <;> subst q
    · exact ⟨_, hz, fun _ q => nomatch q⟩
    · exact ⟨_, hTI, fun _ q => nomatch q⟩
    · exact ⟨_, hTO, fun _ q => nomatch q⟩
    · exact h1.obj
    · exact h2.obj
  keep := fun i h h' ⟨hz, hTI, ⟨x, y, hTO⟩, h1, h2⟩ k => ⟨k z (by simp) _ hz, k TI (by simp) _ hTI, ⟨x, y, k TO (by simp) _ hTO⟩, h1.keep fun o q => k i1 (by simp) o q, h2.keep fun o q => k i2 (by simp) o q⟩
  item := fun X hP hw hK hc i pins s σ H E I hf ⟨hz, hTI, ⟨a1, a2, hTO⟩, h1, h2⟩ ⟨xs, ys, x, y, hx, hy, ex, ey⟩ => by
    subst hP hw hK
    obtain ⟨its, rv, p1⟩ := sq_B I hx
    obtain ⟨jts, rw', p2⟩ := sq_B I hy
    obtain ⟨u, hu, ru⟩ := rv.get ex
    obtain ⟨v, hv, rv'⟩ := rw'.get ey
    have l1 : i < its.toArray.size := by rw [List.size_toArray]; exact (List.getElem?_eq_some_iff.mp hu).1
    have l2 : i < jts.toArray.size := by rw [List.size_toArray]; exact (List.getElem?_eq_some_iff.mp hv).1
    refine wpAny_pyNext_zipD2_item D (dr_B (A := X.A.in1) c1 (show X.A.in1.handled = none from I.ok.hd hc) i1 a ha its.toArray) (dr_B (A := X.A.in1) c2 (show X.A.in1.handled = none from I.ok.hd hc) i2 b hb jts.toArray) hz hTI hTO ⟨h1, p1⟩ ⟨h2, p2⟩ l1 l2 fun u' v' h' tk y1 y2 b1 b2 d1 d2 b5 b6 hk => ?_
    obtain rfl : u = u' := by
      have q : its[i]? = some u' := by simpa using y1
      rw [hu] at q
      exact Option.some.inj q
    obtain rfl : v = v' := by
      have q : jts[i]? = some v' := by simpa using y2
      rw [hv] at q
      exact Option.some.inj q
    have lz : z < s.heap.objs.size := Heap.lt_size hz
    have lT : TI < s.heap.objs.size := Heap.lt_size hTI
    have lO : TO < s.heap.objs.size := Heap.lt_size hTO
    have li1 : i1 < s.heap.objs.size := let ⟨_, q, _⟩ := h1.obj; Heap.lt_size q
    have li2 : i2 < s.heap.objs.size := let ⟨_, q, _⟩ := h2.obj; Heap.lt_size q
    refine ⟨_, rfl, wpAny_letOwnedTupleGo_zip (s := { s with heap := h', toks := tk }) b1 fun h3 hz3 sb => ?_⟩
    have hT2 := (sb.2 _ (Nat.ne_of_gt lz)).trans b5
    have new : ObjOk X.prog X.w (upd H s.heap.objs.size (.tup [x, y])) h3 s.heap.objs.size (.tup [x, y]) :=
      ⟨by show 2 ≤ sizeLine; decide, [u, v], .cons ru (.cons rv' .nil), ⟨_, hT2, rfl, _, rfl⟩⟩
    have J := I.turnedNew (t' := tk) (ch := [z, TI, TO, i1, i2]) (fun c ob hc q => (sb.2 c fun e => hc (by simp [e])).trans (hk c ob (fun e => hc (by simp [e])) (fun e => hc (by simp [e])) (fun e => hc (by simp [e])) (fun e => hc (by simp [e])) q)) hf (Nat.le_refl _) new
    refine ⟨.ref s.heap.objs.size, _, J, rfl, ⟨_, x, y, rfl, I.hok.fresh (Nat.le_refl _), rfl, fun zs q => by rw [sq_Bi I q hx]; exact ex, fun zs q => by rw [sq_Bi I q hy]; exact ey⟩,
      ⟨hz3, (sb.2 TI D.TIz).trans (hk _ _ D.TIz D.TITO D.TIi1 D.TIi2 hTI), ⟨_, _, (sb.2 TO D.TOz).trans b2⟩, d1.1.keep fun o q => (sb.2 i1 fun e => D.zf1 (by rw [← e]; exact List.mem_cons_self ..)).trans q, d2.1.keep fun o q => (sb.2 i2 fun e => D.zf2 (by rw [← e]; exact List.mem_cons_self ..)).trans q⟩, fun c hc => ?_⟩
    have hc' : c = z ∨ c = TI ∨ c = TO ∨ c = i1 ∨ c = i2 := by simpa using hc
    have lc : c < s.heap.objs.size := by
      rcases hc' with q | q | q | q | q <;> rw [q] <;> assumption
    rw [upd_ne (Nat.ne_of_lt lc)]
    exact (hf c hc).1
  done := fun X hP hw hK hc i pins s σ H E I hf ⟨hz, hTI, ⟨a1, a2, hTO⟩, h1, h2⟩ ⟨xs, ys, hx, hy, hi⟩ => by
    subst hP hw hK
    obtain ⟨its, rv, p1⟩ := sq_B I hx
    obtain ⟨jts, rw', p2⟩ := sq_B I hy
    have e1 := rv.length
    have e2 := rw'.length
    have s1 : its.toArray.size = its.length := List.size_toArray ..
    have s2 : jts.toArray.size = jts.length := List.size_toArray ..
    exact wpAny_pyNext_zipD2_end D (dr_B (A := X.A.in1) c1 (show X.A.in1.handled = none from I.ok.hd hc) i1 a ha its.toArray) (dr_B (A := X.A.in1) c2 (show X.A.in1.handled = none from I.ok.hd hc) i2 b hb jts.toArray) hz hTI hTO ⟨h1, p1⟩ ⟨h2, p2⟩ (by omega) (by omega) (by omega) fun h' tk hk => ⟨rfl, I.turnedL (t' := tk) (ch := [z, TI, TO, i1, i2]) (fun c o hb q =>
      hk c o (fun e => hb (by simp [e])) (fun e => hb (by simp [e])) (fun e => hb (by simp [e])) (fun e => hb (by simp [e])) q) hf⟩
  self := fun A i s Q E st h => wpAny_pyIter_zip st.1 h
def iZB (K : PySem.W.Frag) (ta : TA) : TI := fun σ H R => ta σ H fun vs H1 => ∃ c1 c2 a b xs ys, vs = [.ref a, .ref b] ∧ SqB c1 K H1 a xs ∧ SqB c2 K H1 b ys ∧ R (ItzB K c1 c2 a b) H1
theorem pi_zB {X : Cx} {e e2 : Expr} {ta : TA} {p pos tpos : Pos} {elts : List Expr} {kk : Nat} (hg : Gl X "zip") (hm : X.mg "zip" = none) (ha : PA X [e, e2] ta)
    (hs : starEach [e, e2] X.env = (false, eval e X.env) :: starEach [e2] X.env := by rfl) (hpl : (backTo pos (starEach [e2] X.env)).any (·.1) = false := by rfl) :
    PI X (.Tuple elts kk tpos) (.Call (.Name "zip" p) [e, e2] [] pos) (iZB X.K ta) := by
  refine ⟨fun pins s σ H R I h => Call_ (ld_blt I hg hm PyProof.Rows.boot_zip (PyProof.Rows.callWith_type1 (thn (ha.run pos pins s σ H _ I h) fun us s1 ⟨vs, H1, I1, r1, c1, c2, a, b, xs, ys, ex, hx, hy, q⟩ => ?_) hs hpl))⟩
  subst ex
  cases r1 with
  | cons r rr =>
    cases rr with
    | cons r' rr =>
      cases rr
      cases r
      cases r'
      obtain ⟨its, rv, p1⟩ := sq_B I1 hx
      obtain ⟨jts, rw', p2⟩ := sq_B I1 hy
      have lt : ∀ {c : Bool} {d : Addr} {js : Array Value}, DaB c s1.heap d js → d < s1.heap.objs.size := fun {c d js} q => by
        cases c
        · obtain ⟨o, z, _⟩ := q; exact Heap.lt_size z
        · obtain ⟨o, z, _⟩ := q; exact Heap.lt_size z
      have la := lt p1
      have lb := lt p2
      refine zip_begins2 (bg_B c1 a its.toArray) (bg_B c2 b jts.toArray) p1 p2 fun h' hz hTI hTO h1 h2 hsz hk => wpAny_pyIter_zip hz ?_
      refine ⟨s1.heap.objs.size + 4, [s1.heap.objs.size + 4, s1.heap.objs.size + 2, s1.heap.objs.size + 3, s1.heap.objs.size, s1.heap.objs.size + 1], _, _, H1, rfl, I1.kept (t' := s1.toks) hk,
        turn_zB (zip_sep2 (fun c hc => by rw [List.mem_singleton.mp hc]; exact la) fun c hc => by rw [List.mem_singleton.mp hc]; exact lb) (Nat.ne_of_lt la) (Nat.ne_of_lt (Nat.lt_succ_of_lt lb)), ⟨hz, hTI, ⟨_, _, hTO⟩, it_B h1, it_B h2⟩, fun c hcm => ?_, q⟩
      have e' : c = s1.heap.objs.size + 4 ∨ c = s1.heap.objs.size + 2 ∨ c = s1.heap.objs.size + 3 ∨ c = s1.heap.objs.size ∨ c = s1.heap.objs.size + 1 := by simpa using hcm
      have hle : s1.heap.objs.size ≤ c := by
        rcases e' with z | z | z | z | z <;> rw [z] <;> first | exact Nat.le_refl _ | exact Nat.le_add_right _ _
      exact I1.fpOk hle (I1.hok.fresh hle)
def izip (xs ys : List W) : List W := (xs.zip ys).map fun p => W.tup [p.1, p.2]
def sq2 (S : Sto) (w : W) : Option (List W) := match view S w with
  | .lst xs => some xs
  | .tup xs => some xs
  | _ => none
def dZip (t : DA') : DI' := fun ω S Q => t ω S fun ws S1 => match ws with
  | [w1, w2] => match sq2 S1 w1, sq2 S1 w2 with
    | some xs, some ys => Q (izip xs ys) (fun S' => sq2 S' w1 = some xs ∧ sq2 S' w2 = some ys) S1
    | _, _ => False
  | _ => False
theorem sq2_src {K : PySem.W.Frag} {S0 : Sto} {H0 : Hp} {w : W} {v : V} {xs : List W} (r : Rel K S0 H0) (h : RW K S0 H0 w v) (e : sq2 S0 w = some xs) :
    ∃ (c : Bool) (a : Addr) (vs : List V), v = .ref a ∧ SqB c K H0 a vs ∧ ∀ S H, Nx S0 H0 S H → Rel K S H → sq2 S w = some xs → ∃ us, SqB c K H a us ∧ RWs K S H xs us := by
  have key : ∀ S, sq2 S w = some xs → seqW S w = some xs := fun S e => by
    unfold sq2 at e
    unfold seqW
    split at e
    · rename_i q; rw [q]; exact e
    · rename_i q; rw [q]; exact e
    · cases e
  unfold sq2 at e
  split at e
  · rename_i ys ev
    cases e
    obtain ⟨a, vs, rfl, sq, hh⟩ := lst_src r h ev
    exact ⟨false, a, vs, rfl, sq, fun S H x r' e' => hh S H x r' (key S e')⟩
  · rename_i ys ev
    cases e
    obtain ⟨a, vs, rfl, sq, hh⟩ := tup_src h ev
    exact ⟨true, a, vs, rfl, sq, fun S H x _ _ => hh S H x⟩
  · cases e
theorem di_zip {X : Cx} {Z : WX} {e e2 : Expr} {t : DA'} {p pos tpos : Pos} {elts : List Expr} {kk : Nat} (hm : X.mg "zip" = none) (ha : DA X Z [e, e2] t) (hg : Gl X "zip" := by rfl)
    (hs : starEach [e, e2] X.env = (false, eval e X.env) :: starEach [e2] X.env := by rfl) (hpl : (backTo pos (starEach [e2] X.env)).any (·.1) = false := by rfl) :
    DI X Z (.Tuple elts kk tpos) (.Call (.Name "zip" p) [e, e2] [] pos) (dZip t) := PI.im (pi_zB hg hm ha hs hpl) fun σ H R ⟨ω, S, Qd, a, h, f⟩ => by
  refine ⟨ω, S, _, a, h, fun ws S1 vs H1 x1 r1 q1 h1 => ?_⟩
  split at h1
  · obtain ⟨v, v', rfl, q, q'⟩ := q1.two
    split at h1
    · rename_i xs ys e1 e2
      obtain ⟨c1, b1, us1, rfl, s1, hh1⟩ := sq2_src r1 q e1
      obtain ⟨c2, b2, us2, rfl, s2, hh2⟩ := sq2_src r1 q' e2
      have hl : (izip xs ys).length = min xs.length ys.length := by unfold izip; rw [List.length_map, List.length_zip]
      refine ⟨c1, c2, b1, b2, us1, us2, rfl, s1, s2, f _ _ _ _ _ x1 r1 ⟨fun i S H x r o hi => ?_, fun i S H v H' x r o hi y => ?_, fun i S H x r o hi => ?_⟩ h1⟩
      · obtain ⟨vs, sq, rs⟩ := hh1 S H x r o.1
        obtain ⟨us, sq', rs'⟩ := hh2 S H x r o.2
        have h1 := rs.len
        have h2 := rs'.len
        exact ⟨vs, us, vs[i], us[i], sq, sq', by simp [show i < vs.length by omega], by simp [show i < us.length by omega]⟩
      · obtain ⟨vs, sq, rs⟩ := hh1 S H x r o.1
        obtain ⟨us, sq', rs'⟩ := hh2 S H x r o.2
        obtain ⟨T, xv, yv, rfl, hT, rfl, y1, y2⟩ := y
        obtain ⟨w1, e1, q1⟩ := rs.get' (y1 vs sq)
        obtain ⟨w2, e2, q2⟩ := rs'.get' (y2 us sq')
        refine ⟨.tup [w1, w2], ?_, Nx.new hT, r.new hT, r.newT hT (.cons q1 (.cons q2 .nil))⟩
        have ez : (xs.zip ys)[i]? = some (w1, w2) := List.getElem?_zip_eq_some.mpr ⟨e1, e2⟩
        unfold izip
        rw [List.getElem?_map, ez]
        rfl
      · obtain ⟨vs, sq, rs⟩ := hh1 S H x r o.1
        obtain ⟨us, sq', rs'⟩ := hh2 S H x r o.2
        exact ⟨vs, us, sq, sq', by rw [hi, hl, rs.len, rs'.len]⟩
    · exact h1.elim
  · exact h1.elim
end DL

set_option Elab.async false
set_option linter.all false
set_option maxRecDepth 100000
set_option maxHeartbeats 4000000
namespace DL
open PySem PySem.Spec PyProof.Rows L2

/-! ### subscripts -/
theorem RWs.atI {K : PySem.W.Frag} {S : Sto} {H : Hp} {ws : List W} {vs : List V} {i : Int} {w : W} (r : RWs K S H ws vs) (h : L2.atI ws i = some w) : ∃ v, L2.atI vs i = some v ∧ RW K S H w v := by
  unfold L2.atI at h ⊢
  rw [← r.len]
  cases e : ixN ws.length i with
  | none => rw [e] at h; cases h
  | some j => rw [e] at h; exact r.get h
def dIx : D2 := fun a b S Q => match view S a, b with
  | .lst xs, .int i => match L2.atI xs i with
    | some w => Q w S
    | none => False
  | .tup xs, .int i => match L2.atI xs i with
    | some w => Q w S
    | none => False
  | .scr ns, .int i => match L2.atI ns i with
    | some n => Q (.int n) S
    | none => False
  | .str z, .int i => match L2.atI z.cps.toList i with
    | some c => Q (.str ⟨#[c]⟩) S
    | none => False
  | _, _ => False
theorem atI_map {α β : Type} (f : α → β) (xs : List α) (i : Int) : L2.atI (xs.map f) i = (L2.atI xs i).map f := by
  unfold L2.atI
  rw [List.length_map]
  cases ixN xs.length i with
  | none => rfl
  | some j => show (xs.map f)[j]? = (xs[j]?).map f; rw [List.getElem?_map]
theorem atI_mem {α : Type} {xs : List α} {i : Int} {v : α} (h : L2.atI xs i = some v) : v ∈ xs := by
  obtain ⟨j, _, h2, _⟩ := atI_get h
  exact List.mem_of_getElem? h2
section
variable {X : Cx} {Z : WX}
theorem ix_any : IxR X (uR X.K dIx) := by
  intro value slice pins s σ H x y v u Q I rx ry ⟨w1, w2, S, Qd, r, r1, r2, q, fi⟩ hs
  unfold dIx at q
  split at q
  · rename_i xs i e1
    cases r2
    obtain ⟨a, vs, rfl, h1, s1⟩ := view_lst r r1 e1
    split at q
    · rename_i w ew
      obtain ⟨z, ez, rz⟩ := s1.atI ew
      exact ix_list value slice pins s σ H _ _ v u Q I rx ry ⟨a, vs, i, z, rfl, rfl, .inl (.inl h1), ez, fi.one r rz q⟩ hs
    · exact q.elim
  · rename_i xs i e1
    cases r2
    obtain ⟨a, vs, rfl, h1, s1⟩ := view_tup r1 e1
    split at q
    · rename_i w ew
      obtain ⟨z, ez, rz⟩ := s1.atI ew
      exact ix_tup value slice pins s σ H _ _ v u Q I rx ry ⟨a, vs, i, z, rfl, rfl, h1, ez, fi.one r rz q⟩ hs
    · exact q.elim
  · rename_i ns i e1
    cases r2
    obtain ⟨a, rfl, h1⟩ := view_scr r1 e1
    split at q
    · rename_i n en
      exact ix_list value slice pins s σ H _ _ v u Q I rx ry ⟨a, _, i, .int n, rfl, rfl, h1, by rw [atI_map, en]; rfl, fi.one r (.int n) q⟩ hs
    · exact q.elim
  · rename_i z i e1
    cases r2
    obtain ⟨rfl, ok⟩ := view_str r1 e1
    split at q
    · rename_i c ec
      exact ix_str value slice pins s σ H _ _ v u Q I rx ry ⟨z, i, c, rfl, rfl, (sv_iff.mp ok).2, ec, fi.one r (.str _ (sv_sign ok (atI_mem ec))) q⟩ hs
    · exact q.elim
  · exact q.elim
theorem de_ix {a b : Expr} {ta tb : DE'} {pos : Pos} (ha : DE X Z a ta) (hb : DE X Z b tb) (hs : PlainIx b := by intro _ _; rfl) : DE X Z (.Subscript a b pos) (dOp dIx ta tb) := PE.im (pe_ix ix_any ha hb hs) fun _ _ _ => uOp
/-- d[k], there -/
def dDg : D2 := fun a b S Q => match view S a, wkey b with
  | .dct ks ws, some k => match wval (ks.zip ws) k with
    | some w => Q w S
    | none => False
  | _, _ => False
theorem uOpD {K : PySem.W.Frag} {rd : D2} {ta tb : DE'} {σ : L2.St} {H : Hp} {Q : VK} {te : TE → TE → TE} {r : V → V → Hp → VK → Prop} (hte : ∀ a b, te a b = fun σ H Q => a σ H fun x H1 => b σ H1 fun y H2 => r x y H2 Q)
    (hr : ∀ x y H Q, uR K rd x y H Q → r x y H Q) (h : uE K Z (dOp rd ta tb) σ H Q) : te (uE K Z ta) (uE K Z tb) σ H Q := by
  rw [hte]
  obtain ⟨ω, S, Qd, a, h, f⟩ := uOp h
  exact ⟨ω, S, Qd, a, h, fun w S' v H' x1 x2 x3 x4 => by
    obtain ⟨ω2, S2, Qd2, a2, h2, f2⟩ := f w S' v H' x1 x2 x3 x4
    exact ⟨ω2, S2, Qd2, a2, h2, fun w S' v H' y1 y2 y3 y4 => hr _ _ _ _ (f2 w S' v H' y1 y2 y3 y4)⟩⟩
theorem de_dget {k : Nat} {a b : Expr} {ta tb : DE'} {pos : Pos} (hr : Room k X.A) (ha : DE X Z a ta) (hb : DE X Z b tb) (hs : NoSl b := by intro _ _; rfl) : DE X Z (.Subscript a b pos) (dOp dDg ta tb) :=
  PE.im (pe_dget (hu_of hr) ha hb hs) fun σ H Q h => by
    refine uOpD (te := tDGet) (r := fun x y H2 Q => ∃ a v, x = .ref a ∧ DGet H2 a y (some v) ∧ Q v H2) (fun _ _ => rfl) (fun x y H Q ⟨w1, w2, S, Qd, r, r1, r2, q, fi⟩ => ?_) h
    unfold dDg at q
    split at q
    · rename_i ks ws k' e1 e2
      obtain ⟨a, gs, rfl, h1, rp, _⟩ := view_dct r r1 e1
      obtain rfl := wkey_rel r2 e2
      split at q
      · rename_i w ew
        rcases wval_rel rp k' with ⟨w', z, e3, e4, rz⟩ | ⟨e3, _⟩
        · rw [ew] at e3
          cases e3
          exact ⟨a, z, rfl, by rw [← e4]; exact .inl ⟨gs, k', h1, rfl, rfl⟩, fi.one r rz q⟩
        · rw [ew] at e3; cases e3
      · exact q.elim
    · exact q.elim
/-! ### slices -/
abbrev DO' := Om → Sto → (Option Int → Sto → Prop) → Prop
def uO (K : PySem.W.Frag) (Z : WX) (td : DO') : TO := fun σ H Q => ∃ (ω : Om) (S : Sto) (Qd : Option Int → Sto → Prop), At K Z S H σ ω ∧ td ω S Qd ∧ ∀ o S' H', Nx S H S' H' → Rel K S' H' → Qd o S' → Q o H'
abbrev DPo (X : Cx) (Z : WX) (e : Option Expr) (t : DO') : Prop := PO X e (uO X.K Z t)
def dNo : DO' := fun _ S Q => Q none S
def dPart (te : DE') : DO' := fun ω S Q => te ω S fun w S1 => match w with
  | .int i => Q (some i) S1
  | _ => False
theorem do_none : DPo X Z none dNo := ⟨fun pins s σ H Q I ⟨ω, S, Qd, a, h, f⟩ => (po_none (X := X)).run pins s σ H Q I (f _ _ _ Nx.refl a.rel h)⟩
theorem do_some {e : Expr} {te : DE'} (h : DE X Z e te) : DPo X Z (some e) (dPart te) := ⟨fun pins s σ H Q I ⟨ω, S, Qd, a, q, f⟩ => (po_some h).run pins s σ H Q I ⟨ω, S, _, a, q, fun w S1 v H1 x1 r1 q1 h1 => by
  split at h1
  · cases q1; exact ⟨_, rfl, f _ _ _ x1 r1 h1⟩
  · exact h1.elim⟩⟩
def cut {α : Type} (xs : List α) (lo hi : Option Int) : List α := (xs.drop (HT.sIx xs.length 0 lo)).take (HT.sIx xs.length xs.length hi - HT.sIx xs.length 0 lo)
def dSlr (w : W) (lo hi : Option Int) (S : Sto) (Q : WQ) : Prop := match view S w with
  | .lst xs => Q (.lst (cut xs lo hi)) S
  | .tup xs => Q (.tup (cut xs lo hi)) S
  | .str z => Q (.str (cutS z lo hi)) S
  | _ => False
def dSl (te : DE') (tl th : DO') : DE' := fun ω S Q => te ω S fun w S1 => tl ω S1 fun lo S2 => th ω S2 fun hi S3 => dSlr w lo hi S3 Q
theorem RWs.cut {K : PySem.W.Frag} {S : Sto} {H : Hp} {ws : List W} {vs : List V} (r : RWs K S H ws vs) (lo hi : Option Int) : RWs K S H (DL.cut ws lo hi) (cutV vs lo hi) := by
  unfold DL.cut cutV
  rw [r.len]
  exact (r.drop _).take _
theorem sv_cut {z : Str} {lo hi : Option Int} (h : sv z) : sv (cutS z lo hi) := by
  rw [sv_iff] at h ⊢
  refine ⟨fun c hc => h.1 c ?_, Nat.le_trans (cutS_length z lo hi) h.2⟩
  have e : (cutS z lo hi).cps.toList = (z.cps.toList.drop (HT.sIx z.length 0 lo)).take (HT.sIx z.length z.length hi - HT.sIx z.length 0 lo) := rfl
  rw [e] at hc
  exact List.mem_of_mem_drop (List.mem_of_mem_take hc)
def uSl (K : PySem.W.Frag) : V → Option Int → Option Int → Hp → VK → Prop := fun x lo hi H Q => ∃ w S Qd, Rel K S H ∧ RW K S H w x ∧ dSlr w lo hi S Qd ∧ Fin K S H Qd Q
theorem sl_any : SlR X (uSl X.K) := by
  intro pins s σ H x v vl vu lo hi sl Q I rx hs pl pu ⟨w, S, Qd, r, r1, q, fi⟩
  unfold dSlr at q
  split at q
  · rename_i xs e1
    obtain ⟨a, vs, rfl, h1, s1⟩ := view_lst r r1 e1
    exact sl_list pins s σ H _ v vl vu lo hi sl Q I rx hs pl pu ⟨a, vs, rfl, .inl (.inl h1), fun p np => fi _ _ _ _ (Nx.new np) (r.new np) (.lst upd_same (r.free np) ((s1.cut lo hi).mono (Nx.new np))) q⟩
  · rename_i xs e1
    have rt := view_tup_self r1 e1
    obtain ⟨a, vs, rfl, h1, s1⟩ := view_tup r1 e1
    refine sl_tupA pins s σ H _ v vl vu lo hi sl Q I rx hs pl pu ⟨a, vs, rfl, h1, fun ⟨z1, z2⟩ => ?_, fun _ p np => fi _ _ _ _ (Nx.new np) (r.new np) (.tup upd_same (r.free np) ((s1.cut lo hi).mono (Nx.new np))) q⟩
    refine fi.one r rt ?_
    have e : cut xs lo hi = xs := by
      unfold cut
      rw [s1.len, z1, z2, List.drop_zero, Nat.sub_zero, ← s1.len, List.take_length]
    rw [← e]
    exact q
  · rename_i z e1
    obtain ⟨rfl, ok⟩ := view_str r1 e1
    exact sl_str pins s σ H _ v vl vu lo hi sl Q I rx hs pl pu ⟨z, rfl, (sv_iff.mp ok).2, fi.one r (.str _ (sv_cut ok)) q⟩
  · exact q.elim
theorem de_sl {e : Expr} {lo hi : Option Expr} {te : DE'} {tl th : DO'} {p2 pos : Pos} (he : DE X Z e te) (hl : DPo X Z lo tl) (hu : DPo X Z hi th) : DE X Z (.Subscript e (.Slice lo hi none p2) pos) (dSl te tl th) := PE.im (pe_slice sl_any he hl hu) fun σ H Q ⟨ω, S, Qd, a, h, f⟩ => by
  refine ⟨ω, S, _, a, h, fun w S1 v H1 x1 r1 q1 h1 => ?_⟩
  refine ⟨ω, S1, _, a.to x1 r1, h1, fun lo S2 H2 x2 r2 h2 => ?_⟩
  refine ⟨ω, S2, _, a.to (x1.trans x2) r2, h2, fun hi S3 H3 x3 r3 h3 => ?_⟩
  exact ⟨w, S3, Qd, r3, q1.mono (x2.trans x3), h3, fun w S' v H' x r q h => f w S' v H' (x1.trans (x2.trans (x3.trans x))) r q h⟩
end

/-! ### methods of lists -/
abbrev DM' := W → List W → Sto → WQ → Prop
def isL (S : Sto) (w : W) : Bool := match view S w with
  | .lst _ => true
  | _ => false
def dBM (rd : DM') (to : DE') (t : DA') : DE' := fun ω S Q => to ω S fun w S1 => isL S1 w = true ∧ t ω S1 fun ws S2 => rd w ws S2 Q
def uM (K : PySem.W.Frag) (rd : DM') : V → List V → Hp → VK → Prop := fun x xs H Q => ∃ w ws S Qd, Rel K S H ∧ RW K S H w x ∧ RWs K S H ws xs ∧ rd w ws S Qd ∧ Fin K S H Qd Q
section
variable {X : Cx} {Z : WX} {o e : Expr} {es : List Expr} {to : DE'} {t : DA'} {name : Str} {apos cpos : Pos} {id : String} {rd : DM'}
theorem isL_ty {K : PySem.W.Frag} {S : Sto} {H : Hp} {w : W} {v : V} (r : Rel K S H) (h : RW K S H w v) (e : isL S w = true) : tyV K "list" v H := by
  unfold isL at e
  split at e
  · rename_i xs ev
    obtain ⟨a, vs, rfl, h1, _⟩ := view_lst r h ev
    exact .inl ⟨rfl, vs, .inl (.inl h1)⟩
  · cases e
theorem de_bm (slot : Slot "list" name id) (hty : typeOf (.builtin id) = pure (.type "method_descriptor")) (hm : MtR X id (uM X.K rd)) (ho : DE X Z o to) (ha : DA X Z (e :: es) t)
    (hbase : attributeBase o name X.env (eval o X.env) = eval o X.env := by rfl)
    (hfew : ((backTo cpos (starEach (e :: es) X.env)).all (fun x => !x.1) && (backToKw cpos (keywordEach [] X.env)).all (fun x => x.1.isSome) && decide ((e :: es).length + ([] : List Keyword).length + (if ([] : List Keyword).isEmpty then 0 else 1) < 30)) = true := by rfl)
    (hline : (apos.endLine == cpos.line) = true := by rfl) (hs : starEach (e :: es) X.env = (false, eval e X.env) :: starEach es X.env := by rfl) (hplain : (backTo cpos (starEach es X.env)).any (·.1) = false := by rfl) :
    DE X Z (.Call (.Attribute o name apos) (e :: es) [] cpos) (dBM rd to t) := PE.im (pe_bm PySem.F.plainAttrs_list slot hty hm ho ha hbase hfew hline hs hplain) fun σ H Q ⟨ω, S, Qd, a, h, f⟩ => by
  refine ⟨ω, S, _, a, h, fun w S1 v H1 x1 r1 q1 ⟨il, h1⟩ => ⟨isL_ty r1 q1 il, ω, S1, _, a.to x1 r1, h1, fun ws S2 vs H2 x2 r2 q2 h2 => ?_⟩⟩
  exact ⟨w, ws, S2, Qd, r2, q1.mono x2, q2, h2, fun w S' v H' x r q h => f w S' v H' (x1.trans (x2.trans x)) r q h⟩
def dApp : DM' := fun w ws S Q => match w, ws with
  | .ref a, [y] => match S a with
    | some (.lst xs) => xs.length < 1000000 ∧ Q .non (up S a (.lst (xs ++ [y])))
    | _ => False
  | _, _ => False
theorem mt_app : MtR X "list.append" (uM X.K dApp) := fun pins s σ H x xs v us Q I rx rs ⟨w, ws, S, Qd, r, r1, r2, q, fi⟩ => by
  refine mt_append pins s σ H x xs v us Q I rx rs ?_
  unfold dApp at q
  split at q
  · cases r1
    obtain ⟨z, rfl, rz⟩ := r2.one
    split at q
    · rename_i a ys hs
      cases r _ _ hs with
      | @lst _ vs h1 q1 => exact ⟨_, vs, z, rfl, rfl, h1, by rw [← q1.len]; exact sz_lt q.1, fi _ _ _ _ (Nx.wr hs) (r.wr hs (fun _ e => nomatch e) (.lst upd_same ((q1.app (.cons rz .nil)).mono (Nx.wr hs)))) .non q.2⟩
    · exact q.elim
  · exact q.elim
theorem de_append (ho : DE X Z o to) (ha : DA X Z [e] t) (hbase : attributeBase o "append" X.env (eval o X.env) = eval o X.env := by rfl)
    (hfew : ((backTo cpos (starEach [e] X.env)).all (fun x => !x.1) && (backToKw cpos (keywordEach [] X.env)).all (fun x => x.1.isSome) && decide (([e] : List Expr).length + ([] : List Keyword).length + (if ([] : List Keyword).isEmpty then 0 else 1) < 30)) = true := by rfl)
    (hline : (apos.endLine == cpos.line) = true := by rfl) (hs : starEach [e] X.env = (false, eval e X.env) :: starEach [] X.env := by rfl) (hplain : (backTo cpos (starEach [] X.env)).any (·.1) = false := by rfl) :
    DE X Z (.Call (.Attribute o "append" apos) [e] [] cpos) (dBM dApp to t) := de_bm PySem.F.slot_list_append PySem.F.type_list_append mt_app ho ha hbase hfew hline hs hplain
def dExt : DM' := fun w ws S Q => match w, ws with
  | .ref a, [y] => match S a, view S y with
    | some (.lst xs), .lst ys => xs.length + ys.length ≤ 1000000 ∧ Q .non (up S a (.lst (xs ++ ys)))
    | _, _ => False
  | _, _ => False
theorem mt_ext : MtR X "list.extend" (uM X.K dExt) := fun pins s σ H x xs v us Q I rx rs ⟨w, ws, S, Qd, r, r1, r2, q, fi⟩ => by
  refine mt_extend pins s σ H x xs v us Q I rx rs ?_
  unfold dExt at q
  split at q
  · cases r1
    obtain ⟨z, rfl, rz⟩ := r2.one
    split at q
    · rename_i a _ ys zs hs hv
      obtain ⟨b, us', rfl, h2, q2⟩ := view_lst r rz hv
      cases r _ _ hs with
      | @lst _ vs h1 q1 => exact ⟨_, b, vs, us', rfl, rfl, h1, h2, by rw [← q1.len, ← q2.len]; exact sz_of q.1, fi _ _ _ _ (Nx.wr hs) (r.wr hs (fun _ e => nomatch e) (.lst upd_same ((q1.app q2).mono (Nx.wr hs)))) .non q.2⟩
    · exact q.elim
  · exact q.elim
theorem de_extend (ho : DE X Z o to) (ha : DA X Z [e] t) (hbase : attributeBase o "extend" X.env (eval o X.env) = eval o X.env := by rfl)
    (hfew : ((backTo cpos (starEach [e] X.env)).all (fun x => !x.1) && (backToKw cpos (keywordEach [] X.env)).all (fun x => x.1.isSome) && decide (([e] : List Expr).length + ([] : List Keyword).length + (if ([] : List Keyword).isEmpty then 0 else 1) < 30)) = true := by rfl)
    (hline : (apos.endLine == cpos.line) = true := by rfl) (hs : starEach [e] X.env = (false, eval e X.env) :: starEach [] X.env := by rfl) (hplain : (backTo cpos (starEach [] X.env)).any (·.1) = false := by rfl) :
    DE X Z (.Call (.Attribute o "extend" apos) [e] [] cpos) (dBM dExt to t) := de_bm PySem.F.slot_list_extend PySem.F.type_list_extend mt_ext ho ha hbase hfew hline hs hplain
/-- l[i] = v, a list of the store -/
def dSetIx (to ti te : DE') : DS' := fun D ω S => te ω S fun v S1 => to ω S1 fun w S2 => ti ω S2 fun i S3 => match w, i with
  | .ref a, .int k => match S3 a with
    | some (.lst xs) => match ixN xs.length k with
      | some j => D.nx ω (up S3 a (.lst (xs.set j v)))
      | none => False
    | _ => False
  | _, _ => False
theorem ds_setIx {i : Expr} {ti te : DE'} {p' pos : Pos} (ho : DE X Z o to) (hi : DE X Z i ti) (he : DE X Z e te) (hs : swapsWithSole [.Subscript o i p'] e pos.line X.env = pure false := by rfl) (hw : swappedStores [.Subscript o i p'] e X.env = pure none := by rfl)
    (h1 : (assignEach [.Subscript o i p'] X.env).map (·.2) = [assign (.Subscript o i p') X.env] := by rfl)
    (ha : ∀ v, assign (.Subscript o i p') X.env v = (do
      let ov ← holding [v] (eval o X.env)
      let iv ← holding [v, ov] (eval i X.env)
      standAt p'
      holding [v, ov, iv] (setItem ov iv v)
      release [v, ov, iv] []) := by intro _; rfl) : DS X Z (.Assign [.Subscript o i p'] e pos) (dSetIx to ti te) := PS.im (ps_asg he (pg_sub ho hi set_list ha) hs hw h1) fun D σ H ⟨ω, S, Dd, a, h, f⟩ => by
  refine ⟨ω, S, _, a, h, fun v S1 y H1 x1 r1 q1 h1 => ?_⟩
  refine ⟨ω, S1, _, a.to x1 r1, h1, fun w S2 z H2 x2 r2 q2 h2 => ?_⟩
  refine ⟨ω, S2, _, a.to (x1.trans x2) r2, h2, fun i S3 z3 H3 x3 r3 q3 h3 => ?_⟩
  split at h3
  · cases q2; cases q3
    split at h3
    · rename_i hs
      split at h3
      · rename_i j ej
        cases r3 _ _ hs with
        | @lst _ vs hH rs =>
          exact ⟨_, vs, _, j, rfl, rfl, hH, by rw [← rs.len]; exact ej, f.nx _ _ _ _ (x1.trans (x2.trans (x3.trans (Nx.wr hs)))) (a.to (x1.trans (x2.trans (x3.trans (Nx.wr hs)))) (r3.wr hs (fun _ e => nomatch e) (.lst upd_same ((rs.set (q1.mono (x2.trans x3)) j).mono (Nx.wr hs))))) h3⟩
      · exact h3.elim
    · exact h3.elim
  · exact h3.elim
end

/-! ### isinstance of built-in types -/
inductive Ty where | int | bool | str | tup | lst
def Ty.nm : Ty → String
  | .int => "int" | .bool => "bool" | .str => "str" | .tup => "tuple" | .lst => "list"
def isi (S : Sto) : Ty → W → Option Bool
  | .int, w => match view S w with
    | .int _ => some true | .bl _ => some true | .non => some false | .str _ => some false | .tup _ => some false | .lst _ => some false | _ => none
  | .bool, w => match view S w with
    | .int _ => some false | .bl _ => some true | .non => some false | .str _ => some false | .tup _ => some false | .lst _ => some false | _ => none
  | .str, w => match view S w with
    | .int _ => some false | .bl _ => some false | .non => some false | .str _ => some true | .tup _ => some false | .lst _ => some false | _ => none
  | .tup, w => match view S w with
    | .int _ => some false | .bl _ => some false | .non => some false | .str _ => some false | .tup _ => some true | .lst _ => some false | _ => none
  | .lst, w => match view S w with
    | .int _ => some false | .bl _ => some false | .non => some false | .str _ => some false | .tup _ => some false | .lst _ => some true | _ => none
def dIs (T : Ty) : W → Sto → WQ → Prop := fun w S Q => match isi S T w with
  | some b => Q (.bl b) S
  | none => False
/-- the built-in type of such a value -/
theorem ty_of {K : PySem.W.Frag} {S : Sto} {H : Hp} {w : W} {v : V} (r : Rel K S H) (h : RW K S H w v) : match view S w with
    | .int _ => TyX K H v (.type "int") | .bl _ => TyX K H v (.type "bool") | .non => TyX K H v (.type "NoneType") | .str _ => TyX K H v (.type "str") | .tup _ => TyX K H v (.type "tuple") | .lst _ => TyX K H v (.type "list") | _ => True := by
  cases e : view S w with
  | int i => obtain rfl := view_int h e; exact .base (.int i)
  | str x => obtain ⟨rfl, _⟩ := view_str h e; exact .base (.str x)
  | lst xs => obtain ⟨a, vs, rfl, h1, _⟩ := view_lst r h e; exact .base (.lst h1)
  | tup xs =>
    obtain ⟨a, vs, rfl, h1, _⟩ := view_tup h e
    rcases h1 with (h1 | ⟨o, h1⟩) | ⟨o, its, n, h1, hc, _⟩
    · exact .base (.tup h1)
    · exact .fTuple h1
    · exact .kTuple h1 hc
  | bl b => cases h <;> simp only [view] at e <;> first | (cases e; exact .base (.bl _)) | cases e | (split at e <;> cases e)
  | non => cases h <;> simp only [view] at e <;> first | (cases e; exact .base .non) | exact .base .non | cases e | (split at e <;> cases e)
  | _ => trivial
theorem kit1 {K : PySem.W.Frag} {t n : String} {b : Bool} (h : kitB t n = some b) : PySem.W.kitOne K (.type t) (.type n) = some b := kit_ty h
section
variable {X : Cx} {Z : WX}
theorem de_isi (T : Ty) {a : Expr} {ta : DE'} {x : Str} {p p2 pos : Pos} (ha : DE X Z a ta) (hm : X.mg "isinstance" = none) (hx : X.mg x = none) (hv : bootBuiltins x = some (.type T.nm) := by decide +kernel) (hg : Gl X "isinstance" := by rfl) (hgx : Gl X x := by rfl) (hn : x ≠ "__name__" := by decide) (hd : (x == ("__debug__" : Str)) = false := by decide)
    (he : starEach [a, .Name x p2] X.env = (false, eval a X.env) :: starEach [.Name x p2] X.env := by rfl) (he2 : starEach [.Name x p2] X.env = (false, eval (.Name x p2) X.env) :: starEach [] X.env := by rfl) (hpl : (backTo pos (starEach [.Name x p2] X.env)).any (·.1) = false := by rfl) :
    DE X Z (.Call (.Name "isinstance" p) [a, .Name x p2] [] pos) (dUn (dIs T) ta) :=
  PE.im (pe_callB (id := "isinstance") call_isi hg hm (by decide +kernel) (pa_cons ha (pa_cons (pe_bltn (v := .ty T.nm) hgx hx hv rfl hn hd) pa_nil he2) he) (by decide) (by decide) he hpl) fun σ H Q ⟨ω, S, Qd, a, h, f⟩ => by
    refine ⟨ω, S, _, a, h, fun w S1 v H1 x1 r1 q1 h1 => ?_⟩
    show rIsi X.K [v, .ty T.nm] H1 Q
    have ty := ty_of r1 q1
    unfold dIs at h1
    split at h1
    · rename_i b eb
      have key : ∀ t : String, TyX X.K H1 v (.type t) → kitB t T.nm = some b → rIsi X.K [v, .ty T.nm] H1 Q := fun t ht hk => ⟨v, _, _, _, b, rfl, .ty _, ht, kit1 hk, f _ _ _ _ x1 r1 (.bl _) h1⟩
      cases T <;> simp only [isi] at eb <;> cases e : view S1 w <;> rw [e] at eb ty <;> simp only at eb ty <;> first | cases eb | skip
      all_goals first | exact key _ ty (by decide +kernel) | exact (nomatch eb)
    · exact h1.elim
end
end DL

set_option Elab.async false
set_option linter.all false
set_option maxRecDepth 100000
set_option maxHeartbeats 4000000
namespace My
open PySem PySem.Spec PyProof.Rows L2 PySem.W
/-- the things of xs, by their data, in order -/
def sortD (xs : List V) (ds : List PyData) : List V := ((xs.zip ds).mergeSort (dataLe false Prod.snd)).map Prod.fst
theorem sortD_perm {xs : List V} {ds : List PyData} (h : xs.length = ds.length) : (sortD xs ds).Perm xs := by
  have p := (List.mergeSort_perm (xs.zip ds) (dataLe false Prod.snd)).map Prod.fst
  unfold sortD
  refine p.trans ?_
  rw [List.map_fst_zip (by omega)]
theorem dp_len {K : PySem.W.Frag} {H : Hp} : ∀ {vs : List V} {ds : List PyData}, DpAll K H vs ds → vs.length = ds.length
  | _, _, .nil => rfl
  | _, _, .cons _ a => congrArg Nat.succ (dp_len a)
section
variable {X : Cx} {pins : List (Addr × Obj)} {σ : L2.St} {H : Hp} {s : Shared}
theorem each_zip (I : Inv X pins σ H s) : ∀ {xs : List V} {ds : List PyData} {us : List Value}, DpAll X.K H xs ds → Vals xs us →
    EachIs (fun (u : Value) (b : V × PyData) => RelV b.1 u) us (xs.zip ds) ∧ EachIs (fun (u : Value) (b : V × PyData) => ∃ as, Reads s.heap u b.2 as) us (xs.zip ds)
  | _, _, _, .nil, .nil => ⟨.nil, .nil⟩
  | _, _, _, .cons h a, .cons r t => by
    obtain ⟨e1, e2⟩ := each_zip I a t
    exact ⟨.cons r e1, .cons (Dp.reads I _ _ _ h r) e2⟩
theorem vals_of_each : ∀ {us : List Value} {bs : List (V × PyData)}, EachIs (fun (u : Value) (b : V × PyData) => RelV b.1 u) us bs → Vals (bs.map Prod.fst) us
  | _, _, .nil => .nil
  | _, _, .cons h t => .cons h (vals_of_each t)
end
/-- sorted of a list of data that can be compared -/
def rSortD (K : PySem.W.Frag) : List V → Hp → VK → Prop := fun vs H Q => ∃ (a : Addr) (xs : List V) (ds : List PyData), vs = [.ref a] ∧ SqL K H a xs ∧ DpAll K H xs ds ∧ AllAlike ds ∧ Sortable ds ∧ (∀ d ∈ ds, d.depth ≤ 60) ∧ ∀ p, H p = none → Q (.ref p) (upd H p (.lst (sortD xs ds)))
theorem zip_snd {xs : List V} {ds : List PyData} (h : xs.length = ds.length) : (xs.zip ds).map Prod.snd = ds := List.map_snd_zip (by omega)
theorem cr_sortD {X : Cx} (hu : X.A.units + 64 < cLine) : CallR X (.builtin "sorted") (rSortD X.K) := by
  intro pins s σ H vs us Q I r h
  obtain ⟨a, xs, ds, rfl, hs, hd, hal, hk, hdep, q⟩ := h
  obtain ⟨its, rv, hl, hz⟩ := I.list hs
  rw [Vals.ref1 r]
  have hlen := dp_len hd
  obtain ⟨e1, e2⟩ := each_zip I hd rv
  have zs := zip_snd hlen
  have zl : (xs.zip ds).length = xs.length := by rw [List.length_zip]; omega
  refine sorted_data (enc := Prod.snd) hl.isList e1 e2 (by rw [zs]; exact hal) (by rw [zs]; exact hk) (by rw [zl]; exact hz) (fun b hb => ?_) fun out h1 h2 => ?_
  · have hm : b.2 ∈ ds := by
      rw [← zs]
      exact List.mem_map.mpr ⟨b, hb, rfl⟩
    have := hdep _ hm
    omega
  · obtain ⟨ep, he⟩ := PyProof.Rows.sortedAll_at s.heap its out.toArray
    have hv := vals_of_each h2
    have hsz : (sortD xs ds).length ≤ sizeLine := by
      rw [(sortD_perm hlen).length_eq]
      exact hz
    exact ⟨.ref _, upd H (s.heap.objs.size + 1) (.lst (sortD xs ds)), I.laid (t' := s.toks) (fun _ _ => PyProof.Rows.sortedAll_old) (Nat.le_succ _) ⟨hsz, out, ep, hv, he⟩, rfl, q _ (I.hok.fresh (Nat.le_succ _))⟩
/-! ### sorted of a tuple -/
section
variable {prog : Program} {w : World} {A : Around} {E : Value → Shared → Prop} {s : Shared}
theorem collect_tup {t : Addr} {vs : List Value} {Q : List Value → Shared → Prop} (ht : s.heap.IsTuple t vs.toArray) (small : vs.length ≤ sizeLine)
    (done : Q vs { s with heap := (s.heap.push (seqObj "list" #[] 0)).update s.heap.objs.size (Obj.mapSeq (· ++ vs.toArray)) }) : wpAny (model prog w) A (collect (.ref t)) Q E s := by
  obtain ⟨ob, at0, cl, m, dat⟩ := _root_.id ht
  have at1 : (s.heap.push (seqObj "list" #[] 0)).get? t = some ob := Heap.get?_push_of_some _ at0
  unfold collect
  refine wpAny_bind (wpAny_runValue (codeAny_builtin PyProof.Rows.entry_proto_collect' ?_))
  change wpAny _ _ (do again (.builtin "list.__iadd__" ⟨[← newList [], .ref t], []⟩)) _ _ s
  refine wpAny_bind (wpAny_newList (wpAny_pure ⟨Code.quiet_builtin _ (by decide +kernel), codeAny_builtin PyProof.Rows.entry_list_iadd' ?_⟩))
  change wpAny _ _ (Builtin.List.listExtendWith (.ref s.heap.objs.size) (.ref t) (.ref s.heap.objs.size)) _ _ { s with heap := s.heap.push (seqObj "list" #[] 0) }
  unfold Builtin.List.listExtendWith
  refine wpAny_bind (wpAny_typeOf (T := "tuple") ⟨ob, at1, cl⟩ ?_)
  rw [if_pos (by rw [show (Value.type "tuple" == Value.type "tuple") = true from rfl, Bool.or_true])]
  refine wpAny_bind (PyProof.Rows.listItems_at at1 dat (wpAny_bind (PyProof.Rows.listItems_at (xs := #[]) (n := 0) (Heap.get?_push_size _ rfl) rfl ?_)))
  rw [if_neg (by simp)]
  have room : (#[] ++ vs.toArray).size ≤ sizeLine + 1 := by
    simp only [Array.size_append, List.size_toArray, List.length_nil]
    omega
  refine wpAny_bind (listUpdate_at (xs := #[]) (n := 0) (Heap.get?_push_size _ rfl) rfl (wpAny_pure ?_) (Nat.zero_le _) room)
  change wpAny (model prog w) A (do
      let got ← load s.heap.objs.size
      match got.data with
      | .seq items _ => pure items.toList
      | _ => unsupported "internal:collect") Q E { s with heap := (s.heap.push (seqObj "list" #[] 0)).update s.heap.objs.size (Obj.mapSeq (· ++ vs.toArray)) }
  refine wpAny_bind (wpAny_load (get?_update_seq (Heap.get?_push_size _ rfl) _) ?_)
  change wpAny _ _ (pure ((#[] : Array Value) ++ vs.toArray).toList) Q E _
  rw [show ((#[] : Array Value) ++ vs.toArray).toList = vs by simp]
  exact wpAny_pure done
theorem sorted_tup {t : Addr} {vs : List Value} {Q : Value → Shared → Prop} (ht : s.heap.IsTuple t vs.toArray) (small : vs.length ≤ sizeLine)
    (body : ∀ E' : Value → Shared → Prop, wpAny (model prog w) A.in1.in1 (Builtin.«list.sort» ⟨[.ref (s.heap.objs.size + 1)], []⟩) (fun f s' => f = .done (.ret .none) ∧ Q (.ref (s.heap.objs.size + 1)) s') E' { s with heap := copyHeap s.heap vs }) :
    wpAny (model prog w) A (call (.builtin "sorted") [.ref t] []) Q E s := by
  refine call_function_entry_kw kind_sorted plain_sorted entry_sorted (args_sorted1 _) ?_
  unfold Builtin.«sorted»
  refine wpAny_bind (m := checkCount "sorted" 1 1 _) (wpAny_pure (wpAny_bind (collect_tup ht small (wpAny_bind (wpAny_newList ?_ small)))))
  have size1 : ((s.heap.push (seqObj "list" #[] 0)).update s.heap.objs.size (Obj.mapSeq (· ++ vs.toArray))).objs.size = s.heap.objs.size + 1 := by
    rw [Heap.size_update, size_push']
  change wpAny _ _ _ _ _ { s with heap := copyHeap s.heap vs }
  rw [size1]
  refine wpAny_bind (wpAny_holding (wpAny_call_entry_kw PyProof.Rows.slot_list_sort ⟨_, copyHeap_at s.heap vs, rfl⟩ PyProof.Rows.entry_list_sort ?bd (args_list_sort _)))
  case bd =>
    change wpAny (model prog w) A.in1.in1 (Builtin.«list.sort» ⟨[.ref (s.heap.objs.size + 1)], []⟩) _ _ _
    refine wpAny_mono (body _) (fun f s' got => ?_) fun _ _ e => e
    obtain ⟨rfl, hq⟩ := got
    exact ⟨_, rfl, wpAny_pure ⟨_, rfl, hq⟩⟩
end
/-- sorted of a tuple of data that can be compared -/
def rSortT (K : PySem.W.Frag) : List V → Hp → VK → Prop := fun vs H Q => ∃ (a : Addr) (xs : List V) (ds : List PyData), vs = [.ref a] ∧ SqT K H a xs ∧ DpAll K H xs ds ∧ AllAlike ds ∧ Sortable ds ∧ (∀ d ∈ ds, d.depth ≤ 60) ∧ ∀ p, H p = none → Q (.ref p) (upd H p (.lst (sortD xs ds)))
theorem cr_sortT' {X : Cx} (hu : X.A.units + 64 < cLine) : CallR X (.builtin "sorted") (rSortT X.K) := by
  intro pins s σ H vs us Q I r h
  obtain ⟨a, xs, ds, rfl, hs, hd, hal, hk, hdep, q⟩ := h
  obtain ⟨its, rv, ht, hz⟩ := I.tuple hs
  rw [Vals.ref1 r]
  have hlen := dp_len hd
  obtain ⟨e1, e2⟩ := each_zip I hd rv
  have zs := zip_snd hlen
  have zl : (xs.zip ds).length = xs.length := by rw [List.length_zip]; omega
  have hsmall : its.length ≤ sizeLine := by rw [← rv.length]; exact hz
  have bound : ∀ b, b ∈ xs.zip ds → X.A.units + 2 + (Prod.snd b).depth < cLine := fun b hb => by
    have hm : b.2 ∈ ds := by
      rw [← zs]
      exact List.mem_map.mpr ⟨b, hb, rfl⟩
    have := hdep _ hm
    omega
  have e3 : EachIs (fun (u : Value) (b : V × PyData) => ∃ as, Reads (sortingHeap (copyHeap s.heap its) (s.heap.objs.size + 1) its) u b.2 as) its (xs.zip ds) := e2.mono fun _ _ ⟨as, rd⟩ => ⟨as, PyProof.Rows.Reads.keeps (fun _ _ => sorting_copy_old) rd⟩
  have S := SortsAt.data (prog := X.prog) (w := X.w) (A := X.A.in1.in1) (s := { s with heap := sortingHeap (copyHeap s.heap its) (s.heap.objs.size + 1) its }) (each_map (R := fun u d => ∃ as, Reads (sortingHeap (copyHeap s.heap its) (s.heap.objs.size + 1) its) u d as) Prod.snd e3) (by rw [zs]; exact hal) (by rw [zs]; exact hk) (bound_map bound)
  refine sorted_tup ht hsmall fun E' => list_sort_vals (s := { s with heap := copyHeap s.heap its }) (copyHeap_at s.heap its) S hsmall ⟨rfl, ?_⟩
  have h2 := sortVals_data false e1 e3 (by rw [zs]; exact hal)
  obtain ⟨ep, he⟩ := PyProof.Rows.sortedAll_at s.heap its (sortVals (dataKind (sortingHeap (copyHeap s.heap its) (s.heap.objs.size + 1) its) ((xs.zip ds).map Prod.snd)) false its its).toArray
  have hv := vals_of_each h2
  have hsz : (sortD xs ds).length ≤ sizeLine := by
    rw [(sortD_perm hlen).length_eq]
    exact hz
  exact ⟨.ref _, upd H (s.heap.objs.size + 1) (.lst (sortD xs ds)), I.laid (t' := s.toks) (fun _ _ => PyProof.Rows.sortedAll_old) (Nat.le_succ _) ⟨hsz, _, ep, hv, he⟩, rfl, q _ (I.hok.fresh (Nat.le_succ _))⟩
end My

set_option Elab.async false
set_option linter.all false
set_option maxRecDepth 100000
set_option maxHeartbeats 4000000
namespace DL
open PySem PySem.Spec PyProof.Rows L2 TL

/-! ### the least, the greatest of two texts -/
section
variable {prog : Program} {w : World} {A : Around} {E : Value → Shared → Prop} {s : Shared}
theorem two_at {a b : Str} {t u : Tok} {i : Nat} {v : Value} (h : (#[Value.str a t, Value.str b u] : Array Value)[i]? = some v) : ∃ t', v = .str (if i = 0 then a else b) t' := by
  match i, h with
  | 0, h => exact ⟨t, by simpa using h.symm⟩
  | 1, h => exact ⟨u, by simpa using h.symm⟩
theorem min_strs {a b : Str} {t u : Tok} {Q : Value → Shared → Prop} (hh : A.handled = none) (h : ∀ h' tk, (∀ c o, s.heap.get? c = some o → h'.get? c = some o) → Q (if b.cps.toList < a.cps.toList then .str b u else .str a t) { s with heap := h', toks := tk }) :
    wpAny (model prog w) A (call (.builtin "min") [.str a t, .str b u]) Q E s := by
  have hT : (s.heap.push { cls := .type "tuple", data := .seq #[.str a t, .str b u] }).IsTuple s.heap.objs.size #[.str a t, .str b u] := ⟨_, Heap.get?_push_size _ rfl, rfl, 0, rfl⟩
  refine call_min_two (wpAny_pyIter_tuple hT ?_)
  have z1 : (s.heap.push { cls := .type "tuple", data := .seq #[.str a t, .str b u] }).objs.size = s.heap.objs.size + 1 := Heap.size_push ..
  refine ⟨_, [_, s.heap.objs.size], [_], _, _, _, (fun i j => decide ((if i = 0 then a else b).cps.toList < (if j = 0 then a else b).cps.toList)), rfl, Walks.tuple (A := A.in1) hh _ s.heap.objs.size (by rw [z1]; exact Nat.ne_of_lt (Nat.lt_succ_self _)) #[.str a t, .str b u],
    ⟨⟨_, Heap.get?_push_size _ rfl, rfl, rfl⟩, hT.push _⟩, fun c hc => ?_, (by show 0 < 2; decide), fun i j vi vj s Q E hi hj q => ?_, fun v h' tk hP hk => ?_⟩
  · show c < ((s.heap.push _).push _).objs.size
    rw [Heap.size_push, z1]
    rcases List.mem_cons.mp hc with e | hc
    · rw [e, z1]; exact Nat.lt_succ_self _
    · rw [List.mem_singleton.mp hc]; exact Nat.lt_succ_of_lt (Nat.lt_succ_self _)
  · obtain ⟨t1, rfl⟩ := two_at hi
    obtain ⟨t2, rfl⟩ := two_at hj
    exact lt_str q
  · have old : ∀ c o, s.heap.get? c = some o → h'.get? c = some o := fun c o e => hk c o (fun hm => by
      have l := Heap.lt_size e
      rw [List.mem_singleton.mp hm, z1] at l
      exact Nat.lt_irrefl _ (Nat.lt_of_succ_lt l)) (Heap.get?_push_of_some _ (Heap.get?_push_of_some _ e))
    have q := h h' tk old
    have hv : v = if b.cps.toList < a.cps.toList then Value.str b u else Value.str a t := by
      have hP' : (#[Value.str a t, Value.str b u] : Array Value)[argBest (fun i j => decide ((if i = 0 then a else b).cps.toList < (if j = 0 then a else b).cps.toList)) 1]? = some v := hP
      by_cases c : b.cps.toList < a.cps.toList
      · have e : argBest (fun i j => decide ((if i = 0 then a else b).cps.toList < (if j = 0 then a else b).cps.toList)) 1 = 1 := by simp [argBest, c]
        rw [e] at hP'
        rw [if_pos c]
        simpa using hP'.symm
      · have e : argBest (fun i j => decide ((if i = 0 then a else b).cps.toList < (if j = 0 then a else b).cps.toList)) 1 = 0 := by simp [argBest, c]
        rw [e] at hP'
        rw [if_neg c]
        simpa using hP'.symm
    rw [hv]
    exact q
theorem max_strs {a b : Str} {t u : Tok} {Q : Value → Shared → Prop} (hh : A.handled = none) (h : ∀ h' tk, (∀ c o, s.heap.get? c = some o → h'.get? c = some o) → Q (if a.cps.toList < b.cps.toList then .str b u else .str a t) { s with heap := h', toks := tk }) :
    wpAny (model prog w) A (call (.builtin "max") [.str a t, .str b u]) Q E s := by
  have hT : (s.heap.push { cls := .type "tuple", data := .seq #[.str a t, .str b u] }).IsTuple s.heap.objs.size #[.str a t, .str b u] := ⟨_, Heap.get?_push_size _ rfl, rfl, 0, rfl⟩
  refine call_max_two (wpAny_pyIter_tuple hT ?_)
  have z1 : (s.heap.push { cls := .type "tuple", data := .seq #[.str a t, .str b u] }).objs.size = s.heap.objs.size + 1 := Heap.size_push ..
  refine ⟨_, [_, s.heap.objs.size], [_], _, _, _, (fun i j => decide ((if j = 0 then a else b).cps.toList < (if i = 0 then a else b).cps.toList)), rfl, Walks.tuple (A := A.in1) hh _ s.heap.objs.size (by rw [z1]; exact Nat.ne_of_lt (Nat.lt_succ_self _)) #[.str a t, .str b u],
    ⟨⟨_, Heap.get?_push_size _ rfl, rfl, rfl⟩, hT.push _⟩, fun c hc => ?_, (by show 0 < 2; decide), fun i j vi vj s Q E hi hj q => ?_, fun v h' tk hP hk => ?_⟩
  · show c < ((s.heap.push _).push _).objs.size
    rw [Heap.size_push, z1]
    rcases List.mem_cons.mp hc with e | hc
    · rw [e, z1]; exact Nat.lt_succ_self _
    · rw [List.mem_singleton.mp hc]; exact Nat.lt_succ_of_lt (Nat.lt_succ_self _)
  · obtain ⟨t1, rfl⟩ := two_at hi
    obtain ⟨t2, rfl⟩ := two_at hj
    exact PySem.P.gt_str q
  · have old : ∀ c o, s.heap.get? c = some o → h'.get? c = some o := fun c o e => hk c o (fun hm => by
      have l := Heap.lt_size e
      rw [List.mem_singleton.mp hm, z1] at l
      exact Nat.lt_irrefl _ (Nat.lt_of_succ_lt l)) (Heap.get?_push_of_some _ (Heap.get?_push_of_some _ e))
    have q := h h' tk old
    have hv : v = if a.cps.toList < b.cps.toList then Value.str b u else Value.str a t := by
      have hP' : (#[Value.str a t, Value.str b u] : Array Value)[argBest (fun i j => decide ((if j = 0 then a else b).cps.toList < (if i = 0 then a else b).cps.toList)) 1]? = some v := hP
      by_cases c : a.cps.toList < b.cps.toList
      · have e : argBest (fun i j => decide ((if j = 0 then a else b).cps.toList < (if i = 0 then a else b).cps.toList)) 1 = 1 := by simp [argBest, c]
        rw [e] at hP'
        rw [if_pos c]
        simpa using hP'.symm
      · have e : argBest (fun i j => decide ((if j = 0 then a else b).cps.toList < (if i = 0 then a else b).cps.toList)) 1 = 0 := by simp [argBest, c]
        rw [e] at hP'
        rw [if_neg c]
        simpa using hP'.symm
    rw [hv]
    exact q
end
section
variable {X : Cx} {Z : WX}
def dMinS : DC' := fun ws S Q => match ws with
  | [.str a, .str b] => Q (.str (if b.cps.toList < a.cps.toList then b else a)) S
  | _ => False
def dMaxS : DC' := fun ws S Q => match ws with
  | [.str a, .str b] => Q (.str (if a.cps.toList < b.cps.toList then b else a)) S
  | _ => False
theorem cd_minS (hc : X.calm = true := by rfl) : CD X (.builtin "min") dMinS := fun pins s σ H xs us Q I rx ⟨ws, S, Qd, r, rs, q, fi⟩ => by
  unfold dMinS at q
  split at q
  · rename_i a b
    obtain ⟨v, v', rfl, r1, r2⟩ := rs.two
    cases r1 with | str _ o1 => cases r2 with | str _ o2 =>
      obtain ⟨u, w', rfl, ⟨t, rfl⟩, ⟨t', rfl⟩⟩ := vals2 rx
      refine min_strs (I.ok.hd hc) fun h' tk k => ?_
      by_cases c : b.cps.toList < a.cps.toList
      · rw [if_pos c] at q ⊢
        exact ⟨.str b, H, I.kept k, ⟨_, rfl⟩, fi.one r (.str _ o2) q⟩
      · rw [if_neg c] at q ⊢
        exact ⟨.str a, H, I.kept k, ⟨_, rfl⟩, fi.one r (.str _ o1) q⟩
  · exact q.elim
theorem cd_maxS (hc : X.calm = true := by rfl) : CD X (.builtin "max") dMaxS := fun pins s σ H xs us Q I rx ⟨ws, S, Qd, r, rs, q, fi⟩ => by
  unfold dMaxS at q
  split at q
  · rename_i a b
    obtain ⟨v, v', rfl, r1, r2⟩ := rs.two
    cases r1 with | str _ o1 => cases r2 with | str _ o2 =>
      obtain ⟨u, w', rfl, ⟨t, rfl⟩, ⟨t', rfl⟩⟩ := vals2 rx
      refine max_strs (I.ok.hd hc) fun h' tk k => ?_
      by_cases c : a.cps.toList < b.cps.toList
      · rw [if_pos c] at q ⊢
        exact ⟨.str b, H, I.kept k, ⟨_, rfl⟩, fi.one r (.str _ o2) q⟩
      · rw [if_neg c] at q ⊢
        exact ⟨.str a, H, I.kept k, ⟨_, rfl⟩, fi.one r (.str _ o1) q⟩
  · exact q.elim
/-! ### sorted: some order of the things -/
/-- data that can be put in order: alike, and no None -/
def Srt (xs : List W) : Prop := PySem.W.AllAlike (pds xs) ∧ PySem.W.Sortable (pds xs) ∧ isDs xs = true ∧ ∀ w ∈ xs, dep w ≤ 60
/-- the things of xs in the order of their data -/
def wsort (xs : List W) : List W := ((xs.zip (pds xs)).mergeSort (PySem.W.dataLe false Prod.snd)).map Prod.fst
theorem wsort_rel {K : PySem.W.Frag} {S : Sto} {H : Hp} {ws : List W} {vs : List V} (r : RWs K S H ws vs) : RWs K S H (wsort ws) (My.sortD vs (pds ws)) := by
  have key : ∀ {ws : List W} {vs : List V}, RWs K S H ws vs → ∃ zs : List ((W × V) × PyData), (∀ z ∈ zs, RW K S H z.1.1 z.1.2) ∧ zs.map (fun z => (z.1.1, z.2)) = ws.zip (pds ws) ∧ zs.map (fun z => (z.1.2, z.2)) = vs.zip (pds ws) := by
    intro ws
    induction ws with
    | nil => intro vs r; cases r; exact ⟨[], (fun _ h => nomatch h), rfl, rfl⟩
    | cons w ws ih =>
      intro vs r
      cases r with
      | @cons _ v _ vs h t =>
        obtain ⟨zs, h1, h2, h3⟩ := ih t
        refine ⟨((w, v), pd w) :: zs, fun z hz => ?_, ?_, ?_⟩
        · rcases List.mem_cons.mp hz with rfl | hz
          · exact h
          · exact h1 z hz
        · rw [List.map_cons, h2]; rfl
        · rw [List.map_cons, h3]; rfl
  obtain ⟨zs, h1, h2, h3⟩ := key r
  have e1 : wsort ws = (zs.mergeSort (PySem.W.dataLe false Prod.snd)).map fun z => z.1.1 := by
    unfold wsort
    rw [← h2, ← List.map_mergeSort (r := PySem.W.dataLe false Prod.snd) (s := PySem.W.dataLe false Prod.snd) (f := fun z : (W × V) × PyData => (z.1.1, z.2)) (fun a _ b _ => rfl), List.map_map]
    rfl
  have e2 : My.sortD vs (pds ws) = (zs.mergeSort (PySem.W.dataLe false Prod.snd)).map fun z => z.1.2 := by
    unfold My.sortD
    rw [← h3, ← List.map_mergeSort (r := PySem.W.dataLe false Prod.snd) (s := PySem.W.dataLe false Prod.snd) (f := fun z : (W × V) × PyData => (z.1.2, z.2)) (fun a _ b _ => rfl), List.map_map]
    rfl
  rw [e1, e2]
  have h4 : ∀ z ∈ zs.mergeSort (PySem.W.dataLe false Prod.snd), RW K S H z.1.1 z.1.2 := fun z hz => h1 z ((List.mergeSort_perm zs _).mem_iff.mp hz)
  generalize zs.mergeSort (PySem.W.dataLe false Prod.snd) = ys at h4
  induction ys with
  | nil => exact .nil
  | cons y ys ih => exact .cons (h4 y (List.mem_cons_self ..)) (ih fun z hz => h4 z (List.mem_cons_of_mem _ hz))
theorem wsort_perm (xs : List W) : (wsort xs).Perm xs := by
  have h := (List.mergeSort_perm (xs.zip (pds xs)) (PySem.W.dataLe false Prod.snd)).map Prod.fst
  unfold wsort
  refine h.trans ?_
  have hl : (pds xs).length = xs.length := by rw [pds_map, List.length_map]
  rw [List.map_fst_zip (by omega)]
def dSorted : DC' := fun ws S Q => match ws with
  | [w] => match view S w with
    | .lst xs => Srt xs ∧ Q (.lst (wsort xs)) S
    | .tup xs => Srt xs ∧ Q (.lst (wsort xs)) S
    | _ => False
  | _ => False
theorem Srt.depth {xs : List W} (h : Srt xs) : ∀ d ∈ pds xs, d.depth ≤ 60 := fun d hd => by
  rw [pds_map] at hd
  obtain ⟨w, hw, rfl⟩ := List.mem_map.mp hd
  exact Nat.le_trans (depth_pd w) (h.2.2.2 w hw)
theorem cd_sorted {k : Nat} (hr : Room k X.A) : CD X (.builtin "sorted") dSorted := fun pins s σ H xs us Q I rx ⟨ws, S, Qd, r, rs, q, fi⟩ => by
  unfold dSorted at q
  split at q
  · obtain ⟨v, rfl, r1⟩ := rs.one
    split at q
    · rename_i ys e
      obtain ⟨a, vs, rfl, h1, q1⟩ := view_lst r r1 e
      exact My.cr_sortD hr.units pins s σ H _ us Q I rx ⟨a, vs, pds ys, rfl, .inl (.inl h1), (q1.dp q.1.2.2.1).1, q.1.1, q.1.2.1, q.1.depth, fun p np => fi _ _ _ _ (Nx.new np) (r.new np) (.lst upd_same (r.free np) ((wsort_rel q1).mono (Nx.new np))) q.2⟩
    · rename_i ys e
      obtain ⟨a, vs, rfl, h1, q1⟩ := view_tup r1 e
      exact My.cr_sortT' hr.units pins s σ H _ us Q I rx ⟨a, vs, pds ys, rfl, h1, (q1.dp q.1.2.2.1).1, q.1.1, q.1.2.1, q.1.depth, fun p np => fi _ _ _ _ (Nx.new np) (r.new np) (.lst upd_same (r.free np) ((wsort_rel q1).mono (Nx.new np))) q.2⟩
    · exact q.elim
  · exact q.elim
/-! ### ''.join -/
def strsOf : List W → Option (List Str)
  | [] => some []
  | .str x :: ws => (strsOf ws).map (x :: ·)
  | _ => none
theorem strsOf_eq : ∀ {ws : List W} {xs : List Str}, strsOf ws = some xs → ws = xs.map W.str
  | [], xs, h => by cases h; rfl
  | w :: ws, xs, h => by
    cases w <;> simp only [strsOf] at h <;> try cases h
    rename_i x
    cases e : strsOf ws with
    | none => rw [e] at h; cases h
    | some cs => rw [e] at h; cases h; rw [strsOf_eq e]; rfl
theorem strsOf_map (xs : List Str) : strsOf (xs.map W.str) = some xs := by
  induction xs with
  | nil => rfl
  | cons x xs ih => rw [List.map_cons, strsOf, ih]; rfl
def dJoin (to te : DE') : DE' := fun ω S Q => to ω S fun a S1 => match a with
  | .str x => te ω S1 fun w S2 => match sq2 S2 w with
    | some ws => match strsOf ws with
      | some ys => (ys.map (·.length)).sum + ys.length * x.length ≤ 1000000 ∧ Q (.str (Txt.join x ys)) S2
      | none => False
    | none => False
  | _ => False
theorem strsOf_sv {K : PySem.W.Frag} {S : Sto} {H : Hp} : ∀ {ys : List Str} {vs : List V}, RWs K S H (ys.map W.str) vs → ∀ y ∈ ys, sv y
  | [], _, _, y, h => nomatch h
  | x :: xs, _, .cons r t, y, h => by
    rcases List.mem_cons.mp h with rfl | h
    · cases r with | str _ ok => exact ok
    · exact strsOf_sv t y h
theorem joinL_mem {y : List Nat} : ∀ {xs : List (List Nat)} {c : Nat}, c ∈ joinL y xs → c ∈ y ∨ ∃ x ∈ xs, c ∈ x
  | [], c, h => by simp [joinL] at h
  | [x], c, h => .inr ⟨x, List.mem_singleton.mpr rfl, by simpa [joinL] using h⟩
  | x :: z :: xs, c, h => by
    have h' : c ∈ x ++ (y ++ joinL y (z :: xs)) := by simpa [joinL] using h
    rcases List.mem_append.mp h' with h' | h'
    · exact .inr ⟨x, List.mem_cons_self .., h'⟩
    · rcases List.mem_append.mp h' with h' | h'
      · exact .inl h'
      · rcases joinL_mem h' with q | ⟨u, hu, hc⟩
        · exact .inl q
        · exact .inr ⟨u, List.mem_cons_of_mem _ hu, hc⟩
theorem joinL_len {y : List Nat} : ∀ (xs : List (List Nat)), (joinL y xs).length ≤ (xs.map (·.length)).sum + xs.length * y.length
  | [] => by simp [joinL]
  | [x] => by simp [joinL]
  | x :: z :: xs => by
    have ih := joinL_len (y := y) (z :: xs)
    have e : joinL y (x :: z :: xs) = x ++ (y ++ joinL y (z :: xs)) := by simp [joinL]
    rw [e, List.length_append, List.length_append]
    simp only [List.map_cons, List.sum_cons, List.length_cons] at ih ⊢
    have e3 : (xs.length + 1 + 1) * y.length = (xs.length + 1) * y.length + y.length := Nat.succ_mul _ _
    omega
theorem sv_join {x : Str} {ys : List Str} (hx : sv x) (hy : ∀ y ∈ ys, sv y) (h : (ys.map (·.length)).sum + ys.length * x.length ≤ 1000000) : sv (Txt.join x ys) := by
  rw [show Txt.join x ys = Str.join x ys from join_eq x ys]
  rw [sv_iff] at hx ⊢
  have e : (Str.join x ys).cps.toList = joinL x.cps.toList (ys.map tl) := tl_join x ys
  refine ⟨fun c hc => ?_, ?_⟩
  · rw [e] at hc
    rcases joinL_mem hc with q | ⟨u, hu, hc⟩
    · exact hx.1 c q
    · obtain ⟨y, hy', rfl⟩ := List.mem_map.mp hu
      exact (sv_iff.mp (hy y hy')).1 c hc
  · have l := joinL_len (y := x.cps.toList) (ys.map tl)
    have e2 : (Str.join x ys).length = (joinL x.cps.toList (ys.map tl)).length := by rw [← e]; exact (Array.length_toList).symm
    have e3 : ((ys.map tl).map (·.length)).sum = (ys.map (·.length)).sum := by
      rw [List.map_map]
      exact congrArg List.sum (List.map_congr_left fun y _ => Array.length_toList)
    rw [e3, List.length_map, Array.length_toList] at l
    rw [e2]
    exact sz_of (Nat.le_trans l h)
theorem de_join {o e : Expr} {to te : DE'} {apos pos : Pos} (ho : DE X Z o to) (he : DE X Z e te) (hs : starEach [e] X.env = [(false, eval e X.env)] := by rfl) (hbase : attributeBase o "join" X.env (eval o X.env) = eval o X.env := by rfl) (hline : (apos.endLine == pos.line) = true := by rfl) :
    DE X Z (.Call (.Attribute o "join" apos) [e] [] pos) (dJoin to te) := PE.im (pe_join ho he hs hbase hline) fun σ H Q ⟨ω, S, Qd, a, h, f⟩ => by
  refine ⟨ω, S, _, a, h, fun w S1 v H1 x1 r1 q1 h1 => ?_⟩
  split at h1
  · rename_i x
    cases q1 with | str _ ok =>
      refine ⟨⟨_, rfl⟩, ω, S1, _, a.to x1 r1, h1, fun w2 S2 v2 H2 x2 r2 q2 h2 => ?_⟩
      split at h2
      · rename_i ws e
        split at h2
        · rename_i ys ey
          rw [strsOf_eq ey] at e
          unfold sq2 at e
          split at e
          · rename_i zs ev
            cases e
            obtain ⟨b, vs, rfl, hb, rs⟩ := view_lst r2 q2 ev
            have sy := strsOf_sv rs
            rw [rs.strs_inv] at hb
            exact ⟨x, b, ys, rfl, rfl, .inl (.inl (.inl hb)), Nat.le_trans h2.1 (by decide), f _ _ _ _ (x1.trans x2) r2 (.str _ (sv_join ok sy h2.1)) h2.2⟩
          · rename_i zs ev
            cases e
            obtain ⟨b, vs, rfl, hb, rs⟩ := view_tup q2 ev
            have sy := strsOf_sv rs
            rw [rs.strs_inv] at hb
            exact ⟨x, b, ys, rfl, rfl, .inr hb, Nat.le_trans h2.1 (by decide), f _ _ _ _ (x1.trans x2) r2 (.str _ (sv_join ok sy h2.1)) h2.2⟩
          · cases e
        · exact h2.elim
      · exact h2.elim
  · exact h1.elim
end
end DL

set_option Elab.async false
set_option linter.all false
set_option maxRecDepth 100000
set_option maxHeartbeats 4000000
namespace DL
open PySem PySem.Spec PyProof.Rows L2

/-! ### a thing of the store taken as data -/
inductive Frz : W → Sto → W → Sto → Prop
  | same {w : W} {S : Sto} : Frz w S w S
  | lst {p : Addr} {S : Sto} {xs : List W} (h : S p = some (.lst xs)) : Frz (.ref p) S (.lst xs) (del S p)
  | dct {p : Addr} {S : Sto} {kvs : List (Key × W)} (h : S p = some (.dK kvs)) : Frz (.ref p) S (.dct (kvs.map (·.1)) (kvs.map (·.2))) (del S p)
  | tup {p : Addr} {S : Sto} {xs : List W} (h : S p = some (.tup xs)) : Frz (.ref p) S (.tup xs) (del S p)
  | ins {p C dx : Addr} {S : Sto} {fs : List (Str × W)} (h : S p = some (.ins C dx fs)) : Frz (.ref p) S (.ins C (fs.map (·.1)) (fs.map (·.2))) (del (del S p) dx)
  | drop {w : W} {S : Sto} {p : Addr} {o : WO} (h : S p = some o) (hn : ∀ x, o ≠ .own x) : Frz w S w (del S p)
  | trans {w w' w'' : W} {S S' S'' : Sto} (a : Frz w S w' S') (b : Frz w' S' w'' S'') : Frz w S w'' S''
section
variable {K : PySem.W.Frag} {S S' : Sto} {H : Hp} {w w' : W} {v : V}
theorem zip_prodV {κ : Type} : ∀ kvs : List (κ × V), (kvs.map (·.1)).zip (kvs.map (·.2)) = kvs
  | [] => rfl
  | (k, w) :: t => by rw [List.map_cons, List.map_cons, List.zip_cons_cons, zip_prodV t]
theorem Frz.ok (f : Frz w S w' S') (r : Rel K S H) (q : RW K S H w v) : Nx S H S' H ∧ Rel K S' H ∧ RW K S' H w' v := by
  induction f with
  | same => exact ⟨Nx.refl, r, q⟩
  | @lst p S xs h =>
    cases q
    cases r _ _ h with
    | lst h1 q1 => exact ⟨Nx.forget, r.forget h (fun _ e => nomatch e), .lst h1 del_same (q1.mono Nx.forget)⟩
  | @dct p S kvs h =>
    cases q
    cases r _ _ h with
    | @dK _ gs h1 q1 =>
      refine ⟨Nx.forget, r.forget h (fun _ e => nomatch e), ?_⟩
      have e : kvs.map (·.1) = gs.map (·.1) := RWp.fst q1
      rw [e]
      exact .dct (.inl (by rw [zip_prodV]; exact h1)) del_same (by simp) ((RWp.snd q1).mono Nx.forget)
  | @tup p S xs h =>
    cases q
    cases r _ _ h with
    | tup h1 q1 => exact ⟨Nx.forget, r.forget h (fun _ e => nomatch e), .tup h1 del_same (q1.mono Nx.forget)⟩
  | @ins p C dx S fs h =>
    cases q
    cases r _ _ h with
    | @ins _ _ _ gs h1 m q1 =>
      have hne : dx ≠ p := fun e => by subst e; rw [h] at m; cases m
      have x1 : Nx S H (del S p) H := Nx.forget
      have x2 : Nx S H (del (del S p) dx) H := x1.trans Nx.forget
      have hd : H dx = some (.own p) := by
        cases r _ _ m with
        | own q => exact q
      refine ⟨x2, fun b u hb => ?_, ?_⟩
      · have n1 : b ≠ dx := fun e => by subst e; rw [del_same] at hb; cases hb
        rw [del_ne n1] at hb
        have n2 : b ≠ p := fun e => by subst e; rw [del_same] at hb; cases hb
        rw [del_ne n2] at hb
        refine (r b u hb).mono x2 rfl fun d hd' => ?_
        have n3 : d ≠ dx := fun e => by subst e; rw [m] at hd'; cases hd'; exact n2 rfl
        have n4 : d ≠ p := fun e => by subst e; rw [h] at hd'; cases hd'
        rw [del_ne n3, del_ne n4]
        exact hd'
      · have e : fs.map (·.1) = gs.map (·.1) := RWp.fst q1
        rw [e]
        exact .ins (dx := dx) (by rw [zip_prodV]; exact h1) hd (by rw [del_ne (Ne.symm hne), del_same]) del_same (by simp) ((RWp.snd q1).mono x2)
  | drop h hn => exact ⟨Nx.forget, r.forget h hn, q.mono Nx.forget⟩
  | trans a b iha ihb =>
    obtain ⟨x1, r1, q1⟩ := iha r q
    obtain ⟨x2, r2, q2⟩ := ihb r1 q1
    exact ⟨x1.trans x2, r2, q2⟩
end
def frzQ (Q : WQ) : WQ := fun w S => ∃ w' S', Frz w S w' S' ∧ Q w' S'
theorem frzQ.mk {Q : WQ} {w : W} {S : Sto} (h : Q w S) : frzQ Q w S := ⟨w, S, .same, h⟩
theorem Fin.frz {K : PySem.W.Frag} {S : Sto} {H : Hp} {Qd : WQ} {Q : VK} (f : Fin K S H Qd Q) : Fin K S H (frzQ Qd) Q := fun w S1 v H1 x r q ⟨w', S2, fz, h⟩ => by
  obtain ⟨x2, r2, q2⟩ := fz.ok r q
  exact f w' S2 v H1 (x.trans x2) r2 q2 h
def dFrz (te : DE') : DE' := fun ω S Q => te ω S (frzQ Q)
theorem de_frz {X : Cx} {Z : WX} {e : Expr} {te : DE'} (h : DE X Z e te) : DE X Z e (dFrz te) := PE.im h fun σ H Q ⟨ω, S, Qd, a, q, f⟩ => ⟨ω, S, frzQ Qd, a, q, f.frz⟩
section
variable {P : Program} {w : World} {K : PySem.W.Frag} {mg : Str → Option Value} {base : Heap}
/-- a def that lets nothing out; what it made it may hand out as data, and forget the rest -/
theorem Fun.okF {x qual : Str} {st : Stmt} {f : Addr} {fd : FuncData} {N ps : List Str} {k : Nat} {dsp : DSp} (F : Fun K x qual st f fd) (sc : FnScope N ps (defScope st)) (td : DS')
    (hb : ∀ (cdv : Value) (A : Around) (outer : List Env) (s : Shared) (H : Hp) (E : XK), Room k (A.deeper (envOfC qual (defScope st) s.heap.objs.size f cdv)) → DSs (cxOf CX0 P w K mg base N qual (defScope st) f cdv A outer s H E).nox Z0 (defBody st) td)
    (len : ∀ ws S Q E, dsp ws S Q E → ws.length = ps.length) (hd : ∀ ws S Q E, dsp ws S Q E → td { nx := fun _ S' => frzQ Q .non S', rt := frzQ Q } ⟨startW N ws, XF⟩ S) : FnOk P w K mg base CX0 (k + 1) f fd ps (uSp K dsp) := by
  refine F.ok sc (fun vs H Q E ⟨ws, S, Qd, Ed, r, rs, h, _⟩ => by rw [← rs.len]; exact len _ _ _ _ h) fun cdv A outer s H vs Q E hr ⟨ws, S, Qd, Ed, r, rs, h, f, fx⟩ => ⟨_, hb cdv A outer s H E hr, ?_⟩
  exact ⟨⟨startW N ws, XF⟩, S, _, ⟨r, RS.start rs, .zero⟩, hd ws S Qd Ed h, ⟨fun ω' S' σ' H' x a q => f.frz _ _ _ _ x a.rel .non q, f.frz, fun _ _ _ _ _ _ q => q.elim, fun _ _ _ _ _ _ q => q.elim⟩⟩
end

/-! ### dicts of the store -/
theorem wput_rel {κ : Type} [DecidableEq κ] {K : PySem.W.Frag} {S : Sto} {H : Hp} {kvs : List (κ × W)} {gs : List (κ × V)} (r : RWp K S H kvs gs) (k : κ) {w : W} {v : V} (q : RW K S H w v) : RWp K S H (wput kvs k w) (putK gs k v) := by
  have e : (kvs.any fun kv => decide (kv.1 = k)) = (gs.any fun kv => decide (kv.1 = k)) := by
    have h := r.fst
    have h1 : (kvs.any fun kv => decide (kv.1 = k)) = ((kvs.map (·.1)).any fun x => decide (x = k)) := by rw [List.any_map]; rfl
    have h2 : (gs.any fun kv => decide (kv.1 = k)) = ((gs.map (·.1)).any fun x => decide (x = k)) := by rw [List.any_map]; rfl
    rw [h1, h2, h]
  unfold wput putK
  rw [e]
  split
  · rename_i hc
    clear e hc
    induction r with
    | nil => exact .nil
    | @cons p u kvs gs h t ih =>
      refine .cons ?_ ih
      obtain ⟨p1, p2⟩ := p
      obtain ⟨u1, u2⟩ := u
      obtain ⟨h1, h2⟩ := h
      simp only at h1 h2
      subst h1
      by_cases c : p1 = k
      · show (if p1 = k then (p1, w) else (p1, p2)).1 = (if p1 = k then (p1, v) else (p1, u2)).1 ∧ RW K S H (if p1 = k then (p1, w) else (p1, p2)).2 (if p1 = k then (p1, v) else (p1, u2)).2
        rw [if_pos c, if_pos c]; exact ⟨rfl, q⟩
      · show (if p1 = k then (p1, w) else (p1, p2)).1 = (if p1 = k then (p1, v) else (p1, u2)).1 ∧ RW K S H (if p1 = k then (p1, w) else (p1, p2)).2 (if p1 = k then (p1, v) else (p1, u2)).2
        rw [if_neg c, if_neg c]; exact ⟨rfl, h2⟩
  · rename_i hc
    clear e hc
    induction r with
    | nil => exact .cons ⟨rfl, q⟩ .nil
    | cons h t ih => exact .cons h ih
def wkeys : List W → Option (List Key)
  | [] => some []
  | w :: ws => match wkey w, wkeys ws with
    | some k, some ks => some (k :: ks)
    | _, _ => none
theorem wkeys_rel {K : PySem.W.Frag} {S : Sto} {H : Hp} : ∀ {ws : List W} {vs : List V} {ks : List Key}, RWs K S H ws vs → wkeys ws = some ks → vs = ks.map kV
  | [], _, ks, .nil, h => by simp only [wkeys, Option.some.injEq] at h; subst h; rfl
  | w :: ws, _, ks, .cons r t, h => by
    simp only [wkeys] at h
    cases e1 : wkey w with
    | none => rw [e1] at h; cases h
    | some k =>
      cases e2 : wkeys ws with
      | none => rw [e1, e2] at h; cases h
      | some ks' =>
        rw [e1, e2] at h
        simp only [Option.some.injEq] at h
        subst h
        rw [wkey_rel r e1, wkeys_rel t e2]
        rfl
/-- a tuple of the store as a key -/
def wkeyT (S : Sto) : W → Option (List Key)
  | .ref b => match S b with
    | some (.tup ws) => wkeys ws
    | _ => none
  | _ => none
theorem wkeyT_rel {K : PySem.W.Frag} {S : Sto} {H : Hp} {w : W} {v : V} {ks : List Key} (r : Rel K S H) (q : RW K S H w v) (h : wkeyT S w = some ks) : ∃ b, v = .ref b ∧ H b = some (.tup (ks.map kV)) := by
  cases q <;> simp only [wkeyT] at h <;> try cases h
  rename_i a
  split at h
  · rename_i ws hs
    cases r _ _ hs with
    | tup h1 q1 =>
      rw [wkeys_rel q1 h] at h1
      exact ⟨_, rfl, h1⟩
  · cases h
def dNewK : DE' := fun _ S Q => ∀ p, S p = none → Q (.ref p) (up S p (.dK []))
def dNewT : DE' := fun _ S Q => ∀ p, S p = none → Q (.ref p) (up S p (.dT []))
/-- d[k] = v -/
def dPut (to ti te : DE') : DS' := fun D ω S => te ω S fun v S1 => to ω S1 fun w S2 => ti ω S2 fun i S3 => match w with
  | .ref a => match S3 a with
    | some (.dK kvs) => match wkey i with
      | some k => kvs.length < 1000000 ∧ D.nx ω (up S3 a (.dK (wput kvs k v)))
      | none => False
    | some (.dT kvs) => match wkeyT S3 i with
      | some k => kvs.length < 1000000 ∧ D.nx ω (up S3 a (.dT (wput kvs k v)))
      | none => False
    | _ => False
  | _ => False
/-- k in d, k a tuple -/
def dInT : D2 := fun a b S Q => match b with
  | .ref d => match S d, wkeyT S a with
    | some (.dT kvs), some k => Q (.bl (wval kvs k).isSome) S
    | _, _ => False
  | _ => False
/-- del d[k] -/
def dDel (to ti : DE') : DS' := fun D ω S => to ω S fun w S2 => ti ω S2 fun i S3 => match w with
  | .ref a => match S3 a, wkey i with
    | some (.dK kvs), some k => (wval kvs k).isSome = true ∧ D.nx ω (up S3 a (.dK (wdrop kvs k)))
    | _, _ => False
  | _ => False
/-- a tuple that stays in the store -/
def dTupM (t : DA') : DE' := fun ω S Q => t ω S fun ws S1 => ws.length < 1000000 ∧ ∀ p, S1 p = none → Q (.ref p) (up S1 p (.tup ws))
section
variable {X : Cx} {Z : WX} {o i e : Expr} {to ti te : DE'} {pos p' : Pos} {k : Nat}
theorem de_dnewK : DE X Z (.Dict [] [] pos) dNewK := PE.im pe_dnewK fun σ H Q ⟨ω, S, Qd, a, h, f⟩ p np => f _ _ _ _ (Nx.newS np) (a.rel.newS np (.dK upd_same .nil)) (.ref p) (h p (a.rel.free np))
theorem de_dnewT : DE X Z (.Dict [] [] pos) dNewT := PE.im pe_dnewT fun σ H Q ⟨ω, S, Qd, a, h, f⟩ p np => f _ _ _ _ (Nx.newS np) (a.rel.newS np (.dT upd_same .nil)) (.ref p) (h p (a.rel.free np))
theorem ds_dput (hr : Room k X.A) (ho : DE X Z o to) (hi : DE X Z i ti) (he : DE X Z e te) (hs : swapsWith e (some (.Subscript o i p')) pos.line X.env = pure false := by rfl) : DS X Z (.Assign [.Subscript o i p'] e pos) (dPut to ti te) :=
  PS.im (ps_dput (hu_of hr) ho hi he hs) fun D σ H ⟨ω, S, Dd, a, h, f⟩ => by
    refine ⟨ω, S, _, a, h, fun v S1 y H1 x1 r1 q1 h1 => ?_⟩
    refine ⟨ω, S1, _, a.to x1 r1, h1, fun w S2 z H2 x2 r2 q2 h2 => ?_⟩
    refine ⟨ω, S2, _, a.to (x1.trans x2) r2, h2, fun i S3 z3 H3 x3 r3 q3 h3 => ?_⟩
    split at h3
    · cases q2
      split at h3
      · rename_i kvs hs
        split at h3
        · rename_i kk ek
          obtain rfl := wkey_rel q3 ek
          cases r3 _ _ hs with
          | @dK _ gs hH rs =>
            have l : kvs.length = gs.length := RWp.len rs
            exact ⟨_, _, rfl, .k hH (by rw [← l]; exact sz_lt h3.1), f.nx _ _ _ _ (x1.trans (x2.trans (x3.trans (Nx.wr hs)))) (a.to (x1.trans (x2.trans (x3.trans (Nx.wr hs)))) (r3.wr hs (fun _ e => nomatch e) (.dK upd_same (RWp.mono (Nx.wr hs) (wput_rel rs kk (q1.mono (x2.trans x3))))))) h3.2⟩
        · exact h3.elim
      · rename_i kvs hs
        split at h3
        · rename_i kk ek
          obtain ⟨b, rfl, hb⟩ := wkeyT_rel r3 q3 ek
          cases r3 _ _ hs with
          | @dT _ gs hH rs =>
            have l : kvs.length = gs.length := RWp.len rs
            exact ⟨_, _, rfl, .t hH hb (by rw [← l]; exact sz_lt h3.1), f.nx _ _ _ _ (x1.trans (x2.trans (x3.trans (Nx.wr hs)))) (a.to (x1.trans (x2.trans (x3.trans (Nx.wr hs)))) (r3.wr hs (fun _ e => nomatch e) (.dT upd_same (RWp.mono (Nx.wr hs) (wput_rel rs kk (q1.mono (x2.trans x3))))))) h3.2⟩
        · exact h3.elim
      · exact h3.elim
    · exact h3.elim
theorem de_inT (hr : Room k X.A) (hi : DE X Z i ti) (ho : DE X Z o to) (hm : behindInMarks .In o = false := by rfl) : DE X Z (.Compare i [.In] [o] pos) (dOp dInT ti to) := PE.im (pe_cmp (pc_din (hu_of hr) hi ho) hm) fun σ H Q ⟨ω, S, Qd, a, h, f⟩ => by
  refine ⟨ω, S, _, a, h, fun v S1 y H1 x1 r1 q1 h1 => ?_⟩
  refine ⟨ω, S1, _, a.to x1 r1, h1, fun w S2 z H2 x2 r2 q2 h2 => ?_⟩
  unfold dInT at h2
  split at h2
  · cases q2
    split at h2
    · rename_i kvs kk hs ek
      obtain ⟨b, rfl, hb⟩ := wkeyT_rel r2 (q1.mono x2) ek
      cases r2 _ _ hs with
      | @dT _ gs hH rs =>
        refine ⟨_, _, rfl, .t hH hb, ?_⟩
        have e : (wval kvs kk).isSome = (valV gs kk).isSome := by
          rcases wval_rel rs kk with ⟨w', z, e3, e4, _⟩ | ⟨e3, e4⟩ <;> rw [e3, e4] <;> rfl
        rw [← e]
        exact f _ _ _ _ (x1.trans x2) r2 (.bl _) h2
    · exact h2.elim
  · exact h2.elim
theorem de_tupM {es : List Expr} {t : DA'} {x1} (h : DA X Z es t) : DE X Z (.Tuple es x1 pos) (dTupM t) := PE.im (pe_tup h) fun σ H Q ⟨ω, S, Qd, a, h, f⟩ => by
  refine ⟨ω, S, _, a, h, fun ws S1 vs H1 x1 r1 q1 h1 => ⟨by rw [← q1.len]; exact sz_of (Nat.le_of_lt h1.1), fun p np => ?_⟩⟩
  exact f _ _ _ _ (x1.trans (Nx.newS np)) (r1.newS np (.tup upd_same (q1.mono (Nx.newS np)))) (.ref p) (h1.2 p (r1.free np))
theorem ds_ddel (ho : DE X Z o to) (hi : DE X Z i ti) {tpos : Pos} : DS X Z (.Delete [.Subscript o i tpos] pos) (dDel to ti) := PS.im (ps_ddel ho hi) fun D σ H ⟨ω, S, Dd, a, h, f⟩ => by
  refine ⟨ω, S, _, a, h, fun w S2 z H2 x2 r2 q2 h2 => ?_⟩
  refine ⟨ω, S2, _, a.to x2 r2, h2, fun i S3 z3 H3 x3 r3 q3 h3 => ?_⟩
  split at h3
  · cases q2
    split at h3
    · rename_i kvs kk hs ek
      obtain rfl := wkey_rel q3 ek
      cases r3 _ _ hs with
      | @dK _ gs hH rs =>
        have e : (wval kvs kk).isSome = (valV gs kk).isSome := by
          rcases wval_rel rs kk with ⟨w', z, e3, e4, _⟩ | ⟨e3, e4⟩ <;> rw [e3, e4] <;> rfl
        have rd : RWp X.K S3 H3 (wdrop kvs kk) (dropK gs kk) := by
          clear h3 hs hH e
          unfold wdrop dropK
          induction rs with
          | nil => exact .nil
          | @cons p u kvs gs h t ih =>
            obtain ⟨p1, p2⟩ := p
            obtain ⟨u1, u2⟩ := u
            obtain ⟨h1, h2⟩ := h
            simp only at h1 h2
            subst h1
            rw [List.filter_cons, List.filter_cons]
            split
            · exact .cons ⟨rfl, h2⟩ ih
            · exact ih
        exact ⟨_, gs, kk, rfl, hH, rfl, by rw [← e]; exact h3.1, f.nx _ _ _ _ (x2.trans (x3.trans (Nx.wr hs))) (a.to (x2.trans (x3.trans (Nx.wr hs))) (r3.wr hs (fun _ e => nomatch e) (.dK upd_same (RWp.mono (Nx.wr hs) rd)))) h3.2⟩
    · exact h3.elim
  · exact h3.elim
end

/-! ### instances -/
def wputF (f : Str) (v : W) : List (Str × W) → List (Str × W)
  | [] => [(f, v)]
  | (g, x) :: r => if g = f then (g, v) :: r else (g, x) :: wputF f v r
theorem wputF_rel {K : PySem.W.Frag} {S : Sto} {H : Hp} {f : Str} {w : W} {v : V} (q : RW K S H w v) {fs : List (Str × W)} {gs : List (Str × V)} (r : RWp K S H fs gs) : RWp K S H (wputF f w fs) (putF f v gs) := by
  induction r with
  | nil => exact .cons ⟨rfl, q⟩ .nil
  | @cons p u fs gs h t ih =>
    obtain ⟨p1, p2⟩ := p
    obtain ⟨u1, u2⟩ := u
    obtain ⟨h1, h2⟩ := h
    simp only at h1 h2
    subst h1
    by_cases c : p1 = f
    · rw [wputF, putF, if_pos c, if_pos c]; exact .cons ⟨rfl, q⟩ t
    · rw [wputF, putF, if_neg c, if_neg c]; exact .cons ⟨rfl, h2⟩ ih
def fget (S : Sto) (C : Addr) (f : Str) : W → Option W
  | .ins C' ns ws => if C' = C then (ns.zip ws).lookup f else none
  | .ref a => match S a with
    | some (.ins C' dx fs) => if C' = C then fs.lookup f else none
    | _ => none
  | _ => none
theorem fget_rel {K : PySem.W.Frag} {S : Sto} {H : Hp} {C : Addr} {f : Str} {w u : W} {v : V} (r : Rel K S H) (q : RW K S H w v) (h : fget S C f w = some u) : ∃ a dx gs z, v = .ref a ∧ H a = some (.ins C dx gs) ∧ gs.lookup f = some z ∧ RW K S H u z := by
  cases q <;> simp only [fget] at h <;> try cases h
  case ins a C' dx ns ws vs hH n m hl e q1 =>
    split at h
    · rename_i hc
      subst hc
      obtain ⟨z, ez, rz⟩ := RWp.look (RWp.zip (by assumption) (by assumption)) h
      exact ⟨_, _, _, z, rfl, by assumption, ez, rz⟩
    · cases h
  case ref a =>
    split at h
    · rename_i C' dx fs hs
      split at h
      · rename_i hc
        subst hc
        cases r _ _ hs with
        | @ins _ _ _ gs h1 m q1 =>
          obtain ⟨z, ez, rz⟩ := RWp.look q1 h
          exact ⟨_, _, _, z, rfl, h1, ez, rz⟩
      · cases h
    · cases h
def dFld (C : Addr) (f : Str) (ta : DE') : DE' := fun ω S Q => ta ω S fun w S1 => match fget S1 C f w with
  | some v => Q v S1
  | none => False
/-- o.f = v -/
def dSetF (C : Addr) (f : Str) (ta tv : DE') : DS' := fun D ω S => tv ω S fun y S1 => ta ω S1 fun x S2 => match x with
  | .ref a => match S2 a with
    | some (.ins C' dx fs) => C' = C ∧ fs.length < 1000 ∧ D.nx ω (up S2 a (.ins C dx (wputF f y fs)))
    | _ => False
  | _ => False
def dMake (C : Addr) (dsp : DSp) (t : DA') : DE' := fun ω S Q => t ω S fun ws S1 => ∀ x dx, S1 x = none → S1 dx = none → dx ≠ x →
  dsp (.ref x :: ws) (up (up S1 dx (.own x)) x (.ins C dx [])) (fun v S2 => v = .non ∧ Q (.ref x) S2) X0
section
variable {X : Cx} {Z : WX} {o e : Expr} {es : List Expr} {ta tv : DE'} {t : DA'} {C : Addr} {f x : Str} {pos p p' : Pos} {k j : Nat} {dsp : DSp}
theorem de_fld (c : Cls X.K C) (n : NoAttr X.K C f) (he : DE X Z e ta) (hb : attributeBase e f X.env (eval e X.env) = eval e X.env := by rfl) : DE X Z (.Attribute e f pos) (dFld C f ta) := PE.im (pe_fld he hb) fun σ H Q ⟨ω, S, Qd, a, h, fi⟩ => by
  refine ⟨ω, S, _, a, h, fun w S1 v H1 x1 r1 q1 h1 => ?_⟩
  split at h1
  · rename_i u eu
    obtain ⟨b, dx, gs, z, rfl, hb, hl, rz⟩ := fget_rel r1 q1 eu
    exact ⟨b, C, dx, gs, z, rfl, hb, c, n, hl, fi _ _ _ _ x1 r1 rz h1⟩
  · exact h1.elim
theorem ds_fld (c : Cls X.K C) (n : NoAttr X.K C f) (ha : DE X Z o ta) (hv : DE X Z e tv) (hs : swapsWith e (some (.Attribute o f p')) pos.line X.env = pure false := by rfl) : DS X Z (.Assign [.Attribute o f p'] e pos) (dSetF C f ta tv) := PS.im (ps_fld ha hv hs) fun D σ H ⟨ω, S, Dd, a, h, fi⟩ => by
  refine ⟨ω, S, _, a, h, fun y S1 v H1 x1 r1 q1 h1 => ?_⟩
  refine ⟨ω, S1, _, a.to x1 r1, h1, fun w S2 z H2 x2 r2 q2 h2 => ?_⟩
  split at h2
  · cases q2
    split at h2
    · rename_i C' dx fs hs
      obtain ⟨rfl, hl, h2⟩ := h2
      cases r2 _ _ hs with
      | @ins _ _ _ gs hH m rs =>
        have l : fs.length = gs.length := RWp.len rs
        refine ⟨_, _, dx, gs, rfl, hH, c, n, by rw [← l]; exact hl, fi.nx _ _ _ _ (x1.trans (x2.trans (Nx.wr hs))) (a.to (x1.trans (x2.trans (Nx.wr hs))) (r2.wr hs (fun _ e => nomatch e) (.ins upd_same ?_ (RWp.mono (Nx.wr hs) (wputF_rel (q1.mono x2) rs))))) h2⟩
        rw [up_ne fun e => by subst e; rw [hs] at m; cases m]
        exact m
    · exact h2.elim
  · exact h2.elim
theorem Rel.made {K : PySem.W.Frag} {S : Sto} {H : Hp} {x dx : Addr} (r : Rel K S H) (nx : H x = none) (nd : H dx = none) (hne : dx ≠ x) : Nx S H (up (up S dx (.own x)) x (.ins C dx [])) (upd (upd H dx (.own x)) x (.ins C dx [])) ∧ Rel K (up (up S dx (.own x)) x (.ins C dx [])) (upd (upd H dx (.own x)) x (.ins C dx [])) := by
  have r1 : Rel K (up S dx (.own x)) (upd H dx (.own x)) := r.newS nd (.own upd_same)
  have n2 : upd H dx (.own x) x = none := by rw [upd_ne (Ne.symm hne)]; exact nx
  exact ⟨(Nx.newS nd).trans (Nx.newS n2), r1.newS n2 (.ins upd_same (by rw [up_ne hne, up_same]) .nil)⟩
theorem de_make {g : Addr} {fd : FuncData} {ps : List Str} (M : Mk X.K C g) (F : FnOk X.prog X.w X.K X.mg X.base CX0 k g fd ps (uSp X.K dsp)) (hm : X.mg x = some (.ref C)) (hb : Binds X.K fd ps []) (hr : Room j X.A) (ha : DA X Z (e :: es) t) (hk : k + 1 ≤ j := by decide) (hg : Gl X x := by rfl)
    (hdb : (x == ("__debug__" : Str)) = false := by decide) (he : starEach (e :: es) X.env = (false, eval e X.env) :: starEach es X.env := by rfl) (hpl : (backTo pos (starEach es X.env)).any (·.1) = false := by rfl) :
    DE X Z (.Call (.Name x p) (e :: es) [] pos) (dMake C dsp t) := PE.im (pe_make M F (hr.mono hk) hg hm hb .nil pass0 ha hdb he hpl) fun σ H Q ⟨ω, S, Qd, a, h, fi⟩ => by
  refine ⟨ω, S, _, a, h, fun ws S1 vs H1 x1 r1 q1 h1 => fun x dx nx nd hne => ?_⟩
  obtain ⟨xm, rm⟩ := Rel.made (C := C) r1 nx nd hne
  show uSp X.K dsp (.ref x :: (vs ++ [])) _ _ _
  rw [List.append_nil]
  exact ⟨.ref x :: ws, _, _, X0, rm, .cons (.ref x) (q1.mono xm), h1 x dx (r1.free nx) (r1.free nd) hne, fun w S' v H' x r q ⟨e, h⟩ => by
    subst e
    cases q
    exact ⟨rfl, fi _ S' _ H' (x1.trans (xm.trans x)) r (.ref _) h⟩, .zero⟩
end

/-! ### dicts that the text writes down -/
structure KD (K : PySem.W.Frag) (w : World) (d : Addr) (tab : List (Str × W)) : Prop where
  ex : ∃ es n, KDict K w d es n
  has : ∀ z wv, tab.lookup z = some wv → ∃ u0 v0, PySem.W.nsIn K d z = some (some u0) ∧ RelV v0 u0 ∧ ∀ S H, RW K S H wv v0
  no : ∀ z, tab.lookup z = none → PySem.W.nsIn K d z = some none
def dInKD (d : Addr) (tab : List (Str × W)) : D2 := fun a b S Q => match a with
  | .str z => b = .ref d ∧ Q (.bl (tab.lookup z).isSome) S
  | _ => False
def dNotInKD (d : Addr) (tab : List (Str × W)) : D2 := fun a b S Q => match a with
  | .str z => b = .ref d ∧ Q (.bl (!(tab.lookup z).isSome)) S
  | _ => False
def dIxKD (d : Addr) (tab : List (Str × W)) : D2 := fun a b S Q => match b with
  | .str z => a = .ref d ∧ match tab.lookup z with
    | some w => Q w S
    | none => False
  | _ => False
section
variable {X : Cx} {Z : WX} {d : Addr} {tab : List (Str × W)}
theorem KD.at (D : KD X.K X.w d tab) (z : Str) : ∃ r, PySem.W.nsIn X.K d z = some r ∧ r.isSome = (tab.lookup z).isSome := by
  cases e : tab.lookup z with
  | none => exact ⟨none, D.no z e, rfl⟩
  | some w => obtain ⟨u0, v0, h, _⟩ := D.has z w e; exact ⟨some u0, h, rfl⟩
theorem oc_inKD (D : KD X.K X.w d tab) : OD X (compareOp .In) (dInKD d tab) := by
  obtain ⟨es, n, kd⟩ := D.ex
  refine OpR.im (op_in_kd kd) fun x y H Q ⟨w1, w2, S, Qd, r, r1, r2, q, fi⟩ => ?_
  unfold dInKD at q
  split at q
  · rename_i z
    obtain ⟨rfl, q⟩ := q
    cases r1; cases r2
    obtain ⟨o, ho, e⟩ := D.at z
    exact ⟨z, o, rfl, rfl, ho, by rw [e]; exact fi.one r (.bl _) q⟩
  · exact q.elim
theorem oc_notinKD (D : KD X.K X.w d tab) : OD X (compareOp .NotIn) (dNotInKD d tab) := by
  obtain ⟨es, n, kd⟩ := D.ex
  refine OpR.im (op_notIn_kd kd) fun x y H Q ⟨w1, w2, S, Qd, r, r1, r2, q, fi⟩ => ?_
  unfold dNotInKD at q
  split at q
  · rename_i z
    obtain ⟨rfl, q⟩ := q
    cases r1; cases r2
    obtain ⟨o, ho, e⟩ := D.at z
    exact ⟨z, o, rfl, rfl, ho, by rw [e]; exact fi.one r (.bl _) q⟩
  · exact q.elim
theorem de_ixKD (D : KD X.K X.w d tab) {a b : Expr} {ta tb : DE'} {pos : Pos} (ha : DE X Z a ta) (hb : DE X Z b tb) (hs : PlainIx b := by intro _ _; rfl) : DE X Z (.Subscript a b pos) (dOp (dIxKD d tab) ta tb) := by
  obtain ⟨es, n, kd⟩ := D.ex
  refine PE.im (pe_ix (r := uR X.K (dIxKD d tab)) ?_ ha hb hs) fun _ _ _ => uOp
  intro value slice pins s σ H x y v u Q I rx ry ⟨w1, w2, S, Qd, r, r1, r2, q, fi⟩ hs
  refine ix_kdict value slice pins s σ H x y v u Q I rx ry ?_ hs
  unfold dIxKD at q
  split at q
  · rename_i z
    obtain ⟨rfl, q⟩ := q
    cases r1; cases r2
    split at q
    · rename_i w ew
      obtain ⟨u0, v0, h1, h2, h3⟩ := D.has z w ew
      exact ⟨d, z, v0, rfl, rfl, ⟨es, n, u0, kd.at_, kd.lit, h1, h2⟩, fi.one r (h3 S H) q⟩
    · exact q.elim
  · exact q.elim
end
end DL

set_option Elab.async false
set_option linter.all false
set_option maxRecDepth 100000
set_option maxHeartbeats 4000000
namespace DL
open PySem PySem.Spec PyProof.Rows L2

/-! ### a, b = x, y -/
def dPar2 (i j : Nat) (t : DA') : DS' := fun D ω S => t ω S fun ws S1 => match ws with
  | [v, w] => D.nx ((ω.set i (some v)).set j (some w)) S1
  | _ => False
section
variable {X : Cx} {Z : WX}
theorem ds_par2 {i j : Nat} {x y : Str} {a b : Expr} {t : DA'} {px py pt pos : Pos} {kt k2 pt2} (hN : X.N.Nodup) (ha : DA X Z [a, b] t) (hi : X.N[i]? = some x := by rfl) (hj : X.N[j]? = some y := by rfl) (hij : i ≠ j := by decide)
    (hx : X.env.scope.names.lookup x = some .local := by rfl) (hy : X.env.scope.names.lookup y = some .local := by rfl) (hc : X.calm = true := by rfl)
    (hw : swappedStores [.Tuple [.Name x px, .Name y py] kt pt] (.Tuple [a, b] k2 pt2) X.env = pure (some [x, y]) := by rfl)
    (hs : swapsWithSole [.Tuple [.Name x px, .Name y py] kt pt] (.Tuple [a, b] k2 pt2) pos.line X.env = pure false := by rfl) :
    DS X Z (.Assign [.Tuple [.Name x px, .Name y py] kt pt] (.Tuple [a, b] k2 pt2) pos) (dPar2 i j t) := PS.im (ps_par hc hN hi hj hij hx hy ha hw hs) fun D σ H ⟨ω, S, Dd, a, h, f⟩ => by
  refine ⟨ω, S, _, a, h, fun ws S1 vs H1 x1 r1 q1 h1 => ?_⟩
  split at h1
  · obtain ⟨v, w, rfl, rv, rw'⟩ := q1.two
    exact ⟨v, w, rfl, f.nx _ _ _ _ x1 (((a.to x1 r1).set rv i).set rw' j) h1⟩
  · exact h1.elim
theorem dt_inT {i o : Expr} {ti to : DE'} {pos : Pos} {k : Nat} (hr : Room k X.A) (hi : DE X Z i ti) (ho : DE X Z o to) (hm : behindInMarks .In o = false := by rfl) : DT X Z (.Compare i [.In] [o] pos) (dTest (dOp dInT ti to)) := PT.im (pt_cmp (pc_din (hu_of hr) hi ho) hm) fun σ H Q ⟨ω, S, Qd, a, h, f⟩ => by
  refine ⟨ω, S, _, a, h, fun v S1 y H1 x1 r1 q1 h1 => ?_⟩
  refine ⟨ω, S1, _, a.to x1 r1, h1, fun w S2 z H2 x2 r2 q2 h2 => ?_⟩
  unfold dInT at h2
  split at h2
  · cases q2
    split at h2
    · rename_i kvs kk hs ek
      obtain ⟨b, rfl, hb⟩ := wkeyT_rel r2 (q1.mono x2) ek
      cases r2 _ _ hs with
      | @dT _ gs hH rs =>
        refine ⟨_, _, rfl, .t hH hb, ?_⟩
        have e : (wval kvs kk).isSome = (valV gs kk).isSome := by
          rcases wval_rel rs kk with ⟨w', z, e3, e4, _⟩ | ⟨e3, e4⟩ <;> rw [e3, e4] <;> rfl
        rw [← e]
        exact ⟨_, rfl, f _ _ _ (x1.trans x2) r2 h2⟩
    · exact h2.elim
  · exact h2.elim
/-! ### isinstance(x, (list, tuple)), int(x) -/
def isLT (S : Sto) (w : W) : Option Bool := match view S w with
  | .int _ => some false | .bl _ => some false | .non => some false | .str _ => some false | .tup _ => some true | .lst _ => some true | _ => none
def dIsLT : W → Sto → WQ → Prop := fun w S Q => match isLT S w with
  | some b => Q (.bl b) S
  | none => False
theorem de_isLT {a : Expr} {ta : DE'} {p p2 p3 p4 pos : Pos} {kt} (ha : DE X Z a ta) (hm : X.mg "isinstance" = none) (hl : X.mg "list" = none) (ht : X.mg "tuple" = none) (hg : Gl X "isinstance" := by rfl) (hgl : Gl X "list" := by rfl) (hgt : Gl X "tuple" := by rfl)
    (he : starEach [a, .Tuple [.Name "list" p2, .Name "tuple" p3] kt p4] X.env = (false, eval a X.env) :: starEach [.Tuple [.Name "list" p2, .Name "tuple" p3] kt p4] X.env := by rfl) (he2 : starEach [.Tuple [.Name "list" p2, .Name "tuple" p3] kt p4] X.env = (false, eval (.Tuple [.Name "list" p2, .Name "tuple" p3] kt p4) X.env) :: starEach [] X.env := by rfl)
    (he3 : starEach [.Name "list" p2, .Name "tuple" p3] X.env = (false, eval (.Name "list" p2) X.env) :: starEach [.Name "tuple" p3] X.env := by rfl) (he4 : starEach [.Name "tuple" p3] X.env = (false, eval (.Name "tuple" p3) X.env) :: starEach [] X.env := by rfl)
    (hpl : (backTo pos (starEach [.Tuple [.Name "list" p2, .Name "tuple" p3] kt p4] X.env)).any (·.1) = false := by rfl) :
    DE X Z (.Call (.Name "isinstance" p) [a, .Tuple [.Name "list" p2, .Name "tuple" p3] kt p4] [] pos) (dUn dIsLT ta) :=
  PE.im (pe_callB (id := "isinstance") call_isiT hg hm (by decide +kernel) (pa_cons ha (pa_cons (pe_tup (pa_cons (pe_bltn (v := .ty "list") hgl hl (by decide +kernel) rfl) (pa_cons (pe_bltn (v := .ty "tuple") hgt ht (by decide +kernel) rfl) pa_nil he4) he3)) pa_nil he2) he) (by decide) (by decide) he hpl) fun σ H Q ⟨ω, S, Qd, a, h, f⟩ => by
    refine ⟨ω, S, _, a, h, fun w S1 v H1 x1 r1 q1 h1 => ?_⟩
    refine ⟨by decide, fun tp np => ?_⟩
    show rIsiT X.K [v, .ref tp] (upd H1 tp (.tup [.ty "list", .ty "tuple"])) Q
    have x2 : Nx S1 H1 S1 (upd H1 tp (.tup [.ty "list", .ty "tuple"])) := Nx.new np
    have r2 := r1.new (o := .tup [.ty "list", .ty "tuple"]) np
    have ty := ty_of r2 (q1.mono x2)
    unfold dIsLT at h1
    split at h1
    · rename_i b eb
      have key : ∀ t : String, TyX X.K (upd H1 tp (.tup [.ty "list", .ty "tuple"])) v (.type t) → PySem.W.kitAny X.K (.type t) [.type "list", .type "tuple"] = some b → rIsiT X.K [v, .ref tp] (upd H1 tp (.tup [.ty "list", .ty "tuple"])) Q :=
        fun t ht hk => ⟨v, tp, _, _, _, b, rfl, upd_same, .cons (.ty _) (.cons (.ty _) .nil), ht, hk, f _ _ _ _ (x1.trans x2) r2 (.bl _) h1⟩
      unfold isLT at eb
      cases e : view S1 w <;> rw [e] at eb ty <;> simp only at eb ty <;> first | cases eb | skip
      all_goals first | exact key _ ty (by rfl) | exact key _ ty (kitAny_ty (by decide +kernel)) | exact (nomatch eb)
    · exact h1.elim
def dInt : DC' := fun ws S Q => match ws with
  | [.int i] => Q (.int i) S
  | [.bl b] => Q (.int (if b then 1 else 0)) S
  | _ => False
theorem cd_int : CD X (.type "int") dInt := CallR.im call_int1 fun xs H Q ⟨ws, S, Qd, r, rs, q, fi⟩ => by
  unfold dInt at q
  split at q
  · obtain ⟨v, rfl, r1⟩ := rs.one; cases r1; exact .inl ⟨_, rfl, fi.one r (.int _) q⟩
  · obtain ⟨v, rfl, r1⟩ := rs.one; cases r1; exact .inr ⟨_, rfl, fi.one r (.int _) q⟩
  · exact q.elim
end

/-! ### {k: v, ..} -/
def dPairs : List (DE' × DE') → Om → Sto → (List (W × W) → Sto → Prop) → Prop
  | [], _, S, Q => Q [] S
  | (tk, tv) :: r, ω, S, Q => tk ω S fun x S1 => tv ω S1 fun y S2 => dPairs r ω S2 fun ps S3 => Q ((x, y) :: ps) S3
def pkeys : List (W × W) → Option (List (Key × W))
  | [] => some []
  | (w, v) :: r => match wkey w, pkeys r with
    | some k, some ks => some ((k, v) :: ks)
    | _, _ => none
def wmerge (kvs more : List (Key × W)) : List (Key × W) := more.foldl (fun acc kv => wput acc kv.1 kv.2) kvs
def dDisp (trs : List (DE' × DE')) : DE' := fun ω S Q => ∀ p, S p = none → dPairs trs ω (up S p (.dK [])) fun ps S2 => S2 p = some (.dK []) ∧ match pkeys ps with
  | some kvs => kvs.length ≤ 15 ∧ Q (.ref p) (up S2 p (.dK (wmerge [] kvs)))
  | none => False
section
variable {X : Cx} {Z : WX}
def uP (K : PySem.W.Frag) (Z : WX) (trs : List (DE' × DE')) : List (TE × TE) := trs.map fun p => (uE K Z p.1, uE K Z p.2)
abbrev DPP (X : Cx) (Z : WX) (pos : Pos) (keys : List (Option Expr)) (values : List Expr) (trs : List (DE' × DE')) : Prop := PPs X pos keys values (uP X.K Z trs)
theorem dpp_nil {pos : Pos} : DPP X Z pos [] [] [] := pps_nil
theorem dpp_cons {pos : Pos} {k v : Expr} {ks : List (Option Expr)} {vs : List Expr} {tk tv : DE'} {trs : List (DE' × DE')} (hk : DE X Z k tk) (hv : DE X Z v tv) (hr : DPP X Z pos ks vs trs) : DPP X Z pos (some k :: ks) (v :: vs) ((tk, tv) :: trs) := pps_cons hk hv hr
abbrev RP (K : PySem.W.Frag) (S : Sto) (H : Hp) : List (W × W) → List (V × V) → Prop := Paired fun p q => RW K S H p.1 q.1 ∧ RW K S H p.2 q.2
theorem pairs_go {K : PySem.W.Frag} {σ : L2.St} {ω : Om} : ∀ {trs : List (DE' × DE')} {S : Sto} {H : Hp} {Qd : List (W × W) → Sto → Prop} {Q : List (V × V) → Hp → Prop}, At K Z S H σ ω → dPairs trs ω S Qd →
    (∀ ps S' vs H', Nx S H S' H' → Rel K S' H' → RP K S' H' ps vs → Qd ps S' → Q vs H') → tPairs (uP K Z trs) σ H Q
  | [], S, H, Qd, Q, a, h, f => f _ _ _ _ Nx.refl a.rel .nil h
  | (tk, tv) :: r, S, H, Qd, Q, a, h, f => by
    refine ⟨ω, S, _, a, h, fun x S1 v H1 x1 r1 q1 h1 => ?_⟩
    refine ⟨ω, S1, _, a.to x1 r1, h1, fun y S2 u H2 x2 r2 q2 h2 => ?_⟩
    exact pairs_go (a.to (x1.trans x2) r2) h2 fun ps S3 vs H3 x3 r3 q3 h3 => f _ _ _ _ (x1.trans (x2.trans x3)) r3 (.cons ⟨q1.mono (x2.trans x3), q2.mono x3⟩ q3) h3
theorem pkeys_rel {K : PySem.W.Frag} {S : Sto} {H : Hp} {ps : List (W × W)} {vs : List (V × V)} (r : RP K S H ps vs) : ∀ {kvs : List (Key × W)}, pkeys ps = some kvs → ∃ gs : List (Key × V), vs = gs.map (fun kv => (kV kv.1, kv.2)) ∧ RWp K S H kvs gs := by
  induction r with
  | nil => intro kvs h; simp only [pkeys, Option.some.injEq] at h; subst h; exact ⟨[], rfl, .nil⟩
  | @cons p q ps vs h t ih =>
    intro kvs e
    obtain ⟨p1, p2⟩ := p
    obtain ⟨q1, q2⟩ := q
    simp only [pkeys] at e
    cases e1 : wkey p1 with
    | none => rw [e1] at e; cases e
    | some k =>
      cases e2 : pkeys ps with
      | none => rw [e1, e2] at e; cases e
      | some ks =>
        rw [e1, e2] at e
        simp only [Option.some.injEq] at e
        subst e
        obtain ⟨gs, rfl, rg⟩ := ih e2
        obtain rfl := wkey_rel h.1 e1
        exact ⟨(k, q2) :: gs, rfl, .cons ⟨rfl, h.2⟩ rg⟩
theorem wmerge_rel {K : PySem.W.Frag} {S : Sto} {H : Hp} {more : List (Key × W)} {ms : List (Key × V)} (r : RWp K S H more ms) : ∀ {kvs : List (Key × W)} {gs : List (Key × V)}, RWp K S H kvs gs → RWp K S H (wmerge kvs more) (mergeK gs ms) := by
  induction r with
  | nil => intro kvs gs q; exact q
  | @cons p q ps qs h t ih =>
    intro kvs gs r0
    obtain ⟨p1, p2⟩ := p
    obtain ⟨q1, q2⟩ := q
    obtain ⟨h1, h2⟩ := h
    simp only at h1 h2
    subst h1
    exact ih (wput_rel r0 p1 h2)
theorem de_disp {pos : Pos} {keys : List (Option Expr)} {values : List Expr} {trs : List (DE' × DE')} (h : DPP X Z pos keys values trs) (hall : keys.all (·.isSome) = true := by rfl) (hl : keys.length = values.length := by rfl) (h0 : keys ≠ [] := by simp) (h15 : keys.length ≤ 15 := by decide) :
    DE X Z (.Dict keys values pos) (dDisp trs) := PE.im (pe_disp h hall hl h0 h15) fun σ H Q ⟨ω, S, Qd, a, h, f⟩ => fun p np => by
  have x0 : Nx S H (up S p (.dK [])) (upd H p (.dK [])) := Nx.newS np
  have r0 : Rel X.K (up S p (.dK [])) (upd H p (.dK [])) := a.rel.newS np (.dK upd_same .nil)
  refine pairs_go (a.to x0 r0) (h p (a.rel.free np)) fun ps S2 vs H2 x2 r2 q2 ⟨e, h2⟩ => ?_
  split at h2
  · rename_i kvs ek
    obtain ⟨gs, rfl, rg⟩ := pkeys_rel q2 ek
    cases r2 _ _ e with
    | @dK _ gs0 hH rs =>
      cases rs
      refine ⟨hH, gs, rfl, by rw [← RWp.len rg]; exact h2.1, ?_⟩
      exact f _ _ _ _ (x0.trans (x2.trans (Nx.wr e))) (r2.wr e (fun _ z => nomatch z) (.dK upd_same (RWp.mono (Nx.wr e) (wmerge_rel rg .nil)))) (.ref p) h2.2
  · exact h2.elim
end
theorem view_c_non {S : Sto} : view S .non = .non := rfl
theorem view_c_bl {S : Sto} {b : Bool} : view S (.bl b) = (.bl b) := rfl
theorem view_c_int {S : Sto} {i : Int} : view S (.int i) = (.int i) := rfl
theorem view_c_str {S : Sto} {x : Str} : view S (.str x) = (.str x) := rfl
theorem view_c_tup {S : Sto} {xs : List W} : view S (.tup xs) = (.tup xs) := rfl
theorem view_c_lst {S : Sto} {xs : List W} : view S (.lst xs) = (.lst xs) := rfl
theorem view_c_scr {S : Sto} {ns : List Int} : view S (.scr ns) = (.scr ns) := rfl
theorem view_c_dct {S : Sto} {ks : List Key} {ws : List W} : view S (.dct ks ws) = (.dct ks ws) := rfl
theorem view_c_ins {S : Sto} {C : Addr} {ns : List Str} {ws : List W} : view S (.ins C ns ws) = (.ins C ns ws) := rfl
/-- behind a statement something of the store is forgotten -/
def dFgt (t : DS') : DS' := fun D ω S => t { D with nx := fun ω' S' => ∃ S2, Frz .non S' .non S2 ∧ D.nx ω' S2 } ω S
theorem ds_fgt {X : Cx} {Z : WX} {s : Stmt} {t : DS'} (h : DS X Z s t) : DS X Z s (dFgt t) := PS.im h fun D σ H ⟨ω, S, Dd, a, h, f⟩ =>
  ⟨ω, S, _, a, h, ⟨fun ω' S' σ' H' x a' ⟨S2, fz, h'⟩ => by
    obtain ⟨x2, r2, _⟩ := fz.ok a'.rel .non
    exact f.nx _ _ _ _ (x.trans x2) (a'.to x2 r2) h', f.rt, f.bk, f.ct⟩⟩
theorem Frz.new {S : Sto} {p : Addr} {o : WO} {w : W} (h : S p = none) (hn : ∀ x, o ≠ .own x) : Frz w (up S p o) w S := by
  have := Frz.drop (w := w) (S := up S p o) (p := p) up_same hn
  rw [del_new h] at this
  exact this
theorem Frz.under {S : Sto} {p t : Addr} {o o2 u : WO} {w : W} (hne : p ≠ t) (ht : S t = none) (hn : ∀ x, u ≠ .own x) : Frz w (up (up (up S p o) t u) p o2) w (up S p o2) := by
  have h := Frz.drop (w := w) (S := up (up (up S p o) t u) p o2) (p := t) (by rw [up_ne (Ne.symm hne), up_same]) hn
  have e : del (up (up (up S p o) t u) p o2) t = up S p o2 := by
    funext b
    by_cases c : b = t
    · subst c; rw [del_same, up_ne (Ne.symm hne), ht]
    · rw [del_ne c]
      by_cases c2 : b = p
      · subst c2; rw [up_same, up_same]
      · rw [up_ne c2, up_ne c, up_ne c2, up_ne c2]
  rw [e] at h
  exact h
theorem wputF_new {f : Str} {v : W} {fs : List (Str × W)} (h : f ∉ fs.map (·.1)) : wputF f v fs = fs ++ [(f, v)] := by
  induction fs with
  | nil => rfl
  | cons p fs ih =>
    obtain ⟨g, x⟩ := p
    have h1 : ¬ g = f := fun e => h (by rw [e]; exact List.mem_cons_self ..)
    rw [wputF, if_neg h1, ih fun e => h (List.mem_cons_of_mem _ e)]
    rfl
theorem look_self {f : Str} {v : W} {fs : List (Str × W)} : ((f, v) :: fs).lookup f = some v := by simp [List.lookup]
theorem fget_ref {S : Sto} {C a dx : Addr} {f : Str} {fs : List (Str × W)} (h : S a = some (.ins C dx fs)) : fget S C f (.ref a) = fs.lookup f := by simp only [fget, h, if_true]
theorem fget_ins {S : Sto} {C : Addr} {f : Str} {ns : List Str} {ws : List W} : fget S C f (.ins C ns ws) = (ns.zip ws).lookup f := if_pos rfl
theorem wkey_int {i : Int} : wkey (.int i) = some (.inl i) := rfl
theorem wkey_str {x : Str} : wkey (.str x) = some (.inr x) := rfl
theorem atI_n {α : Type} {xs : List α} {j : Nat} (h : j < xs.length) : L2.atI xs (j : Int) = xs[j]? := by
  unfold L2.atI L2.ixN
  have h1 : ¬ ((j : Int) < 0) := by omega
  have h2 : ((j : Int) < (xs.length : Int)) := by omega
  simp [h1, h2]
theorem atI_0 {α : Type} {x : α} {xs : List α} : L2.atI (x :: xs) 0 = some x := (atI_n (j := 0) (by simp)).trans rfl
theorem atI_1 {α : Type} {x y : α} {xs : List α} : L2.atI (x :: y :: xs) 1 = some y := (atI_n (j := 1) (by simp)).trans rfl
theorem atI_2 {α : Type} {x y z : α} {xs : List α} : L2.atI (x :: y :: z :: xs) 2 = some z := (atI_n (j := 2) (by simp)).trans rfl
theorem atI_3 {α : Type} {x y z w : α} {xs : List α} : L2.atI (x :: y :: z :: w :: xs) 3 = some w := (atI_n (j := 3) (by simp)).trans rfl
theorem wval_none {κ : Type} [DecidableEq κ] {kvs : List (κ × W)} {k : κ} (h : k ∉ kvs.map (·.1)) : wval kvs k = none := by
  unfold wval
  rw [List.find?_eq_none.mpr]
  · rfl
  · intro x hx e
    exact h (List.mem_map.mpr ⟨x, hx, of_decide_eq_true e⟩)
theorem tru_non {S : Sto} : tru S .non = some false := rfl
theorem isLT_non {S : Sto} : isLT S .non = some false := rfl
theorem isi_int_non {S : Sto} : isi S .int .non = some false := rfl
theorem isi_bool_non {S : Sto} : isi S .bool .non = some false := rfl
theorem isi_str_non {S : Sto} : isi S .str .non = some false := rfl
theorem isi_tup_non {S : Sto} : isi S .tup .non = some false := rfl
theorem isi_lst_non {S : Sto} : isi S .lst .non = some false := rfl
theorem tru_bl {S : Sto} {b : Bool} : tru S (.bl b) = some b := rfl
theorem isLT_bl {S : Sto} {b : Bool} : isLT S (.bl b) = some false := rfl
theorem isi_int_bl {S : Sto} {b : Bool} : isi S .int (.bl b) = some true := rfl
theorem isi_bool_bl {S : Sto} {b : Bool} : isi S .bool (.bl b) = some true := rfl
theorem isi_str_bl {S : Sto} {b : Bool} : isi S .str (.bl b) = some false := rfl
theorem isi_tup_bl {S : Sto} {b : Bool} : isi S .tup (.bl b) = some false := rfl
theorem isi_lst_bl {S : Sto} {b : Bool} : isi S .lst (.bl b) = some false := rfl
theorem tru_int {S : Sto} {i : Int} : tru S (.int i) = some (i != 0) := rfl
theorem isLT_int {S : Sto} {i : Int} : isLT S (.int i) = some false := rfl
theorem isi_int_int {S : Sto} {i : Int} : isi S .int (.int i) = some true := rfl
theorem isi_bool_int {S : Sto} {i : Int} : isi S .bool (.int i) = some false := rfl
theorem isi_str_int {S : Sto} {i : Int} : isi S .str (.int i) = some false := rfl
theorem isi_tup_int {S : Sto} {i : Int} : isi S .tup (.int i) = some false := rfl
theorem isi_lst_int {S : Sto} {i : Int} : isi S .lst (.int i) = some false := rfl
theorem tru_str {S : Sto} {x : Str} : tru S (.str x) = some ((x.length : Int) != 0) := rfl
theorem isLT_str {S : Sto} {x : Str} : isLT S (.str x) = some false := rfl
theorem isi_int_str {S : Sto} {x : Str} : isi S .int (.str x) = some false := rfl
theorem isi_bool_str {S : Sto} {x : Str} : isi S .bool (.str x) = some false := rfl
theorem isi_str_str {S : Sto} {x : Str} : isi S .str (.str x) = some true := rfl
theorem isi_tup_str {S : Sto} {x : Str} : isi S .tup (.str x) = some false := rfl
theorem isi_lst_str {S : Sto} {x : Str} : isi S .lst (.str x) = some false := rfl
theorem tru_tup {S : Sto} {xs : List W} : tru S (.tup xs) = some (!xs.isEmpty) := rfl
theorem isLT_tup {S : Sto} {xs : List W} : isLT S (.tup xs) = some true := rfl
theorem isi_int_tup {S : Sto} {xs : List W} : isi S .int (.tup xs) = some false := rfl
theorem isi_bool_tup {S : Sto} {xs : List W} : isi S .bool (.tup xs) = some false := rfl
theorem isi_str_tup {S : Sto} {xs : List W} : isi S .str (.tup xs) = some false := rfl
theorem isi_tup_tup {S : Sto} {xs : List W} : isi S .tup (.tup xs) = some true := rfl
theorem isi_lst_tup {S : Sto} {xs : List W} : isi S .lst (.tup xs) = some false := rfl
theorem tru_lst {S : Sto} {xs : List W} : tru S (.lst xs) = some (!xs.isEmpty) := rfl
theorem isLT_lst {S : Sto} {xs : List W} : isLT S (.lst xs) = some true := rfl
theorem isi_int_lst {S : Sto} {xs : List W} : isi S .int (.lst xs) = some false := rfl
theorem isi_bool_lst {S : Sto} {xs : List W} : isi S .bool (.lst xs) = some false := rfl
theorem isi_str_lst {S : Sto} {xs : List W} : isi S .str (.lst xs) = some false := rfl
theorem isi_tup_lst {S : Sto} {xs : List W} : isi S .tup (.lst xs) = some false := rfl
theorem isi_lst_lst {S : Sto} {xs : List W} : isi S .lst (.lst xs) = some true := rfl
theorem isL_lst {S : Sto} {xs : List W} : isL S (.lst xs) = true := rfl
theorem isL_ref {S : Sto} {a : Addr} {xs : List W} (h : S a = some (.lst xs)) : isL S (.ref a) = true := by simp only [isL, view, h]
theorem view_ref {S : Sto} {a : Addr} {xs : List W} (h : S a = some (.lst xs)) : view S (.ref a) = .lst xs := by simp only [view, h]
theorem view_refD {S : Sto} {a : Addr} {kvs : List (Key × W)} (h : S a = some (.dK kvs)) : view S (.ref a) = .dct (kvs.map (·.1)) (kvs.map (·.2)) := by simp only [view, h]
theorem inW_refD {S : Sto} {a : W} {p : Addr} {kvs : List (Key × W)} {k : Key} (h : S p = some (.dK kvs)) (hk : wkey a = some k) : inW S a (.ref p) = some (wval kvs k).isSome := by
  unfold inW
  rw [view_refD h]
  show (match wkey a with | some k => some (wval ((kvs.map (fun x : Key × W => x.1)).zip (kvs.map (fun x : Key × W => x.2))) k).isSome | none => none) = _
  rw [hk, zip_prod]
theorem seqW_lst {S : Sto} {xs : List W} : seqW S (.lst xs) = some xs := rfl
theorem seqW_tup {S : Sto} {xs : List W} : seqW S (.tup xs) = some xs := rfl
theorem seqW_str {S : Sto} {x : Str} : seqW S (.str x) = some (x.cps.toList.map fun c => W.str ⟨#[c]⟩) := rfl
theorem seqW_scr {S : Sto} {ns : List Int} : seqW S (.scr ns) = some (ns.map W.int) := rfl
theorem sq2_lst {S : Sto} {xs : List W} : sq2 S (.lst xs) = some xs := rfl
theorem sq2_tup {S : Sto} {xs : List W} : sq2 S (.tup xs) = some xs := rfl
theorem inW_sign {S : Sto} {z : Str} {c : Nat} : inW S (.str ⟨#[c]⟩) (.str z) = some (decide (c ∈ z.cps.toList)) := rfl
theorem inW_lst {S : Sto} {a : W} {xs : List W} (h1 : okD a = true) (h2 : okD (.lst xs) = true) : inW S a (.lst xs) = some (xs.any fun y => weq y a) := by
  show (if (okD a && okD (.lst xs)) = true then some (xs.any fun y => weq y a) else none) = _
  rw [h1, h2]; rfl
theorem inW_tup {S : Sto} {a : W} {xs : List W} (h1 : okD a = true) (h2 : okD (.tup xs) = true) : inW S a (.tup xs) = some (xs.any fun y => weq y a) := by
  show (if (okD a && okD (.tup xs)) = true then some (xs.any fun y => weq y a) else none) = _
  rw [h1, h2]; rfl
theorem inW_dct {S : Sto} {a : W} {k : Key} {ks : List Key} {ws : List W} (h : wkey a = some k) : inW S a (.dct ks ws) = some (wval (ks.zip ws) k).isSome := by
  show (match wkey a with | some k => some (wval (ks.zip ws) k).isSome | none => none) = _
  rw [h]
end DL

set_option Elab.async false
set_option linter.all false
set_option maxRecDepth 100000
set_option maxHeartbeats 4000000
namespace DL
open PySem PySem.Spec PyProof.Rows L2

/-! ### comprehensions whose parts leave the store as it is -/
theorem take_succ_map {α β : Type} (g : α → β) {xs : List α} {i : Nat} {w : α} (h : xs[i]? = some w) : (xs.take (i + 1)).map g = (xs.take i).map g ++ [g w] := by
  rw [List.take_succ, h, List.map_append]; rfl
theorem lcF {xs : List W} {ok : Sto → Prop} {S1 : Sto} {T : Tg} {tt : DT'} {te : DE'} {own : List Nat} {ω : Om} {Q : WQ} (f : W → Bool) (g : W → W) (hl : xs.length ≤ 1000000) (hok : ∀ p acc, S1 p = none → ok (up S1 p (.lst acc)))
    (hb : ∀ w ∈ xs, ∃ ω2, tbind T w (wp ω own) = some ω2 ∧ ∀ p acc, S1 p = none → (∀ Qt : Bool → Sto → Prop, Qt (f w) (up S1 p (.lst acc)) → tt ω2 (up S1 p (.lst acc)) Qt) ∧ (f w = true → ∀ Qe : WQ, Qe (g w) (up S1 p (.lst acc)) → te ω2 (up S1 p (.lst acc)) Qe))
    (q : Q (.lst ((xs.filter f).map g)) S1) : ∀ p, S1 p = none → ∃ P : Nat → List W → Sto → Prop, P 0 [] (up S1 p (.lst [])) ∧ (∀ i acc S', P i acc S' → ok S' ∧ S' p = some (.lst acc)) ∧
      (∀ i w acc S', xs[i]? = some w → P i acc S' → ∃ ω2, tbind T w (wp ω own) = some ω2 ∧ tt ω2 S' fun b S3 => if b = true then te ω2 S3 fun v S4 => ∃ acc', S4 p = some (.lst acc') ∧ acc'.length < 1000000 ∧ P (i + 1) (acc' ++ [v]) (up S4 p (.lst (acc' ++ [v]))) else ∃ acc', P (i + 1) acc' S3) ∧
      ∀ acc S', P xs.length acc S' → Q (.lst acc) (del S' p) := by
  intro p hp
  refine ⟨fun i acc S' => acc = ((xs.take i).filter f).map g ∧ S' = up S1 p (.lst acc), ⟨rfl, rfl⟩, ?_, ?_, ?_⟩
  · rintro i acc S' ⟨rfl, rfl⟩
    exact ⟨hok p _ hp, up_same⟩
  · rintro i w acc S' hw ⟨rfl, rfl⟩
    obtain ⟨ω2, e, hb⟩ := hb w (List.mem_of_getElem? hw)
    obtain ⟨h1, h2⟩ := hb p (((xs.take i).filter f).map g) hp
    refine ⟨ω2, e, h1 _ ?_⟩
    have et : (xs.take (i + 1)).filter f = (xs.take i).filter f ++ (if f w = true then [w] else []) := by
      rw [List.take_succ, hw, List.filter_append]
      congr 1
      show List.filter f [w] = _
      rw [List.filter_cons, List.filter_nil]
    cases c : f w with
    | true =>
      rw [if_pos rfl]
      refine h2 c _ ⟨_, up_same, ?_, ?_, by rw [up_up]⟩
      · have l1 : i < xs.length := by
          have := List.getElem?_eq_some_iff.mp hw
          exact this.1
        have l2 : ((xs.take i).filter f).length ≤ (xs.take i).length := List.length_filter_le ..
        have l3 : (xs.take i).length ≤ i := List.length_take_le ..
        rw [List.length_map]
        omega
      · rw [et, c, if_pos rfl, List.map_append]; rfl
    | false =>
      rw [if_neg Bool.false_ne_true]
      refine ⟨_, ?_, rfl⟩
      rw [et, c, if_neg Bool.false_ne_true, List.append_nil]
  · rintro acc S' ⟨rfl, rfl⟩
    rw [List.take_length, del_new hp]
    exact q
theorem lcM {xs : List W} {ok : Sto → Prop} {S1 : Sto} {T : Tg} {te : DE'} {own : List Nat} {ω : Om} {Q : WQ} (g : W → W) (hl : xs.length ≤ 1000000) (hok : ∀ p acc, S1 p = none → ok (up S1 p (.lst acc)))
    (hb : ∀ w ∈ xs, ∃ ω2, tbind T w (wp ω own) = some ω2 ∧ ∀ p acc, S1 p = none → ∀ Qe : WQ, Qe (g w) (up S1 p (.lst acc)) → te ω2 (up S1 p (.lst acc)) Qe)
    (q : Q (.lst (xs.map g)) S1) : ∀ p, S1 p = none → ∃ P : Nat → List W → Sto → Prop, P 0 [] (up S1 p (.lst [])) ∧ (∀ i acc S', P i acc S' → ok S' ∧ S' p = some (.lst acc)) ∧
      (∀ i w acc S', xs[i]? = some w → P i acc S' → ∃ ω2, tbind T w (wp ω own) = some ω2 ∧ dYes ω2 S' fun b S3 => if b = true then te ω2 S3 fun v S4 => ∃ acc', S4 p = some (.lst acc') ∧ acc'.length < 1000000 ∧ P (i + 1) (acc' ++ [v]) (up S4 p (.lst (acc' ++ [v]))) else ∃ acc', P (i + 1) acc' S3) ∧
      ∀ acc S', P xs.length acc S' → Q (.lst acc) (del S' p) := by
  refine lcF (fun _ => true) g hl hok (fun w hw => ?_) ?_
  · obtain ⟨ω2, e, h⟩ := hb w hw
    exact ⟨ω2, e, fun p acc hp => ⟨fun Qt h => h, fun _ => h p acc hp⟩⟩
  · rw [List.filter_eq_self.mpr fun _ _ => rfl]; exact q
theorem seqI_go {ti : DE'} {ω : Om} {S : Sto} {w : W} {xs : List W} {R : List W → (Sto → Prop) → Sto → Prop} (h : ∀ Q' : WQ, Q' w S → ti ω S Q') (hs : seqW S w = some xs) (q : R xs (fun S' => seqW S' w = some xs) S) : dSeqI ti ω S R := by
  refine h _ ?_
  rw [hs]
  exact q
theorem lcMs {ti te : DE'} {T : Tg} {own : List Nat} {ω : Om} {S : Sto} {Q : WQ} {w : W} {xs : List W} (h : ∀ Q' : WQ, Q' w S → ti ω S Q') (hs : seqW S w = some xs) (g : W → W) (hl : xs.length ≤ 1000000) (hok : ∀ p acc, S p = none → seqW (up S p (.lst acc)) w = some xs)
    (hb : ∀ w ∈ xs, ∃ ω2, tbind T w (wp ω own) = some ω2 ∧ ∀ p acc, S p = none → ∀ Qe : WQ, Qe (g w) (up S p (.lst acc)) → te ω2 (up S p (.lst acc)) Qe)
    (q : Q (.lst (xs.map g)) S) : dLc (dSeqI ti) T dYes te own ω S Q := seqI_go h hs (lcM g hl hok hb q)
theorem lcFs {ti te : DE'} {tt : DT'} {T : Tg} {own : List Nat} {ω : Om} {S : Sto} {Q : WQ} {w : W} {xs : List W} (h : ∀ Q' : WQ, Q' w S → ti ω S Q') (hs : seqW S w = some xs) (f : W → Bool) (g : W → W) (hl : xs.length ≤ 1000000) (hok : ∀ p acc, S p = none → seqW (up S p (.lst acc)) w = some xs)
    (hb : ∀ w ∈ xs, ∃ ω2, tbind T w (wp ω own) = some ω2 ∧ ∀ p acc, S p = none → (∀ Qt : Bool → Sto → Prop, Qt (f w) (up S p (.lst acc)) → tt ω2 (up S p (.lst acc)) Qt) ∧ (f w = true → ∀ Qe : WQ, Qe (g w) (up S p (.lst acc)) → te ω2 (up S p (.lst acc)) Qe))
    (q : Q (.lst ((xs.filter f).map g)) S) : dLc (dSeqI ti) T tt te own ω S Q := seqI_go h hs (lcF f g hl hok hb q)
/-! ### loops -/
theorem ienum_at' {xs : List W} {i : Nat} {u : W} (h : (ienum xs)[i]? = some u) : ∃ w, xs[i]? = some w ∧ u = .tup [.int (i : Nat), w] := by
  have hi : i < xs.length := by
    have := (List.getElem?_eq_some_iff.mp h).1
    rw [ienum_len] at this
    exact this
  have e : xs[i]? = some xs[i] := List.getElem?_eq_getElem hi
  rw [ienum_at e] at h
  exact ⟨_, e, (Option.some.inj h).symm⟩
theorem forS {ti : DE'} {T : Tg} {tb : DS'} {D : Out} {ω : Om} {S : Sto} {w : W} {xs : List W} (h : ∀ Q' : WQ, Q' w S → ti ω S Q') (hs : seqW S w = some xs) (P : Nat → Om → Sto → Prop) (h0 : P 0 ω S) (hok : ∀ i ω' S', P i ω' S' → seqW S' w = some xs)
    (st : ∀ i w ω' S', xs[i]? = some w → P i ω' S' → ∃ ω2, tbind T w ω' = some ω2 ∧ tb { D with nx := P (i + 1), ct := P (i + 1), bk := D.nx } ω2 S') (fin : ∀ ω' S', P xs.length ω' S' → D.nx ω' S') : dFor (dSeqI ti) T tb D ω S :=
  seqI_go h hs ⟨P, h0, hok, st, fin⟩
theorem forE {ti : DE'} {T : Tg} {tb : DS'} {D : Out} {ω : Om} {S : Sto} {xs : List W} (h : ∀ Q' : WQ, Q' (.tup xs) S → ti ω S Q') (P : Nat → Om → Sto → Prop) (h0 : P 0 ω S)
    (st : ∀ (i : Nat) w ω' S', xs[i]? = some w → P i ω' S' → ∃ ω2, tbind T (.tup [.int (i : Nat), w]) ω' = some ω2 ∧ tb { D with nx := P (i + 1), ct := P (i + 1), bk := D.nx } ω2 S') (fin : ∀ ω' S', P xs.length ω' S' → D.nx ω' S') : dFor (dEnum (dCons ti dNil)) T tb D ω S := by
  refine h _ ⟨P, h0, fun _ _ _ _ => trivial, fun i u ω' S' hu p => ?_, fun ω' S' p => fin ω' S' (by rw [ienum_len] at p; exact p)⟩
  obtain ⟨w, hw, rfl⟩ := ienum_at' hu
  exact st i w ω' S' hw p
theorem forR {ti : DE'} {T : Tg} {tb : DS'} {D : Out} {ω : Om} {S : Sto} {n : Int} (h : ∀ Q' : WQ, Q' (.int n) S → ti ω S Q') (hb : -(2 ^ 62) ≤ n ∧ n < 2 ^ 62) (P : Nat → Om → Sto → Prop) (h0 : P 0 ω S)
    (st : ∀ (i : Nat) ω' S', i < n.toNat → P i ω' S' → ∃ ω2, tbind T (.int (i : Nat)) ω' = some ω2 ∧ tb { D with nx := P (i + 1), ct := P (i + 1), bk := D.nx } ω2 S') (fin : ∀ ω' S', P n.toNat ω' S' → D.nx ω' S') : dFor (dRng1 (dCons ti dNil)) T tb D ω S := by
  refine h _ ⟨hb, P, h0, fun _ _ _ _ => trivial, fun i u ω' S' hu p => ?_, fun ω' S' p => fin ω' S' (by unfold irange at p; rw [List.length_map, List.length_range] at p; exact p)⟩
  have hi : i < n.toNat := by
    have := (List.getElem?_eq_some_iff.mp hu).1
    unfold irange at this
    rw [List.length_map, List.length_range] at this
    exact this
  have e : (irange 0 n.toNat)[i]? = some (.int (i : Nat)) := by
    unfold irange
    rw [List.getElem?_map, List.getElem?_range hi]
    show some (W.int (0 + (i : Nat))) = _
    rw [Int.zero_add]
  rw [e] at hu
  cases hu
  exact st i ω' S' hi p
/-- data stand by themselves -/
theorem view_D {S : Sto} {w : W} (h : isD w = true) : view S w = w := by
  cases w <;> first | rfl | cases h

/-- a value whose type is seen at once -/
def Pl : W → Bool
  | .non | .bl _ | .int _ | .str _ | .tup _ | .lst _ => true
  | _ => false
theorem weq_str (a b : Str) : weq (.str a) (.str b) = decide (a = b) := by
  unfold weq pd
  rw [PyData.eqv]
  exact Bool.eq_iff_iff.mpr (by simp)
theorem weq_int (a b : Int) : weq (.int a) (.int b) = decide (a = b) := by
  unfold weq pd
  rw [PyData.eqv]
  exact Bool.eq_iff_iff.mpr (by simp)
/-! ### words of the program -/
def whole : W → Bool
  | .int _ => true
  | _ => false
def within (lo hi : Int) : W → Bool
  | .int i => decide (lo ≤ i) && decide (i ≤ hi)
  | _ => false
def az (c : Nat) : Bool := decide (97 ≤ c) && decide (c ≤ 122)
def sgn : W → Bool
  | .str x => match x.cps.toList with
    | [c] => az c
    | _ => false
  | _ => false
def isName : W → Bool
  | .str x => decide (1 ≤ x.length) && decide (x.length ≤ 8) && x.cps.toList.all az
  | _ => false
def tupIn (lo hi : Int) : W → Bool
  | .tup xs => decide (lo ≤ (xs.length : Int)) && decide ((xs.length : Int) ≤ hi)
  | _ => false
abbrev w_LETTERS : W := .str "abcdefghijklmnopqrstuvwxyz"
abbrev w_LONGEST_NAME : W := .int 8
abbrev placeW (n : Str) (r : Int) : W := .tup [.str n, .int r]
abbrev roadW (a b : Str) (m s : Int) : W := .tup [.str a, .str b, .int m, .int s]
def minS (a b : Str) : Str := if b.cps.toList < a.cps.toList then b else a
def maxS (a b : Str) : Str := if a.cps.toList < b.cps.toList then b else a
def risksW (ps : List (Str × Int)) : W := .dct (ps.map fun p => Sum.inr p.1) (ps.map fun p => .int p.2)
def isPl (ps : List (Str × Int)) : W → Bool
  | .str n => decide (n ∈ ps.map (·.1))
  | _ => false
theorem wval_risks (ps : List (Str × Int)) (n : Str) : (wval ((ps.map fun p => (Sum.inr p.1 : Key)).zip (ps.map fun p => W.int p.2)) (Sum.inr n)).isSome = decide (n ∈ ps.map (·.1)) := by
  induction ps with
  | nil => rfl
  | cons p ps ih =>
    by_cases c : p.1 = n
    · have e : wval (((p :: ps).map fun p => (Sum.inr p.1 : Key)).zip ((p :: ps).map fun p => W.int p.2)) (Sum.inr n) = some (W.int p.2) := by simp [wval, List.find?_cons, c]
      rw [e]
      simp [c]
    · have c' : ¬ (Sum.inr p.1 : Key) = Sum.inr n := fun e => c (Sum.inr.inj e)
      have e : wval (((p :: ps).map fun p => (Sum.inr p.1 : Key)).zip ((p :: ps).map fun p => W.int p.2)) (Sum.inr n) = wval ((ps.map fun p => (Sum.inr p.1 : Key)).zip (ps.map fun p => W.int p.2)) (Sum.inr n) := by simp [wval, List.find?_cons, c']
      rw [e, ih]
      have : (n ∈ (p :: ps).map (·.1)) ↔ n ∈ ps.map (·.1) := by
        rw [List.map_cons, List.mem_cons]
        exact ⟨fun h => h.resolve_left fun e => c e.symm, Or.inr⟩
      exact (decide_eq_decide.mpr this).symm
theorem inW_risks {S : Sto} {ps : List (Str × Int)} {n : Str} : inW S (.str n) (risksW ps) = some (decide (n ∈ ps.map (·.1))) := by
  rw [← wval_risks]
  exact inW_dct rfl
/-- right places, roads, stations -/
structure PsOk (ps : List (Str × Int)) : Prop where
  lo : 1 ≤ ps.length
  hi : ps.length ≤ 40
  ok : ∀ p ∈ ps, isName (.str p.1) = true ∧ 1 ≤ p.2 ∧ p.2 ≤ 4
  nd : (ps.map (·.1)).Nodup
structure Rd4 where
  a : Str
  b : Str
  m : Int
  s : Int
abbrev Rd4.w (r : Rd4) : W := roadW r.a r.b r.m r.s
def Rd4.ends (r : Rd4) : List Key := [.inr (minS r.a r.b), .inr (maxS r.a r.b)]
structure RsOk (ps : List (Str × Int)) (rs : List Rd4) : Prop where
  hi : rs.length ≤ 80
  ok : ∀ r ∈ rs, r.a ∈ ps.map (·.1) ∧ r.b ∈ ps.map (·.1) ∧ r.a ≠ r.b ∧ (1 ≤ r.m ∧ r.m ≤ 60) ∧ (0 ≤ r.s ∧ r.s ≤ 60)
  nd : (rs.map Rd4.ends).Nodup
structure SsOk (ps : List (Str × Int)) (ss : List Str) : Prop where
  hi : ss.length ≤ 12
  ok : ∀ s ∈ ss, s ∈ ps.map (·.1)
  nd : ss.Nodup
abbrev placesW (ps : List (Str × Int)) : W := .tup (ps.map fun p => placeW p.1 p.2)
abbrev roadsW (rs : List Rd4) : W := .tup (rs.map Rd4.w)
abbrev stationsW (ss : List Str) : W := .tup (ss.map W.str)
theorem PsOk.name {ps : List (Str × Int)} (h : PsOk ps) {n : Str} (hn : n ∈ ps.map (·.1)) : isName (.str n) = true := by
  obtain ⟨p, hp, rfl⟩ := List.mem_map.mp hn
  exact (h.ok p hp).1
/-- the dict of the first i risks -/
def rkv (ps : List (Str × Int)) : List (Key × W) := ps.map fun p => (Sum.inr p.1, .int p.2)
theorem rkv_fst (ps : List (Str × Int)) : (rkv ps).map (·.1) = ps.map fun p => Sum.inr p.1 := by unfold rkv; rw [List.map_map]; rfl
theorem rkv_snd (ps : List (Str × Int)) : (rkv ps).map (·.2) = ps.map fun p => W.int p.2 := by unfold rkv; rw [List.map_map]; rfl
theorem wput_new {κ : Type} [DecidableEq κ] {kvs : List (κ × W)} {k : κ} {v : W} (h : k ∉ kvs.map (·.1)) : wput kvs k v = kvs ++ [(k, v)] := by
  unfold wput
  rw [if_neg]
  intro e
  rw [List.any_eq_true] at e
  obtain ⟨x, hx, e⟩ := e
  exact h (List.mem_map.mpr ⟨x, hx, of_decide_eq_true e⟩)
theorem nodup_take {α : Type} {xs : List α} (h : xs.Nodup) {i : Nat} {x : α} (hx : xs[i]? = some x) : x ∉ xs.take i := by
  intro hm
  obtain ⟨j, hj, e⟩ := List.mem_take_iff_getElem.mp hm
  have hi := (List.getElem?_eq_some_iff.mp hx).1
  have e2 := (List.getElem?_eq_some_iff.mp hx).2
  have := (List.getElem_inj (h₀ := by omega) (h₁ := hi) h).mp (e.trans e2.symm)
  omega
theorem Srt.map {α : Type} {f : α → W} (xs : List α) (h1 : ∀ x y, PySem.W.alike (pd (f x)) (pd (f y)) = true) (h2 : (∀ x, ∃ a r, pd (f x) = .tuple (a :: r)) ∨ (∀ x, pd (f x) ≠ .none ∧ ∀ ys, pd (f x) ≠ .tuple ys)) (h3 : ∀ x, isD (f x) = true ∧ dep (f x) ≤ 60) : Srt (xs.map f) := by
  have key : ∀ d ∈ pds (xs.map f), ∃ x, d = pd (f x) := fun d hd => by
    rw [pds_map, List.map_map] at hd
    obtain ⟨x, _, rfl⟩ := List.mem_map.mp hd
    exact ⟨x, rfl⟩
  refine ⟨fun d hd d' hd' => ?_, ?_, ?_, fun w hw => ?_⟩
  · obtain ⟨x, rfl⟩ := key d hd
    obtain ⟨y, rfl⟩ := key d' hd'
    exact h1 x y
  · rcases h2 with h2 | h2
    · exact .inl fun d hd => by obtain ⟨x, rfl⟩ := key d hd; exact h2 x
    · exact .inr fun d hd => by obtain ⟨x, rfl⟩ := key d hd; exact h2 x
  · rw [isDs_all, List.all_eq_true]
    intro w hw
    obtain ⟨x, _, rfl⟩ := List.mem_map.mp hw
    exact (h3 x).1
  · obtain ⟨x, _, rfl⟩ := List.mem_map.mp hw
    exact (h3 x).2
abbrev sroadW (r : Rd4) : W := .tup [.str (minS r.a r.b), .str (maxS r.a r.b), .int r.m, .int r.s]
theorem srt_places (ps : List (Str × Int)) : Srt (ps.map fun p => placeW p.1 p.2) := Srt.map ps (fun _ _ => rfl) (.inl fun _ => ⟨_, _, rfl⟩) fun _ => ⟨rfl, by show 1 ≤ 60; decide⟩
theorem srt_roads (rs : List Rd4) : Srt (rs.map sroadW) := Srt.map rs (fun _ _ => rfl) (.inl fun _ => ⟨_, _, rfl⟩) fun _ => ⟨rfl, by show 1 ≤ 60; decide⟩
theorem srt_strs (ss : List Str) : Srt (ss.map W.str) := Srt.map ss (fun _ _ => rfl) (.inr fun _ => ⟨(nofun), nofun⟩) fun _ => ⟨rfl, by show 0 ≤ 60; decide⟩
def gfs (ps : List (Str × Int)) (rs : List Rd4) (ss : List Str) : List (Str × W) := [("risks", risksW ps), ("places", placesW ps), ("roads", roadsW rs), ("stations", stationsW ss), ("sorted_places", .lst (wsort (ps.map fun p => placeW p.1 p.2))), ("sorted_roads", .lst (wsort (rs.map sroadW))), ("sorted_stations", .lst (wsort (ss.map W.str)))]
def gW (C : Addr) (ps : List (Str × Int)) (rs : List Rd4) (ss : List Str) : W := .ins C ((gfs ps rs ss).map (·.1)) ((gfs ps rs ss).map (·.2))
theorem letters_iff (c : Nat) : (c ∈ ("abcdefghijklmnopqrstuvwxyz" : Str).cps.toList) ↔ (97 ≤ c ∧ c ≤ 122) := by
  have e : ("abcdefghijklmnopqrstuvwxyz" : Str).cps.toList = [97, 98, 99, 100, 101, 102, 103, 104, 105, 106, 107, 108, 109, 110, 111, 112, 113, 114, 115, 116, 117, 118, 119, 120, 121, 122] := by decide +kernel
  rw [e]
  simp only [List.mem_cons, List.not_mem_nil, or_false]
  omega
theorem az_iff (c : Nat) : decide (c ∈ ("abcdefghijklmnopqrstuvwxyz" : Str).cps.toList) = az c := by
  rw [Bool.eq_iff_iff, decide_eq_true_iff, letters_iff]
  unfold az
  rw [Bool.and_eq_true, decide_eq_true_iff, decide_eq_true_iff]
end DL

set_option Elab.async false
set_option linter.all false
set_option maxRecDepth 100000
set_option maxHeartbeats 4000000
namespace DL
open PySem PySem.Spec PyProof.Rows L2
def topS (i : Nat) : Stmt := PySem.Challenge.pw_whistleboard_k15_what_are_hands.main.body.getD i (.Pass ⟨0, 0, 0, 0⟩)
abbrev w_MOST_PLACES : W := .int 40
abbrev w_MOST_ROADS : W := .int 80
abbrev w_MOST_STATIONS : W := .int 12
abbrev w_MOST_RISK : W := .int 4
abbrev w_MOST_MINUTES : W := .int 60
abbrev w_MOST_SLOW : W := .int 60
abbrev w_SKILLS : W := .tup [.str "drive", .str "lead", .str "wear"]
abbrev w_MOST_HANDS : W := .int 60
abbrev w_LAST_SHIFT : W := .int 3
abbrev w_MOST_SKILLS : W := .int 5
abbrev w_LAST_SKILL_DAY : W := .int 9
structure Txt (K : PySem.W.Frag) (w : World) (mg : Str → Option Value) (c_Ground : Addr) : Prop where
  z_len : mg "len" = none
  z_abs : mg "abs" = none
  z_all : mg "all" = none
  z_any : mg "any" = none
  z_str : mg "str" = none
  z_int : mg "int" = none
  z_isinstance : mg "isinstance" = none
  z_range : mg "range" = none
  z_max : mg "max" = none
  z_min : mg "min" = none
  z_bool : mg "bool" = none
  z_list : mg "list" = none
  z_tuple : mg "tuple" = none
  z_zip : mg "zip" = none
  z_enumerate : mg "enumerate" = none
  z_sorted : mg "sorted" = none
  g_LETTERS : GW K mg "LETTERS" w_LETTERS
  g_LONGEST_NAME : GW K mg "LONGEST_NAME" w_LONGEST_NAME
  g_MOST_PLACES : GW K mg "MOST_PLACES" w_MOST_PLACES
  g_MOST_ROADS : GW K mg "MOST_ROADS" w_MOST_ROADS
  g_MOST_STATIONS : GW K mg "MOST_STATIONS" w_MOST_STATIONS
  g_MOST_RISK : GW K mg "MOST_RISK" w_MOST_RISK
  g_MOST_MINUTES : GW K mg "MOST_MINUTES" w_MOST_MINUTES
  g_MOST_SLOW : GW K mg "MOST_SLOW" w_MOST_SLOW
  g_SKILLS : GW K mg "SKILLS" w_SKILLS
  g_MOST_HANDS : GW K mg "MOST_HANDS" w_MOST_HANDS
  g_LAST_SHIFT : GW K mg "LAST_SHIFT" w_LAST_SHIFT
  g_MOST_SKILLS : GW K mg "MOST_SKILLS" w_MOST_SKILLS
  g_LAST_SKILL_DAY : GW K mg "LAST_SKILL_DAY" w_LAST_SKILL_DAY
  cl_Ground : Cls K c_Ground
  n_Ground_risks : NoAttr K c_Ground "risks"
  n_Ground_places : NoAttr K c_Ground "places"
  n_Ground_roads : NoAttr K c_Ground "roads"
  n_Ground_stations : NoAttr K c_Ground "stations"
  n_Ground_sorted_places : NoAttr K c_Ground "sorted_places"
  n_Ground_sorted_roads : NoAttr K c_Ground "sorted_roads"
  n_Ground_sorted_stations : NoAttr K c_Ground "sorted_stations"
/-! ### is_whole -/
abbrev s_is_whole : Stmt := topS 7
abbrev N_is_whole : List Str := ["thing"]
theorem sc_is_whole : FnScope N_is_whole ["thing"] (defScope s_is_whole) := ⟨rfl, rfl, rfl, by decide +kernel, rfl, by decide +kernel, by decide +kernel⟩
theorem st_is_whole {x0 : W} : startW N_is_whole [x0] = [some x0] := rfl
def td_is_whole : DS' :=
    (dRet (dAndV (dUn (dIs .int) (dVar 0)) (dNotV (dUn (dIs .bool) (dVar 0)))))
def sp_is_whole : DSp := fun ws S Q _ => ∃ x, ws = [x] ∧ Pl x = true ∧ Q (.bl (whole x)) S
theorem len_is_whole {ws S Q E} (h : sp_is_whole ws S Q E) : ws.length = 1 := by obtain ⟨x, rfl, _⟩ := h; rfl
theorem hd_is_whole (ws S Q E) (h : sp_is_whole ws S Q E) : td_is_whole { nx := fun _ S' => frzQ Q .non S', rt := frzQ Q } ⟨startW N_is_whole ws, XF⟩ S := by
  obtain ⟨x, rfl, d, q⟩ := h
  have q := frzQ.mk q
  cases x <;> first | cases d | skip
  all_goals simp only [whole, td_is_whole] at q ⊢
  all_goals (simp only [↓dFgt, ↓dVar, ↓dC, ↓dOp, ↓dUn, ↓dI, ↓dI0, ↓dSub, ↓dMul, ↓dDiv, ↓dMod, ↓dPow, ↓dAdd, ↓dNeg, ↓dEq, ↓dNe, ↓dLt, ↓dLe, ↓dGt, ↓dGe, ↓dIsN, ↓dNotN, ↓dTru, ↓dTest, ↓dChain, ↓dAnd, ↓dOr, ↓dNot, ↓dAndV, ↓dOrV, ↓dNotV, ↓dIf, ↓dNil, ↓dCons, ↓dTup, ↓dLst, ↓dLstM, ↓dCB, ↓dLen, ↓dAbs, ↓dMax2, ↓dMin2, ↓dAll, ↓dAny, ↓dListOf, ↓dListOfM, ↓dTupOf, ↓dNext, ↓dSeq, ↓dDrop, ↓dRet, ↓dRetN, ↓dIfS, ↓dBrk, ↓dCnt, ↓dSet, ↓dAsgT, ↓dPar2, ↓tbind, ↓tbinds, ↓Om.set, ↓dCall, ↓dIx, ↓dNo, ↓dPart, ↓dSl, ↓dSlr, ↓dBM, ↓dApp, ↓dExt, ↓dSetIx, ↓dIs, ↓dMinS, ↓dMaxS, ↓dJoin, ↓dFrz, ↓dPut, ↓dFld, ↓dSetF, ↓dInt, ↓dIsLT, ↓dRng1, ↓dRng2, ↓dEnum, ↓dZip, ↓dSeqI, view_c_non, view_c_bl, view_c_int, view_c_str, view_c_tup, view_c_lst, view_c_scr, view_c_dct, view_c_ins, ↓startW, ↓wp, ↓wps, ↓dInKD, ↓dNotInKD, ↓dIxKD, ↓dIn, ↓dNotIn, ↓dDg, List.getElem?_cons_zero, List.getElem?_cons_succ, List.set_cons_zero, List.set_cons_succ, List.map_cons, List.map_nil, List.length_cons, List.length_nil, List.replicate_succ, List.replicate_zero, List.nil_append, List.cons_append, Bool.not_true, Bool.not_false, if_true, wkey_int, wkey_str, atI_0, atI_1, atI_2, atI_3, up_same, if_false, Bool.false_eq_true, Bool.true_eq_false, tru_non, isLT_non, isi_int_non, isi_bool_non, isi_str_non, isi_tup_non, isi_lst_non, tru_bl, isLT_bl, isi_int_bl, isi_bool_bl, isi_str_bl, isi_tup_bl, isi_lst_bl, tru_int, isLT_int, isi_int_int, isi_bool_int, isi_str_int, isi_tup_int, isi_lst_int, tru_str, isLT_str, isi_int_str, isi_bool_str, isi_str_str, isi_tup_str, isi_lst_str, tru_tup, isLT_tup, isi_int_tup, isi_bool_tup, isi_str_tup, isi_tup_tup, isi_lst_tup, tru_lst, isLT_lst, isi_int_lst, isi_bool_lst, isi_str_lst, isi_tup_lst, isi_lst_lst, isL_lst, seqW_lst, seqW_tup, seqW_str, seqW_scr, sq2_lst, sq2_tup, inW_sign])
  all_goals exact q
section
variable {P : Program} {w : World} {K : PySem.W.Frag} {mg : Str → Option Value} {base : Heap} {c_Ground : Addr}
theorem ok_is_whole {f : Addr} {fd : FuncData} (F : Fun K "is_whole" "is_whole" s_is_whole f fd) (T : Txt K w mg c_Ground) : FnOk P w K mg base CX0 1 f fd ["thing"] (uSp K (sp_is_whole)) :=
  Fun.okF F sc_is_whole (td_is_whole) (fun cdv A outer s H E hr =>
    (dss_one (ds_ret (de_and (de_isi .int (dv 0) T.z_isinstance T.z_int) (de_one (de_not (de_isi .bool (dv 0) T.z_isinstance T.z_bool))))))) (fun ws S Q E h => len_is_whole h) (hd_is_whole)
end
/-! ### is_whole_within -/
abbrev s_is_whole_within : Stmt := topS 8
abbrev N_is_whole_within : List Str := ["thing", "least", "most"]
theorem sc_is_whole_within : FnScope N_is_whole_within ["thing", "least", "most"] (defScope s_is_whole_within) := ⟨rfl, rfl, rfl, by decide +kernel, rfl, by decide +kernel, by decide +kernel⟩
theorem st_is_whole_within {x0 x1 x2 : W} : startW N_is_whole_within [x0, x1, x2] = [some x0, some x1, some x2] := rfl
def td_is_whole_within : DS' :=
    (dRet (dAndV (dCall sp_is_whole (dCons (dVar 0) dNil)) (dChain dLe dLe (dVar 1) (dVar 0) (dVar 2))))
def sp_is_whole_within : DSp := fun ws S Q _ => ∃ x lo hi, ws = [x, .int lo, .int hi] ∧ Pl x = true ∧ Q (.bl (within lo hi x)) S
theorem len_is_whole_within {ws S Q E} (h : sp_is_whole_within ws S Q E) : ws.length = 3 := by obtain ⟨x, lo, hi, rfl, _⟩ := h; rfl
theorem hd_is_whole_within (ws S Q E) (h : sp_is_whole_within ws S Q E) : td_is_whole_within { nx := fun _ S' => frzQ Q .non S', rt := frzQ Q } ⟨startW N_is_whole_within ws, XF⟩ S := by
  obtain ⟨x, lo, hi, rfl, d, q⟩ := h
  have q := frzQ.mk q
  simp only [st_is_whole_within, td_is_whole_within]
  (simp only [↓dFgt, ↓dVar, ↓dC, ↓dOp, ↓dUn, ↓dI, ↓dI0, ↓dSub, ↓dMul, ↓dDiv, ↓dMod, ↓dPow, ↓dAdd, ↓dNeg, ↓dEq, ↓dNe, ↓dLt, ↓dLe, ↓dGt, ↓dGe, ↓dIsN, ↓dNotN, ↓dTru, ↓dTest, ↓dChain, ↓dAnd, ↓dOr, ↓dNot, ↓dAndV, ↓dOrV, ↓dNotV, ↓dIf, ↓dNil, ↓dCons, ↓dTup, ↓dLst, ↓dLstM, ↓dCB, ↓dLen, ↓dAbs, ↓dMax2, ↓dMin2, ↓dAll, ↓dAny, ↓dListOf, ↓dListOfM, ↓dTupOf, ↓dNext, ↓dSeq, ↓dDrop, ↓dRet, ↓dRetN, ↓dIfS, ↓dBrk, ↓dCnt, ↓dSet, ↓dAsgT, ↓dPar2, ↓tbind, ↓tbinds, ↓Om.set, ↓dCall, ↓dIx, ↓dNo, ↓dPart, ↓dSl, ↓dSlr, ↓dBM, ↓dApp, ↓dExt, ↓dSetIx, ↓dIs, ↓dMinS, ↓dMaxS, ↓dJoin, ↓dFrz, ↓dPut, ↓dFld, ↓dSetF, ↓dInt, ↓dIsLT, ↓dRng1, ↓dRng2, ↓dEnum, ↓dZip, ↓dSeqI, view_c_non, view_c_bl, view_c_int, view_c_str, view_c_tup, view_c_lst, view_c_scr, view_c_dct, view_c_ins, ↓startW, ↓wp, ↓wps, ↓dInKD, ↓dNotInKD, ↓dIxKD, ↓dIn, ↓dNotIn, ↓dDg, List.getElem?_cons_zero, List.getElem?_cons_succ, List.set_cons_zero, List.set_cons_succ, List.map_cons, List.map_nil, List.length_cons, List.length_nil, List.replicate_succ, List.replicate_zero, List.nil_append, List.cons_append, Bool.not_true, Bool.not_false, if_true, wkey_int, wkey_str, atI_0, atI_1, atI_2, atI_3, up_same, if_false, Bool.false_eq_true, Bool.true_eq_false, tru_non, isLT_non, isi_int_non, isi_bool_non, isi_str_non, isi_tup_non, isi_lst_non, tru_bl, isLT_bl, isi_int_bl, isi_bool_bl, isi_str_bl, isi_tup_bl, isi_lst_bl, tru_int, isLT_int, isi_int_int, isi_bool_int, isi_str_int, isi_tup_int, isi_lst_int, tru_str, isLT_str, isi_int_str, isi_bool_str, isi_str_str, isi_tup_str, isi_lst_str, tru_tup, isLT_tup, isi_int_tup, isi_bool_tup, isi_str_tup, isi_tup_tup, isi_lst_tup, tru_lst, isLT_lst, isi_int_lst, isi_bool_lst, isi_str_lst, isi_tup_lst, isi_lst_lst, isL_lst, seqW_lst, seqW_tup, seqW_str, seqW_scr, sq2_lst, sq2_tup, inW_sign])
  refine ⟨x, rfl, d, ?_⟩
  cases x <;> first | cases d | skip
  all_goals simp only [whole, within] at q ⊢
  all_goals (simp only [↓dFgt, ↓dVar, ↓dC, ↓dOp, ↓dUn, ↓dI, ↓dI0, ↓dSub, ↓dMul, ↓dDiv, ↓dMod, ↓dPow, ↓dAdd, ↓dNeg, ↓dEq, ↓dNe, ↓dLt, ↓dLe, ↓dGt, ↓dGe, ↓dIsN, ↓dNotN, ↓dTru, ↓dTest, ↓dChain, ↓dAnd, ↓dOr, ↓dNot, ↓dAndV, ↓dOrV, ↓dNotV, ↓dIf, ↓dNil, ↓dCons, ↓dTup, ↓dLst, ↓dLstM, ↓dCB, ↓dLen, ↓dAbs, ↓dMax2, ↓dMin2, ↓dAll, ↓dAny, ↓dListOf, ↓dListOfM, ↓dTupOf, ↓dNext, ↓dSeq, ↓dDrop, ↓dRet, ↓dRetN, ↓dIfS, ↓dBrk, ↓dCnt, ↓dSet, ↓dAsgT, ↓dPar2, ↓tbind, ↓tbinds, ↓Om.set, ↓dCall, ↓dIx, ↓dNo, ↓dPart, ↓dSl, ↓dSlr, ↓dBM, ↓dApp, ↓dExt, ↓dSetIx, ↓dIs, ↓dMinS, ↓dMaxS, ↓dJoin, ↓dFrz, ↓dPut, ↓dFld, ↓dSetF, ↓dInt, ↓dIsLT, ↓dRng1, ↓dRng2, ↓dEnum, ↓dZip, ↓dSeqI, view_c_non, view_c_bl, view_c_int, view_c_str, view_c_tup, view_c_lst, view_c_scr, view_c_dct, view_c_ins, ↓startW, ↓wp, ↓wps, ↓dInKD, ↓dNotInKD, ↓dIxKD, ↓dIn, ↓dNotIn, ↓dDg, List.getElem?_cons_zero, List.getElem?_cons_succ, List.set_cons_zero, List.set_cons_succ, List.map_cons, List.map_nil, List.length_cons, List.length_nil, List.replicate_succ, List.replicate_zero, List.nil_append, List.cons_append, Bool.not_true, Bool.not_false, if_true, wkey_int, wkey_str, atI_0, atI_1, atI_2, atI_3, up_same, if_false, Bool.false_eq_true, Bool.true_eq_false, tru_non, isLT_non, isi_int_non, isi_bool_non, isi_str_non, isi_tup_non, isi_lst_non, tru_bl, isLT_bl, isi_int_bl, isi_bool_bl, isi_str_bl, isi_tup_bl, isi_lst_bl, tru_int, isLT_int, isi_int_int, isi_bool_int, isi_str_int, isi_tup_int, isi_lst_int, tru_str, isLT_str, isi_int_str, isi_bool_str, isi_str_str, isi_tup_str, isi_lst_str, tru_tup, isLT_tup, isi_int_tup, isi_bool_tup, isi_str_tup, isi_tup_tup, isi_lst_tup, tru_lst, isLT_lst, isi_int_lst, isi_bool_lst, isi_str_lst, isi_tup_lst, isi_lst_lst, isL_lst, seqW_lst, seqW_tup, seqW_str, seqW_scr, sq2_lst, sq2_tup, inW_sign])
  all_goals try exact q
  rename_i i _
  cases c : decide (lo ≤ i) <;> rw [c] at q <;> exact q
section
variable {P : Program} {w : World} {K : PySem.W.Frag} {mg : Str → Option Value} {base : Heap} {c_Ground : Addr}
theorem ok_is_whole_within {f : Addr} {fd : FuncData} (F : Fun K "is_whole_within" "is_whole_within" s_is_whole_within f fd) (T : Txt K w mg c_Ground) (C_is_whole : CalD P w K mg base 1 "is_whole" sp_is_whole) : FnOk P w K mg base CX0 2 f fd ["thing", "least", "most"] (uSp K (sp_is_whole_within)) :=
  Fun.okF F sc_is_whole_within (td_is_whole_within) (fun cdv A outer s H E hr =>
    (dss_one (ds_ret (de_and (de_call C_is_whole hr (da_cons (dv 0) da_nil)) (de_one (de_chain oc_le oc_le (dv 1) (dv 0) (dv 2))))))) (fun ws S Q E h => len_is_whole_within h) (hd_is_whole_within)
end
/-! ### is_tuple_within -/
abbrev s_is_tuple_within : Stmt := topS 10
abbrev N_is_tuple_within : List Str := ["thing", "least", "most"]
theorem sc_is_tuple_within : FnScope N_is_tuple_within ["thing", "least", "most"] (defScope s_is_tuple_within) := ⟨rfl, rfl, rfl, by decide +kernel, rfl, by decide +kernel, by decide +kernel⟩
theorem st_is_tuple_within {x0 x1 x2 : W} : startW N_is_tuple_within [x0, x1, x2] = [some x0, some x1, some x2] := rfl
def td_is_tuple_within : DS' :=
    (dRet (dAndV (dUn (dIs .tup) (dVar 0)) (dChain dLe dLe (dVar 1) (dCB dLen (dCons (dVar 0) dNil)) (dVar 2))))
def sp_is_tuple_within : DSp := fun ws S Q _ => ∃ x lo hi, ws = [x, .int lo, .int hi] ∧ Pl x = true ∧ Q (.bl (tupIn lo hi x)) S
theorem len_is_tuple_within {ws S Q E} (h : sp_is_tuple_within ws S Q E) : ws.length = 3 := by obtain ⟨x, lo, hi, rfl, _⟩ := h; rfl
theorem hd_is_tuple_within (ws S Q E) (h : sp_is_tuple_within ws S Q E) : td_is_tuple_within { nx := fun _ S' => frzQ Q .non S', rt := frzQ Q } ⟨startW N_is_tuple_within ws, XF⟩ S := by
  obtain ⟨x, lo, hi, rfl, d, q⟩ := h
  have q := frzQ.mk q
  cases x <;> first | cases d | skip
  all_goals simp only [st_is_tuple_within, td_is_tuple_within, tupIn] at q ⊢
  all_goals (simp only [↓dFgt, ↓dVar, ↓dC, ↓dOp, ↓dUn, ↓dI, ↓dI0, ↓dSub, ↓dMul, ↓dDiv, ↓dMod, ↓dPow, ↓dAdd, ↓dNeg, ↓dEq, ↓dNe, ↓dLt, ↓dLe, ↓dGt, ↓dGe, ↓dIsN, ↓dNotN, ↓dTru, ↓dTest, ↓dChain, ↓dAnd, ↓dOr, ↓dNot, ↓dAndV, ↓dOrV, ↓dNotV, ↓dIf, ↓dNil, ↓dCons, ↓dTup, ↓dLst, ↓dLstM, ↓dCB, ↓dLen, ↓dAbs, ↓dMax2, ↓dMin2, ↓dAll, ↓dAny, ↓dListOf, ↓dListOfM, ↓dTupOf, ↓dNext, ↓dSeq, ↓dDrop, ↓dRet, ↓dRetN, ↓dIfS, ↓dBrk, ↓dCnt, ↓dSet, ↓dAsgT, ↓dPar2, ↓tbind, ↓tbinds, ↓Om.set, ↓dCall, ↓dIx, ↓dNo, ↓dPart, ↓dSl, ↓dSlr, ↓dBM, ↓dApp, ↓dExt, ↓dSetIx, ↓dIs, ↓dMinS, ↓dMaxS, ↓dJoin, ↓dFrz, ↓dPut, ↓dFld, ↓dSetF, ↓dInt, ↓dIsLT, ↓dRng1, ↓dRng2, ↓dEnum, ↓dZip, ↓dSeqI, view_c_non, view_c_bl, view_c_int, view_c_str, view_c_tup, view_c_lst, view_c_scr, view_c_dct, view_c_ins, ↓startW, ↓wp, ↓wps, ↓dInKD, ↓dNotInKD, ↓dIxKD, ↓dIn, ↓dNotIn, ↓dDg, List.getElem?_cons_zero, List.getElem?_cons_succ, List.set_cons_zero, List.set_cons_succ, List.map_cons, List.map_nil, List.length_cons, List.length_nil, List.replicate_succ, List.replicate_zero, List.nil_append, List.cons_append, Bool.not_true, Bool.not_false, if_true, wkey_int, wkey_str, atI_0, atI_1, atI_2, atI_3, up_same, if_false, Bool.false_eq_true, Bool.true_eq_false, tru_non, isLT_non, isi_int_non, isi_bool_non, isi_str_non, isi_tup_non, isi_lst_non, tru_bl, isLT_bl, isi_int_bl, isi_bool_bl, isi_str_bl, isi_tup_bl, isi_lst_bl, tru_int, isLT_int, isi_int_int, isi_bool_int, isi_str_int, isi_tup_int, isi_lst_int, tru_str, isLT_str, isi_int_str, isi_bool_str, isi_str_str, isi_tup_str, isi_lst_str, tru_tup, isLT_tup, isi_int_tup, isi_bool_tup, isi_str_tup, isi_tup_tup, isi_lst_tup, tru_lst, isLT_lst, isi_int_lst, isi_bool_lst, isi_str_lst, isi_tup_lst, isi_lst_lst, isL_lst, seqW_lst, seqW_tup, seqW_str, seqW_scr, sq2_lst, sq2_tup, inW_sign])
  all_goals try exact q
  rename_i xs _
  cases c : decide (lo ≤ (xs.length : Int)) <;> rw [c] at q <;> exact q
section
variable {P : Program} {w : World} {K : PySem.W.Frag} {mg : Str → Option Value} {base : Heap} {c_Ground : Addr}
theorem ok_is_tuple_within {f : Addr} {fd : FuncData} (F : Fun K "is_tuple_within" "is_tuple_within" s_is_tuple_within f fd) (T : Txt K w mg c_Ground) : FnOk P w K mg base CX0 1 f fd ["thing", "least", "most"] (uSp K (sp_is_tuple_within)) :=
  Fun.okF F sc_is_tuple_within (td_is_tuple_within) (fun cdv A outer s H E hr =>
    (dss_one (ds_ret (de_and (de_isi .tup (dv 0) T.z_isinstance T.z_tuple) (de_one (de_chain oc_le oc_le (dv 1) (de_callB cd_len T.z_len (da_cons (dv 0) da_nil)) (dv 2))))))) (fun ws S Q E h => len_is_tuple_within h) (hd_is_tuple_within)
end
/-! ### is_name -/
abbrev s_is_name : Stmt := topS 9
abbrev N_is_name : List Str := ["thing", "sign"]
theorem sc_is_name : FnScope N_is_name ["thing"] (defScope s_is_name) := ⟨rfl, rfl, rfl, by decide +kernel, rfl, by decide +kernel, by decide +kernel⟩
theorem st_is_name {x0 : W} : startW N_is_name [x0] = [some x0, none] := rfl
def td_is_name : DS' :=
    (dSeq (dIfS (dOr (dNot (dTru (dUn (dIs .str) (dVar 0)))) (dNot (dTest (dChain dLe dLe (dC (.int 1)) (dCB dLen (dCons (dVar 0) dNil)) (dC w_LONGEST_NAME))))) (dRet (dC (.bl false))) dNext)
    (dRet (dCB dAll (dCons (dLc (dSeqI (dVar 0)) (.nm 1) dYes (dOp dIn (dVar 1) (dC w_LETTERS)) [1]) dNil))))
def sp_is_name : DSp := fun ws S Q _ => ∃ x, ws = [x] ∧ Pl x = true ∧ Q (.bl (isName x)) S
theorem len_is_name {ws S Q E} (h : sp_is_name ws S Q E) : ws.length = 1 := by obtain ⟨x, rfl, _⟩ := h; rfl
theorem hd_is_name (ws S Q E) (h : sp_is_name ws S Q E) : td_is_name { nx := fun _ S' => frzQ Q .non S', rt := frzQ Q } ⟨startW N_is_name ws, XF⟩ S := by
  obtain ⟨x, rfl, d, q⟩ := h
  have q := frzQ.mk q
  cases x <;> first | cases d | skip
  all_goals simp only [st_is_name, td_is_name, isName] at q ⊢
  all_goals (simp only [↓dFgt, ↓dVar, ↓dC, ↓dOp, ↓dUn, ↓dI, ↓dI0, ↓dSub, ↓dMul, ↓dDiv, ↓dMod, ↓dPow, ↓dAdd, ↓dNeg, ↓dEq, ↓dNe, ↓dLt, ↓dLe, ↓dGt, ↓dGe, ↓dIsN, ↓dNotN, ↓dTru, ↓dTest, ↓dChain, ↓dAnd, ↓dOr, ↓dNot, ↓dAndV, ↓dOrV, ↓dNotV, ↓dIf, ↓dNil, ↓dCons, ↓dTup, ↓dLst, ↓dLstM, ↓dCB, ↓dLen, ↓dAbs, ↓dMax2, ↓dMin2, ↓dAll, ↓dAny, ↓dListOf, ↓dListOfM, ↓dTupOf, ↓dNext, ↓dSeq, ↓dDrop, ↓dRet, ↓dRetN, ↓dIfS, ↓dBrk, ↓dCnt, ↓dSet, ↓dAsgT, ↓dPar2, ↓tbind, ↓tbinds, ↓Om.set, ↓dCall, ↓dIx, ↓dNo, ↓dPart, ↓dSl, ↓dSlr, ↓dBM, ↓dApp, ↓dExt, ↓dSetIx, ↓dIs, ↓dMinS, ↓dMaxS, ↓dJoin, ↓dFrz, ↓dPut, ↓dFld, ↓dSetF, ↓dInt, ↓dIsLT, ↓dRng1, ↓dRng2, ↓dEnum, ↓dZip, ↓dSeqI, view_c_non, view_c_bl, view_c_int, view_c_str, view_c_tup, view_c_lst, view_c_scr, view_c_dct, view_c_ins, ↓startW, ↓wp, ↓wps, ↓dInKD, ↓dNotInKD, ↓dIxKD, ↓dIn, ↓dNotIn, ↓dDg, List.getElem?_cons_zero, List.getElem?_cons_succ, List.set_cons_zero, List.set_cons_succ, List.map_cons, List.map_nil, List.length_cons, List.length_nil, List.replicate_succ, List.replicate_zero, List.nil_append, List.cons_append, Bool.not_true, Bool.not_false, if_true, wkey_int, wkey_str, atI_0, atI_1, atI_2, atI_3, up_same, if_false, Bool.false_eq_true, Bool.true_eq_false, tru_non, isLT_non, isi_int_non, isi_bool_non, isi_str_non, isi_tup_non, isi_lst_non, tru_bl, isLT_bl, isi_int_bl, isi_bool_bl, isi_str_bl, isi_tup_bl, isi_lst_bl, tru_int, isLT_int, isi_int_int, isi_bool_int, isi_str_int, isi_tup_int, isi_lst_int, tru_str, isLT_str, isi_int_str, isi_bool_str, isi_str_str, isi_tup_str, isi_lst_str, tru_tup, isLT_tup, isi_int_tup, isi_bool_tup, isi_str_tup, isi_tup_tup, isi_lst_tup, tru_lst, isLT_lst, isi_int_lst, isi_bool_lst, isi_str_lst, isi_tup_lst, isi_lst_lst, isL_lst, seqW_lst, seqW_tup, seqW_str, seqW_scr, sq2_lst, sq2_tup, inW_sign])
  all_goals try exact q
  rename_i x _
  by_cases c1 : 1 ≤ x.length
  · have e1 : decide ((1 : Int) ≤ (x.length : Int)) = true := decide_eq_true (by omega)
    have e1' : decide (1 ≤ x.length) = true := by simpa using c1
    rw [e1'] at q
    rw [e1]
    by_cases c2 : x.length ≤ 8
    · have e2 : decide ((x.length : Int) ≤ 8) = true := decide_eq_true (by omega)
      have e2' : decide (x.length ≤ 8) = true := decide_eq_true c2
      rw [e2'] at q
      simp only [e2]
      (simp only [↓dFgt, ↓dVar, ↓dC, ↓dOp, ↓dUn, ↓dI, ↓dI0, ↓dSub, ↓dMul, ↓dDiv, ↓dMod, ↓dPow, ↓dAdd, ↓dNeg, ↓dEq, ↓dNe, ↓dLt, ↓dLe, ↓dGt, ↓dGe, ↓dIsN, ↓dNotN, ↓dTru, ↓dTest, ↓dChain, ↓dAnd, ↓dOr, ↓dNot, ↓dAndV, ↓dOrV, ↓dNotV, ↓dIf, ↓dNil, ↓dCons, ↓dTup, ↓dLst, ↓dLstM, ↓dCB, ↓dLen, ↓dAbs, ↓dMax2, ↓dMin2, ↓dAll, ↓dAny, ↓dListOf, ↓dListOfM, ↓dTupOf, ↓dNext, ↓dSeq, ↓dDrop, ↓dRet, ↓dRetN, ↓dIfS, ↓dBrk, ↓dCnt, ↓dSet, ↓dAsgT, ↓dPar2, ↓tbind, ↓tbinds, ↓Om.set, ↓dCall, ↓dIx, ↓dNo, ↓dPart, ↓dSl, ↓dSlr, ↓dBM, ↓dApp, ↓dExt, ↓dSetIx, ↓dIs, ↓dMinS, ↓dMaxS, ↓dJoin, ↓dFrz, ↓dPut, ↓dFld, ↓dSetF, ↓dInt, ↓dIsLT, ↓dRng1, ↓dRng2, ↓dEnum, ↓dZip, ↓dSeqI, view_c_non, view_c_bl, view_c_int, view_c_str, view_c_tup, view_c_lst, view_c_scr, view_c_dct, view_c_ins, ↓startW, ↓wp, ↓wps, ↓dInKD, ↓dNotInKD, ↓dIxKD, ↓dIn, ↓dNotIn, ↓dDg, List.getElem?_cons_zero, List.getElem?_cons_succ, List.set_cons_zero, List.set_cons_succ, List.map_cons, List.map_nil, List.length_cons, List.length_nil, List.replicate_succ, List.replicate_zero, List.nil_append, List.cons_append, Bool.not_true, Bool.not_false, if_true, wkey_int, wkey_str, atI_0, atI_1, atI_2, atI_3, up_same, if_false, Bool.false_eq_true, Bool.true_eq_false, tru_non, isLT_non, isi_int_non, isi_bool_non, isi_str_non, isi_tup_non, isi_lst_non, tru_bl, isLT_bl, isi_int_bl, isi_bool_bl, isi_str_bl, isi_tup_bl, isi_lst_bl, tru_int, isLT_int, isi_int_int, isi_bool_int, isi_str_int, isi_tup_int, isi_lst_int, tru_str, isLT_str, isi_int_str, isi_bool_str, isi_str_str, isi_tup_str, isi_lst_str, tru_tup, isLT_tup, isi_int_tup, isi_bool_tup, isi_str_tup, isi_tup_tup, isi_lst_tup, tru_lst, isLT_lst, isi_int_lst, isi_bool_lst, isi_str_lst, isi_tup_lst, isi_lst_lst, isL_lst, seqW_lst, seqW_tup, seqW_str, seqW_scr, sq2_lst, sq2_tup, inW_sign])
      refine lcMs (w := .str x) (fun _ h => h) rfl (fun w => .bl (sgn w)) ?_ (fun p acc hp => rfl) (fun w hw => ?_) ?_
      · rw [List.length_map, Array.length_toList]; exact Nat.le_trans c2 (by decide)
      · obtain ⟨c, _, rfl⟩ := List.mem_map.mp hw
        refine ⟨_, rfl, fun p acc hp Qe q => ?_⟩
        (simp only [↓dFgt, ↓dVar, ↓dC, ↓dOp, ↓dUn, ↓dI, ↓dI0, ↓dSub, ↓dMul, ↓dDiv, ↓dMod, ↓dPow, ↓dAdd, ↓dNeg, ↓dEq, ↓dNe, ↓dLt, ↓dLe, ↓dGt, ↓dGe, ↓dIsN, ↓dNotN, ↓dTru, ↓dTest, ↓dChain, ↓dAnd, ↓dOr, ↓dNot, ↓dAndV, ↓dOrV, ↓dNotV, ↓dIf, ↓dNil, ↓dCons, ↓dTup, ↓dLst, ↓dLstM, ↓dCB, ↓dLen, ↓dAbs, ↓dMax2, ↓dMin2, ↓dAll, ↓dAny, ↓dListOf, ↓dListOfM, ↓dTupOf, ↓dNext, ↓dSeq, ↓dDrop, ↓dRet, ↓dRetN, ↓dIfS, ↓dBrk, ↓dCnt, ↓dSet, ↓dAsgT, ↓dPar2, ↓tbind, ↓tbinds, ↓Om.set, ↓dCall, ↓dIx, ↓dNo, ↓dPart, ↓dSl, ↓dSlr, ↓dBM, ↓dApp, ↓dExt, ↓dSetIx, ↓dIs, ↓dMinS, ↓dMaxS, ↓dJoin, ↓dFrz, ↓dPut, ↓dFld, ↓dSetF, ↓dInt, ↓dIsLT, ↓dRng1, ↓dRng2, ↓dEnum, ↓dZip, ↓dSeqI, view_c_non, view_c_bl, view_c_int, view_c_str, view_c_tup, view_c_lst, view_c_scr, view_c_dct, view_c_ins, ↓startW, ↓wp, ↓wps, ↓dInKD, ↓dNotInKD, ↓dIxKD, ↓dIn, ↓dNotIn, ↓dDg, List.getElem?_cons_zero, List.getElem?_cons_succ, List.set_cons_zero, List.set_cons_succ, List.map_cons, List.map_nil, List.length_cons, List.length_nil, List.replicate_succ, List.replicate_zero, List.nil_append, List.cons_append, Bool.not_true, Bool.not_false, if_true, wkey_int, wkey_str, atI_0, atI_1, atI_2, atI_3, up_same, if_false, Bool.false_eq_true, Bool.true_eq_false, tru_non, isLT_non, isi_int_non, isi_bool_non, isi_str_non, isi_tup_non, isi_lst_non, tru_bl, isLT_bl, isi_int_bl, isi_bool_bl, isi_str_bl, isi_tup_bl, isi_lst_bl, tru_int, isLT_int, isi_int_int, isi_bool_int, isi_str_int, isi_tup_int, isi_lst_int, tru_str, isLT_str, isi_int_str, isi_bool_str, isi_str_str, isi_tup_str, isi_lst_str, tru_tup, isLT_tup, isi_int_tup, isi_bool_tup, isi_str_tup, isi_tup_tup, isi_lst_tup, tru_lst, isLT_lst, isi_int_lst, isi_bool_lst, isi_str_lst, isi_tup_lst, isi_lst_lst, isL_lst, seqW_lst, seqW_tup, seqW_str, seqW_scr, sq2_lst, sq2_tup, inW_sign])
        rw [az_iff]
        exact q
      · (simp only [↓dFgt, ↓dVar, ↓dC, ↓dOp, ↓dUn, ↓dI, ↓dI0, ↓dSub, ↓dMul, ↓dDiv, ↓dMod, ↓dPow, ↓dAdd, ↓dNeg, ↓dEq, ↓dNe, ↓dLt, ↓dLe, ↓dGt, ↓dGe, ↓dIsN, ↓dNotN, ↓dTru, ↓dTest, ↓dChain, ↓dAnd, ↓dOr, ↓dNot, ↓dAndV, ↓dOrV, ↓dNotV, ↓dIf, ↓dNil, ↓dCons, ↓dTup, ↓dLst, ↓dLstM, ↓dCB, ↓dLen, ↓dAbs, ↓dMax2, ↓dMin2, ↓dAll, ↓dAny, ↓dListOf, ↓dListOfM, ↓dTupOf, ↓dNext, ↓dSeq, ↓dDrop, ↓dRet, ↓dRetN, ↓dIfS, ↓dBrk, ↓dCnt, ↓dSet, ↓dAsgT, ↓dPar2, ↓tbind, ↓tbinds, ↓Om.set, ↓dCall, ↓dIx, ↓dNo, ↓dPart, ↓dSl, ↓dSlr, ↓dBM, ↓dApp, ↓dExt, ↓dSetIx, ↓dIs, ↓dMinS, ↓dMaxS, ↓dJoin, ↓dFrz, ↓dPut, ↓dFld, ↓dSetF, ↓dInt, ↓dIsLT, ↓dRng1, ↓dRng2, ↓dEnum, ↓dZip, ↓dSeqI, view_c_non, view_c_bl, view_c_int, view_c_str, view_c_tup, view_c_lst, view_c_scr, view_c_dct, view_c_ins, ↓startW, ↓wp, ↓wps, ↓dInKD, ↓dNotInKD, ↓dIxKD, ↓dIn, ↓dNotIn, ↓dDg, List.getElem?_cons_zero, List.getElem?_cons_succ, List.set_cons_zero, List.set_cons_succ, List.map_cons, List.map_nil, List.length_cons, List.length_nil, List.replicate_succ, List.replicate_zero, List.nil_append, List.cons_append, Bool.not_true, Bool.not_false, if_true, wkey_int, wkey_str, atI_0, atI_1, atI_2, atI_3, up_same, if_false, Bool.false_eq_true, Bool.true_eq_false, tru_non, isLT_non, isi_int_non, isi_bool_non, isi_str_non, isi_tup_non, isi_lst_non, tru_bl, isLT_bl, isi_int_bl, isi_bool_bl, isi_str_bl, isi_tup_bl, isi_lst_bl, tru_int, isLT_int, isi_int_int, isi_bool_int, isi_str_int, isi_tup_int, isi_lst_int, tru_str, isLT_str, isi_int_str, isi_bool_str, isi_str_str, isi_tup_str, isi_lst_str, tru_tup, isLT_tup, isi_int_tup, isi_bool_tup, isi_str_tup, isi_tup_tup, isi_lst_tup, tru_lst, isLT_lst, isi_int_lst, isi_bool_lst, isi_str_lst, isi_tup_lst, isi_lst_lst, isL_lst, seqW_lst, seqW_tup, seqW_str, seqW_scr, sq2_lst, sq2_tup, inW_sign])
        have e3 : (x.cps.toList.map fun c => W.str ⟨#[c]⟩).map (fun w => W.bl (sgn w)) = (x.cps.toList.map az).map W.bl := by rw [List.map_map, List.map_map]; rfl
        rw [e3, bls_map]
        have e4 : (x.cps.toList.map az).all id = x.cps.toList.all az := by rw [List.all_map]; rfl
        rw [Bool.true_and, Bool.true_and] at q
        show frzQ Q (.bl ((x.cps.toList.map az).all id)) S
        rw [e4]
        exact q
    · have e2 : decide ((x.length : Int) ≤ 8) = false := decide_eq_false (by omega)
      have e2' : decide (x.length ≤ 8) = false := decide_eq_false c2
      rw [e2'] at q
      simp only [e2]
      exact q
  · have e1 : decide ((1 : Int) ≤ (x.length : Int)) = false := decide_eq_false (by omega)
    have e1' : decide (1 ≤ x.length) = false := decide_eq_false c1
    rw [e1'] at q
    rw [e1]
    exact q
section
variable {P : Program} {w : World} {K : PySem.W.Frag} {mg : Str → Option Value} {base : Heap} {c_Ground : Addr}
theorem ok_is_name {f : Addr} {fd : FuncData} (F : Fun K "is_name" "is_name" s_is_name f fd) (T : Txt K w mg c_Ground) : FnOk P w K mg base CX0 1 f fd ["thing"] (uSp K (sp_is_name)) :=
  Fun.okF F sc_is_name (td_is_name) (fun cdv A outer s H E hr =>
    (dss_cons (ds_if (PW.pt (dw_or (dt_not (dt_tru (de_isi .str (dv 0) T.z_isinstance T.z_str))) (dw_or1 (dt_not (dt_chain oc_le oc_le de_int (de_callB cd_len T.z_len (da_cons (dv 0) da_nil)) (de_glob T.g_LONGEST_NAME)))))) (dss_one (ds_ret de_bl)) dss_nil)
    (dss_one (ds_ret (de_callB cd_all T.z_all (da_cons (de_lc (own := [("sign", 1)]) sc_is_name.nd (di_seq (dv 0)) (blkOk_by (own := [("sign", 1)]) (N := N_is_name) (sc := defScope s_is_name) (by decide +kernel)) (fun _ _ _ _ _ => (dg_nm (i := 1) sc_is_name.nd)) (fun _ _ _ _ _ => dts_nil) (fun _ _ _ _ _ => (de_cmp (oc_in hr) (dv 1) (de_glob T.g_LETTERS)))) da_nil)))))) (fun ws S Q E h => len_is_name h) (hd_is_name)
end
end DL

set_option Elab.async false
set_option linter.all false
set_option maxRecDepth 100000
set_option maxHeartbeats 4000000
namespace DL
open PySem PySem.Spec PyProof.Rows L2
/-! ### ends_of -/
abbrev s_ends_of : Stmt := topS 22
abbrev N_ends_of : List Str := ["road"]
theorem sc_ends_of : FnScope N_ends_of ["road"] (defScope s_ends_of) := ⟨rfl, rfl, rfl, by decide +kernel, rfl, by decide +kernel, by decide +kernel⟩
theorem st_ends_of {x0 : W} : startW N_ends_of [x0] = [some x0] := rfl
def td_ends_of : DS' :=
    (dRet (dTupM (dCons (dCB dMinS (dCons (dOp dIx (dVar 0) (dC (.int 0))) (dCons (dOp dIx (dVar 0) (dC (.int 1))) dNil))) (dCons (dCB dMaxS (dCons (dOp dIx (dVar 0) (dC (.int 0))) (dCons (dOp dIx (dVar 0) (dC (.int 1))) dNil))) dNil))))
def sp_ends_of : DSp := fun ws S Q _ => ∃ a b m s, ws = [roadW a b m s] ∧ ∀ p, S p = none → Q (.ref p) (up S p (.tup [.str (minS a b), .str (maxS a b)]))
theorem len_ends_of {ws S Q E} (h : sp_ends_of ws S Q E) : ws.length = 1 := by obtain ⟨a, b, m, s, rfl, _⟩ := h; rfl
theorem hd_ends_of (ws S Q E) (h : sp_ends_of ws S Q E) : td_ends_of { nx := fun _ S' => frzQ Q .non S', rt := frzQ Q } ⟨startW N_ends_of ws, XF⟩ S := by
  obtain ⟨a, b, m, s, rfl, q⟩ := h
  simp only [st_ends_of, td_ends_of, roadW]
  (simp only [↓dFgt, ↓dVar, ↓dC, ↓dOp, ↓dUn, ↓dI, ↓dI0, ↓dSub, ↓dMul, ↓dDiv, ↓dMod, ↓dPow, ↓dAdd, ↓dNeg, ↓dEq, ↓dNe, ↓dLt, ↓dLe, ↓dGt, ↓dGe, ↓dIsN, ↓dNotN, ↓dTru, ↓dTest, ↓dChain, ↓dAnd, ↓dOr, ↓dNot, ↓dAndV, ↓dOrV, ↓dNotV, ↓dIf, ↓dNil, ↓dCons, ↓dTup, ↓dLst, ↓dLstM, ↓dCB, ↓dLen, ↓dAbs, ↓dMax2, ↓dMin2, ↓dAll, ↓dAny, ↓dListOf, ↓dListOfM, ↓dTupOf, ↓dNext, ↓dSeq, ↓dDrop, ↓dRet, ↓dRetN, ↓dIfS, ↓dBrk, ↓dCnt, ↓dSet, ↓dAsgT, ↓dPar2, ↓tbind, ↓tbinds, ↓Om.set, ↓dCall, ↓dIx, ↓dNo, ↓dPart, ↓dSl, ↓dSlr, ↓dBM, ↓dApp, ↓dExt, ↓dSetIx, ↓dIs, ↓dMinS, ↓dMaxS, ↓dJoin, ↓dFrz, ↓dPut, ↓dFld, ↓dSetF, ↓dInt, ↓dIsLT, ↓dRng1, ↓dRng2, ↓dEnum, ↓dZip, ↓dSeqI, view_c_non, view_c_bl, view_c_int, view_c_str, view_c_tup, view_c_lst, view_c_scr, view_c_dct, view_c_ins, ↓startW, ↓wp, ↓wps, ↓dInKD, ↓dNotInKD, ↓dIxKD, ↓dIn, ↓dNotIn, ↓dDg, List.getElem?_cons_zero, List.getElem?_cons_succ, List.set_cons_zero, List.set_cons_succ, List.map_cons, List.map_nil, List.length_cons, List.length_nil, List.replicate_succ, List.replicate_zero, List.nil_append, List.cons_append, Bool.not_true, Bool.not_false, if_true, wkey_int, wkey_str, atI_0, atI_1, atI_2, atI_3, up_same, if_false, Bool.false_eq_true, Bool.true_eq_false, tru_non, isLT_non, isi_int_non, isi_bool_non, isi_str_non, isi_tup_non, isi_lst_non, tru_bl, isLT_bl, isi_int_bl, isi_bool_bl, isi_str_bl, isi_tup_bl, isi_lst_bl, tru_int, isLT_int, isi_int_int, isi_bool_int, isi_str_int, isi_tup_int, isi_lst_int, tru_str, isLT_str, isi_int_str, isi_bool_str, isi_str_str, isi_tup_str, isi_lst_str, tru_tup, isLT_tup, isi_int_tup, isi_bool_tup, isi_str_tup, isi_tup_tup, isi_lst_tup, tru_lst, isLT_lst, isi_int_lst, isi_bool_lst, isi_str_lst, isi_tup_lst, isi_lst_lst, isL_lst, seqW_lst, seqW_tup, seqW_str, seqW_scr, sq2_lst, sq2_tup, inW_sign])
  exact ⟨by show 2 < 1000000; decide, fun p hp => frzQ.mk (q p hp)⟩
section
variable {P : Program} {w : World} {K : PySem.W.Frag} {mg : Str → Option Value} {base : Heap} {c_Ground : Addr}
theorem ok_ends_of {f : Addr} {fd : FuncData} (F : Fun K "ends_of" "ends_of" s_ends_of f fd) (T : Txt K w mg c_Ground) : FnOk P w K mg base CX0 1 f fd ["road"] (uSp K (sp_ends_of)) :=
  Fun.okF F sc_ends_of (td_ends_of) (fun cdv A outer s H E hr =>
    (dss_one (ds_ret (de_tupM (da_cons (de_callB cd_minS T.z_min (da_cons (de_ix (dv 0) de_int) (da_cons (de_ix (dv 0) de_int) da_nil))) (da_cons (de_callB cd_maxS T.z_max (da_cons (de_ix (dv 0) de_int) (da_cons (de_ix (dv 0) de_int) da_nil))) da_nil)))))) (fun ws S Q E h => len_ends_of h) (hd_ends_of)
end
/-! ### is_place_among -/
abbrev s_is_place_among : Stmt := topS 23
abbrev N_is_place_among : List Str := ["risks", "thing"]
theorem sc_is_place_among : FnScope N_is_place_among ["risks", "thing"] (defScope s_is_place_among) := ⟨rfl, rfl, rfl, by decide +kernel, rfl, by decide +kernel, by decide +kernel⟩
theorem st_is_place_among {x0 x1 : W} : startW N_is_place_among [x0, x1] = [some x0, some x1] := rfl
def td_is_place_among : DS' :=
    (dRet (dAndV (dCall sp_is_name (dCons (dVar 1) dNil)) (dOp dIn (dVar 1) (dVar 0))))
def sp_is_place_among : DSp := fun ws S Q _ => ∃ ps x, ws = [risksW ps, x] ∧ Pl x = true ∧ Q (.bl (isName x && isPl ps x)) S
theorem len_is_place_among {ws S Q E} (h : sp_is_place_among ws S Q E) : ws.length = 2 := by obtain ⟨ps, x, rfl, _⟩ := h; rfl
theorem hd_is_place_among (ws S Q E) (h : sp_is_place_among ws S Q E) : td_is_place_among { nx := fun _ S' => frzQ Q .non S', rt := frzQ Q } ⟨startW N_is_place_among ws, XF⟩ S := by
  obtain ⟨ps, x, rfl, d, q⟩ := h
  have q := frzQ.mk q
  simp only [st_is_place_among, td_is_place_among]
  (simp only [↓dFgt, ↓dVar, ↓dC, ↓dOp, ↓dUn, ↓dI, ↓dI0, ↓dSub, ↓dMul, ↓dDiv, ↓dMod, ↓dPow, ↓dAdd, ↓dNeg, ↓dEq, ↓dNe, ↓dLt, ↓dLe, ↓dGt, ↓dGe, ↓dIsN, ↓dNotN, ↓dTru, ↓dTest, ↓dChain, ↓dAnd, ↓dOr, ↓dNot, ↓dAndV, ↓dOrV, ↓dNotV, ↓dIf, ↓dNil, ↓dCons, ↓dTup, ↓dLst, ↓dLstM, ↓dCB, ↓dLen, ↓dAbs, ↓dMax2, ↓dMin2, ↓dAll, ↓dAny, ↓dListOf, ↓dListOfM, ↓dTupOf, ↓dNext, ↓dSeq, ↓dDrop, ↓dRet, ↓dRetN, ↓dIfS, ↓dBrk, ↓dCnt, ↓dSet, ↓dAsgT, ↓dPar2, ↓tbind, ↓tbinds, ↓Om.set, ↓dCall, ↓dIx, ↓dNo, ↓dPart, ↓dSl, ↓dSlr, ↓dBM, ↓dApp, ↓dExt, ↓dSetIx, ↓dIs, ↓dMinS, ↓dMaxS, ↓dJoin, ↓dFrz, ↓dPut, ↓dFld, ↓dSetF, ↓dInt, ↓dIsLT, ↓dRng1, ↓dRng2, ↓dEnum, ↓dZip, ↓dSeqI, view_c_non, view_c_bl, view_c_int, view_c_str, view_c_tup, view_c_lst, view_c_scr, view_c_dct, view_c_ins, ↓startW, ↓wp, ↓wps, ↓dInKD, ↓dNotInKD, ↓dIxKD, ↓dIn, ↓dNotIn, ↓dDg, List.getElem?_cons_zero, List.getElem?_cons_succ, List.set_cons_zero, List.set_cons_succ, List.map_cons, List.map_nil, List.length_cons, List.length_nil, List.replicate_succ, List.replicate_zero, List.nil_append, List.cons_append, Bool.not_true, Bool.not_false, if_true, wkey_int, wkey_str, atI_0, atI_1, atI_2, atI_3, up_same, if_false, Bool.false_eq_true, Bool.true_eq_false, tru_non, isLT_non, isi_int_non, isi_bool_non, isi_str_non, isi_tup_non, isi_lst_non, tru_bl, isLT_bl, isi_int_bl, isi_bool_bl, isi_str_bl, isi_tup_bl, isi_lst_bl, tru_int, isLT_int, isi_int_int, isi_bool_int, isi_str_int, isi_tup_int, isi_lst_int, tru_str, isLT_str, isi_int_str, isi_bool_str, isi_str_str, isi_tup_str, isi_lst_str, tru_tup, isLT_tup, isi_int_tup, isi_bool_tup, isi_str_tup, isi_tup_tup, isi_lst_tup, tru_lst, isLT_lst, isi_int_lst, isi_bool_lst, isi_str_lst, isi_tup_lst, isi_lst_lst, isL_lst, seqW_lst, seqW_tup, seqW_str, seqW_scr, sq2_lst, sq2_tup, inW_sign])
  refine ⟨x, rfl, d, ?_⟩
  (simp only [↓dFgt, ↓dVar, ↓dC, ↓dOp, ↓dUn, ↓dI, ↓dI0, ↓dSub, ↓dMul, ↓dDiv, ↓dMod, ↓dPow, ↓dAdd, ↓dNeg, ↓dEq, ↓dNe, ↓dLt, ↓dLe, ↓dGt, ↓dGe, ↓dIsN, ↓dNotN, ↓dTru, ↓dTest, ↓dChain, ↓dAnd, ↓dOr, ↓dNot, ↓dAndV, ↓dOrV, ↓dNotV, ↓dIf, ↓dNil, ↓dCons, ↓dTup, ↓dLst, ↓dLstM, ↓dCB, ↓dLen, ↓dAbs, ↓dMax2, ↓dMin2, ↓dAll, ↓dAny, ↓dListOf, ↓dListOfM, ↓dTupOf, ↓dNext, ↓dSeq, ↓dDrop, ↓dRet, ↓dRetN, ↓dIfS, ↓dBrk, ↓dCnt, ↓dSet, ↓dAsgT, ↓dPar2, ↓tbind, ↓tbinds, ↓Om.set, ↓dCall, ↓dIx, ↓dNo, ↓dPart, ↓dSl, ↓dSlr, ↓dBM, ↓dApp, ↓dExt, ↓dSetIx, ↓dIs, ↓dMinS, ↓dMaxS, ↓dJoin, ↓dFrz, ↓dPut, ↓dFld, ↓dSetF, ↓dInt, ↓dIsLT, ↓dRng1, ↓dRng2, ↓dEnum, ↓dZip, ↓dSeqI, view_c_non, view_c_bl, view_c_int, view_c_str, view_c_tup, view_c_lst, view_c_scr, view_c_dct, view_c_ins, ↓startW, ↓wp, ↓wps, ↓dInKD, ↓dNotInKD, ↓dIxKD, ↓dIn, ↓dNotIn, ↓dDg, List.getElem?_cons_zero, List.getElem?_cons_succ, List.set_cons_zero, List.set_cons_succ, List.map_cons, List.map_nil, List.length_cons, List.length_nil, List.replicate_succ, List.replicate_zero, List.nil_append, List.cons_append, Bool.not_true, Bool.not_false, if_true, wkey_int, wkey_str, atI_0, atI_1, atI_2, atI_3, up_same, if_false, Bool.false_eq_true, Bool.true_eq_false, tru_non, isLT_non, isi_int_non, isi_bool_non, isi_str_non, isi_tup_non, isi_lst_non, tru_bl, isLT_bl, isi_int_bl, isi_bool_bl, isi_str_bl, isi_tup_bl, isi_lst_bl, tru_int, isLT_int, isi_int_int, isi_bool_int, isi_str_int, isi_tup_int, isi_lst_int, tru_str, isLT_str, isi_int_str, isi_bool_str, isi_str_str, isi_tup_str, isi_lst_str, tru_tup, isLT_tup, isi_int_tup, isi_bool_tup, isi_str_tup, isi_tup_tup, isi_lst_tup, tru_lst, isLT_lst, isi_int_lst, isi_bool_lst, isi_str_lst, isi_tup_lst, isi_lst_lst, isL_lst, seqW_lst, seqW_tup, seqW_str, seqW_scr, sq2_lst, sq2_tup, inW_sign])
  cases c : isName x with
  | false => rw [c] at q; exact q
  | true =>
    rw [c] at q
    cases x <;> first | cases c | skip
    rename_i n _
    simp only [inW_risks]
    exact q
section
variable {P : Program} {w : World} {K : PySem.W.Frag} {mg : Str → Option Value} {base : Heap} {c_Ground : Addr}
theorem ok_is_place_among {f : Addr} {fd : FuncData} (F : Fun K "is_place_among" "is_place_among" s_is_place_among f fd) (T : Txt K w mg c_Ground) (C_is_name : CalD P w K mg base 1 "is_name" sp_is_name) : FnOk P w K mg base CX0 2 f fd ["risks", "thing"] (uSp K (sp_is_place_among)) :=
  Fun.okF F sc_is_place_among (td_is_place_among) (fun cdv A outer s H E hr =>
    (dss_one (ds_ret (de_and (de_call C_is_name hr (da_cons (dv 1) da_nil)) (de_one (de_cmp (oc_in hr) (dv 1) (dv 0))))))) (fun ws S Q E h => len_is_place_among h) (hd_is_place_among)
end
/-! ### check_size -/
abbrev s_check_size : Stmt := topS 28
abbrev N_check_size : List Str := ["part", "thing", "least", "most"]
theorem sc_check_size : FnScope N_check_size ["part", "thing", "least", "most"] (defScope s_check_size) := ⟨rfl, rfl, rfl, by decide +kernel, rfl, by decide +kernel, by decide +kernel⟩
theorem st_check_size {x0 x1 x2 x3 : W} : startW N_check_size [x0, x1, x2, x3] = [some x0, some x1, some x2, some x3] := rfl
def td_check_size : DS' :=
    (dIfS (dNot (dTru (dCall sp_is_tuple_within (dCons (dVar 1) (dCons (dVar 2) (dCons (dVar 3) dNil)))))) (fun _ _ _ => False) dNext)
def sp_check_size : DSp := fun ws S Q _ => ∃ part x lo hi, ws = [part, x, .int lo, .int hi] ∧ Pl x = true ∧ tupIn lo hi x = true ∧ Q .non S
theorem len_check_size {ws S Q E} (h : sp_check_size ws S Q E) : ws.length = 4 := by obtain ⟨p, x, lo, hi, rfl, _⟩ := h; rfl
theorem hd_check_size (ws S Q E) (h : sp_check_size ws S Q E) : td_check_size { nx := fun _ S' => frzQ Q .non S', rt := frzQ Q } ⟨startW N_check_size ws, XF⟩ S := by
  obtain ⟨part, x, lo, hi, rfl, d, c, q⟩ := h
  simp only [st_check_size, td_check_size]
  (simp only [↓dFgt, ↓dVar, ↓dC, ↓dOp, ↓dUn, ↓dI, ↓dI0, ↓dSub, ↓dMul, ↓dDiv, ↓dMod, ↓dPow, ↓dAdd, ↓dNeg, ↓dEq, ↓dNe, ↓dLt, ↓dLe, ↓dGt, ↓dGe, ↓dIsN, ↓dNotN, ↓dTru, ↓dTest, ↓dChain, ↓dAnd, ↓dOr, ↓dNot, ↓dAndV, ↓dOrV, ↓dNotV, ↓dIf, ↓dNil, ↓dCons, ↓dTup, ↓dLst, ↓dLstM, ↓dCB, ↓dLen, ↓dAbs, ↓dMax2, ↓dMin2, ↓dAll, ↓dAny, ↓dListOf, ↓dListOfM, ↓dTupOf, ↓dNext, ↓dSeq, ↓dDrop, ↓dRet, ↓dRetN, ↓dIfS, ↓dBrk, ↓dCnt, ↓dSet, ↓dAsgT, ↓dPar2, ↓tbind, ↓tbinds, ↓Om.set, ↓dCall, ↓dIx, ↓dNo, ↓dPart, ↓dSl, ↓dSlr, ↓dBM, ↓dApp, ↓dExt, ↓dSetIx, ↓dIs, ↓dMinS, ↓dMaxS, ↓dJoin, ↓dFrz, ↓dPut, ↓dFld, ↓dSetF, ↓dInt, ↓dIsLT, ↓dRng1, ↓dRng2, ↓dEnum, ↓dZip, ↓dSeqI, view_c_non, view_c_bl, view_c_int, view_c_str, view_c_tup, view_c_lst, view_c_scr, view_c_dct, view_c_ins, ↓startW, ↓wp, ↓wps, ↓dInKD, ↓dNotInKD, ↓dIxKD, ↓dIn, ↓dNotIn, ↓dDg, List.getElem?_cons_zero, List.getElem?_cons_succ, List.set_cons_zero, List.set_cons_succ, List.map_cons, List.map_nil, List.length_cons, List.length_nil, List.replicate_succ, List.replicate_zero, List.nil_append, List.cons_append, Bool.not_true, Bool.not_false, if_true, wkey_int, wkey_str, atI_0, atI_1, atI_2, atI_3, up_same, if_false, Bool.false_eq_true, Bool.true_eq_false, tru_non, isLT_non, isi_int_non, isi_bool_non, isi_str_non, isi_tup_non, isi_lst_non, tru_bl, isLT_bl, isi_int_bl, isi_bool_bl, isi_str_bl, isi_tup_bl, isi_lst_bl, tru_int, isLT_int, isi_int_int, isi_bool_int, isi_str_int, isi_tup_int, isi_lst_int, tru_str, isLT_str, isi_int_str, isi_bool_str, isi_str_str, isi_tup_str, isi_lst_str, tru_tup, isLT_tup, isi_int_tup, isi_bool_tup, isi_str_tup, isi_tup_tup, isi_lst_tup, tru_lst, isLT_lst, isi_int_lst, isi_bool_lst, isi_str_lst, isi_tup_lst, isi_lst_lst, isL_lst, seqW_lst, seqW_tup, seqW_str, seqW_scr, sq2_lst, sq2_tup, inW_sign])
  refine ⟨x, lo, hi, rfl, d, ?_⟩
  rw [c]
  exact frzQ.mk q
section
variable {P : Program} {w : World} {K : PySem.W.Frag} {mg : Str → Option Value} {base : Heap} {c_Ground : Addr}
theorem ok_check_size {f : Addr} {fd : FuncData} (F : Fun K "check_size" "check_size" s_check_size f fd) (T : Txt K w mg c_Ground) (C_is_tuple_within : CalD P w K mg base 1 "is_tuple_within" sp_is_tuple_within) : FnOk P w K mg base CX0 2 f fd ["part", "thing", "least", "most"] (uSp K (sp_check_size)) :=
  Fun.okF F sc_check_size (td_check_size) (fun cdv A outer s H E hr =>
    (dss_one (ds_if (dt_not (dt_tru (de_call C_is_tuple_within hr (da_cons (dv 1) (da_cons (dv 2) (da_cons (dv 3) da_nil)))))) (dss_one ds_never) dss_nil))) (fun ws S Q E h => len_check_size h) (hd_check_size)
end
/-! ### is_place_with_risk -/
abbrev s_is_place_with_risk : Stmt := topS 29
abbrev N_is_place_with_risk : List Str := ["thing"]
theorem sc_is_place_with_risk : FnScope N_is_place_with_risk ["thing"] (defScope s_is_place_with_risk) := ⟨rfl, rfl, rfl, by decide +kernel, rfl, by decide +kernel, by decide +kernel⟩
theorem st_is_place_with_risk {x0 : W} : startW N_is_place_with_risk [x0] = [some x0] := rfl
def td_is_place_with_risk : DS' :=
    (dSeq (dIfS (dNot (dTru (dCall sp_is_tuple_within (dCons (dVar 0) (dCons (dC (.int 2)) (dCons (dC (.int 2)) dNil)))))) (dRet (dC (.bl false))) dNext)
    (dRet (dAndV (dCall sp_is_name (dCons (dOp dIx (dVar 0) (dC (.int 0))) dNil)) (dCall sp_is_whole_within (dCons (dOp dIx (dVar 0) (dC (.int 1))) (dCons (dC (.int 1)) (dCons (dC w_MOST_RISK) dNil)))))))
def sp_is_place_with_risk : DSp := fun ws S Q _ => ∃ n r, ws = [placeW n r] ∧ isName (.str n) = true ∧ (1 ≤ r ∧ r ≤ 4) ∧ Q (.bl true) S
theorem len_is_place_with_risk {ws S Q E} (h : sp_is_place_with_risk ws S Q E) : ws.length = 1 := by obtain ⟨n, r, rfl, _⟩ := h; rfl
theorem hd_is_place_with_risk (ws S Q E) (h : sp_is_place_with_risk ws S Q E) : td_is_place_with_risk { nx := fun _ S' => frzQ Q .non S', rt := frzQ Q } ⟨startW N_is_place_with_risk ws, XF⟩ S := by
  obtain ⟨n, r, rfl, c, ⟨h1, h2⟩, q⟩ := h
  have q := frzQ.mk q
  simp only [st_is_place_with_risk, td_is_place_with_risk, placeW]
  (simp only [↓dFgt, ↓dVar, ↓dC, ↓dOp, ↓dUn, ↓dI, ↓dI0, ↓dSub, ↓dMul, ↓dDiv, ↓dMod, ↓dPow, ↓dAdd, ↓dNeg, ↓dEq, ↓dNe, ↓dLt, ↓dLe, ↓dGt, ↓dGe, ↓dIsN, ↓dNotN, ↓dTru, ↓dTest, ↓dChain, ↓dAnd, ↓dOr, ↓dNot, ↓dAndV, ↓dOrV, ↓dNotV, ↓dIf, ↓dNil, ↓dCons, ↓dTup, ↓dLst, ↓dLstM, ↓dCB, ↓dLen, ↓dAbs, ↓dMax2, ↓dMin2, ↓dAll, ↓dAny, ↓dListOf, ↓dListOfM, ↓dTupOf, ↓dNext, ↓dSeq, ↓dDrop, ↓dRet, ↓dRetN, ↓dIfS, ↓dBrk, ↓dCnt, ↓dSet, ↓dAsgT, ↓dPar2, ↓tbind, ↓tbinds, ↓Om.set, ↓dCall, ↓dIx, ↓dNo, ↓dPart, ↓dSl, ↓dSlr, ↓dBM, ↓dApp, ↓dExt, ↓dSetIx, ↓dIs, ↓dMinS, ↓dMaxS, ↓dJoin, ↓dFrz, ↓dPut, ↓dFld, ↓dSetF, ↓dInt, ↓dIsLT, ↓dRng1, ↓dRng2, ↓dEnum, ↓dZip, ↓dSeqI, view_c_non, view_c_bl, view_c_int, view_c_str, view_c_tup, view_c_lst, view_c_scr, view_c_dct, view_c_ins, ↓startW, ↓wp, ↓wps, ↓dInKD, ↓dNotInKD, ↓dIxKD, ↓dIn, ↓dNotIn, ↓dDg, List.getElem?_cons_zero, List.getElem?_cons_succ, List.set_cons_zero, List.set_cons_succ, List.map_cons, List.map_nil, List.length_cons, List.length_nil, List.replicate_succ, List.replicate_zero, List.nil_append, List.cons_append, Bool.not_true, Bool.not_false, if_true, wkey_int, wkey_str, atI_0, atI_1, atI_2, atI_3, up_same, if_false, Bool.false_eq_true, Bool.true_eq_false, tru_non, isLT_non, isi_int_non, isi_bool_non, isi_str_non, isi_tup_non, isi_lst_non, tru_bl, isLT_bl, isi_int_bl, isi_bool_bl, isi_str_bl, isi_tup_bl, isi_lst_bl, tru_int, isLT_int, isi_int_int, isi_bool_int, isi_str_int, isi_tup_int, isi_lst_int, tru_str, isLT_str, isi_int_str, isi_bool_str, isi_str_str, isi_tup_str, isi_lst_str, tru_tup, isLT_tup, isi_int_tup, isi_bool_tup, isi_str_tup, isi_tup_tup, isi_lst_tup, tru_lst, isLT_lst, isi_int_lst, isi_bool_lst, isi_str_lst, isi_tup_lst, isi_lst_lst, isL_lst, seqW_lst, seqW_tup, seqW_str, seqW_scr, sq2_lst, sq2_tup, inW_sign])
  refine ⟨_, _, _, rfl, rfl, ?_⟩
  (simp only [↓dFgt, ↓dVar, ↓dC, ↓dOp, ↓dUn, ↓dI, ↓dI0, ↓dSub, ↓dMul, ↓dDiv, ↓dMod, ↓dPow, ↓dAdd, ↓dNeg, ↓dEq, ↓dNe, ↓dLt, ↓dLe, ↓dGt, ↓dGe, ↓dIsN, ↓dNotN, ↓dTru, ↓dTest, ↓dChain, ↓dAnd, ↓dOr, ↓dNot, ↓dAndV, ↓dOrV, ↓dNotV, ↓dIf, ↓dNil, ↓dCons, ↓dTup, ↓dLst, ↓dLstM, ↓dCB, ↓dLen, ↓dAbs, ↓dMax2, ↓dMin2, ↓dAll, ↓dAny, ↓dListOf, ↓dListOfM, ↓dTupOf, ↓dNext, ↓dSeq, ↓dDrop, ↓dRet, ↓dRetN, ↓dIfS, ↓dBrk, ↓dCnt, ↓dSet, ↓dAsgT, ↓dPar2, ↓tbind, ↓tbinds, ↓Om.set, ↓dCall, ↓dIx, ↓dNo, ↓dPart, ↓dSl, ↓dSlr, ↓dBM, ↓dApp, ↓dExt, ↓dSetIx, ↓dIs, ↓dMinS, ↓dMaxS, ↓dJoin, ↓dFrz, ↓dPut, ↓dFld, ↓dSetF, ↓dInt, ↓dIsLT, ↓dRng1, ↓dRng2, ↓dEnum, ↓dZip, ↓dSeqI, view_c_non, view_c_bl, view_c_int, view_c_str, view_c_tup, view_c_lst, view_c_scr, view_c_dct, view_c_ins, ↓startW, ↓wp, ↓wps, ↓dInKD, ↓dNotInKD, ↓dIxKD, ↓dIn, ↓dNotIn, ↓dDg, List.getElem?_cons_zero, List.getElem?_cons_succ, List.set_cons_zero, List.set_cons_succ, List.map_cons, List.map_nil, List.length_cons, List.length_nil, List.replicate_succ, List.replicate_zero, List.nil_append, List.cons_append, Bool.not_true, Bool.not_false, if_true, wkey_int, wkey_str, atI_0, atI_1, atI_2, atI_3, up_same, if_false, Bool.false_eq_true, Bool.true_eq_false, tru_non, isLT_non, isi_int_non, isi_bool_non, isi_str_non, isi_tup_non, isi_lst_non, tru_bl, isLT_bl, isi_int_bl, isi_bool_bl, isi_str_bl, isi_tup_bl, isi_lst_bl, tru_int, isLT_int, isi_int_int, isi_bool_int, isi_str_int, isi_tup_int, isi_lst_int, tru_str, isLT_str, isi_int_str, isi_bool_str, isi_str_str, isi_tup_str, isi_lst_str, tru_tup, isLT_tup, isi_int_tup, isi_bool_tup, isi_str_tup, isi_tup_tup, isi_lst_tup, tru_lst, isLT_lst, isi_int_lst, isi_bool_lst, isi_str_lst, isi_tup_lst, isi_lst_lst, isL_lst, seqW_lst, seqW_tup, seqW_str, seqW_scr, sq2_lst, sq2_tup, inW_sign])
  refine ⟨_, rfl, rfl, ?_⟩
  rw [c]
  refine ⟨_, _, _, rfl, rfl, ?_⟩
  have e : within 1 4 (.int r) = true := by simp [within, h1, h2]
  rw [e]
  exact q
section
variable {P : Program} {w : World} {K : PySem.W.Frag} {mg : Str → Option Value} {base : Heap} {c_Ground : Addr}
theorem ok_is_place_with_risk {f : Addr} {fd : FuncData} (F : Fun K "is_place_with_risk" "is_place_with_risk" s_is_place_with_risk f fd) (T : Txt K w mg c_Ground) (C_is_tuple_within : CalD P w K mg base 1 "is_tuple_within" sp_is_tuple_within) (C_is_name : CalD P w K mg base 1 "is_name" sp_is_name) (C_is_whole_within : CalD P w K mg base 2 "is_whole_within" sp_is_whole_within) : FnOk P w K mg base CX0 3 f fd ["thing"] (uSp K (sp_is_place_with_risk)) :=
  Fun.okF F sc_is_place_with_risk (td_is_place_with_risk) (fun cdv A outer s H E hr =>
    (dss_cons (ds_if (dt_not (dt_tru (de_call C_is_tuple_within hr (da_cons (dv 0) (da_cons de_int (da_cons de_int da_nil)))))) (dss_one (ds_ret de_bl)) dss_nil)
    (dss_one (ds_ret (de_and (de_call C_is_name hr (da_cons (de_ix (dv 0) de_int) da_nil)) (de_one (de_call C_is_whole_within hr (da_cons (de_ix (dv 0) de_int) (da_cons de_int (da_cons (de_glob T.g_MOST_RISK) da_nil)))))))))) (fun ws S Q E h => len_is_place_with_risk h) (hd_is_place_with_risk)
end
/-! ### is_road_among -/
abbrev s_is_road_among : Stmt := topS 30
abbrev N_is_road_among : List Str := ["risks", "thing", "start", "goal", "minutes", "slow"]
theorem sc_is_road_among : FnScope N_is_road_among ["risks", "thing"] (defScope s_is_road_among) := ⟨rfl, rfl, rfl, by decide +kernel, rfl, by decide +kernel, by decide +kernel⟩
theorem st_is_road_among {x0 x1 : W} : startW N_is_road_among [x0, x1] = [some x0, some x1, none, none, none, none] := rfl
def td_is_road_among : DS' :=
    (dSeq (dIfS (dNot (dTru (dCall sp_is_tuple_within (dCons (dVar 1) (dCons (dC (.int 4)) (dCons (dC (.int 4)) dNil)))))) (dRet (dC (.bl false))) dNext)
    (dSeq (dAsgT (.tp ((.nm 2) :: ((.nm 3) :: ((.nm 4) :: ((.nm 5) :: []))))) (dVar 1))
    (dSeq (dIfS (dOr (dNot (dTru (dCall sp_is_place_among (dCons (dVar 0) (dCons (dVar 2) dNil))))) (dOr (dNot (dTru (dCall sp_is_place_among (dCons (dVar 0) (dCons (dVar 3) dNil))))) (dTest (dOp dEq (dVar 2) (dVar 3))))) (dRet (dC (.bl false))) dNext)
    (dRet (dAndV (dCall sp_is_whole_within (dCons (dVar 4) (dCons (dC (.int 1)) (dCons (dC w_MOST_MINUTES) dNil)))) (dCall sp_is_whole_within (dCons (dVar 5) (dCons (dC (.int 0)) (dCons (dC w_MOST_SLOW) dNil)))))))))
def sp_is_road_among : DSp := fun ws S Q _ => ∃ ps r, ws = [risksW ps, Rd4.w r] ∧ PsOk ps ∧ r.a ∈ ps.map (·.1) ∧ r.b ∈ ps.map (·.1) ∧ r.a ≠ r.b ∧ (1 ≤ r.m ∧ r.m ≤ 60) ∧ (0 ≤ r.s ∧ r.s ≤ 60) ∧ Q (.bl true) S
theorem len_is_road_among {ws S Q E} (h : sp_is_road_among ws S Q E) : ws.length = 2 := by obtain ⟨ps, r, rfl, _⟩ := h; rfl
theorem hd_is_road_among (ws S Q E) (h : sp_is_road_among ws S Q E) : td_is_road_among { nx := fun _ S' => frzQ Q .non S', rt := frzQ Q } ⟨startW N_is_road_among ws, XF⟩ S := by
  obtain ⟨ps, ⟨a, b, m, s⟩, rfl, hp, ha, hb, hab, ⟨h1, h2⟩, ⟨h3, h4⟩, q⟩ := h
  have q := frzQ.mk q
  have pa : isPl ps (.str a) = true := decide_eq_true ha
  have pb : isPl ps (.str b) = true := decide_eq_true hb
  simp only [st_is_road_among, td_is_road_among, Rd4.w, roadW]
  (simp only [↓dFgt, ↓dVar, ↓dC, ↓dOp, ↓dUn, ↓dI, ↓dI0, ↓dSub, ↓dMul, ↓dDiv, ↓dMod, ↓dPow, ↓dAdd, ↓dNeg, ↓dEq, ↓dNe, ↓dLt, ↓dLe, ↓dGt, ↓dGe, ↓dIsN, ↓dNotN, ↓dTru, ↓dTest, ↓dChain, ↓dAnd, ↓dOr, ↓dNot, ↓dAndV, ↓dOrV, ↓dNotV, ↓dIf, ↓dNil, ↓dCons, ↓dTup, ↓dLst, ↓dLstM, ↓dCB, ↓dLen, ↓dAbs, ↓dMax2, ↓dMin2, ↓dAll, ↓dAny, ↓dListOf, ↓dListOfM, ↓dTupOf, ↓dNext, ↓dSeq, ↓dDrop, ↓dRet, ↓dRetN, ↓dIfS, ↓dBrk, ↓dCnt, ↓dSet, ↓dAsgT, ↓dPar2, ↓tbind, ↓tbinds, ↓Om.set, ↓dCall, ↓dIx, ↓dNo, ↓dPart, ↓dSl, ↓dSlr, ↓dBM, ↓dApp, ↓dExt, ↓dSetIx, ↓dIs, ↓dMinS, ↓dMaxS, ↓dJoin, ↓dFrz, ↓dPut, ↓dFld, ↓dSetF, ↓dInt, ↓dIsLT, ↓dRng1, ↓dRng2, ↓dEnum, ↓dZip, ↓dSeqI, view_c_non, view_c_bl, view_c_int, view_c_str, view_c_tup, view_c_lst, view_c_scr, view_c_dct, view_c_ins, ↓startW, ↓wp, ↓wps, ↓dInKD, ↓dNotInKD, ↓dIxKD, ↓dIn, ↓dNotIn, ↓dDg, List.getElem?_cons_zero, List.getElem?_cons_succ, List.set_cons_zero, List.set_cons_succ, List.map_cons, List.map_nil, List.length_cons, List.length_nil, List.replicate_succ, List.replicate_zero, List.nil_append, List.cons_append, Bool.not_true, Bool.not_false, if_true, wkey_int, wkey_str, atI_0, atI_1, atI_2, atI_3, up_same, if_false, Bool.false_eq_true, Bool.true_eq_false, tru_non, isLT_non, isi_int_non, isi_bool_non, isi_str_non, isi_tup_non, isi_lst_non, tru_bl, isLT_bl, isi_int_bl, isi_bool_bl, isi_str_bl, isi_tup_bl, isi_lst_bl, tru_int, isLT_int, isi_int_int, isi_bool_int, isi_str_int, isi_tup_int, isi_lst_int, tru_str, isLT_str, isi_int_str, isi_bool_str, isi_str_str, isi_tup_str, isi_lst_str, tru_tup, isLT_tup, isi_int_tup, isi_bool_tup, isi_str_tup, isi_tup_tup, isi_lst_tup, tru_lst, isLT_lst, isi_int_lst, isi_bool_lst, isi_str_lst, isi_tup_lst, isi_lst_lst, isL_lst, seqW_lst, seqW_tup, seqW_str, seqW_scr, sq2_lst, sq2_tup, inW_sign])
  refine ⟨_, _, _, rfl, rfl, ?_⟩
  (simp only [↓dFgt, ↓dVar, ↓dC, ↓dOp, ↓dUn, ↓dI, ↓dI0, ↓dSub, ↓dMul, ↓dDiv, ↓dMod, ↓dPow, ↓dAdd, ↓dNeg, ↓dEq, ↓dNe, ↓dLt, ↓dLe, ↓dGt, ↓dGe, ↓dIsN, ↓dNotN, ↓dTru, ↓dTest, ↓dChain, ↓dAnd, ↓dOr, ↓dNot, ↓dAndV, ↓dOrV, ↓dNotV, ↓dIf, ↓dNil, ↓dCons, ↓dTup, ↓dLst, ↓dLstM, ↓dCB, ↓dLen, ↓dAbs, ↓dMax2, ↓dMin2, ↓dAll, ↓dAny, ↓dListOf, ↓dListOfM, ↓dTupOf, ↓dNext, ↓dSeq, ↓dDrop, ↓dRet, ↓dRetN, ↓dIfS, ↓dBrk, ↓dCnt, ↓dSet, ↓dAsgT, ↓dPar2, ↓tbind, ↓tbinds, ↓Om.set, ↓dCall, ↓dIx, ↓dNo, ↓dPart, ↓dSl, ↓dSlr, ↓dBM, ↓dApp, ↓dExt, ↓dSetIx, ↓dIs, ↓dMinS, ↓dMaxS, ↓dJoin, ↓dFrz, ↓dPut, ↓dFld, ↓dSetF, ↓dInt, ↓dIsLT, ↓dRng1, ↓dRng2, ↓dEnum, ↓dZip, ↓dSeqI, view_c_non, view_c_bl, view_c_int, view_c_str, view_c_tup, view_c_lst, view_c_scr, view_c_dct, view_c_ins, ↓startW, ↓wp, ↓wps, ↓dInKD, ↓dNotInKD, ↓dIxKD, ↓dIn, ↓dNotIn, ↓dDg, List.getElem?_cons_zero, List.getElem?_cons_succ, List.set_cons_zero, List.set_cons_succ, List.map_cons, List.map_nil, List.length_cons, List.length_nil, List.replicate_succ, List.replicate_zero, List.nil_append, List.cons_append, Bool.not_true, Bool.not_false, if_true, wkey_int, wkey_str, atI_0, atI_1, atI_2, atI_3, up_same, if_false, Bool.false_eq_true, Bool.true_eq_false, tru_non, isLT_non, isi_int_non, isi_bool_non, isi_str_non, isi_tup_non, isi_lst_non, tru_bl, isLT_bl, isi_int_bl, isi_bool_bl, isi_str_bl, isi_tup_bl, isi_lst_bl, tru_int, isLT_int, isi_int_int, isi_bool_int, isi_str_int, isi_tup_int, isi_lst_int, tru_str, isLT_str, isi_int_str, isi_bool_str, isi_str_str, isi_tup_str, isi_lst_str, tru_tup, isLT_tup, isi_int_tup, isi_bool_tup, isi_str_tup, isi_tup_tup, isi_lst_tup, tru_lst, isLT_lst, isi_int_lst, isi_bool_lst, isi_str_lst, isi_tup_lst, isi_lst_lst, isL_lst, seqW_lst, seqW_tup, seqW_str, seqW_scr, sq2_lst, sq2_tup, inW_sign])
  refine ⟨ps, _, rfl, rfl, ?_⟩
  rw [hp.name ha, pa]
  (simp only [↓dFgt, ↓dVar, ↓dC, ↓dOp, ↓dUn, ↓dI, ↓dI0, ↓dSub, ↓dMul, ↓dDiv, ↓dMod, ↓dPow, ↓dAdd, ↓dNeg, ↓dEq, ↓dNe, ↓dLt, ↓dLe, ↓dGt, ↓dGe, ↓dIsN, ↓dNotN, ↓dTru, ↓dTest, ↓dChain, ↓dAnd, ↓dOr, ↓dNot, ↓dAndV, ↓dOrV, ↓dNotV, ↓dIf, ↓dNil, ↓dCons, ↓dTup, ↓dLst, ↓dLstM, ↓dCB, ↓dLen, ↓dAbs, ↓dMax2, ↓dMin2, ↓dAll, ↓dAny, ↓dListOf, ↓dListOfM, ↓dTupOf, ↓dNext, ↓dSeq, ↓dDrop, ↓dRet, ↓dRetN, ↓dIfS, ↓dBrk, ↓dCnt, ↓dSet, ↓dAsgT, ↓dPar2, ↓tbind, ↓tbinds, ↓Om.set, ↓dCall, ↓dIx, ↓dNo, ↓dPart, ↓dSl, ↓dSlr, ↓dBM, ↓dApp, ↓dExt, ↓dSetIx, ↓dIs, ↓dMinS, ↓dMaxS, ↓dJoin, ↓dFrz, ↓dPut, ↓dFld, ↓dSetF, ↓dInt, ↓dIsLT, ↓dRng1, ↓dRng2, ↓dEnum, ↓dZip, ↓dSeqI, view_c_non, view_c_bl, view_c_int, view_c_str, view_c_tup, view_c_lst, view_c_scr, view_c_dct, view_c_ins, ↓startW, ↓wp, ↓wps, ↓dInKD, ↓dNotInKD, ↓dIxKD, ↓dIn, ↓dNotIn, ↓dDg, List.getElem?_cons_zero, List.getElem?_cons_succ, List.set_cons_zero, List.set_cons_succ, List.map_cons, List.map_nil, List.length_cons, List.length_nil, List.replicate_succ, List.replicate_zero, List.nil_append, List.cons_append, Bool.not_true, Bool.not_false, if_true, wkey_int, wkey_str, atI_0, atI_1, atI_2, atI_3, up_same, if_false, Bool.false_eq_true, Bool.true_eq_false, tru_non, isLT_non, isi_int_non, isi_bool_non, isi_str_non, isi_tup_non, isi_lst_non, tru_bl, isLT_bl, isi_int_bl, isi_bool_bl, isi_str_bl, isi_tup_bl, isi_lst_bl, tru_int, isLT_int, isi_int_int, isi_bool_int, isi_str_int, isi_tup_int, isi_lst_int, tru_str, isLT_str, isi_int_str, isi_bool_str, isi_str_str, isi_tup_str, isi_lst_str, tru_tup, isLT_tup, isi_int_tup, isi_bool_tup, isi_str_tup, isi_tup_tup, isi_lst_tup, tru_lst, isLT_lst, isi_int_lst, isi_bool_lst, isi_str_lst, isi_tup_lst, isi_lst_lst, isL_lst, seqW_lst, seqW_tup, seqW_str, seqW_scr, sq2_lst, sq2_tup, inW_sign])
  refine ⟨ps, _, rfl, rfl, ?_⟩
  rw [hp.name hb, pb]
  (simp only [↓dFgt, ↓dVar, ↓dC, ↓dOp, ↓dUn, ↓dI, ↓dI0, ↓dSub, ↓dMul, ↓dDiv, ↓dMod, ↓dPow, ↓dAdd, ↓dNeg, ↓dEq, ↓dNe, ↓dLt, ↓dLe, ↓dGt, ↓dGe, ↓dIsN, ↓dNotN, ↓dTru, ↓dTest, ↓dChain, ↓dAnd, ↓dOr, ↓dNot, ↓dAndV, ↓dOrV, ↓dNotV, ↓dIf, ↓dNil, ↓dCons, ↓dTup, ↓dLst, ↓dLstM, ↓dCB, ↓dLen, ↓dAbs, ↓dMax2, ↓dMin2, ↓dAll, ↓dAny, ↓dListOf, ↓dListOfM, ↓dTupOf, ↓dNext, ↓dSeq, ↓dDrop, ↓dRet, ↓dRetN, ↓dIfS, ↓dBrk, ↓dCnt, ↓dSet, ↓dAsgT, ↓dPar2, ↓tbind, ↓tbinds, ↓Om.set, ↓dCall, ↓dIx, ↓dNo, ↓dPart, ↓dSl, ↓dSlr, ↓dBM, ↓dApp, ↓dExt, ↓dSetIx, ↓dIs, ↓dMinS, ↓dMaxS, ↓dJoin, ↓dFrz, ↓dPut, ↓dFld, ↓dSetF, ↓dInt, ↓dIsLT, ↓dRng1, ↓dRng2, ↓dEnum, ↓dZip, ↓dSeqI, view_c_non, view_c_bl, view_c_int, view_c_str, view_c_tup, view_c_lst, view_c_scr, view_c_dct, view_c_ins, ↓startW, ↓wp, ↓wps, ↓dInKD, ↓dNotInKD, ↓dIxKD, ↓dIn, ↓dNotIn, ↓dDg, List.getElem?_cons_zero, List.getElem?_cons_succ, List.set_cons_zero, List.set_cons_succ, List.map_cons, List.map_nil, List.length_cons, List.length_nil, List.replicate_succ, List.replicate_zero, List.nil_append, List.cons_append, Bool.not_true, Bool.not_false, if_true, wkey_int, wkey_str, atI_0, atI_1, atI_2, atI_3, up_same, if_false, Bool.false_eq_true, Bool.true_eq_false, tru_non, isLT_non, isi_int_non, isi_bool_non, isi_str_non, isi_tup_non, isi_lst_non, tru_bl, isLT_bl, isi_int_bl, isi_bool_bl, isi_str_bl, isi_tup_bl, isi_lst_bl, tru_int, isLT_int, isi_int_int, isi_bool_int, isi_str_int, isi_tup_int, isi_lst_int, tru_str, isLT_str, isi_int_str, isi_bool_str, isi_str_str, isi_tup_str, isi_lst_str, tru_tup, isLT_tup, isi_int_tup, isi_bool_tup, isi_str_tup, isi_tup_tup, isi_lst_tup, tru_lst, isLT_lst, isi_int_lst, isi_bool_lst, isi_str_lst, isi_tup_lst, isi_lst_lst, isL_lst, seqW_lst, seqW_tup, seqW_str, seqW_scr, sq2_lst, sq2_tup, inW_sign])
  refine ⟨rfl, rfl, ?_⟩
  have hw : weq (.str a) (.str b) = false := by rw [weq_str]; exact decide_eq_false hab
  simp only [hw]
  (simp only [↓dFgt, ↓dVar, ↓dC, ↓dOp, ↓dUn, ↓dI, ↓dI0, ↓dSub, ↓dMul, ↓dDiv, ↓dMod, ↓dPow, ↓dAdd, ↓dNeg, ↓dEq, ↓dNe, ↓dLt, ↓dLe, ↓dGt, ↓dGe, ↓dIsN, ↓dNotN, ↓dTru, ↓dTest, ↓dChain, ↓dAnd, ↓dOr, ↓dNot, ↓dAndV, ↓dOrV, ↓dNotV, ↓dIf, ↓dNil, ↓dCons, ↓dTup, ↓dLst, ↓dLstM, ↓dCB, ↓dLen, ↓dAbs, ↓dMax2, ↓dMin2, ↓dAll, ↓dAny, ↓dListOf, ↓dListOfM, ↓dTupOf, ↓dNext, ↓dSeq, ↓dDrop, ↓dRet, ↓dRetN, ↓dIfS, ↓dBrk, ↓dCnt, ↓dSet, ↓dAsgT, ↓dPar2, ↓tbind, ↓tbinds, ↓Om.set, ↓dCall, ↓dIx, ↓dNo, ↓dPart, ↓dSl, ↓dSlr, ↓dBM, ↓dApp, ↓dExt, ↓dSetIx, ↓dIs, ↓dMinS, ↓dMaxS, ↓dJoin, ↓dFrz, ↓dPut, ↓dFld, ↓dSetF, ↓dInt, ↓dIsLT, ↓dRng1, ↓dRng2, ↓dEnum, ↓dZip, ↓dSeqI, view_c_non, view_c_bl, view_c_int, view_c_str, view_c_tup, view_c_lst, view_c_scr, view_c_dct, view_c_ins, ↓startW, ↓wp, ↓wps, ↓dInKD, ↓dNotInKD, ↓dIxKD, ↓dIn, ↓dNotIn, ↓dDg, List.getElem?_cons_zero, List.getElem?_cons_succ, List.set_cons_zero, List.set_cons_succ, List.map_cons, List.map_nil, List.length_cons, List.length_nil, List.replicate_succ, List.replicate_zero, List.nil_append, List.cons_append, Bool.not_true, Bool.not_false, if_true, wkey_int, wkey_str, atI_0, atI_1, atI_2, atI_3, up_same, if_false, Bool.false_eq_true, Bool.true_eq_false, tru_non, isLT_non, isi_int_non, isi_bool_non, isi_str_non, isi_tup_non, isi_lst_non, tru_bl, isLT_bl, isi_int_bl, isi_bool_bl, isi_str_bl, isi_tup_bl, isi_lst_bl, tru_int, isLT_int, isi_int_int, isi_bool_int, isi_str_int, isi_tup_int, isi_lst_int, tru_str, isLT_str, isi_int_str, isi_bool_str, isi_str_str, isi_tup_str, isi_lst_str, tru_tup, isLT_tup, isi_int_tup, isi_bool_tup, isi_str_tup, isi_tup_tup, isi_lst_tup, tru_lst, isLT_lst, isi_int_lst, isi_bool_lst, isi_str_lst, isi_tup_lst, isi_lst_lst, isL_lst, seqW_lst, seqW_tup, seqW_str, seqW_scr, sq2_lst, sq2_tup, inW_sign])
  refine ⟨_, _, _, rfl, rfl, ?_⟩
  rw [show within 1 60 (.int m) = true by simp [within, h1, h2]]
  (simp only [↓dFgt, ↓dVar, ↓dC, ↓dOp, ↓dUn, ↓dI, ↓dI0, ↓dSub, ↓dMul, ↓dDiv, ↓dMod, ↓dPow, ↓dAdd, ↓dNeg, ↓dEq, ↓dNe, ↓dLt, ↓dLe, ↓dGt, ↓dGe, ↓dIsN, ↓dNotN, ↓dTru, ↓dTest, ↓dChain, ↓dAnd, ↓dOr, ↓dNot, ↓dAndV, ↓dOrV, ↓dNotV, ↓dIf, ↓dNil, ↓dCons, ↓dTup, ↓dLst, ↓dLstM, ↓dCB, ↓dLen, ↓dAbs, ↓dMax2, ↓dMin2, ↓dAll, ↓dAny, ↓dListOf, ↓dListOfM, ↓dTupOf, ↓dNext, ↓dSeq, ↓dDrop, ↓dRet, ↓dRetN, ↓dIfS, ↓dBrk, ↓dCnt, ↓dSet, ↓dAsgT, ↓dPar2, ↓tbind, ↓tbinds, ↓Om.set, ↓dCall, ↓dIx, ↓dNo, ↓dPart, ↓dSl, ↓dSlr, ↓dBM, ↓dApp, ↓dExt, ↓dSetIx, ↓dIs, ↓dMinS, ↓dMaxS, ↓dJoin, ↓dFrz, ↓dPut, ↓dFld, ↓dSetF, ↓dInt, ↓dIsLT, ↓dRng1, ↓dRng2, ↓dEnum, ↓dZip, ↓dSeqI, view_c_non, view_c_bl, view_c_int, view_c_str, view_c_tup, view_c_lst, view_c_scr, view_c_dct, view_c_ins, ↓startW, ↓wp, ↓wps, ↓dInKD, ↓dNotInKD, ↓dIxKD, ↓dIn, ↓dNotIn, ↓dDg, List.getElem?_cons_zero, List.getElem?_cons_succ, List.set_cons_zero, List.set_cons_succ, List.map_cons, List.map_nil, List.length_cons, List.length_nil, List.replicate_succ, List.replicate_zero, List.nil_append, List.cons_append, Bool.not_true, Bool.not_false, if_true, wkey_int, wkey_str, atI_0, atI_1, atI_2, atI_3, up_same, if_false, Bool.false_eq_true, Bool.true_eq_false, tru_non, isLT_non, isi_int_non, isi_bool_non, isi_str_non, isi_tup_non, isi_lst_non, tru_bl, isLT_bl, isi_int_bl, isi_bool_bl, isi_str_bl, isi_tup_bl, isi_lst_bl, tru_int, isLT_int, isi_int_int, isi_bool_int, isi_str_int, isi_tup_int, isi_lst_int, tru_str, isLT_str, isi_int_str, isi_bool_str, isi_str_str, isi_tup_str, isi_lst_str, tru_tup, isLT_tup, isi_int_tup, isi_bool_tup, isi_str_tup, isi_tup_tup, isi_lst_tup, tru_lst, isLT_lst, isi_int_lst, isi_bool_lst, isi_str_lst, isi_tup_lst, isi_lst_lst, isL_lst, seqW_lst, seqW_tup, seqW_str, seqW_scr, sq2_lst, sq2_tup, inW_sign])
  refine ⟨_, _, _, rfl, rfl, ?_⟩
  rw [show within 0 60 (.int s) = true by simp [within, h3, h4]]
  exact q
section
variable {P : Program} {w : World} {K : PySem.W.Frag} {mg : Str → Option Value} {base : Heap} {c_Ground : Addr}
theorem ok_is_road_among {f : Addr} {fd : FuncData} (F : Fun K "is_road_among" "is_road_among" s_is_road_among f fd) (T : Txt K w mg c_Ground) (C_is_tuple_within : CalD P w K mg base 1 "is_tuple_within" sp_is_tuple_within) (C_is_whole_within : CalD P w K mg base 2 "is_whole_within" sp_is_whole_within) (C_is_place_among : CalD P w K mg base 2 "is_place_among" sp_is_place_among) : FnOk P w K mg base CX0 3 f fd ["risks", "thing"] (uSp K (sp_is_road_among)) :=
  Fun.okF F sc_is_road_among (td_is_road_among) (fun cdv A outer s H E hr =>
    (dss_cons (ds_if (dt_not (dt_tru (de_call C_is_tuple_within hr (da_cons (dv 1) (da_cons de_int (da_cons de_int da_nil)))))) (dss_one (ds_ret de_bl)) dss_nil)
    (dss_cons (ds_asgT (dv 1) (dg_tp (dgs_cons (dg_nm (i := 2) sc_is_road_among.nd) (dgs_cons (dg_nm (i := 3) sc_is_road_among.nd) (dgs_cons (dg_nm (i := 4) sc_is_road_among.nd) (dgs_cons (dg_nm (i := 5) sc_is_road_among.nd) dgs_nil))))))
    (dss_cons (ds_if (PW.pt (dw_or (dt_not (dt_tru (de_call C_is_place_among hr (da_cons (dv 0) (da_cons (dv 2) da_nil))))) (dw_or (dt_not (dt_tru (de_call C_is_place_among hr (da_cons (dv 0) (da_cons (dv 3) da_nil))))) (dw_or1 (dt_cmp (oc_eq hr) (dv 2) (dv 3)))))) (dss_one (ds_ret de_bl)) dss_nil)
    (dss_one (ds_ret (de_and (de_call C_is_whole_within hr (da_cons (dv 4) (da_cons de_int (da_cons (de_glob T.g_MOST_MINUTES) da_nil)))) (de_one (de_call C_is_whole_within hr (da_cons (dv 5) (da_cons de_int (da_cons (de_glob T.g_MOST_SLOW) da_nil)))))))))))) (fun ws S Q E h => len_is_road_among h) (hd_is_road_among)
end
/-! ### checked_risks -/
abbrev s_checked_risks : Stmt := topS 25
abbrev N_checked_risks : List Str := ["places", "risks", "at", "place"]
theorem sc_checked_risks : FnScope N_checked_risks ["places"] (defScope s_checked_risks) := ⟨rfl, rfl, rfl, by decide +kernel, rfl, by decide +kernel, by decide +kernel⟩
theorem st_checked_risks {x0 : W} : startW N_checked_risks [x0] = [some x0, none, none, none] := rfl
def td_checked_risks : DS' :=
    (dSeq (dDrop (dCall sp_check_size (dCons (dC (.str "places")) (dCons (dVar 0) (dCons (dC (.int 1)) (dCons (dC w_MOST_PLACES) dNil))))))
    (dSeq (dSet 1 dNewK)
    (dSeq (dFor (dEnum (dCons (dVar 0) dNil)) (.tp ((.nm 2) :: ((.nm 3) :: [])))
      (dSeq (dIfS (dOr (dNot (dTru (dCall sp_is_place_with_risk (dCons (dVar 3) dNil)))) (dTest (dOp dIn (dOp dIx (dVar 3) (dC (.int 0))) (dVar 1)))) (fun _ _ _ => False) dNext)
      (dPut (dVar 1) (dOp dIx (dVar 3) (dC (.int 0))) (dOp dIx (dVar 3) (dC (.int 1))))))
    (dRet (dVar 1)))))
def sp_checked_risks : DSp := fun ws S Q _ => ∃ ps, ws = [placesW ps] ∧ PsOk ps ∧ Q (risksW ps) S
theorem len_checked_risks {ws S Q E} (h : sp_checked_risks ws S Q E) : ws.length = 1 := by obtain ⟨ps, rfl, _⟩ := h; rfl
theorem hd_checked_risks (ws S Q E) (h : sp_checked_risks ws S Q E) : td_checked_risks { nx := fun _ S' => frzQ Q .non S', rt := frzQ Q } ⟨startW N_checked_risks ws, XF⟩ S := by
  obtain ⟨ps, rfl, hp, q⟩ := h
  simp only [st_checked_risks, td_checked_risks]
  (simp only [↓dFgt, ↓dVar, ↓dC, ↓dOp, ↓dUn, ↓dI, ↓dI0, ↓dSub, ↓dMul, ↓dDiv, ↓dMod, ↓dPow, ↓dAdd, ↓dNeg, ↓dEq, ↓dNe, ↓dLt, ↓dLe, ↓dGt, ↓dGe, ↓dIsN, ↓dNotN, ↓dTru, ↓dTest, ↓dChain, ↓dAnd, ↓dOr, ↓dNot, ↓dAndV, ↓dOrV, ↓dNotV, ↓dIf, ↓dNil, ↓dCons, ↓dTup, ↓dLst, ↓dLstM, ↓dCB, ↓dLen, ↓dAbs, ↓dMax2, ↓dMin2, ↓dAll, ↓dAny, ↓dListOf, ↓dListOfM, ↓dTupOf, ↓dNext, ↓dSeq, ↓dDrop, ↓dRet, ↓dRetN, ↓dIfS, ↓dBrk, ↓dCnt, ↓dSet, ↓dAsgT, ↓dPar2, ↓tbind, ↓tbinds, ↓Om.set, ↓dCall, ↓dIx, ↓dNo, ↓dPart, ↓dSl, ↓dSlr, ↓dBM, ↓dApp, ↓dExt, ↓dSetIx, ↓dIs, ↓dMinS, ↓dMaxS, ↓dJoin, ↓dFrz, ↓dPut, ↓dFld, ↓dSetF, ↓dInt, ↓dIsLT, ↓dRng1, ↓dRng2, ↓dEnum, ↓dZip, ↓dSeqI, view_c_non, view_c_bl, view_c_int, view_c_str, view_c_tup, view_c_lst, view_c_scr, view_c_dct, view_c_ins, ↓startW, ↓wp, ↓wps, ↓dInKD, ↓dNotInKD, ↓dIxKD, ↓dIn, ↓dNotIn, ↓dDg, List.getElem?_cons_zero, List.getElem?_cons_succ, List.set_cons_zero, List.set_cons_succ, List.map_cons, List.map_nil, List.length_cons, List.length_nil, List.replicate_succ, List.replicate_zero, List.nil_append, List.cons_append, Bool.not_true, Bool.not_false, if_true, wkey_int, wkey_str, atI_0, atI_1, atI_2, atI_3, up_same, if_false, Bool.false_eq_true, Bool.true_eq_false, tru_non, isLT_non, isi_int_non, isi_bool_non, isi_str_non, isi_tup_non, isi_lst_non, tru_bl, isLT_bl, isi_int_bl, isi_bool_bl, isi_str_bl, isi_tup_bl, isi_lst_bl, tru_int, isLT_int, isi_int_int, isi_bool_int, isi_str_int, isi_tup_int, isi_lst_int, tru_str, isLT_str, isi_int_str, isi_bool_str, isi_str_str, isi_tup_str, isi_lst_str, tru_tup, isLT_tup, isi_int_tup, isi_bool_tup, isi_str_tup, isi_tup_tup, isi_lst_tup, tru_lst, isLT_lst, isi_int_lst, isi_bool_lst, isi_str_lst, isi_tup_lst, isi_lst_lst, isL_lst, seqW_lst, seqW_tup, seqW_str, seqW_scr, sq2_lst, sq2_tup, inW_sign])
  refine ⟨_, _, _, _, rfl, rfl, ?_, ?_⟩
  · have := hp.lo; have := hp.hi; simp [tupIn]; omega
  intro p hS
  refine forE (xs := ps.map fun (x : Str × Int) => placeW x.1 x.2) (fun _ h => h) (fun i ω' S' => (∃ y z, ω' = ⟨[some (placesW ps), some (.ref p), y, z], XF⟩) ∧ S' = up S p (.dK (rkv (ps.take i)))) ⟨⟨_, _, rfl⟩, rfl⟩ ?_ ?_
  · rintro i u ω' S' hu ⟨⟨y, z, rfl⟩, rfl⟩
    rw [List.getElem?_map] at hu
    cases hx : ps[i]? with
    | none => rw [hx] at hu; cases hu
    | some x =>
      rw [hx] at hu
      cases hu
      obtain ⟨n, r⟩ := x
      have ok := hp.ok _ (List.mem_of_getElem? hx)
      have nn : n ∉ (ps.take i).map (·.1) := by
        rw [List.map_take]
        exact nodup_take hp.nd (by rw [List.getElem?_map, hx]; rfl)
      refine ⟨_, rfl, ?_⟩
      (simp only [↓dFgt, ↓dVar, ↓dC, ↓dOp, ↓dUn, ↓dI, ↓dI0, ↓dSub, ↓dMul, ↓dDiv, ↓dMod, ↓dPow, ↓dAdd, ↓dNeg, ↓dEq, ↓dNe, ↓dLt, ↓dLe, ↓dGt, ↓dGe, ↓dIsN, ↓dNotN, ↓dTru, ↓dTest, ↓dChain, ↓dAnd, ↓dOr, ↓dNot, ↓dAndV, ↓dOrV, ↓dNotV, ↓dIf, ↓dNil, ↓dCons, ↓dTup, ↓dLst, ↓dLstM, ↓dCB, ↓dLen, ↓dAbs, ↓dMax2, ↓dMin2, ↓dAll, ↓dAny, ↓dListOf, ↓dListOfM, ↓dTupOf, ↓dNext, ↓dSeq, ↓dDrop, ↓dRet, ↓dRetN, ↓dIfS, ↓dBrk, ↓dCnt, ↓dSet, ↓dAsgT, ↓dPar2, ↓tbind, ↓tbinds, ↓Om.set, ↓dCall, ↓dIx, ↓dNo, ↓dPart, ↓dSl, ↓dSlr, ↓dBM, ↓dApp, ↓dExt, ↓dSetIx, ↓dIs, ↓dMinS, ↓dMaxS, ↓dJoin, ↓dFrz, ↓dPut, ↓dFld, ↓dSetF, ↓dInt, ↓dIsLT, ↓dRng1, ↓dRng2, ↓dEnum, ↓dZip, ↓dSeqI, view_c_non, view_c_bl, view_c_int, view_c_str, view_c_tup, view_c_lst, view_c_scr, view_c_dct, view_c_ins, ↓startW, ↓wp, ↓wps, ↓dInKD, ↓dNotInKD, ↓dIxKD, ↓dIn, ↓dNotIn, ↓dDg, List.getElem?_cons_zero, List.getElem?_cons_succ, List.set_cons_zero, List.set_cons_succ, List.map_cons, List.map_nil, List.length_cons, List.length_nil, List.replicate_succ, List.replicate_zero, List.nil_append, List.cons_append, Bool.not_true, Bool.not_false, if_true, wkey_int, wkey_str, atI_0, atI_1, atI_2, atI_3, up_same, if_false, Bool.false_eq_true, Bool.true_eq_false, tru_non, isLT_non, isi_int_non, isi_bool_non, isi_str_non, isi_tup_non, isi_lst_non, tru_bl, isLT_bl, isi_int_bl, isi_bool_bl, isi_str_bl, isi_tup_bl, isi_lst_bl, tru_int, isLT_int, isi_int_int, isi_bool_int, isi_str_int, isi_tup_int, isi_lst_int, tru_str, isLT_str, isi_int_str, isi_bool_str, isi_str_str, isi_tup_str, isi_lst_str, tru_tup, isLT_tup, isi_int_tup, isi_bool_tup, isi_str_tup, isi_tup_tup, isi_lst_tup, tru_lst, isLT_lst, isi_int_lst, isi_bool_lst, isi_str_lst, isi_tup_lst, isi_lst_lst, isL_lst, seqW_lst, seqW_tup, seqW_str, seqW_scr, sq2_lst, sq2_tup, inW_sign])
      refine ⟨n, r, rfl, ok.1, ok.2, ?_⟩
      (simp only [↓dFgt, ↓dVar, ↓dC, ↓dOp, ↓dUn, ↓dI, ↓dI0, ↓dSub, ↓dMul, ↓dDiv, ↓dMod, ↓dPow, ↓dAdd, ↓dNeg, ↓dEq, ↓dNe, ↓dLt, ↓dLe, ↓dGt, ↓dGe, ↓dIsN, ↓dNotN, ↓dTru, ↓dTest, ↓dChain, ↓dAnd, ↓dOr, ↓dNot, ↓dAndV, ↓dOrV, ↓dNotV, ↓dIf, ↓dNil, ↓dCons, ↓dTup, ↓dLst, ↓dLstM, ↓dCB, ↓dLen, ↓dAbs, ↓dMax2, ↓dMin2, ↓dAll, ↓dAny, ↓dListOf, ↓dListOfM, ↓dTupOf, ↓dNext, ↓dSeq, ↓dDrop, ↓dRet, ↓dRetN, ↓dIfS, ↓dBrk, ↓dCnt, ↓dSet, ↓dAsgT, ↓dPar2, ↓tbind, ↓tbinds, ↓Om.set, ↓dCall, ↓dIx, ↓dNo, ↓dPart, ↓dSl, ↓dSlr, ↓dBM, ↓dApp, ↓dExt, ↓dSetIx, ↓dIs, ↓dMinS, ↓dMaxS, ↓dJoin, ↓dFrz, ↓dPut, ↓dFld, ↓dSetF, ↓dInt, ↓dIsLT, ↓dRng1, ↓dRng2, ↓dEnum, ↓dZip, ↓dSeqI, view_c_non, view_c_bl, view_c_int, view_c_str, view_c_tup, view_c_lst, view_c_scr, view_c_dct, view_c_ins, ↓startW, ↓wp, ↓wps, ↓dInKD, ↓dNotInKD, ↓dIxKD, ↓dIn, ↓dNotIn, ↓dDg, List.getElem?_cons_zero, List.getElem?_cons_succ, List.set_cons_zero, List.set_cons_succ, List.map_cons, List.map_nil, List.length_cons, List.length_nil, List.replicate_succ, List.replicate_zero, List.nil_append, List.cons_append, Bool.not_true, Bool.not_false, if_true, wkey_int, wkey_str, atI_0, atI_1, atI_2, atI_3, up_same, if_false, Bool.false_eq_true, Bool.true_eq_false, tru_non, isLT_non, isi_int_non, isi_bool_non, isi_str_non, isi_tup_non, isi_lst_non, tru_bl, isLT_bl, isi_int_bl, isi_bool_bl, isi_str_bl, isi_tup_bl, isi_lst_bl, tru_int, isLT_int, isi_int_int, isi_bool_int, isi_str_int, isi_tup_int, isi_lst_int, tru_str, isLT_str, isi_int_str, isi_bool_str, isi_str_str, isi_tup_str, isi_lst_str, tru_tup, isLT_tup, isi_int_tup, isi_bool_tup, isi_str_tup, isi_tup_tup, isi_lst_tup, tru_lst, isLT_lst, isi_int_lst, isi_bool_lst, isi_str_lst, isi_tup_lst, isi_lst_lst, isL_lst, seqW_lst, seqW_tup, seqW_str, seqW_scr, sq2_lst, sq2_tup, inW_sign])
      have nk : (Sum.inr n : Key) ∉ (rkv (ps.take i)).map (·.1) := by
        rw [rkv_fst]
        intro h
        obtain ⟨x, hx, e⟩ := List.mem_map.mp h
        exact nn (List.mem_map.mpr ⟨x, hx, Sum.inr.inj e⟩)
      have e2 : inW (up S p (.dK (rkv (ps.take i)))) (.str n) (.ref p) = some false := by rw [inW_refD up_same wkey_str, wval_none nk]; rfl
      simp only [e2]
      (simp only [↓dFgt, ↓dVar, ↓dC, ↓dOp, ↓dUn, ↓dI, ↓dI0, ↓dSub, ↓dMul, ↓dDiv, ↓dMod, ↓dPow, ↓dAdd, ↓dNeg, ↓dEq, ↓dNe, ↓dLt, ↓dLe, ↓dGt, ↓dGe, ↓dIsN, ↓dNotN, ↓dTru, ↓dTest, ↓dChain, ↓dAnd, ↓dOr, ↓dNot, ↓dAndV, ↓dOrV, ↓dNotV, ↓dIf, ↓dNil, ↓dCons, ↓dTup, ↓dLst, ↓dLstM, ↓dCB, ↓dLen, ↓dAbs, ↓dMax2, ↓dMin2, ↓dAll, ↓dAny, ↓dListOf, ↓dListOfM, ↓dTupOf, ↓dNext, ↓dSeq, ↓dDrop, ↓dRet, ↓dRetN, ↓dIfS, ↓dBrk, ↓dCnt, ↓dSet, ↓dAsgT, ↓dPar2, ↓tbind, ↓tbinds, ↓Om.set, ↓dCall, ↓dIx, ↓dNo, ↓dPart, ↓dSl, ↓dSlr, ↓dBM, ↓dApp, ↓dExt, ↓dSetIx, ↓dIs, ↓dMinS, ↓dMaxS, ↓dJoin, ↓dFrz, ↓dPut, ↓dFld, ↓dSetF, ↓dInt, ↓dIsLT, ↓dRng1, ↓dRng2, ↓dEnum, ↓dZip, ↓dSeqI, view_c_non, view_c_bl, view_c_int, view_c_str, view_c_tup, view_c_lst, view_c_scr, view_c_dct, view_c_ins, ↓startW, ↓wp, ↓wps, ↓dInKD, ↓dNotInKD, ↓dIxKD, ↓dIn, ↓dNotIn, ↓dDg, List.getElem?_cons_zero, List.getElem?_cons_succ, List.set_cons_zero, List.set_cons_succ, List.map_cons, List.map_nil, List.length_cons, List.length_nil, List.replicate_succ, List.replicate_zero, List.nil_append, List.cons_append, Bool.not_true, Bool.not_false, if_true, wkey_int, wkey_str, atI_0, atI_1, atI_2, atI_3, up_same, if_false, Bool.false_eq_true, Bool.true_eq_false, tru_non, isLT_non, isi_int_non, isi_bool_non, isi_str_non, isi_tup_non, isi_lst_non, tru_bl, isLT_bl, isi_int_bl, isi_bool_bl, isi_str_bl, isi_tup_bl, isi_lst_bl, tru_int, isLT_int, isi_int_int, isi_bool_int, isi_str_int, isi_tup_int, isi_lst_int, tru_str, isLT_str, isi_int_str, isi_bool_str, isi_str_str, isi_tup_str, isi_lst_str, tru_tup, isLT_tup, isi_int_tup, isi_bool_tup, isi_str_tup, isi_tup_tup, isi_lst_tup, tru_lst, isLT_lst, isi_int_lst, isi_bool_lst, isi_str_lst, isi_tup_lst, isi_lst_lst, isL_lst, seqW_lst, seqW_tup, seqW_str, seqW_scr, sq2_lst, sq2_tup, inW_sign])
      refine ⟨?_, ⟨_, _, rfl⟩, ?_⟩
      · have := hp.hi
        unfold rkv
        rw [List.length_map, List.length_take]
        omega
      · rw [up_up, wput_new nk]
        congr 2
        unfold rkv
        rw [take_succ_map _ hx]
  · rintro ω' S' ⟨⟨y, z, rfl⟩, rfl⟩
    rw [List.length_map, List.take_length]
    refine ⟨_, _, .dct up_same, ?_⟩
    rw [del_new hS, rkv_fst, rkv_snd]
    exact q
section
variable {P : Program} {w : World} {K : PySem.W.Frag} {mg : Str → Option Value} {base : Heap} {c_Ground : Addr}
theorem ok_checked_risks {f : Addr} {fd : FuncData} (F : Fun K "checked_risks" "checked_risks" s_checked_risks f fd) (T : Txt K w mg c_Ground) (C_check_size : CalD P w K mg base 2 "check_size" sp_check_size) (C_is_place_with_risk : CalD P w K mg base 3 "is_place_with_risk" sp_is_place_with_risk) : FnOk P w K mg base CX0 4 f fd ["places"] (uSp K (sp_checked_risks)) :=
  Fun.okF F sc_checked_risks (td_checked_risks) (fun cdv A outer s H E hr =>
    (dss_cons (ds_expr (de_call C_check_size hr (da_cons de_str (da_cons (dv 0) (da_cons de_int (da_cons (de_glob T.g_MOST_PLACES) da_nil))))))
    (dss_cons (ds_set (i := 1) sc_checked_risks.nd de_dnewK)
    (dss_cons (ds_for PassesOwn.never (di_enA T.z_enumerate (da_cons (dv 0) da_nil)) (dg_tp (dgs_cons (dg_nm (i := 2) sc_checked_risks.nd) (dgs_cons (dg_nm (i := 3) sc_checked_risks.nd) dgs_nil)))
      (dss_cons (ds_if (PW.pt (dw_or (dt_not (dt_tru (de_call C_is_place_with_risk hr (da_cons (dv 3) da_nil)))) (dw_or1 (dt_cmp (oc_in hr) (de_ix (dv 3) de_int) (dv 1))))) (dss_one ds_never) dss_nil)
      (dss_one (ds_dput hr (dv 1) (de_ix (dv 3) de_int) (de_ix (dv 3) de_int)))))
    (dss_one (ds_ret (dv 1))))))) (fun ws S Q E h => len_checked_risks h) (hd_checked_risks)
end
end DL

set_option Elab.async false
set_option linter.all false
set_option maxRecDepth 100000
set_option maxHeartbeats 4000000
namespace DL
open PySem PySem.Spec PyProof.Rows L2
/-! ### check_roads -/
abbrev s_check_roads : Stmt := topS 26
abbrev N_check_roads : List Str := ["roads", "risks", "joined", "at", "road"]
theorem sc_check_roads : FnScope N_check_roads ["roads", "risks"] (defScope s_check_roads) := ⟨rfl, rfl, rfl, by decide +kernel, rfl, by decide +kernel, by decide +kernel⟩
theorem st_check_roads {x0 x1 : W} : startW N_check_roads [x0, x1] = [some x0, some x1, none, none, none] := rfl
def td_check_roads : DS' :=
    (dSeq (dDrop (dCall sp_check_size (dCons (dC (.str "roads")) (dCons (dVar 0) (dCons (dC (.int 0)) (dCons (dC w_MOST_ROADS) dNil))))))
    (dSeq (dSet 2 dNewT)
    (dFor (dEnum (dCons (dVar 0) dNil)) (.tp ((.nm 3) :: ((.nm 4) :: [])))
      (dSeq (dFgt (dIfS (dOr (dNot (dTru (dCall sp_is_road_among (dCons (dVar 1) (dCons (dVar 4) dNil))))) (dTest (dOp dInT (dCall sp_ends_of (dCons (dVar 4) dNil)) (dVar 2)))) (fun _ _ _ => False) dNext))
      (dFgt (dPut (dVar 2) (dCall sp_ends_of (dCons (dVar 4) dNil)) (dC (.bl true))))))))
def sp_check_roads : DSp := fun ws S Q _ => ∃ ps rs, ws = [roadsW rs, risksW ps] ∧ PsOk ps ∧ RsOk ps rs ∧ Q .non S
theorem len_check_roads {ws S Q E} (h : sp_check_roads ws S Q E) : ws.length = 2 := by obtain ⟨ps, rs, rfl, _⟩ := h; rfl
def jkv (rs : List Rd4) : List (List Key × W) := rs.map fun r => (r.ends, .bl true)
theorem hd_check_roads (ws S Q E) (h : sp_check_roads ws S Q E) : td_check_roads { nx := fun _ S' => frzQ Q .non S', rt := frzQ Q } ⟨startW N_check_roads ws, XF⟩ S := by
  obtain ⟨ps, rs, rfl, hp, hr, q⟩ := h
  simp only [st_check_roads, td_check_roads]
  (simp only [↓dFgt, ↓dVar, ↓dC, ↓dOp, ↓dUn, ↓dI, ↓dI0, ↓dSub, ↓dMul, ↓dDiv, ↓dMod, ↓dPow, ↓dAdd, ↓dNeg, ↓dEq, ↓dNe, ↓dLt, ↓dLe, ↓dGt, ↓dGe, ↓dIsN, ↓dNotN, ↓dTru, ↓dTest, ↓dChain, ↓dAnd, ↓dOr, ↓dNot, ↓dAndV, ↓dOrV, ↓dNotV, ↓dIf, ↓dNil, ↓dCons, ↓dTup, ↓dLst, ↓dLstM, ↓dCB, ↓dLen, ↓dAbs, ↓dMax2, ↓dMin2, ↓dAll, ↓dAny, ↓dListOf, ↓dListOfM, ↓dTupOf, ↓dNext, ↓dSeq, ↓dDrop, ↓dRet, ↓dRetN, ↓dIfS, ↓dBrk, ↓dCnt, ↓dSet, ↓dAsgT, ↓dPar2, ↓tbind, ↓tbinds, ↓Om.set, ↓dCall, ↓dIx, ↓dNo, ↓dPart, ↓dSl, ↓dSlr, ↓dBM, ↓dApp, ↓dExt, ↓dSetIx, ↓dIs, ↓dMinS, ↓dMaxS, ↓dJoin, ↓dFrz, ↓dPut, ↓dFld, ↓dSetF, ↓dInt, ↓dIsLT, ↓dRng1, ↓dRng2, ↓dEnum, ↓dZip, ↓dSeqI, view_c_non, view_c_bl, view_c_int, view_c_str, view_c_tup, view_c_lst, view_c_scr, view_c_dct, view_c_ins, ↓startW, ↓wp, ↓wps, ↓dInKD, ↓dNotInKD, ↓dIxKD, ↓dIn, ↓dNotIn, ↓dDg, List.getElem?_cons_zero, List.getElem?_cons_succ, List.set_cons_zero, List.set_cons_succ, List.map_cons, List.map_nil, List.length_cons, List.length_nil, List.replicate_succ, List.replicate_zero, List.nil_append, List.cons_append, Bool.not_true, Bool.not_false, if_true, wkey_int, wkey_str, atI_0, atI_1, atI_2, atI_3, up_same, if_false, Bool.false_eq_true, Bool.true_eq_false, tru_non, isLT_non, isi_int_non, isi_bool_non, isi_str_non, isi_tup_non, isi_lst_non, tru_bl, isLT_bl, isi_int_bl, isi_bool_bl, isi_str_bl, isi_tup_bl, isi_lst_bl, tru_int, isLT_int, isi_int_int, isi_bool_int, isi_str_int, isi_tup_int, isi_lst_int, tru_str, isLT_str, isi_int_str, isi_bool_str, isi_str_str, isi_tup_str, isi_lst_str, tru_tup, isLT_tup, isi_int_tup, isi_bool_tup, isi_str_tup, isi_tup_tup, isi_lst_tup, tru_lst, isLT_lst, isi_int_lst, isi_bool_lst, isi_str_lst, isi_tup_lst, isi_lst_lst, isL_lst, seqW_lst, seqW_tup, seqW_str, seqW_scr, sq2_lst, sq2_tup, inW_sign])
  refine ⟨_, _, _, _, rfl, rfl, ?_, ?_⟩
  · have := hr.hi; simp [tupIn]; omega
  intro p hS
  refine forE (xs := rs.map Rd4.w) (fun _ h => h) (fun i ω' S' => (∃ y z, ω' = ⟨[some (roadsW rs), some (risksW ps), some (.ref p), y, z], XF⟩) ∧ S' = up S p (.dT (jkv (rs.take i)))) ⟨⟨_, _, rfl⟩, rfl⟩ ?_ ?_
  · rintro i u ω' S' hu ⟨⟨y, z, rfl⟩, rfl⟩
    rw [List.getElem?_map] at hu
    cases hx : rs[i]? with
    | none => rw [hx] at hu; cases hu
    | some x =>
      rw [hx] at hu
      cases hu
      have ok := hr.ok _ (List.mem_of_getElem? hx)
      have nn : x.ends ∉ (jkv (rs.take i)).map (·.1) := by
        have e : (jkv (rs.take i)).map (·.1) = (rs.map Rd4.ends).take i := by unfold jkv; rw [List.map_map, ← List.map_take]; rfl
        rw [e]
        exact nodup_take hr.nd (by rw [List.getElem?_map, hx]; rfl)
      refine ⟨_, rfl, ?_⟩
      (simp only [↓dFgt, ↓dVar, ↓dC, ↓dOp, ↓dUn, ↓dI, ↓dI0, ↓dSub, ↓dMul, ↓dDiv, ↓dMod, ↓dPow, ↓dAdd, ↓dNeg, ↓dEq, ↓dNe, ↓dLt, ↓dLe, ↓dGt, ↓dGe, ↓dIsN, ↓dNotN, ↓dTru, ↓dTest, ↓dChain, ↓dAnd, ↓dOr, ↓dNot, ↓dAndV, ↓dOrV, ↓dNotV, ↓dIf, ↓dNil, ↓dCons, ↓dTup, ↓dLst, ↓dLstM, ↓dCB, ↓dLen, ↓dAbs, ↓dMax2, ↓dMin2, ↓dAll, ↓dAny, ↓dListOf, ↓dListOfM, ↓dTupOf, ↓dNext, ↓dSeq, ↓dDrop, ↓dRet, ↓dRetN, ↓dIfS, ↓dBrk, ↓dCnt, ↓dSet, ↓dAsgT, ↓dPar2, ↓tbind, ↓tbinds, ↓Om.set, ↓dCall, ↓dIx, ↓dNo, ↓dPart, ↓dSl, ↓dSlr, ↓dBM, ↓dApp, ↓dExt, ↓dSetIx, ↓dIs, ↓dMinS, ↓dMaxS, ↓dJoin, ↓dFrz, ↓dPut, ↓dFld, ↓dSetF, ↓dInt, ↓dIsLT, ↓dRng1, ↓dRng2, ↓dEnum, ↓dZip, ↓dSeqI, view_c_non, view_c_bl, view_c_int, view_c_str, view_c_tup, view_c_lst, view_c_scr, view_c_dct, view_c_ins, ↓startW, ↓wp, ↓wps, ↓dInKD, ↓dNotInKD, ↓dIxKD, ↓dIn, ↓dNotIn, ↓dDg, List.getElem?_cons_zero, List.getElem?_cons_succ, List.set_cons_zero, List.set_cons_succ, List.map_cons, List.map_nil, List.length_cons, List.length_nil, List.replicate_succ, List.replicate_zero, List.nil_append, List.cons_append, Bool.not_true, Bool.not_false, if_true, wkey_int, wkey_str, atI_0, atI_1, atI_2, atI_3, up_same, if_false, Bool.false_eq_true, Bool.true_eq_false, tru_non, isLT_non, isi_int_non, isi_bool_non, isi_str_non, isi_tup_non, isi_lst_non, tru_bl, isLT_bl, isi_int_bl, isi_bool_bl, isi_str_bl, isi_tup_bl, isi_lst_bl, tru_int, isLT_int, isi_int_int, isi_bool_int, isi_str_int, isi_tup_int, isi_lst_int, tru_str, isLT_str, isi_int_str, isi_bool_str, isi_str_str, isi_tup_str, isi_lst_str, tru_tup, isLT_tup, isi_int_tup, isi_bool_tup, isi_str_tup, isi_tup_tup, isi_lst_tup, tru_lst, isLT_lst, isi_int_lst, isi_bool_lst, isi_str_lst, isi_tup_lst, isi_lst_lst, isL_lst, seqW_lst, seqW_tup, seqW_str, seqW_scr, sq2_lst, sq2_tup, inW_sign])
      refine ⟨ps, x, rfl, hp, ok.1, ok.2.1, ok.2.2.1, ok.2.2.2.1, ok.2.2.2.2, ?_⟩
      (simp only [↓dFgt, ↓dVar, ↓dC, ↓dOp, ↓dUn, ↓dI, ↓dI0, ↓dSub, ↓dMul, ↓dDiv, ↓dMod, ↓dPow, ↓dAdd, ↓dNeg, ↓dEq, ↓dNe, ↓dLt, ↓dLe, ↓dGt, ↓dGe, ↓dIsN, ↓dNotN, ↓dTru, ↓dTest, ↓dChain, ↓dAnd, ↓dOr, ↓dNot, ↓dAndV, ↓dOrV, ↓dNotV, ↓dIf, ↓dNil, ↓dCons, ↓dTup, ↓dLst, ↓dLstM, ↓dCB, ↓dLen, ↓dAbs, ↓dMax2, ↓dMin2, ↓dAll, ↓dAny, ↓dListOf, ↓dListOfM, ↓dTupOf, ↓dNext, ↓dSeq, ↓dDrop, ↓dRet, ↓dRetN, ↓dIfS, ↓dBrk, ↓dCnt, ↓dSet, ↓dAsgT, ↓dPar2, ↓tbind, ↓tbinds, ↓Om.set, ↓dCall, ↓dIx, ↓dNo, ↓dPart, ↓dSl, ↓dSlr, ↓dBM, ↓dApp, ↓dExt, ↓dSetIx, ↓dIs, ↓dMinS, ↓dMaxS, ↓dJoin, ↓dFrz, ↓dPut, ↓dFld, ↓dSetF, ↓dInt, ↓dIsLT, ↓dRng1, ↓dRng2, ↓dEnum, ↓dZip, ↓dSeqI, view_c_non, view_c_bl, view_c_int, view_c_str, view_c_tup, view_c_lst, view_c_scr, view_c_dct, view_c_ins, ↓startW, ↓wp, ↓wps, ↓dInKD, ↓dNotInKD, ↓dIxKD, ↓dIn, ↓dNotIn, ↓dDg, List.getElem?_cons_zero, List.getElem?_cons_succ, List.set_cons_zero, List.set_cons_succ, List.map_cons, List.map_nil, List.length_cons, List.length_nil, List.replicate_succ, List.replicate_zero, List.nil_append, List.cons_append, Bool.not_true, Bool.not_false, if_true, wkey_int, wkey_str, atI_0, atI_1, atI_2, atI_3, up_same, if_false, Bool.false_eq_true, Bool.true_eq_false, tru_non, isLT_non, isi_int_non, isi_bool_non, isi_str_non, isi_tup_non, isi_lst_non, tru_bl, isLT_bl, isi_int_bl, isi_bool_bl, isi_str_bl, isi_tup_bl, isi_lst_bl, tru_int, isLT_int, isi_int_int, isi_bool_int, isi_str_int, isi_tup_int, isi_lst_int, tru_str, isLT_str, isi_int_str, isi_bool_str, isi_str_str, isi_tup_str, isi_lst_str, tru_tup, isLT_tup, isi_int_tup, isi_bool_tup, isi_str_tup, isi_tup_tup, isi_lst_tup, tru_lst, isLT_lst, isi_int_lst, isi_bool_lst, isi_str_lst, isi_tup_lst, isi_lst_lst, isL_lst, seqW_lst, seqW_tup, seqW_str, seqW_scr, sq2_lst, sq2_tup, inW_sign])
      refine ⟨x.a, x.b, x.m, x.s, rfl, fun t ht => ?_⟩
      have htp : p ≠ t := fun e => by subst e; rw [up_same] at ht; cases ht
      have k1 : ∀ t, wkeyT (up (up S p (.dT (jkv (rs.take i)))) t (.tup [.str (minS x.a x.b), .str (maxS x.a x.b)])) (.ref t) = some x.ends := fun t => by simp only [wkeyT, up_same]; rfl
      have k2 : ∀ t, p ≠ t → up (up S p (.dT (jkv (rs.take i)))) t (.tup [.str (minS x.a x.b), .str (maxS x.a x.b)]) p = some (.dT (jkv (rs.take i))) := fun t h => by rw [up_ne h, up_same]
      simp only [dInT, k1, k2 t htp, wval_none nn]
      try (simp only [↓dFgt, ↓dVar, ↓dC, ↓dOp, ↓dUn, ↓dI, ↓dI0, ↓dSub, ↓dMul, ↓dDiv, ↓dMod, ↓dPow, ↓dAdd, ↓dNeg, ↓dEq, ↓dNe, ↓dLt, ↓dLe, ↓dGt, ↓dGe, ↓dIsN, ↓dNotN, ↓dTru, ↓dTest, ↓dChain, ↓dAnd, ↓dOr, ↓dNot, ↓dAndV, ↓dOrV, ↓dNotV, ↓dIf, ↓dNil, ↓dCons, ↓dTup, ↓dLst, ↓dLstM, ↓dCB, ↓dLen, ↓dAbs, ↓dMax2, ↓dMin2, ↓dAll, ↓dAny, ↓dListOf, ↓dListOfM, ↓dTupOf, ↓dNext, ↓dSeq, ↓dDrop, ↓dRet, ↓dRetN, ↓dIfS, ↓dBrk, ↓dCnt, ↓dSet, ↓dAsgT, ↓dPar2, ↓tbind, ↓tbinds, ↓Om.set, ↓dCall, ↓dIx, ↓dNo, ↓dPart, ↓dSl, ↓dSlr, ↓dBM, ↓dApp, ↓dExt, ↓dSetIx, ↓dIs, ↓dMinS, ↓dMaxS, ↓dJoin, ↓dFrz, ↓dPut, ↓dFld, ↓dSetF, ↓dInt, ↓dIsLT, ↓dRng1, ↓dRng2, ↓dEnum, ↓dZip, ↓dSeqI, view_c_non, view_c_bl, view_c_int, view_c_str, view_c_tup, view_c_lst, view_c_scr, view_c_dct, view_c_ins, ↓startW, ↓wp, ↓wps, ↓dInKD, ↓dNotInKD, ↓dIxKD, ↓dIn, ↓dNotIn, ↓dDg, List.getElem?_cons_zero, List.getElem?_cons_succ, List.set_cons_zero, List.set_cons_succ, List.map_cons, List.map_nil, List.length_cons, List.length_nil, List.replicate_succ, List.replicate_zero, List.nil_append, List.cons_append, Bool.not_true, Bool.not_false, if_true, wkey_int, wkey_str, atI_0, atI_1, atI_2, atI_3, up_same, if_false, Bool.false_eq_true, Bool.true_eq_false, tru_non, isLT_non, isi_int_non, isi_bool_non, isi_str_non, isi_tup_non, isi_lst_non, tru_bl, isLT_bl, isi_int_bl, isi_bool_bl, isi_str_bl, isi_tup_bl, isi_lst_bl, tru_int, isLT_int, isi_int_int, isi_bool_int, isi_str_int, isi_tup_int, isi_lst_int, tru_str, isLT_str, isi_int_str, isi_bool_str, isi_str_str, isi_tup_str, isi_lst_str, tru_tup, isLT_tup, isi_int_tup, isi_bool_tup, isi_str_tup, isi_tup_tup, isi_lst_tup, tru_lst, isLT_lst, isi_int_lst, isi_bool_lst, isi_str_lst, isi_tup_lst, isi_lst_lst, isL_lst, seqW_lst, seqW_tup, seqW_str, seqW_scr, sq2_lst, sq2_tup, inW_sign])
      refine ⟨_, Frz.new ht (fun _ e => nomatch e), x.a, x.b, x.m, x.s, rfl, fun t2 ht2 => ?_⟩
      have htp2 : p ≠ t2 := fun e => by subst e; rw [up_same] at ht2; cases ht2
      try simp only [k1, k2 t2 htp2]
      refine ⟨?_, _, Frz.under htp2 (by rw [up_ne (Ne.symm htp2)] at ht2; exact ht2) (fun _ e => nomatch e), ⟨_, _, rfl⟩, ?_⟩
      · have := hr.hi
        unfold jkv
        rw [List.length_map, List.length_take]
        omega
      · rw [wput_new nn]
        congr 2
        unfold jkv
        rw [take_succ_map _ hx]
  · rintro ω' S' ⟨⟨y, z, rfl⟩, rfl⟩
    exact ⟨_, _, Frz.new hS (fun _ e => nomatch e), q⟩
section
variable {P : Program} {w : World} {K : PySem.W.Frag} {mg : Str → Option Value} {base : Heap} {c_Ground : Addr}
theorem ok_check_roads {f : Addr} {fd : FuncData} (F : Fun K "check_roads" "check_roads" s_check_roads f fd) (T : Txt K w mg c_Ground) (C_check_size : CalD P w K mg base 2 "check_size" sp_check_size) (C_ends_of : CalD P w K mg base 1 "ends_of" sp_ends_of) (C_is_road_among : CalD P w K mg base 3 "is_road_among" sp_is_road_among) : FnOk P w K mg base CX0 4 f fd ["roads", "risks"] (uSp K (sp_check_roads)) :=
  Fun.okF F sc_check_roads (td_check_roads) (fun cdv A outer s H E hr =>
    (dss_cons (ds_expr (de_call C_check_size hr (da_cons de_str (da_cons (dv 0) (da_cons de_int (da_cons (de_glob T.g_MOST_ROADS) da_nil))))))
    (dss_cons (ds_set (i := 2) sc_check_roads.nd de_dnewT)
    (dss_one (ds_for PassesOwn.never (di_enA T.z_enumerate (da_cons (dv 0) da_nil)) (dg_tp (dgs_cons (dg_nm (i := 3) sc_check_roads.nd) (dgs_cons (dg_nm (i := 4) sc_check_roads.nd) dgs_nil)))
      (dss_cons (ds_fgt (ds_if (PW.pt (dw_or (dt_not (dt_tru (de_call C_is_road_among hr (da_cons (dv 1) (da_cons (dv 4) da_nil))))) (dw_or1 (dt_inT hr (de_call C_ends_of hr (da_cons (dv 4) da_nil)) (dv 2))))) (dss_one ds_never) dss_nil))
      (dss_one (ds_fgt (ds_dput hr (dv 2) (de_call C_ends_of hr (da_cons (dv 4) da_nil)) de_bl))))))))) (fun ws S Q E h => len_check_roads h) (hd_check_roads)
end
/-! ### check_stations -/
abbrev s_check_stations : Stmt := topS 27
abbrev N_check_stations : List Str := ["stations", "risks", "seen", "at", "station"]
theorem sc_check_stations : FnScope N_check_stations ["stations", "risks"] (defScope s_check_stations) := ⟨rfl, rfl, rfl, by decide +kernel, rfl, by decide +kernel, by decide +kernel⟩
theorem st_check_stations {x0 x1 : W} : startW N_check_stations [x0, x1] = [some x0, some x1, none, none, none] := rfl
def td_check_stations : DS' :=
    (dSeq (dDrop (dCall sp_check_size (dCons (dC (.str "stations")) (dCons (dVar 0) (dCons (dC (.int 0)) (dCons (dC w_MOST_STATIONS) dNil))))))
    (dSeq (dSet 2 dNewK)
    (dFor (dEnum (dCons (dVar 0) dNil)) (.tp ((.nm 3) :: ((.nm 4) :: [])))
      (dSeq (dIfS (dOr (dNot (dTru (dCall sp_is_place_among (dCons (dVar 1) (dCons (dVar 4) dNil))))) (dTest (dOp dIn (dVar 4) (dVar 2)))) (fun _ _ _ => False) dNext)
      (dPut (dVar 2) (dVar 4) (dC (.bl true)))))))
def sp_check_stations : DSp := fun ws S Q _ => ∃ ps ss, ws = [stationsW ss, risksW ps] ∧ PsOk ps ∧ SsOk ps ss ∧ Q .non S
theorem len_check_stations {ws S Q E} (h : sp_check_stations ws S Q E) : ws.length = 2 := by obtain ⟨ps, rs, rfl, _⟩ := h; rfl
def skv (ss : List Str) : List (Key × W) := ss.map fun s => (Sum.inr s, .bl true)
theorem hd_check_stations (ws S Q E) (h : sp_check_stations ws S Q E) : td_check_stations { nx := fun _ S' => frzQ Q .non S', rt := frzQ Q } ⟨startW N_check_stations ws, XF⟩ S := by
  obtain ⟨ps, ss, rfl, hp, hs, q⟩ := h
  simp only [st_check_stations, td_check_stations]
  (simp only [↓dFgt, ↓dVar, ↓dC, ↓dOp, ↓dUn, ↓dI, ↓dI0, ↓dSub, ↓dMul, ↓dDiv, ↓dMod, ↓dPow, ↓dAdd, ↓dNeg, ↓dEq, ↓dNe, ↓dLt, ↓dLe, ↓dGt, ↓dGe, ↓dIsN, ↓dNotN, ↓dTru, ↓dTest, ↓dChain, ↓dAnd, ↓dOr, ↓dNot, ↓dAndV, ↓dOrV, ↓dNotV, ↓dIf, ↓dNil, ↓dCons, ↓dTup, ↓dLst, ↓dLstM, ↓dCB, ↓dLen, ↓dAbs, ↓dMax2, ↓dMin2, ↓dAll, ↓dAny, ↓dListOf, ↓dListOfM, ↓dTupOf, ↓dNext, ↓dSeq, ↓dDrop, ↓dRet, ↓dRetN, ↓dIfS, ↓dBrk, ↓dCnt, ↓dSet, ↓dAsgT, ↓dPar2, ↓tbind, ↓tbinds, ↓Om.set, ↓dCall, ↓dIx, ↓dNo, ↓dPart, ↓dSl, ↓dSlr, ↓dBM, ↓dApp, ↓dExt, ↓dSetIx, ↓dIs, ↓dMinS, ↓dMaxS, ↓dJoin, ↓dFrz, ↓dPut, ↓dFld, ↓dSetF, ↓dInt, ↓dIsLT, ↓dRng1, ↓dRng2, ↓dEnum, ↓dZip, ↓dSeqI, view_c_non, view_c_bl, view_c_int, view_c_str, view_c_tup, view_c_lst, view_c_scr, view_c_dct, view_c_ins, ↓startW, ↓wp, ↓wps, ↓dInKD, ↓dNotInKD, ↓dIxKD, ↓dIn, ↓dNotIn, ↓dDg, List.getElem?_cons_zero, List.getElem?_cons_succ, List.set_cons_zero, List.set_cons_succ, List.map_cons, List.map_nil, List.length_cons, List.length_nil, List.replicate_succ, List.replicate_zero, List.nil_append, List.cons_append, Bool.not_true, Bool.not_false, if_true, wkey_int, wkey_str, atI_0, atI_1, atI_2, atI_3, up_same, if_false, Bool.false_eq_true, Bool.true_eq_false, tru_non, isLT_non, isi_int_non, isi_bool_non, isi_str_non, isi_tup_non, isi_lst_non, tru_bl, isLT_bl, isi_int_bl, isi_bool_bl, isi_str_bl, isi_tup_bl, isi_lst_bl, tru_int, isLT_int, isi_int_int, isi_bool_int, isi_str_int, isi_tup_int, isi_lst_int, tru_str, isLT_str, isi_int_str, isi_bool_str, isi_str_str, isi_tup_str, isi_lst_str, tru_tup, isLT_tup, isi_int_tup, isi_bool_tup, isi_str_tup, isi_tup_tup, isi_lst_tup, tru_lst, isLT_lst, isi_int_lst, isi_bool_lst, isi_str_lst, isi_tup_lst, isi_lst_lst, isL_lst, seqW_lst, seqW_tup, seqW_str, seqW_scr, sq2_lst, sq2_tup, inW_sign])
  refine ⟨_, _, _, _, rfl, rfl, ?_, ?_⟩
  · have := hs.hi; simp [tupIn]; omega
  intro p hS
  refine forE (xs := ss.map W.str) (fun _ h => h) (fun i ω' S' => (∃ y z, ω' = ⟨[some (stationsW ss), some (risksW ps), some (.ref p), y, z], XF⟩) ∧ S' = up S p (.dK (skv (ss.take i)))) ⟨⟨_, _, rfl⟩, rfl⟩ ?_ ?_
  · rintro i u ω' S' hu ⟨⟨y, z, rfl⟩, rfl⟩
    rw [List.getElem?_map] at hu
    cases hx : ss[i]? with
    | none => rw [hx] at hu; cases hu
    | some x =>
      rw [hx] at hu
      cases hu
      have ok := hs.ok _ (List.mem_of_getElem? hx)
      have nn : (Sum.inr x : Key) ∉ (skv (ss.take i)).map (·.1) := by
        have e : (skv (ss.take i)).map (·.1) = (ss.take i).map Sum.inr := by unfold skv; rw [List.map_map]; rfl
        rw [e]
        intro h
        obtain ⟨y, hy, e⟩ := List.mem_map.mp h
        cases e
        exact nodup_take hs.nd hx hy
      refine ⟨_, rfl, ?_⟩
      (simp only [↓dFgt, ↓dVar, ↓dC, ↓dOp, ↓dUn, ↓dI, ↓dI0, ↓dSub, ↓dMul, ↓dDiv, ↓dMod, ↓dPow, ↓dAdd, ↓dNeg, ↓dEq, ↓dNe, ↓dLt, ↓dLe, ↓dGt, ↓dGe, ↓dIsN, ↓dNotN, ↓dTru, ↓dTest, ↓dChain, ↓dAnd, ↓dOr, ↓dNot, ↓dAndV, ↓dOrV, ↓dNotV, ↓dIf, ↓dNil, ↓dCons, ↓dTup, ↓dLst, ↓dLstM, ↓dCB, ↓dLen, ↓dAbs, ↓dMax2, ↓dMin2, ↓dAll, ↓dAny, ↓dListOf, ↓dListOfM, ↓dTupOf, ↓dNext, ↓dSeq, ↓dDrop, ↓dRet, ↓dRetN, ↓dIfS, ↓dBrk, ↓dCnt, ↓dSet, ↓dAsgT, ↓dPar2, ↓tbind, ↓tbinds, ↓Om.set, ↓dCall, ↓dIx, ↓dNo, ↓dPart, ↓dSl, ↓dSlr, ↓dBM, ↓dApp, ↓dExt, ↓dSetIx, ↓dIs, ↓dMinS, ↓dMaxS, ↓dJoin, ↓dFrz, ↓dPut, ↓dFld, ↓dSetF, ↓dInt, ↓dIsLT, ↓dRng1, ↓dRng2, ↓dEnum, ↓dZip, ↓dSeqI, view_c_non, view_c_bl, view_c_int, view_c_str, view_c_tup, view_c_lst, view_c_scr, view_c_dct, view_c_ins, ↓startW, ↓wp, ↓wps, ↓dInKD, ↓dNotInKD, ↓dIxKD, ↓dIn, ↓dNotIn, ↓dDg, List.getElem?_cons_zero, List.getElem?_cons_succ, List.set_cons_zero, List.set_cons_succ, List.map_cons, List.map_nil, List.length_cons, List.length_nil, List.replicate_succ, List.replicate_zero, List.nil_append, List.cons_append, Bool.not_true, Bool.not_false, if_true, wkey_int, wkey_str, atI_0, atI_1, atI_2, atI_3, up_same, if_false, Bool.false_eq_true, Bool.true_eq_false, tru_non, isLT_non, isi_int_non, isi_bool_non, isi_str_non, isi_tup_non, isi_lst_non, tru_bl, isLT_bl, isi_int_bl, isi_bool_bl, isi_str_bl, isi_tup_bl, isi_lst_bl, tru_int, isLT_int, isi_int_int, isi_bool_int, isi_str_int, isi_tup_int, isi_lst_int, tru_str, isLT_str, isi_int_str, isi_bool_str, isi_str_str, isi_tup_str, isi_lst_str, tru_tup, isLT_tup, isi_int_tup, isi_bool_tup, isi_str_tup, isi_tup_tup, isi_lst_tup, tru_lst, isLT_lst, isi_int_lst, isi_bool_lst, isi_str_lst, isi_tup_lst, isi_lst_lst, isL_lst, seqW_lst, seqW_tup, seqW_str, seqW_scr, sq2_lst, sq2_tup, inW_sign])
      refine ⟨ps, _, rfl, rfl, ?_⟩
      rw [hp.name ok, show isPl ps (.str x) = true from decide_eq_true ok]
      (simp only [↓dFgt, ↓dVar, ↓dC, ↓dOp, ↓dUn, ↓dI, ↓dI0, ↓dSub, ↓dMul, ↓dDiv, ↓dMod, ↓dPow, ↓dAdd, ↓dNeg, ↓dEq, ↓dNe, ↓dLt, ↓dLe, ↓dGt, ↓dGe, ↓dIsN, ↓dNotN, ↓dTru, ↓dTest, ↓dChain, ↓dAnd, ↓dOr, ↓dNot, ↓dAndV, ↓dOrV, ↓dNotV, ↓dIf, ↓dNil, ↓dCons, ↓dTup, ↓dLst, ↓dLstM, ↓dCB, ↓dLen, ↓dAbs, ↓dMax2, ↓dMin2, ↓dAll, ↓dAny, ↓dListOf, ↓dListOfM, ↓dTupOf, ↓dNext, ↓dSeq, ↓dDrop, ↓dRet, ↓dRetN, ↓dIfS, ↓dBrk, ↓dCnt, ↓dSet, ↓dAsgT, ↓dPar2, ↓tbind, ↓tbinds, ↓Om.set, ↓dCall, ↓dIx, ↓dNo, ↓dPart, ↓dSl, ↓dSlr, ↓dBM, ↓dApp, ↓dExt, ↓dSetIx, ↓dIs, ↓dMinS, ↓dMaxS, ↓dJoin, ↓dFrz, ↓dPut, ↓dFld, ↓dSetF, ↓dInt, ↓dIsLT, ↓dRng1, ↓dRng2, ↓dEnum, ↓dZip, ↓dSeqI, view_c_non, view_c_bl, view_c_int, view_c_str, view_c_tup, view_c_lst, view_c_scr, view_c_dct, view_c_ins, ↓startW, ↓wp, ↓wps, ↓dInKD, ↓dNotInKD, ↓dIxKD, ↓dIn, ↓dNotIn, ↓dDg, List.getElem?_cons_zero, List.getElem?_cons_succ, List.set_cons_zero, List.set_cons_succ, List.map_cons, List.map_nil, List.length_cons, List.length_nil, List.replicate_succ, List.replicate_zero, List.nil_append, List.cons_append, Bool.not_true, Bool.not_false, if_true, wkey_int, wkey_str, atI_0, atI_1, atI_2, atI_3, up_same, if_false, Bool.false_eq_true, Bool.true_eq_false, tru_non, isLT_non, isi_int_non, isi_bool_non, isi_str_non, isi_tup_non, isi_lst_non, tru_bl, isLT_bl, isi_int_bl, isi_bool_bl, isi_str_bl, isi_tup_bl, isi_lst_bl, tru_int, isLT_int, isi_int_int, isi_bool_int, isi_str_int, isi_tup_int, isi_lst_int, tru_str, isLT_str, isi_int_str, isi_bool_str, isi_str_str, isi_tup_str, isi_lst_str, tru_tup, isLT_tup, isi_int_tup, isi_bool_tup, isi_str_tup, isi_tup_tup, isi_lst_tup, tru_lst, isLT_lst, isi_int_lst, isi_bool_lst, isi_str_lst, isi_tup_lst, isi_lst_lst, isL_lst, seqW_lst, seqW_tup, seqW_str, seqW_scr, sq2_lst, sq2_tup, inW_sign])
      have e2 : inW (up S p (.dK (skv (ss.take i)))) (.str x) (.ref p) = some false := by rw [inW_refD up_same wkey_str, wval_none nn]; rfl
      simp only [e2]
      (simp only [↓dFgt, ↓dVar, ↓dC, ↓dOp, ↓dUn, ↓dI, ↓dI0, ↓dSub, ↓dMul, ↓dDiv, ↓dMod, ↓dPow, ↓dAdd, ↓dNeg, ↓dEq, ↓dNe, ↓dLt, ↓dLe, ↓dGt, ↓dGe, ↓dIsN, ↓dNotN, ↓dTru, ↓dTest, ↓dChain, ↓dAnd, ↓dOr, ↓dNot, ↓dAndV, ↓dOrV, ↓dNotV, ↓dIf, ↓dNil, ↓dCons, ↓dTup, ↓dLst, ↓dLstM, ↓dCB, ↓dLen, ↓dAbs, ↓dMax2, ↓dMin2, ↓dAll, ↓dAny, ↓dListOf, ↓dListOfM, ↓dTupOf, ↓dNext, ↓dSeq, ↓dDrop, ↓dRet, ↓dRetN, ↓dIfS, ↓dBrk, ↓dCnt, ↓dSet, ↓dAsgT, ↓dPar2, ↓tbind, ↓tbinds, ↓Om.set, ↓dCall, ↓dIx, ↓dNo, ↓dPart, ↓dSl, ↓dSlr, ↓dBM, ↓dApp, ↓dExt, ↓dSetIx, ↓dIs, ↓dMinS, ↓dMaxS, ↓dJoin, ↓dFrz, ↓dPut, ↓dFld, ↓dSetF, ↓dInt, ↓dIsLT, ↓dRng1, ↓dRng2, ↓dEnum, ↓dZip, ↓dSeqI, view_c_non, view_c_bl, view_c_int, view_c_str, view_c_tup, view_c_lst, view_c_scr, view_c_dct, view_c_ins, ↓startW, ↓wp, ↓wps, ↓dInKD, ↓dNotInKD, ↓dIxKD, ↓dIn, ↓dNotIn, ↓dDg, List.getElem?_cons_zero, List.getElem?_cons_succ, List.set_cons_zero, List.set_cons_succ, List.map_cons, List.map_nil, List.length_cons, List.length_nil, List.replicate_succ, List.replicate_zero, List.nil_append, List.cons_append, Bool.not_true, Bool.not_false, if_true, wkey_int, wkey_str, atI_0, atI_1, atI_2, atI_3, up_same, if_false, Bool.false_eq_true, Bool.true_eq_false, tru_non, isLT_non, isi_int_non, isi_bool_non, isi_str_non, isi_tup_non, isi_lst_non, tru_bl, isLT_bl, isi_int_bl, isi_bool_bl, isi_str_bl, isi_tup_bl, isi_lst_bl, tru_int, isLT_int, isi_int_int, isi_bool_int, isi_str_int, isi_tup_int, isi_lst_int, tru_str, isLT_str, isi_int_str, isi_bool_str, isi_str_str, isi_tup_str, isi_lst_str, tru_tup, isLT_tup, isi_int_tup, isi_bool_tup, isi_str_tup, isi_tup_tup, isi_lst_tup, tru_lst, isLT_lst, isi_int_lst, isi_bool_lst, isi_str_lst, isi_tup_lst, isi_lst_lst, isL_lst, seqW_lst, seqW_tup, seqW_str, seqW_scr, sq2_lst, sq2_tup, inW_sign])
      refine ⟨?_, ⟨_, _, rfl⟩, ?_⟩
      · have := hs.hi
        unfold skv
        rw [List.length_map, List.length_take]
        omega
      · rw [up_up, wput_new nn]
        congr 2
        unfold skv
        rw [take_succ_map _ hx]
  · rintro ω' S' ⟨⟨y, z, rfl⟩, rfl⟩
    exact ⟨_, _, Frz.new hS (fun _ e => nomatch e), q⟩
section
variable {P : Program} {w : World} {K : PySem.W.Frag} {mg : Str → Option Value} {base : Heap} {c_Ground : Addr}
theorem ok_check_stations {f : Addr} {fd : FuncData} (F : Fun K "check_stations" "check_stations" s_check_stations f fd) (T : Txt K w mg c_Ground) (C_check_size : CalD P w K mg base 2 "check_size" sp_check_size) (C_is_place_among : CalD P w K mg base 2 "is_place_among" sp_is_place_among) : FnOk P w K mg base CX0 3 f fd ["stations", "risks"] (uSp K (sp_check_stations)) :=
  Fun.okF F sc_check_stations (td_check_stations) (fun cdv A outer s H E hr =>
    (dss_cons (ds_expr (de_call C_check_size hr (da_cons de_str (da_cons (dv 0) (da_cons de_int (da_cons (de_glob T.g_MOST_STATIONS) da_nil))))))
    (dss_cons (ds_set (i := 2) sc_check_stations.nd de_dnewK)
    (dss_one (ds_for PassesOwn.never (di_enA T.z_enumerate (da_cons (dv 0) da_nil)) (dg_tp (dgs_cons (dg_nm (i := 3) sc_check_stations.nd) (dgs_cons (dg_nm (i := 4) sc_check_stations.nd) dgs_nil)))
      (dss_cons (ds_if (PW.pt (dw_or (dt_not (dt_tru (de_call C_is_place_among hr (da_cons (dv 1) (da_cons (dv 4) da_nil))))) (dw_or1 (dt_cmp (oc_in hr) (dv 4) (dv 2))))) (dss_one ds_never) dss_nil)
      (dss_one (ds_dput hr (dv 2) (dv 4) de_bl)))))))) (fun ws S Q E h => len_check_stations h) (hd_check_stations)
end
end DL

set_option Elab.async false
set_option linter.all false
set_option maxRecDepth 100000
set_option maxHeartbeats 4000000
namespace DL
open PySem PySem.Spec PyProof.Rows L2
theorem Frz.newT {S : Sto} {t : Addr} {xs : List W} (h : S t = none) : Frz (.ref t) (up S t (.tup xs)) (.tup xs) S := by
  have := Frz.tup (S := up S t (.tup xs)) (p := t) up_same
  rw [del_new h] at this
  exact this
theorem Frz.newL {S : Sto} {t : Addr} {xs : List W} (h : S t = none) : Frz (.ref t) (up S t (.lst xs)) (.lst xs) S := by
  have := Frz.lst (S := up S t (.lst xs)) (p := t) up_same
  rw [del_new h] at this
  exact this
theorem frzT {S : Sto} {t : Addr} {xs : List W} {Q : WQ} (h : S t = none) (q : Q (.tup xs) S) : frzQ Q (.ref t) (up S t (.tup xs)) := ⟨_, _, Frz.newT h, q⟩
theorem frzL {S : Sto} {t : Addr} {xs : List W} {Q : WQ} (h : S t = none) (q : Q (.lst xs) S) : frzQ Q (.ref t) (up S t (.lst xs)) := ⟨_, _, Frz.newL h, q⟩
theorem frzI {S : Sto} {x dx C : Addr} {fs : List (Str × W)} {Q : WQ} (h : S x = none) (hd : S dx = none) (hne : dx ≠ x) (q : Q (.ins C (fs.map (·.1)) (fs.map (·.2))) S) : frzQ Q (.ref x) (up (up (up S dx (.own x)) x (.ins C dx [])) x (.ins C dx fs)) := by
  refine ⟨_, _, Frz.ins (dx := dx) (fs := fs) up_same, ?_⟩
  have e : del (del (up (up (up S dx (.own x)) x (.ins C dx [])) x (.ins C dx fs)) x) dx = S := by
    funext b
    by_cases c : b = dx
    · subst c; rw [del_same, hd]
    · rw [del_ne c]
      by_cases c2 : b = x
      · subst c2; rw [del_same, h]
      · rw [del_ne c2, up_ne c2, up_ne c2, up_ne c]
  rw [e]
  exact q
end DL

set_option Elab.async false
set_option linter.all false
set_option maxRecDepth 100000
set_option maxHeartbeats 4000000
namespace DL
open PySem PySem.Spec PyProof.Rows L2
/-! ### Ground.__init__ -/
abbrev s_Ground__init_ : Stmt := inClass (topS 19) 0
abbrev N_Ground__init_ : List Str := ["self", "places", "roads", "stations", "road"]
theorem sc_Ground__init_ : FnScope N_Ground__init_ ["self", "places", "roads", "stations"] (defScope s_Ground__init_) := ⟨rfl, rfl, rfl, by decide +kernel, rfl, by decide +kernel, by decide +kernel⟩
theorem st_Ground__init_ {x0 x1 x2 x3 : W} : startW N_Ground__init_ [x0, x1, x2, x3] = [some x0, some x1, some x2, some x3, none] := rfl
def td_Ground__init_ (c_Ground : Addr) : DS' :=
    (dSeq (dSetF c_Ground "risks" (dVar 0) (dCall sp_checked_risks (dCons (dVar 1) dNil)))
    (dSeq (dDrop (dCall sp_check_roads (dCons (dVar 2) (dCons (dFld c_Ground "risks" (dVar 0)) dNil))))
    (dSeq (dDrop (dCall sp_check_stations (dCons (dVar 3) (dCons (dFld c_Ground "risks" (dVar 0)) dNil))))
    (dSeq (dSetF c_Ground "places" (dVar 0) (dVar 1))
    (dSeq (dSetF c_Ground "roads" (dVar 0) (dVar 2))
    (dSeq (dSetF c_Ground "stations" (dVar 0) (dVar 3))
    (dSeq (dSetF c_Ground "sorted_places" (dVar 0) (dCB dSorted (dCons (dVar 1) dNil)))
    (dSeq (dSetF c_Ground "sorted_roads" (dVar 0) (dCB dSorted (dCons (dLc (dSeqI (dVar 2)) (.nm 4) dYes (dOp dAdd (dFrz (dCall sp_ends_of (dCons (dVar 4) dNil))) (dSl (dVar 4) (dPart (dC (.int 2))) dNo)) [4]) dNil)))
    (dSetF c_Ground "sorted_stations" (dVar 0) (dCB dSorted (dCons (dVar 3) dNil)))))))))))
def sp_Ground__init_ (c_Ground : Addr) : DSp := fun ws S Q _ => ∃ x dx ps rs ss, ws = [.ref x, placesW ps, roadsW rs, stationsW ss] ∧ S x = some (.ins c_Ground dx []) ∧ PsOk ps ∧ RsOk ps rs ∧ SsOk ps ss ∧ Q .non (up S x (.ins c_Ground dx (gfs ps rs ss)))
theorem len_Ground__init_ {c_Ground ws S Q E} (h : sp_Ground__init_ c_Ground ws S Q E) : ws.length = 4 := by obtain ⟨x, dx, ps, rs, ss, rfl, _⟩ := h; rfl
theorem hd_Ground__init_ (c_Ground) (ws S Q E) (h : sp_Ground__init_ c_Ground ws S Q E) : td_Ground__init_ c_Ground { nx := fun _ S' => frzQ Q .non S', rt := frzQ Q } ⟨startW N_Ground__init_ ws, XF⟩ S := by
  obtain ⟨x, dx, ps, rs, ss, rfl, hx, hp, hr, hs, q⟩ := h
  simp only [st_Ground__init_, td_Ground__init_]
  (simp only [↓dFgt, ↓dVar, ↓dC, ↓dOp, ↓dUn, ↓dI, ↓dI0, ↓dSub, ↓dMul, ↓dDiv, ↓dMod, ↓dPow, ↓dAdd, ↓dNeg, ↓dEq, ↓dNe, ↓dLt, ↓dLe, ↓dGt, ↓dGe, ↓dIsN, ↓dNotN, ↓dTru, ↓dTest, ↓dChain, ↓dAnd, ↓dOr, ↓dNot, ↓dAndV, ↓dOrV, ↓dNotV, ↓dIf, ↓dNil, ↓dCons, ↓dTup, ↓dLst, ↓dLstM, ↓dCB, ↓dLen, ↓dAbs, ↓dMax2, ↓dMin2, ↓dAll, ↓dAny, ↓dListOf, ↓dListOfM, ↓dTupOf, ↓dNext, ↓dSeq, ↓dDrop, ↓dRet, ↓dRetN, ↓dIfS, ↓dBrk, ↓dCnt, ↓dSet, ↓dAsgT, ↓dPar2, ↓tbind, ↓tbinds, ↓Om.set, ↓dCall, ↓dIx, ↓dNo, ↓dPart, ↓dSl, ↓dSlr, ↓dBM, ↓dApp, ↓dExt, ↓dSetIx, ↓dIs, ↓dMinS, ↓dMaxS, ↓dJoin, ↓dFrz, ↓dPut, ↓dFld, ↓dSetF, ↓dInt, ↓dIsLT, ↓dRng1, ↓dRng2, ↓dEnum, ↓dZip, ↓dSeqI, view_c_non, view_c_bl, view_c_int, view_c_str, view_c_tup, view_c_lst, view_c_scr, view_c_dct, view_c_ins, ↓startW, ↓wp, ↓wps, ↓dInKD, ↓dNotInKD, ↓dIxKD, ↓dIn, ↓dNotIn, ↓dDg, List.getElem?_cons_zero, List.getElem?_cons_succ, List.set_cons_zero, List.set_cons_succ, List.map_cons, List.map_nil, List.length_cons, List.length_nil, List.replicate_succ, List.replicate_zero, List.nil_append, List.cons_append, Bool.not_true, Bool.not_false, if_true, wkey_int, wkey_str, atI_0, atI_1, atI_2, atI_3, up_same, if_false, Bool.false_eq_true, Bool.true_eq_false, tru_non, isLT_non, isi_int_non, isi_bool_non, isi_str_non, isi_tup_non, isi_lst_non, tru_bl, isLT_bl, isi_int_bl, isi_bool_bl, isi_str_bl, isi_tup_bl, isi_lst_bl, tru_int, isLT_int, isi_int_int, isi_bool_int, isi_str_int, isi_tup_int, isi_lst_int, tru_str, isLT_str, isi_int_str, isi_bool_str, isi_str_str, isi_tup_str, isi_lst_str, tru_tup, isLT_tup, isi_int_tup, isi_bool_tup, isi_str_tup, isi_tup_tup, isi_lst_tup, tru_lst, isLT_lst, isi_int_lst, isi_bool_lst, isi_str_lst, isi_tup_lst, isi_lst_lst, isL_lst, seqW_lst, seqW_tup, seqW_str, seqW_scr, sq2_lst, sq2_tup, inW_sign])
  refine ⟨ps, rfl, hp, ?_⟩
  simp only [hx]
  refine ⟨trivial, by decide, ?_⟩
  simp only [wputF, fget_ref up_same, look_self]
  refine ⟨ps, rs, rfl, hp, hr, ?_⟩
  simp only [fget_ref up_same, look_self]
  refine ⟨ps, ss, rfl, hp, hs, ?_⟩
  have w1 : wputF "places" (placesW ps) [("risks", risksW ps)] = ([("risks", risksW ps), ("places", placesW ps)] : List (Str × W)) := wputF_new (by simp only [List.map]; decide)
  have w2 : wputF "roads" (roadsW rs) [("risks", risksW ps), ("places", placesW ps)] = ([("risks", risksW ps), ("places", placesW ps), ("roads", roadsW rs)] : List (Str × W)) := wputF_new (by simp only [List.map]; decide)
  have w3 : wputF "stations" (stationsW ss) [("risks", risksW ps), ("places", placesW ps), ("roads", roadsW rs)] = ([("risks", risksW ps), ("places", placesW ps), ("roads", roadsW rs), ("stations", stationsW ss)] : List (Str × W)) := wputF_new (by simp only [List.map]; decide)
  have w4 : ∀ v, wputF "sorted_places" v [("risks", risksW ps), ("places", placesW ps), ("roads", roadsW rs), ("stations", stationsW ss)] = ([("risks", risksW ps), ("places", placesW ps), ("roads", roadsW rs), ("stations", stationsW ss), ("sorted_places", v)] : List (Str × W)) := fun v => wputF_new (by simp only [List.map]; decide)
  have w5 : ∀ v u, wputF "sorted_roads" u [("risks", risksW ps), ("places", placesW ps), ("roads", roadsW rs), ("stations", stationsW ss), ("sorted_places", v)] = ([("risks", risksW ps), ("places", placesW ps), ("roads", roadsW rs), ("stations", stationsW ss), ("sorted_places", v), ("sorted_roads", u)] : List (Str × W)) := fun v u => wputF_new (by simp only [List.map]; decide)
  have w6 : ∀ v u t, wputF "sorted_stations" t [("risks", risksW ps), ("places", placesW ps), ("roads", roadsW rs), ("stations", stationsW ss), ("sorted_places", v), ("sorted_roads", u)] = ([("risks", risksW ps), ("places", placesW ps), ("roads", roadsW rs), ("stations", stationsW ss), ("sorted_places", v), ("sorted_roads", u), ("sorted_stations", t)] : List (Str × W)) := fun v u t => wputF_new (by simp only [List.map]; decide)
  simp only [up_same, up_up, w1, w2, w3]
  refine ⟨trivial, by simp, trivial, by simp, trivial, by simp, ?_⟩
  simp only [dSorted, view_c_tup]
  refine ⟨srt_places ps, ?_⟩
  simp only [up_same]
  refine ⟨trivial, by simp, ?_⟩
  simp only [up_up, w4]
  refine lcMs (w := roadsW rs) (xs := rs.map Rd4.w) (fun _ h => h) rfl (fun w => match w with | .tup [.str a, .str b, .int m, .int s] => sroadW ⟨a, b, m, s⟩ | _ => .non) ?_ (fun p acc hp => rfl) (fun w hw => ?_) ?_
  · have := hr.hi; rw [List.length_map]; omega
  · obtain ⟨r, _, rfl⟩ := List.mem_map.mp hw
    refine ⟨_, rfl, fun p acc hp Qe q => ?_⟩
    simp only [Rd4.w, roadW]
    (simp only [↓dFgt, ↓dVar, ↓dC, ↓dOp, ↓dUn, ↓dI, ↓dI0, ↓dSub, ↓dMul, ↓dDiv, ↓dMod, ↓dPow, ↓dAdd, ↓dNeg, ↓dEq, ↓dNe, ↓dLt, ↓dLe, ↓dGt, ↓dGe, ↓dIsN, ↓dNotN, ↓dTru, ↓dTest, ↓dChain, ↓dAnd, ↓dOr, ↓dNot, ↓dAndV, ↓dOrV, ↓dNotV, ↓dIf, ↓dNil, ↓dCons, ↓dTup, ↓dLst, ↓dLstM, ↓dCB, ↓dLen, ↓dAbs, ↓dMax2, ↓dMin2, ↓dAll, ↓dAny, ↓dListOf, ↓dListOfM, ↓dTupOf, ↓dNext, ↓dSeq, ↓dDrop, ↓dRet, ↓dRetN, ↓dIfS, ↓dBrk, ↓dCnt, ↓dSet, ↓dAsgT, ↓dPar2, ↓tbind, ↓tbinds, ↓Om.set, ↓dCall, ↓dIx, ↓dNo, ↓dPart, ↓dSl, ↓dSlr, ↓dBM, ↓dApp, ↓dExt, ↓dSetIx, ↓dIs, ↓dMinS, ↓dMaxS, ↓dJoin, ↓dFrz, ↓dPut, ↓dFld, ↓dSetF, ↓dInt, ↓dIsLT, ↓dRng1, ↓dRng2, ↓dEnum, ↓dZip, ↓dSeqI, view_c_non, view_c_bl, view_c_int, view_c_str, view_c_tup, view_c_lst, view_c_scr, view_c_dct, view_c_ins, ↓startW, ↓wp, ↓wps, ↓dInKD, ↓dNotInKD, ↓dIxKD, ↓dIn, ↓dNotIn, ↓dDg, List.getElem?_cons_zero, List.getElem?_cons_succ, List.set_cons_zero, List.set_cons_succ, List.map_cons, List.map_nil, List.length_cons, List.length_nil, List.replicate_succ, List.replicate_zero, List.nil_append, List.cons_append, Bool.not_true, Bool.not_false, if_true, wkey_int, wkey_str, atI_0, atI_1, atI_2, atI_3, up_same, if_false, Bool.false_eq_true, Bool.true_eq_false, tru_non, isLT_non, isi_int_non, isi_bool_non, isi_str_non, isi_tup_non, isi_lst_non, tru_bl, isLT_bl, isi_int_bl, isi_bool_bl, isi_str_bl, isi_tup_bl, isi_lst_bl, tru_int, isLT_int, isi_int_int, isi_bool_int, isi_str_int, isi_tup_int, isi_lst_int, tru_str, isLT_str, isi_int_str, isi_bool_str, isi_str_str, isi_tup_str, isi_lst_str, tru_tup, isLT_tup, isi_int_tup, isi_bool_tup, isi_str_tup, isi_tup_tup, isi_lst_tup, tru_lst, isLT_lst, isi_int_lst, isi_bool_lst, isi_str_lst, isi_tup_lst, isi_lst_lst, isL_lst, seqW_lst, seqW_tup, seqW_str, seqW_scr, sq2_lst, sq2_tup, inW_sign])
    refine ⟨r.a, r.b, r.m, r.s, rfl, fun t ht => ?_⟩
    refine frzT ht ?_
    exact ⟨by show 4 ≤ 1000000; decide, q⟩
  · rw [List.map_map]
    simp only [view_c_lst]
    refine ⟨srt_roads rs, ?_⟩
    simp only [up_same]
    refine ⟨trivial, by simp, ?_⟩
    refine ⟨srt_strs ss, ?_⟩
    simp only [up_same, up_up, w5]
    refine ⟨trivial, by simp, ?_⟩
    rw [w6]
    exact frzQ.mk q
section
variable {P : Program} {w : World} {K : PySem.W.Frag} {mg : Str → Option Value} {base : Heap} {c_Ground : Addr}
theorem ok_Ground__init_ {f : Addr} {fd : FuncData} (F : Fun K "__init__" "Ground.__init__" s_Ground__init_ f fd) (T : Txt K w mg c_Ground) (C_checked_risks : CalD P w K mg base 4 "checked_risks" sp_checked_risks) (C_check_roads : CalD P w K mg base 4 "check_roads" sp_check_roads) (C_check_stations : CalD P w K mg base 3 "check_stations" sp_check_stations) (C_ends_of : CalD P w K mg base 1 "ends_of" sp_ends_of) : FnOk P w K mg base CX0 5 f fd ["self", "places", "roads", "stations"] (uSp K (sp_Ground__init_ c_Ground)) :=
  Fun.okF F sc_Ground__init_ (td_Ground__init_ c_Ground) (fun cdv A outer s H E hr =>
    (dss_cons (ds_fld T.cl_Ground T.n_Ground_risks (dv 0) (de_call C_checked_risks hr (da_cons (dv 1) da_nil)))
    (dss_cons (ds_expr (de_call C_check_roads hr (da_cons (dv 2) (da_cons (de_fld T.cl_Ground T.n_Ground_risks (dv 0)) da_nil))))
    (dss_cons (ds_expr (de_call C_check_stations hr (da_cons (dv 3) (da_cons (de_fld T.cl_Ground T.n_Ground_risks (dv 0)) da_nil))))
    (dss_cons (ds_fld T.cl_Ground T.n_Ground_places (dv 0) (dv 1))
    (dss_cons (ds_fld T.cl_Ground T.n_Ground_roads (dv 0) (dv 2))
    (dss_cons (ds_fld T.cl_Ground T.n_Ground_stations (dv 0) (dv 3))
    (dss_cons (ds_fld T.cl_Ground T.n_Ground_sorted_places (dv 0) (de_callB (cd_sorted hr) T.z_sorted (da_cons (dv 1) da_nil)))
    (dss_cons (ds_fld T.cl_Ground T.n_Ground_sorted_roads (dv 0) (de_callB (cd_sorted hr) T.z_sorted (da_cons (de_lc (own := [("road", 4)]) sc_Ground__init_.nd (di_seq (dv 2)) (blkOk_by (own := [("road", 4)]) (N := N_Ground__init_) (sc := defScope s_Ground__init_) (by decide +kernel)) (fun _ _ _ _ _ => (dg_nm (i := 4) sc_Ground__init_.nd)) (fun _ _ _ _ _ => dts_nil) (fun _ _ _ _ _ => (de_op oa_add (de_frz (de_call C_ends_of hr (da_cons (dv 4) da_nil))) (de_sl (dv 4) (do_some de_int) do_none)))) da_nil)))
    (dss_one (ds_fld T.cl_Ground T.n_Ground_sorted_stations (dv 0) (de_callB (cd_sorted hr) T.z_sorted (da_cons (dv 3) da_nil))))))))))))) (fun ws S Q E h => len_Ground__init_ h) (hd_Ground__init_ c_Ground)
end
end DL

set_option Elab.async false
set_option linter.all false
set_option maxRecDepth 100000
set_option maxHeartbeats 4000000
namespace DL
open PySem PySem.Spec PyProof.Rows L2
theorem okD_int {i : Int} : okD (.int i) = true := rfl
theorem okD_str {x : Str} : okD (.str x) = true := rfl
theorem okD_bl {b : Bool} : okD (.bl b) = true := rfl
theorem okD_non : okD .non = true := rfl
/-! ### deeds -/
inductive Sr where | place | station | road | engine | kind | call | pumps
def Sr.nm : Sr → Str
  | .place => "place" | .station => "station" | .road => "road" | .engine => "engine" | .kind => "kind" | .call => "call" | .pumps => "pumps"
def isIn (ss : List Str) : W → Bool
  | .str n => decide (n ∈ ss)
  | _ => false
def kinds : List Str := ["car", "chimney", "grass", "house", "people", "works"]
def fitsB (ps : List (Str × Int)) (nr : Nat) (ss en : List Str) : Sr → W → Bool
  | .place, x => isPl ps x
  | .station, x => isIn ss x
  | .road, x => within 0 ((nr : Int) - 1) x
  | .engine, x => isIn en x
  | .kind, x => isIn kinds x
  | .call, x => within 1 200 x
  | .pumps, x => within 1 20 x
def forms : List (Str × List Sr) := [("call", [.place, .kind]), ("again", [.call]), ("make", [.call, .pumps]), ("stop", [.call]), ("send", [.engine, .call]), ("there", [.engine]), ("back", [.engine]), ("home", [.engine]), ("off", [.engine]), ("on", [.engine]), ("stand", [.engine, .station]), ("lend", [.engine, .station]), ("shut", [.road]), ("clear", [.road]), ("nothing", [])]
def deedForm : W → Option (List Sr × List W)
  | .tup (.str n :: args) => match forms.lookup n with
    | some ss => if args.length = ss.length then some (ss, args) else none
    | none => none
  | _ => none
def firstBad (f : Sr → W → Bool) : List Sr → List W → Nat → Int
  | s :: ss, a :: as, i => if f s a = true then firstBad f ss as (i + 1) else (i : Int) + 1
  | _, _, _ => -1
def faultI (f : Sr → W → Bool) (x : W) : Int := match deedForm x with
  | some (ss, args) => firstBad f ss args 0
  | none => 0
/-- a thing that may be told as a deed -/
structure Thg (x : W) : Prop where
  p : Pl x = true
  d : okD x = true
  i : ∀ ys, x = .tup ys → ∀ y ∈ ys, Pl y = true ∧ okD y = true
abbrev engW (e : Str × List W) : W := .tup (.str e.1 :: e.2)
theorem weq_isIn {x : W} (hp : Pl x = true) (ss : List Str) : ((ss.map W.str).any fun y => weq y x) = isIn ss x := by
  cases x <;> first | cases hp | skip
  case str n =>
    rw [List.any_map]
    show (ss.any fun s => weq (.str s) (.str n)) = decide (n ∈ ss)
    rw [Bool.eq_iff_iff, List.any_eq_true, decide_eq_true_iff]
    constructor
    · rintro ⟨s, hs, e⟩; rw [weq_str] at e; rw [← of_decide_eq_true e]; exact hs
    · intro h; exact ⟨n, h, by rw [weq_str]; exact decide_eq_true rfl⟩
  all_goals
    rw [List.any_map, List.any_eq_false.mpr]
    · rfl
    · intro s _ e
      simp only [Function.comp, weq, pd, PyData.eqv] at e
      first | cases e | exact Bool.false_ne_true e
theorem okD_strs (ss : List Str) : okD (.lst (ss.map W.str)) = true := ND.ok (n := 1) (ND.lst fun w hw => by obtain ⟨s, _, rfl⟩ := List.mem_map.mp hw; exact ND.str s) (by decide)
theorem okD_strsT (ss : List Str) : okD (.tup (ss.map W.str)) = true := ND.ok (n := 1) (ND.tup fun w hw => by obtain ⟨s, _, rfl⟩ := List.mem_map.mp hw; exact ND.str s) (by decide)
theorem isPl_name {ps : List (Str × Int)} (hp : PsOk ps) (x : W) : (isName x && isPl ps x) = isPl ps x := by
  cases c : isPl ps x with
  | false => rw [Bool.and_false]
  | true =>
    cases x <;> first | cases c | skip
    rw [hp.name (of_decide_eq_true c)]; rfl
end DL

set_option Elab.async false
set_option linter.all false
set_option maxRecDepth 100000
set_option maxHeartbeats 4000000
namespace DL
open PySem PySem.Spec PyProof.Rows L2
/-! ### the bag of a law -/
abbrev bagO (g s : Int) : WO := .lst [.int g, .int s]
structure BagOk (g s : Int) : Prop where
  g0 : 0 ≤ g
  s0 : 0 ≤ s
  s1 : s < 2147483648
/-- the bag stands at b -/
def Bg (S : Sto) (b : Addr) : Prop := ∃ g s, S b = some (bagO g s) ∧ BagOk g s
/-- what a maker leaves behind it: another bag -/
def aft (S : Sto) (b : Addr) (R : Sto → Prop) : Prop := ∀ g s, BagOk g s → R (up S b (bagO g s))
def primes : List Int := [2147483629, 2147483587, 2147483579, 2147483563, 2147483549, 2147483543, 2147483497, 2147483489]
theorem primes_at (j : Nat) (h : j < 8) : ∃ p : Int, primes[j]? = some p ∧ 0 < p ∧ p < 2147483648 := by
  have q : ∀ j : Nat, j < 8 → ∃ p : Int, primes[j]? = some p ∧ 0 < p ∧ p < 2147483648 := fun j h =>
    match j, h with
    | 0, _ => ⟨_, rfl, by decide, by decide⟩ | 1, _ => ⟨_, rfl, by decide, by decide⟩ | 2, _ => ⟨_, rfl, by decide, by decide⟩ | 3, _ => ⟨_, rfl, by decide, by decide⟩
    | 4, _ => ⟨_, rfl, by decide, by decide⟩ | 5, _ => ⟨_, rfl, by decide, by decide⟩ | 6, _ => ⟨_, rfl, by decide, by decide⟩ | 7, _ => ⟨_, rfl, by decide, by decide⟩
    | n + 8, h => absurd h (by omega)
  exact q j h
theorem atI_toNat {α : Type} {xs : List α} {i : Int} (h0 : 0 ≤ i) (h : i.toNat < xs.length) : L2.atI xs i = xs[i.toNat]? := by
  have e : i = (i.toNat : Int) := (Int.toNat_of_nonneg h0).symm
  rw [e]
  exact atI_n (by omega)
theorem bl_cases {A B : Prop} {b : Bool} (h1 : b = true → A) (h2 : b = false → B) : if b = true then A else B := by
  cases b
  · rw [if_neg Bool.false_ne_true]; exact h2 rfl
  · rw [if_pos rfl]; exact h1 rfl
end DL

set_option Elab.async false
set_option linter.all false
set_option maxRecDepth 100000
set_option maxHeartbeats 4000000
namespace DL
open PySem PySem.Spec PyProof.Rows L2
theorem up_self {S : Sto} {a : Addr} {o : WO} (h : S a = some o) : up S a o = S := by
  funext b
  by_cases c : b = a
  · subst c; rw [up_same, h]
  · rw [up_ne c]
theorem up_comm {S : Sto} {a b : Addr} {o u : WO} (h : a ≠ b) : up (up S a o) b u = up (up S b u) a o := by
  funext c
  by_cases c1 : c = a
  · subst c1; rw [up_ne h, up_same, up_same]
  · by_cases c2 : c = b
    · subst c2; rw [up_same, up_ne c1, up_same]
    · rw [up_ne c2, up_ne c1, up_ne c1, up_ne c2]
theorem del_up {S : Sto} {a b : Addr} {u : WO} (h : a ≠ b) : del (up S b u) a = up (del S a) b u := by
  funext c
  by_cases c1 : c = a
  · subst c1; rw [del_same, up_ne h, del_same]
  · rw [del_ne c1]
    by_cases c2 : c = b
    · subst c2; rw [up_same, up_same]
    · rw [up_ne c2, up_ne c2, del_ne c1]
theorem Bg.ne {S : Sto} {b p : Addr} (h : Bg S b) (hp : S p = none) : p ≠ b := by
  obtain ⟨g, s, e, _⟩ := h
  exact fun e' => by subst e'; rw [e] at hp; cases hp
theorem Bg.up {S : Sto} {b : Addr} {g s : Int} (h : BagOk g s) : Bg (up S b (bagO g s)) b := ⟨g, s, up_same, h⟩
theorem Bg.keep {S : Sto} {b p : Addr} {o : WO} (h : Bg S b) (hne : p ≠ b) : Bg (DL.up S p o) b := by
  obtain ⟨g, s, e, ok⟩ := h
  exact ⟨g, s, by rw [up_ne (Ne.symm hne)]; exact e, ok⟩
/-- a comprehension over things that draws from the bag -/
theorem lcB {xs : List W} {ok : Sto → Prop} {S1 : Sto} {T : Tg} {te : DE'} {own : List Nat} {ω : Om} {Q : WQ} {b : Addr} (hB : Bg S1 b) (G : Nat → W → Prop) (hl : xs.length ≤ 1000000) (hok : ∀ p acc g s, S1 p = none → p ≠ b → ok (up (up S1 p (.lst acc)) b (bagO g s)))
    (hb : ∀ i w, xs[i]? = some w → ∃ ω2, tbind T w (wp ω own) = some ω2 ∧ ∀ S', Bg S' b → ∀ Qe : WQ, (∀ v, G i v → aft S' b (Qe v)) → te ω2 S' Qe)
    (q : ∀ vs : List W, vs.length = xs.length → (∀ i v, vs[i]? = some v → G i v) → aft S1 b (Q (.lst vs))) : ∀ p, S1 p = none → ∃ P : Nat → List W → Sto → Prop, P 0 [] (up S1 p (.lst [])) ∧ (∀ i acc S', P i acc S' → ok S' ∧ S' p = some (.lst acc)) ∧
      (∀ i w acc S', xs[i]? = some w → P i acc S' → ∃ ω2, tbind T w (wp ω own) = some ω2 ∧ dYes ω2 S' fun b S3 => if b = true then te ω2 S3 fun v S4 => ∃ acc', S4 p = some (.lst acc') ∧ acc'.length < 1000000 ∧ P (i + 1) (acc' ++ [v]) (up S4 p (.lst (acc' ++ [v]))) else ∃ acc', P (i + 1) acc' S3) ∧
      ∀ acc S', P xs.length acc S' → Q (.lst acc) (del S' p) := by
  intro p hp
  have hne : p ≠ b := hB.ne hp
  obtain ⟨g0, s0, e0, ok0⟩ := hB
  refine ⟨fun i acc S' => acc.length = i ∧ i ≤ xs.length ∧ (∀ j v, acc[j]? = some v → G j v) ∧ ∃ g s, BagOk g s ∧ S' = up (up S1 p (.lst acc)) b (bagO g s), ⟨rfl, Nat.zero_le _, fun j v h => by simp at h, g0, s0, ok0, ?_⟩, ?_, ?_, ?_⟩
  · exact (up_self (by rw [up_ne (Ne.symm hne)]; exact e0)).symm
  · rintro i acc S' ⟨_, _, _, g, s, _, rfl⟩
    exact ⟨hok p acc g s hp hne, by rw [up_ne hne, up_same]⟩
  · rintro i w acc S' hw ⟨hi, hi2, hG, g, s, hgs, rfl⟩
    obtain ⟨ω2, e, hb⟩ := hb i w hw
    have hlt : i < xs.length := (List.getElem?_eq_some_iff.mp hw).1
    refine ⟨ω2, e, ?_⟩
    show te ω2 (up (up S1 p (.lst acc)) b (bagO g s)) _
    refine hb _ (Bg.up hgs) _ fun v hv g' s' ok' => ?_
    refine ⟨acc, by rw [up_ne hne, up_ne hne, up_same], by omega, by rw [List.length_append, hi]; rfl, hlt, fun j u hj => ?_, g', s', ok', ?_⟩
    · by_cases hjl : j < acc.length
      · rw [List.getElem?_append_left hjl] at hj; exact hG j u hj
      · rw [List.getElem?_append_right (by omega)] at hj
        have hj0 : j - acc.length = 0 := by
          have := (List.getElem?_eq_some_iff.mp hj).1
          simp at this
          omega
        rw [hj0] at hj
        simp at hj
        subst hj
        have : j = i := by omega
        rw [this]; exact hv
    · rw [up_up, ← up_comm hne, up_up]
  · rintro acc S' ⟨hi, _, hG, g, s, hgs, rfl⟩
    rw [del_up hne, del_new hp]
    exact q acc hi hG g s hgs
theorem lcBr {ti te : DE'} {T : Tg} {own : List Nat} {ω : Om} {S : Sto} {Q : WQ} {b : Addr} {n : Int} (h : ∀ Q' : WQ, Q' (.int n) S → ti ω S Q') (h0 : 0 ≤ n) (h1 : n ≤ 1000) (hB : Bg S b) (G : Nat → W → Prop)
    (hb : ∀ i : Nat, i < n.toNat → ∃ ω2, tbind T (.int (i : Nat)) (wp ω own) = some ω2 ∧ ∀ S', Bg S' b → ∀ Qe : WQ, (∀ v, G i v → aft S' b (Qe v)) → te ω2 S' Qe)
    (q : ∀ vs : List W, vs.length = n.toNat → (∀ i v, vs[i]? = some v → G i v) → aft S b (Q (.lst vs))) : dLc (dRng1 (dCons ti dNil)) T dYes te own ω S Q := by
  have hl : (irange 0 n.toNat).length = n.toNat := by unfold irange; rw [List.length_map, List.length_range]
  refine h _ ⟨⟨by omega, by omega⟩, ?_⟩
  refine lcB hB G (by rw [hl]; omega) (fun _ _ _ _ _ _ => trivial) (fun i w hw => ?_) (fun vs hv => q vs (hv.trans hl))
  have hi : i < n.toNat := by
    have := (List.getElem?_eq_some_iff.mp hw).1
    rw [hl] at this
    exact this
  have e : (irange 0 n.toNat)[i]? = some (.int (i : Nat)) := by
    unfold irange
    rw [List.getElem?_map, List.getElem?_range hi]
    show some (W.int (0 + (i : Nat))) = _
    rw [Int.zero_add]
  rw [e] at hw
  cases hw
  exact hb i hi
theorem lcBs {ti te : DE'} {T : Tg} {own : List Nat} {ω : Om} {S : Sto} {Q : WQ} {b : Addr} {xs : List W} (h : ∀ Q' : WQ, Q' (.lst xs) S → ti ω S Q') (h1 : xs.length ≤ 1000) (hB : Bg S b) (G : Nat → W → Prop)
    (hb : ∀ i w, xs[i]? = some w → ∃ ω2, tbind T w (wp ω own) = some ω2 ∧ ∀ S', Bg S' b → ∀ Qe : WQ, (∀ v, G i v → aft S' b (Qe v)) → te ω2 S' Qe)
    (q : ∀ vs : List W, vs.length = xs.length → (∀ i v, vs[i]? = some v → G i v) → aft S b (Q (.lst vs))) : dLc (dSeqI ti) T dYes te own ω S Q :=
  seqI_go h rfl (lcB hB G (by omega) (fun _ _ _ _ _ _ => rfl) hb q)

/-! ### names -/
def nmOk (k : Nat) (x : Str) : Prop := isName (.str x) = true ∧ (∃ t, x.cps.toList = t ++ [97 + k % 26]) ∧ (k ≤ 25 → x.length ≤ 7) ∧ (25 < k → x.length = 8)
theorem nm_inj {i j : Nat} {x : Str} (hi : i < 52) (hj : j < 52) (h1 : nmOk i x) (h2 : nmOk j x) : i = j := by
  obtain ⟨_, ⟨t, e1⟩, a1, a2⟩ := h1
  obtain ⟨_, ⟨t', e2⟩, b1, b2⟩ := h2
  have e : 97 + i % 26 = 97 + j % 26 := by
    have := e1.symm.trans e2
    have h := congrArg List.getLast? this
    simpa using h
  by_cases c : i ≤ 25
  · by_cases d : j ≤ 25
    · omega
    · have := a1 c; have := b2 (by omega); omega
  · by_cases d : j ≤ 25
    · have := b1 d; have := a2 (by omega); omega
    · omega
structure NmsOk (n : Nat) (ns : List Str) : Prop where
  len : ns.length = n
  ok : ∀ i x, ns[i]? = some x → nmOk i x
theorem NmsOk.nodup {n : Nat} {ns : List Str} (h : NmsOk n ns) (hn : n ≤ 52) : ns.Nodup := by
  unfold List.Nodup
  rw [List.pairwise_iff_getElem]
  intro i j hi' hj hij e
  have ei : ns[i]? = some ns[i] := List.getElem?_eq_getElem hi'
  have ej : ns[j]? = some ns[i] := by rw [e]; exact List.getElem?_eq_getElem hj
  have := nm_inj (by have := h.len; omega) (by have := h.len; omega) (h.ok i _ ei) (h.ok j _ ej)
  omega
theorem NmsOk.name {n : Nat} {ns : List Str} (h : NmsOk n ns) {x : Str} (hx : x ∈ ns) : isName (.str x) = true := by
  obtain ⟨i, hi⟩ := List.getElem?_of_mem hx
  exact (h.ok i x hi).1
end DL

set_option Elab.async false
set_option linter.all false
set_option maxRecDepth 100000
set_option maxHeartbeats 4000000
namespace DL
open PySem PySem.Spec PyProof.Rows L2 TL
abbrev letters : Str := "abcdefghijklmnopqrstuvwxyz"
theorem letters_list : letters.cps.toList = [97, 98, 99, 100, 101, 102, 103, 104, 105, 106, 107, 108, 109, 110, 111, 112, 113, 114, 115, 116, 117, 118, 119, 120, 121, 122] := by decide +kernel
theorem letter_at {r : Int} (h0 : 0 ≤ r) (h1 : r < 26) : L2.atI letters.cps.toList r = some (97 + r.toNat) := by
  rw [atI_toNat h0 (by rw [letters_list]; show r.toNat < 26; omega), letters_list]
  have : r.toNat < 26 := by omega
  generalize r.toNat = n at this
  have all : ∀ n, n < 26 → [97, 98, 99, 100, 101, 102, 103, 104, 105, 106, 107, 108, 109, 110, 111, 112, 113, 114, 115, 116, 117, 118, 119, 120, 121, 122][n]? = some (97 + n) := by decide
  exact all n this
/-- texts of one sign each, small letters -/
theorem signs_of {vs : List W} (h : ∀ (i : Nat) v, vs[i]? = some v → ∃ c, v = W.str ⟨#[c]⟩ ∧ az c = true) : ∃ cs : List Nat, vs = cs.map (fun c => W.str ⟨#[c]⟩) ∧ cs.all az = true := by
  induction vs with
  | nil => exact ⟨[], rfl, rfl⟩
  | cons v vs ih =>
    obtain ⟨c, rfl, hc⟩ := h 0 v rfl
    obtain ⟨cs, rfl, hcs⟩ := ih fun i u hu => h (i + 1) u (by simpa using hu)
    exact ⟨c :: cs, rfl, by rw [List.all_cons, hc, hcs]; rfl⟩
theorem strsOf_signs (cs : List Nat) : strsOf (cs.map fun c => W.str ⟨#[c]⟩) = some (cs.map fun c => (⟨#[c]⟩ : Str)) := by
  have := strsOf_map (cs.map fun c => (⟨#[c]⟩ : Str))
  rw [List.map_map] at this
  exact this
theorem joinL_nil : ∀ xs : List (List Nat), joinL [] xs = xs.flatten
  | [] => rfl
  | [x] => by simp [joinL]
  | x :: y :: r => by
    have e : joinL [] (x :: y :: r) = x ++ ([] ++ joinL [] (y :: r)) := by simp [joinL]
    rw [e, joinL_nil (y :: r)]
    simp
theorem join_signs (cs : List Nat) : (Txt.join ("" : Str) (cs.map fun c => (⟨#[c]⟩ : Str))).cps.toList = cs := by
  rw [show Txt.join ("" : Str) (cs.map fun c => (⟨#[c]⟩ : Str)) = Str.join ("" : Str) (cs.map fun c => (⟨#[c]⟩ : Str)) from join_eq _ _]
  have e : tl (Str.join ("" : Str) (cs.map fun c => (⟨#[c]⟩ : Str))) = joinL (tl ("" : Str)) ((cs.map fun c => (⟨#[c]⟩ : Str)).map tl) := tl_join _ _
  have e0 : tl ("" : Str) = [] := by decide +kernel
  rw [e0, joinL_nil, List.map_map] at e
  refine e.trans ?_
  clear e
  induction cs with
  | nil => rfl
  | cons c cs ih => rw [List.map_cons, List.flatten_cons, ih]; rfl
theorem nm_of {k : Nat} {cs : List Nat} {x : Str} (hx : x.cps.toList = cs) (hz : cs.all az = true) (h1 : k ≤ 25 → cs.length ≤ 6) (h2 : 25 < k → cs.length = 7) : nmOk k (x ++ (⟨#[97 + k % 26]⟩ : Str)) := by
  have e : (x ++ (⟨#[97 + k % 26]⟩ : Str)).cps.toList = cs ++ [97 + k % 26] := by
    show (x.cps ++ #[97 + k % 26]).toList = _
    rw [Array.toList_append, hx]
  have l : (x ++ (⟨#[97 + k % 26]⟩ : Str)).length = cs.length + 1 := by
    show (x ++ (⟨#[97 + k % 26]⟩ : Str)).cps.size = _
    rw [← Array.length_toList, e, List.length_append]; rfl
  refine ⟨?_, ⟨cs, e⟩, fun h => by have := h1 h; omega, fun h => by have := h2 h; omega⟩
  show (decide (1 ≤ (x ++ (⟨#[97 + k % 26]⟩ : Str)).length) && decide ((x ++ (⟨#[97 + k % 26]⟩ : Str)).length ≤ 8) && (x ++ (⟨#[97 + k % 26]⟩ : Str)).cps.toList.all az) = true
  have h8 : cs.length + 1 ≤ 8 := by
    by_cases c : k ≤ 25
    · have := h1 c; omega
    · have := h2 (by omega); omega
  rw [l, e, decide_eq_true (by omega : 1 ≤ cs.length + 1), decide_eq_true h8, List.all_append, hz]
  have : az (97 + k % 26) = true := by unfold az; rw [decide_eq_true (by omega), decide_eq_true (by omega)]; rfl
  simp [this]
theorem NmsOk.snoc {i : Nat} {ns : List Str} {x : Str} (h : NmsOk i ns) (hx : nmOk i x) : NmsOk (i + 1) (ns ++ [x]) := by
  refine ⟨by rw [List.length_append, h.len]; rfl, fun j y hy => ?_⟩
  by_cases c : j < ns.length
  · rw [List.getElem?_append_left c] at hy; exact h.ok j y hy
  · rw [List.getElem?_append_right (by omega)] at hy
    have hj0 : j - ns.length = 0 := by
      have := (List.getElem?_eq_some_iff.mp hy).1
      simp at this
      omega
    rw [hj0] at hy
    simp at hy
    subst hy
    have : j = i := by have := h.len; omega
    rw [this]; exact hx
end DL

set_option Elab.async false
set_option linter.all false
set_option maxRecDepth 100000
set_option maxHeartbeats 4000000
namespace DL
open PySem PySem.Spec PyProof.Rows L2 TL
theorem atI_pick {xs : List W} {r : Int} (h0 : 0 ≤ r) (h1 : r < (xs.length : Int)) : ∃ w, w ∈ xs ∧ L2.atI xs r = some w := by
  have h : r.toNat < xs.length := by omega
  exact ⟨xs[r.toNat], List.getElem_mem .., by rw [atI_toNat h0 h]; exact List.getElem?_eq_getElem h⟩
theorem inW_refL {S : Sto} {a : W} {p : Addr} {xs : List W} (h : S p = some (.lst xs)) (h1 : okD a = true) (h2 : okD (.lst xs) = true) : inW S a (.ref p) = some (xs.any fun y => weq y a) := by
  unfold inW
  rw [view_ref h]
  show (if (okD a && okD (.lst xs)) = true then some (xs.any fun y => weq y a) else none) = _
  rw [h1, h2]; rfl
theorem seqW_ref {S : Sto} {p : Addr} {xs : List W} (h : S p = some (.lst xs)) : seqW S (.ref p) = some xs := by
  unfold seqW
  rw [view_ref h]
theorem weq_pair (a b c d : Int) : weq (.tup [.int a, .int b]) (.tup [.int c, .int d]) = decide (a = c ∧ b = d) := by
  unfold weq
  simp only [pd, pds]
  rw [PyData.eqv]
  simp only [PyData.eqvAll, PyData.eqv]
  rw [Bool.eq_iff_iff]
  simp
theorem minmax (a b : Str) : (minS a b = a ∧ maxS a b = b) ∨ (minS a b = b ∧ maxS a b = a) := by
  unfold minS maxS
  by_cases h1 : b.cps.toList < a.cps.toList
  · have h2 : ¬ a.cps.toList < b.cps.toList := fun h => List.lt_irrefl _ (List.lt_trans h h1)
    rw [if_pos h1, if_neg h2]; exact .inr ⟨rfl, rfl⟩
  · by_cases h2 : a.cps.toList < b.cps.toList
    · rw [if_neg h1, if_pos h2]; exact .inl ⟨rfl, rfl⟩
    · have e : a = b := PySem.W.str_of_cps (List.le_antisymm (List.not_lt.mp h1) (List.not_lt.mp h2))
      rw [if_neg h1, if_neg h2, e]; exact .inl ⟨rfl, rfl⟩
theorem ends_inj {r r' : Rd4} (h : r.ends = r'.ends) : (r.a = r'.a ∧ r.b = r'.b) ∨ (r.a = r'.b ∧ r.b = r'.a) := by
  unfold Rd4.ends at h
  simp only [List.cons.injEq, Sum.inr.injEq, and_true] at h
  obtain ⟨h1, h2⟩ := h
  rcases minmax r.a r.b with ⟨e1, e2⟩ | ⟨e1, e2⟩ <;> rcases minmax r'.a r'.b with ⟨e3, e4⟩ | ⟨e3, e4⟩ <;> rw [e1, e3] at h1 <;> rw [e2, e4] at h2
  · exact .inl ⟨h1, h2⟩
  · exact .inr ⟨h1, h2⟩
  · exact .inr ⟨h2, h1⟩
  · exact .inl ⟨h2, h1⟩
/-! ### pairs of places -/
abbrev pairW (x : Int × Int) : W := .tup [.int x.1, .int x.2]
structure PrOk (m : Int) (n : Nat) (xs : List (Int × Int)) : Prop where
  len : xs.length ≤ n
  ok : ∀ x ∈ xs, (0 ≤ x.1 ∧ x.1 < m) ∧ (0 ≤ x.2 ∧ x.2 < m) ∧ x.1 ≠ x.2
  nd : xs.Pairwise fun x y => ¬ (x = y) ∧ ¬ (x.1 = y.2 ∧ x.2 = y.1)
theorem PrOk.mono {m : Int} {n n' : Nat} {xs : List (Int × Int)} (h : PrOk m n xs) (hn : n ≤ n') : PrOk m n' xs := ⟨Nat.le_trans h.len hn, h.ok, h.nd⟩
theorem any_pair {xs : List (Int × Int)} (c d : Int) : ((xs.map pairW).any fun y => weq y (.tup [.int c, .int d])) = decide ((c, d) ∈ xs) := by
  rw [Bool.eq_iff_iff, List.any_map, List.any_eq_true, decide_eq_true_iff]
  constructor
  · rintro ⟨x, hx, e⟩
    have e : weq (.tup [.int x.1, .int x.2]) (.tup [.int c, .int d]) = true := e
    rw [weq_pair] at e
    obtain ⟨e1, e2⟩ := of_decide_eq_true e
    rw [← e1, ← e2]; exact hx
  · intro h
    exact ⟨(c, d), h, by show weq (.tup [.int c, .int d]) (.tup [.int c, .int d]) = true; rw [weq_pair]; exact decide_eq_true ⟨rfl, rfl⟩⟩
theorem PrOk.snoc {m : Int} {n : Nat} {xs : List (Int × Int)} (h : PrOk m n xs) {a b : Int} (ha : 0 ≤ a ∧ a < m) (hb : 0 ≤ b ∧ b < m) (hab : a ≠ b) (h1 : (a, b) ∉ xs) (h2 : (b, a) ∉ xs) : PrOk m (n + 1) (xs ++ [(a, b)]) := by
  refine ⟨by rw [List.length_append]; have := h.len; show _ + 1 ≤ _; omega, fun x hx => ?_, ?_⟩
  · rcases List.mem_append.mp hx with hx | hx
    · exact h.ok x hx
    · rw [List.mem_singleton.mp hx]; exact ⟨ha, hb, hab⟩
  · rw [List.pairwise_append]
    refine ⟨h.nd, List.pairwise_singleton .., fun x hx y hy => ?_⟩
    rw [List.mem_singleton.mp hy]
    refine ⟨fun e => h1 (by rw [← e]; exact hx), fun e => h2 ?_⟩
    have : x = (b, a) := Prod.ext e.1 e.2
    rw [← this]; exact hx
theorem nd_pair (x : Int × Int) : ND 1 (pairW x) := ND.tup (n := 0) fun w hw => by
  simp only [List.mem_cons, List.not_mem_nil, or_false] at hw
  rcases hw with rfl | rfl
  · exact ND.int _
  · exact ND.int _
theorem okD_pairs (xs : List (Int × Int)) : okD (.lst (xs.map pairW)) = true := ND.ok (n := 2) (ND.lst (n := 1) fun w hw => by obtain ⟨x, _, rfl⟩ := List.mem_map.mp hw; exact nd_pair x) (by decide)
theorem okD_pair (a b : Int) : okD (.tup [.int a, .int b]) = true := rfl
end DL

set_option Elab.async false
set_option linter.all false
set_option maxRecDepth 100000
set_option maxHeartbeats 4000000
namespace DL
open PySem PySem.Spec PyProof.Rows L2 TL
/-- a loop over range(..) whose end is drawn -/
theorem forRN {ti : DE'} {T : Tg} {tb : DS'} {D : Out} {ω : Om} {S : Sto} (N : Int → Sto → Prop) (h : ∀ Q' : WQ, (∀ n S1, N n S1 → Q' (.int n) S1) → ti ω S Q')
    (body : ∀ n S1, N n S1 → (-(2 ^ 62) ≤ n ∧ n < 2 ^ 62) ∧ ∃ P : Nat → Om → Sto → Prop, P 0 ω S1 ∧ (∀ (i : Nat) ω' S', i < n.toNat → P i ω' S' → ∃ ω2, tbind T (.int (i : Nat)) ω' = some ω2 ∧ tb { D with nx := P (i + 1), ct := P (i + 1), bk := D.nx } ω2 S') ∧ ∀ ω' S', P n.toNat ω' S' → D.nx ω' S') : dFor (dRng1 (dCons ti dNil)) T tb D ω S := by
  refine h _ fun n S1 hn => ?_
  obtain ⟨hb, P, h0, st, fin⟩ := body n S1 hn
  refine ⟨hb, P, h0, fun _ _ _ _ => trivial, fun i u ω' S' hu p => ?_, fun ω' S' p => fin ω' S' (by unfold irange at p; rw [List.length_map, List.length_range] at p; exact p)⟩
  have hi : i < n.toNat := by
    have := (List.getElem?_eq_some_iff.mp hu).1
    unfold irange at this
    rw [List.length_map, List.length_range] at this
    exact this
  have e : (irange 0 n.toNat)[i]? = some (.int (i : Nat)) := by
    unfold irange
    rw [List.getElem?_map, List.getElem?_range hi]
    show some (W.int (0 + (i : Nat))) = _
    rw [Int.zero_add]
  rw [e] at hu
  cases hu
  exact st i ω' S' hi p
theorem PrOk.nil {m : Int} {n : Nat} : PrOk m n [] := ⟨Nat.zero_le _, (fun _ h => nomatch h), .nil⟩
/-- the places out of the names -/
theorem places_of {ns : List Str} {vs : List W} (hl : vs.length = ns.length) (h : ∀ (i : Nat) v, vs[i]? = some v → ∃ x r, ns[i]? = some x ∧ v = placeW x r ∧ 1 ≤ r ∧ r ≤ 4) : ∃ ps : List (Str × Int), vs = ps.map (fun p => placeW p.1 p.2) ∧ ps.map (·.1) = ns ∧ ∀ p ∈ ps, 1 ≤ p.2 ∧ p.2 ≤ 4 := by
  induction vs generalizing ns with
  | nil => cases ns with
    | nil => exact ⟨[], rfl, rfl, fun _ h => nomatch h⟩
    | cons _ _ => cases hl
  | cons v vs ih => cases ns with
    | nil => cases hl
    | cons n ns =>
      obtain ⟨x, r, hx, rfl, r1, r2⟩ := h 0 v rfl
      cases hx
      obtain ⟨ps, rfl, e, hp⟩ := ih (ns := ns) (by simpa using hl) fun i u hu => by simpa using h (i + 1) u (by simpa using hu)
      refine ⟨(n, r) :: ps, rfl, by rw [List.map_cons, e], fun p hp' => ?_⟩
      rcases List.mem_cons.mp hp' with rfl | hp'
      · exact ⟨r1, r2⟩
      · exact hp p hp'
theorem PsOk.of {ps : List (Str × Int)} {n : Nat} (h : NmsOk n (ps.map (·.1))) (h1 : 1 ≤ n) (h2 : n ≤ 40) (hr : ∀ p ∈ ps, 1 ≤ p.2 ∧ p.2 ≤ 4) : PsOk ps := by
  have hl := h.len
  rw [List.length_map] at hl
  exact ⟨by omega, by omega, fun p hp => ⟨h.name (List.mem_map.mpr ⟨p, hp, rfl⟩), hr p hp⟩, h.nodup (by omega)⟩
/-- the roads out of the pairs -/
theorem RsOk.of {ps : List (Str × Int)} {ns : List Str} {n : Nat} {prs : List (Int × Int)} {rs : List Rd4} (hps : ps.map (·.1) = ns) (hnd : ns.Nodup) (hp : PrOk (ns.length : Int) n prs) (hn : n ≤ 80) (hl : rs.length = prs.length)
    (h : ∀ (i : Nat) r, rs[i]? = some r → ∃ x : Int × Int, prs[i]? = some x ∧ ns[x.1.toNat]? = some r.a ∧ ns[x.2.toNat]? = some r.b ∧ (1 ≤ r.m ∧ r.m ≤ 60) ∧ (0 ≤ r.s ∧ r.s ≤ 60)) : RsOk ps rs := by
  have inj : ∀ {i j : Nat} {x : Str}, ns[i]? = some x → ns[j]? = some x → i = j := fun {i j x} h1 h2 => by
    have hi := (List.getElem?_eq_some_iff.mp h1).1
    have hj := (List.getElem?_eq_some_iff.mp h2).1
    exact (List.getElem_inj (h₀ := hi) (h₁ := hj) hnd).mp ((List.getElem?_eq_some_iff.mp h1).2.trans (List.getElem?_eq_some_iff.mp h2).2.symm)
  refine ⟨by have := hp.len; omega, fun r hr => ?_, ?_⟩
  · obtain ⟨i, hi⟩ := List.getElem?_of_mem hr
    obtain ⟨x, hx, ha, hb, hm, hs⟩ := h i r hi
    have ok := hp.ok x (List.mem_of_getElem? hx)
    rw [hps]
    refine ⟨List.mem_of_getElem? ha, List.mem_of_getElem? hb, fun e => ?_, hm, hs⟩
    have := inj ha (by rw [e]; exact hb)
    omega
  · unfold List.Nodup
    rw [List.pairwise_map, List.pairwise_iff_getElem]
    intro i j hi hj hij e
    obtain ⟨x, hx, ha, hb, _⟩ := h i _ (List.getElem?_eq_getElem hi)
    obtain ⟨y, hy, hc, hd, _⟩ := h j _ (List.getElem?_eq_getElem hj)
    have okx := hp.ok x (List.mem_of_getElem? hx)
    have oky := hp.ok y (List.mem_of_getElem? hy)
    have pw := List.pairwise_iff_getElem.mp hp.nd i j (by omega) (by omega) hij
    have ex : prs[i]'(by omega) = x := (List.getElem?_eq_some_iff.mp hx).2
    have ey : prs[j]'(by omega) = y := (List.getElem?_eq_some_iff.mp hy).2
    rw [ex, ey] at pw
    rcases ends_inj e with ⟨e1, e2⟩ | ⟨e1, e2⟩
    · have h1 := inj ha (by rw [e1]; exact hc)
      have h2 := inj hb (by rw [e2]; exact hd)
      exact pw.1 (Prod.ext (by omega) (by omega))
    · have h1 := inj ha (by rw [e1]; exact hd)
      have h2 := inj hb (by rw [e2]; exact hc)
      exact pw.2 ⟨by omega, by omega⟩
end DL

set_option Elab.async false
set_option linter.all false
set_option maxRecDepth 100000
set_option maxHeartbeats 4000000
namespace DL
open PySem PySem.Spec PyProof.Rows L2 TL
/-- a loop over a list that is drawn -/
theorem forSN {ti : DE'} {T : Tg} {tb : DS'} {D : Out} {ω : Om} {S : Sto} (N : List W → Sto → Prop) (h : ∀ Q' : WQ, (∀ xs S1, N xs S1 → Q' (.lst xs) S1) → ti ω S Q')
    (body : ∀ xs S1, N xs S1 → ∃ P : Nat → Om → Sto → Prop, P 0 ω S1 ∧ (∀ i w ω' S', xs[i]? = some w → P i ω' S' → ∃ ω2, tbind T w ω' = some ω2 ∧ tb { D with nx := P (i + 1), ct := P (i + 1), bk := D.nx } ω2 S') ∧ ∀ ω' S', P xs.length ω' S' → D.nx ω' S') : dFor (dSeqI ti) T tb D ω S := by
  refine h _ fun xs S1 hn => ?_
  obtain ⟨P, h0, st, fin⟩ := body xs S1 hn
  exact ⟨P, h0, fun _ _ _ _ => rfl, st, fin⟩
def sorts : List Str := ["pump", "ladder", "tanker"]
structure EnOk (ss : List Str) (es : List (Str × List W)) : Prop where
  lo : 1 ≤ es.length
  hi : es.length ≤ 24
  nm : NmsOk es.length (es.map (·.1))
  ok : ∀ e ∈ es, ∃ k st n, e.2 = [.str k, .str st, .int n] ∧ k ∈ sorts ∧ st ∈ ss ∧ 1 ≤ n ∧ n ≤ 9
def Sr.ch : Sr → Str
  | .place => ⟨#[108]⟩ | .station => ⟨#[115]⟩ | .road => ⟨#[114]⟩ | .engine => ⟨#[101]⟩ | .kind => ⟨#[107]⟩ | .call => ⟨#[99]⟩ | .pumps => ⟨#[112]⟩
abbrev toldW (ps : List (Str × Int)) (rs : List Rd4) (ss : List Str) : W := .tup [placesW ps, roadsW rs, stationsW ss]
end DL

set_option Elab.async false
set_option linter.all false
set_option maxRecDepth 100000
set_option maxHeartbeats 4000000
namespace DL
open PySem PySem.Spec PyProof.Rows L2 TL
/-! ### one statement after another -/
theorem seq_go {t u : DS'} {D : Out} {ω : Om} {S : Sto} (h : t { D with nx := u D } ω S) : dSeq t u D ω S := h
theorem set_go {i : Nat} {te : DE'} {D : Out} {ω : Om} {S : Sto} (w : W) (S1 : Sto) (h : ∀ Q : WQ, Q w S1 → te ω S Q) (k : D.nx (ω.set i (some w)) S1) : dSet i te D ω S := h _ k
theorem asgT_go {T : Tg} {te : DE'} {D : Out} {ω ω' : Om} {S : Sto} (w : W) (S1 : Sto) (h : ∀ Q : WQ, Q w S1 → te ω S Q) (e : tbind T w ω = some ω') (k : D.nx ω' S1) : dAsgT T te D ω S := by
  refine h _ ?_
  rw [e]
  exact k
theorem if_t {c : DT'} {t u : DS'} {D : Out} {ω : Om} {S S1 : Sto} (h : ∀ Q : Bool → Sto → Prop, Q true S1 → c ω S Q) (k : t D ω S1) : dIfS c t u D ω S := by
  refine h _ ?_
  rw [if_pos rfl]
  exact k
theorem if_f {c : DT'} {t u : DS'} {D : Out} {ω : Om} {S S1 : Sto} (h : ∀ Q : Bool → Sto → Prop, Q false S1 → c ω S Q) (k : u D ω S1) : dIfS c t u D ω S := by
  refine h _ ?_
  rw [if_neg Bool.false_ne_true]
  exact k
theorem ret_go {te : DE'} {D : Out} {ω : Om} {S : Sto} (h : te ω S D.rt) : dRet te D ω S := h
theorem test_in {ta tb : DE'} {ω : Om} {S : Sto} {a w : W} {r : Bool} (ha : ∀ Q : WQ, Q a S → ta ω S Q) (hb : ∀ Q : WQ, Q w S → tb ω S Q) (e : inW S a w = some r) : ∀ Q : Bool → Sto → Prop, Q r S → dTest (dOp dIn ta tb) ω S Q := fun Q h => by
  refine ha _ (hb _ ?_)
  unfold dIn
  rw [e]
  exact h
theorem test_eq {ta tb : DE'} {ω : Om} {S : Sto} {x y : Str} {r : Bool} (ha : ∀ Q : WQ, Q (.str x) S → ta ω S Q) (hb : ∀ Q : WQ, Q (.str y) S → tb ω S Q) (e : decide (x = y) = r) : ∀ Q : Bool → Sto → Prop, Q r S → dTest (dOp dEq ta tb) ω S Q := fun Q h => by
  refine ha _ (hb _ ⟨rfl, rfl, ?_⟩)
  show Q (weq (.str x) (.str y)) S
  rw [weq_str, e]
  exact h
theorem inW_one {S : Sto} {c : Nat} {z : Str} {r : Bool} (h : decide (c ∈ z.cps.toList) = r) : inW S (.str ⟨#[c]⟩) (.str z) = some r := by rw [inW_sign, h]
end DL

set_option Elab.async false
set_option linter.all false
set_option maxRecDepth 100000
set_option maxHeartbeats 4000000
namespace DL
open PySem PySem.Spec PyProof.Rows L2
/-! ### d.update(e), both dicts by numbers and texts -/
def rUpdD : V → List V → Hp → VK → Prop := fun x vs H Q => ∃ (d l : Addr) (kvs more : List (Key × V)), x = .ref d ∧ vs = [.ref l] ∧ d ≠ l ∧ H d = some (.dK kvs) ∧ H l = some (.dK more) ∧ kvs.length + more.length ≤ 1000000 ∧ Q .non (upd H d (.dK (mergeK kvs more)))
theorem mt_updD {X : Cx} : MtR X "dict.update" rUpdD := by
  intro pins s σ H x vs v us Q I rx rv h
  obtain ⟨d, l, kvs, more, rfl, rfl, hne, hd, hl, hz, q⟩ := h
  obtain rfl : v = Value.ref d := rx
  obtain ⟨u, rfl, ru⟩ := vals1 rv
  obtain rfl : u = Value.ref l := ru
  obtain ⟨z1, lo1, vs1, rel1, dd1⟩ := dk_of I.hok hd
  obtain ⟨z2, lo2, vs2, rel2, dd2⟩ := dk_of I.hok hl
  refine call_meetsIn PySem.F.slot_dict_update dd1.typeIs PySem.F.entry_dict_update (PySem.F.args_dict_update_2 _ _) (meets_dict_update (mixKind X.prog X.w) d l hne lo2)
    ⟨vs1, vs2, dd1, dd2, ?_, fun h' hmm _ hs => ?_⟩
  · have e1 : kvs.length = vs1.length := Paired.length rel1
    have e2 : more.length = vs2.length := Paired.length rel2
    rw [← e1, ← e2]
    exact sz_of hz
  · have hz' : (mergeK kvs more).length ≤ sizeLine := Nat.le_trans (length_mergeK more kvs) (sz_of hz)
    have he : ∃ q, h'.get? d = some q := let ⟨q, _, _, hq, _⟩ := hmm; ⟨q, hq⟩
    exact ⟨.non, _, d_write I (by rw [hd]; exact True.intro) hs he (dk_new hz' lo1 (rel2.merge rel1) hmm), rfl, q⟩
def isDc (S : Sto) : W → Bool
  | .ref a => match S a with
    | some (.dK _) => true
    | _ => false
  | _ => false
def dUpd (to : DE') (t : DA') : DE' := fun ω S Q => to ω S fun w S1 => isDc S1 w = true ∧ t ω S1 fun ws S2 => match w, ws with
  | .ref a, [.ref b] => match S2 a, S2 b with
    | some (.dK kvs), some (.dK more) => a ≠ b ∧ kvs.length + more.length ≤ 1000000 ∧ Q .non (up S2 a (.dK (wmerge kvs more)))
    | _, _ => False
  | _, _ => False
theorem de_update {X : Cx} {Z : WX} {o e : Expr} {to : DE'} {t : DA'} {apos cpos : Pos} (ho : DE X Z o to) (ha : DA X Z [e] t) (hbase : attributeBase o "update" X.env (eval o X.env) = eval o X.env := by rfl)
    (hfew : ((backTo cpos (starEach [e] X.env)).all (fun x => !x.1) && (backToKw cpos (keywordEach [] X.env)).all (fun x => x.1.isSome) && decide (([e] : List Expr).length + ([] : List Keyword).length + (if ([] : List Keyword).isEmpty then 0 else 1) < 30)) = true := by rfl)
    (hline : (apos.endLine == cpos.line) = true := by rfl) (hs : starEach [e] X.env = (false, eval e X.env) :: starEach [] X.env := by rfl) (hplain : (backTo cpos (starEach [] X.env)).any (·.1) = false := by rfl) :
    DE X Z (.Call (.Attribute o "update" apos) [e] [] cpos) (dUpd to t) := PE.im (pe_bm PySem.F.plainAttrs_dict PySem.F.slot_dict_update PySem.F.type_dict_update mt_updD ho ha hbase hfew hline hs hplain) fun σ H Q ⟨ω, S, Qd, a, h, f⟩ => by
  refine ⟨ω, S, _, a, h, fun w S1 v H1 x1 r1 q1 ⟨il, h1⟩ => ⟨?_, ω, S1, _, a.to x1 r1, h1, fun ws S2 vs H2 x2 r2 q2 h2 => ?_⟩⟩
  · cases q1 <;> simp only [isDc] at il <;> try cases il
    rename_i ad
    split at il
    · rename_i kvs hs
      cases r1 _ _ hs with
      | dK hh _ => exact .inr (.inr (.inl ⟨rfl, .inl ⟨_, hh⟩⟩))
    · cases il
  · split at h2
    · cases q1
      obtain ⟨z, rfl, rz⟩ := q2.one
      cases rz
      split at h2
      · rename_i kvs more hs1 hs2
        obtain ⟨hne, hz, h2⟩ := h2
        cases r2 _ _ hs1 with
        | @dK _ gs1 hh1 rs1 =>
          cases r2 _ _ hs2 with
          | @dK _ gs2 hh2 rs2 =>
            refine ⟨_, _, gs1, gs2, rfl, rfl, hne, hh1, hh2, by rw [← RWp.len rs1, ← RWp.len rs2]; exact hz, ?_⟩
            exact f _ _ _ _ (x1.trans (x2.trans (Nx.wr hs1))) (r2.wr hs1 (fun _ e => nomatch e) (.dK upd_same (RWp.mono (Nx.wr hs1) (wmerge_rel rs2 rs1)))) .non h2
      · exact h2.elim
    · exact h2.elim
end DL

set_option Elab.async false
set_option linter.all false
set_option maxRecDepth 100000
set_option maxHeartbeats 4000000
namespace DL
open PySem PySem.Spec PyProof.Rows L2
/-! ### for k in d: the dict is locked while it is walked -/
/-- from H to H' dicts beside the store were locked or opened -/
def Sw (S : Sto) (H H' : Hp) : Prop := ∀ b o, H b = some o → H' b = some o ∨ (S b = none ∧ ∃ kv, (o = .dK kv ∨ ∃ od, o = .frz od (.dK kv)) ∧ Rd H' b (.dK kv))
section
variable {K : PySem.W.Frag} {S : Sto} {H H' : Hp}
theorem Sw.at {b : Addr} {o : HO} (x : Sw S H H') (h : H b = some o) (h1 : ∀ kv, o ≠ .dK kv) (h2 : ∀ od kv, o ≠ .frz od (.dK kv)) : H' b = some o := by
  rcases x b o h with z | ⟨_, kv, e | ⟨od, e⟩, _⟩
  · exact z
  · exact absurd e (h1 kv)
  · exact absurd e (h2 od kv)
theorem Sw.rd {b : Addr} {kv : List (Key × V)} (x : Sw S H H') (h : Rd H b (.dK kv)) : Rd H' b (.dK kv) := by
  rcases h with z | ⟨o, z⟩
  · rcases x b _ z with y | ⟨_, kv', e | ⟨od, e⟩, r⟩
    · exact .inl y
    · cases e; exact r
    · cases e
  · rcases x b _ z with y | ⟨_, kv', e | ⟨od, e⟩, r⟩
    · exact .inr ⟨o, y⟩
    · cases e
    · cases e; exact r
mutual
theorem RW.sw (x : Sw S H H') : ∀ {w : W} {v : V}, RW K S H w v → RW K S H' w v
  | _, _, .non => .non
  | _, _, .bl b => .bl b
  | _, _, .int i => .int i
  | _, _, .str y ok => .str y ok
  | _, _, .ty n => .ty n
  | _, _, .tup h n r => .tup (x.at h (fun _ e => nomatch e) (fun _ _ e => nomatch e)) n (RWs.sw x r)
  | _, _, .tupK h r => .tupK h (RWs.sw x r)
  | _, _, .lst h n r => .lst (x.at h (fun _ e => nomatch e) (fun _ _ e => nomatch e)) n (RWs.sw x r)
  | _, _, .scr h => .scr (h.elim (fun ⟨o, z, n⟩ => .inl ⟨o, x.at z (fun _ e => nomatch e) (fun _ _ e => by cases e), n⟩) .inr)
  | _, _, .dct h n e r => .dct (x.rd h) n e (RWs.sw x r)
  | _, _, .ins h o n m e r => .ins (x.at h (fun _ e => nomatch e) (fun _ _ e => nomatch e)) (x.at o (fun _ e => nomatch e) (fun _ _ e => nomatch e)) n m e (RWs.sw x r)
  | _, _, .ref a => .ref a
theorem RWs.sw (x : Sw S H H') : ∀ {ws : List W} {vs : List V}, RWs K S H ws vs → RWs K S H' ws vs
  | _, _, .nil => .nil
  | _, _, .cons h t => .cons (RW.sw x h) (RWs.sw x t)
end
theorem RWp.sw {κ : Type} (x : Sw S H H') {fs : List (κ × W)} {gs : List (κ × V)} (h : RWp K S H fs gs) : RWp K S H' fs gs := Paired.mapP h fun _ _ r => ⟨r.1, r.2.sw x⟩
theorem Rel.sw (x : Sw S H H') (r : Rel K S H) : Rel K S H' := fun a o ho => by
  have key : ∀ u, H a = some u → H' a = some u := fun u hu => by
    rcases x a u hu with z | ⟨n, _⟩
    · exact z
    · rw [n] at ho; cases ho
  cases r a o ho with
  | lst h q => exact .lst (key _ h) (q.sw x)
  | dK h q => exact .dK (key _ h) (RWp.sw x q)
  | dT h q => exact .dT (key _ h) (RWp.sw x q)
  | ins h m q => exact .ins (key _ h) m (RWp.sw x q)
  | own h => exact .own (key _ h)
  | tup h q => exact .tup (key _ h) (q.sw x)
theorem RS.sw {σ : L2.St} {l : List (Option W)} (x : Sw S H H') (r : RS K S H σ l) : RS K S H' σ l := ⟨r.len, fun i w h => let ⟨v, e, q⟩ := r.at' i w h; ⟨v, e, q.sw x⟩⟩
theorem At.sw {σ : L2.St} {ω : Om} (x : Sw S H H') (a : At K Z0 S H σ ω) (hx : ω.ex = XF) : At K Z0 S H' σ ω := ⟨a.rel.sw x, a.rs.sw x, by rw [hx]; exact .zero⟩
theorem Sw.lock {d : Addr} {od : Obj} {gs : List (Key × V)} (h : H d = some (.dK gs)) (n : S d = none) : Sw S H (upd H d (.frz od (.dK gs))) := fun b o hb => by
  by_cases e : b = d
  · subst e
    rw [h] at hb
    cases hb
    exact .inr ⟨n, gs, .inl rfl, .inr ⟨od, upd_same⟩⟩
  · exact .inl (by rw [upd_ne e]; exact hb)
theorem Sw.open {d : Addr} {od : Obj} {gs : List (Key × V)} (h : H d = some (.frz od (.dK gs))) (n : S d = none) : Sw S H (upd H d (.dK gs)) := fun b o hb => by
  by_cases e : b = d
  · subst e
    rw [h] at hb
    cases hb
    exact .inr ⟨n, gs, .inr ⟨od, rfl⟩, .inl upd_same⟩
  · exact .inl (by rw [upd_ne e]; exact hb)
theorem Nx.opened {S' : Sto} {d : Addr} {od : Obj} {gs : List (Key × V)} (h : H d = some (.dK gs)) (n : S d = none) (x : Nx S (upd H d (.frz od (.dK gs))) S' H') : Nx S H S' (upd H' d (.dK gs)) := by
  refine ⟨fun b o hb nb => ?_, fun b o hb nb => ?_⟩
  · by_cases e : b = d
    · subst e; rw [h] at hb; cases hb; exact upd_same
    · rw [upd_ne e]; exact x.keep b o (by rw [upd_ne e]; exact hb) nb
  · by_cases e : b = d
    · subst e; exact x.dom b _ upd_same nb
    · exact x.dom b o (by rw [upd_ne e]; exact hb) nb
end
def kW : Key → W
  | .inl i => .int i
  | .inr x => .str x
def svK : Key → Prop
  | .inl _ => True
  | .inr x => sv x
theorem kW_rel {K : PySem.W.Frag} {S : Sto} {H : Hp} {k : Key} (h : svK k) : RW K S H (kW k) (kV k) := by
  cases k with
  | inl i => exact .int i
  | inr x => exact .str x h
def dForK (i : Nat) (T : Tg) (tb : DS') : DS' := fun D ω S => match ω.s[i]? with
  | some (some (.dct ks _)) => (∀ k ∈ ks, svK k) ∧ ∃ P : Nat → Om → Sto → Prop, P 0 ω S ∧ (∀ j ω' S', P j ω' S' → ω'.ex = XF) ∧
    (∀ j k ω' S', ks[j]? = some k → P j ω' S' → ∃ ω2, tbind T (kW k) ω' = some ω2 ∧ tb { D with nx := P (j + 1), ct := P (j + 1), bk := fun ω' S' => ω'.ex = XF ∧ D.nx ω' S' } ω2 S') ∧ ∀ ω' S', P ks.length ω' S' → D.nx ω' S'
  | _ => False
theorem PS.or {X : Cx} {e : Stmt} {t u t' : TS} (h : PS X e t) (h2 : PS X e u) (i : ∀ D σ H, t' D σ H → t D σ H ∨ u D σ H) : PS X e t' := ⟨fun pins s σ H D I q => by
  rcases i D σ H q with z | z
  · exact h.run pins s σ H D I z
  · exact h2.run pins s σ H D I z⟩
section
variable {X : Cx} {tg : Expr} {body : List Stmt} {T : Tg} {tb : DS'} {pos p : Pos} {x : Str} {i : Nat}
theorem forK_core {K : PySem.W.Frag} {S : Sto} {Hl : Hp} {σ : L2.St} {ω : Om} {d : Addr} {o : Obj} {ks : List Key} {vs : List V} {Dd : Out} {D' : Ends} (hv : σ[i]? = some (some (.ref d))) (hl : Hl d = some (.frz o (.dK (ks.zip vs)))) (n : S d = none) (e : ks.length = vs.length) (a : At K Z0 S Hl σ ω)
    (h : (∀ k ∈ ks, svK k) ∧ ∃ P : Nat → Om → Sto → Prop, P 0 ω S ∧ (∀ j ω' S', P j ω' S' → ω'.ex = XF) ∧
      (∀ j k ω' S', ks[j]? = some k → P j ω' S' → ∃ ω2, tbind T (kW k) ω' = some ω2 ∧ tb { Dd with nx := P (j + 1), ct := P (j + 1), bk := fun ω' S' => ω'.ex = XF ∧ Dd.nx ω' S' } ω2 S') ∧ ∀ ω' S', P ks.length ω' S' → Dd.nx ω' S')
    (hnx : ∀ ω' S' σ' H', Nx S Hl S' H' → At K Z0 S' H' σ' ω' → ω'.ex = XF → Dd.nx ω' S' → D'.nx σ' H') (hrt : ∀ w S' v H', Nx S Hl S' H' → Rel K S' H' → RW K S' H' w v → Dd.rt w S' → D'.rt v H') : tFor (iKeys (tVar i)) (gOf K T) (uS K Z0 tb) D' σ Hl := by
  obtain ⟨hk, P, p0, px, ps, pe⟩ := h
  have lz : (ks.zip vs).length = ks.length := by rw [List.length_zip]; omega
  refine ⟨_, hv, d, o, rfl, .inl ⟨_, hl, ?_⟩⟩
  refine ⟨fun j m σ' H' => m = ks.length - j ∧ j ≤ ks.length ∧ ∃ ω' S', At K Z0 S' H' σ' ω' ∧ Nx S Hl S' H' ∧ P j ω' S', ⟨ks.length, by simp, Nat.zero_le _, ω, S, a, Nx.refl, p0⟩, ?_⟩
  rintro j m σ' H' ⟨rfl, hj, ω', S', a', x', pp⟩
  have hd' : H' d = some (.frz o (.dK (ks.zip vs))) := x'.keep _ _ hl n
  by_cases hlt : j < ks.length
  · refine .inr ⟨⟨hd', by rw [lz]; exact hlt⟩, fun σ2 H2 => ∃ ω2 S2, At K Z0 S2 H2 σ2 ω2 ∧ Nx S Hl S2 H2 ∧ P (j + 1) ω2 S2, fun σ2 H2 ⟨ω2, S2, a2, x2, p2⟩ => ⟨ks.length - (j + 1), by omega, rfl, hlt, ω2, S2, a2, x2, p2⟩, ?_⟩
    rintro y H2 ⟨rfl, k, v, hkv, rfl⟩
    have hkj : ks[j]? = some k := by
      have := congrArg (Option.map Prod.fst) hkv
      rw [← List.getElem?_map, List.map_fst_zip (by omega)] at this
      exact this
    obtain ⟨ω2, eb, hb⟩ := ps j k ω' S' hkj pp
    obtain ⟨σ3, a3, _, hq⟩ := tbind_ok eb a' (kW_rel (hk k (List.mem_of_getElem? hkj)))
    refine hq _ ⟨ω2, S', _, a3, hb, ⟨fun ω4 S4 σ4 H4 x4 a4 p4 => ⟨ω4, S4, a4, x'.trans x4, p4⟩, fun w S4 v H4 x4 r4 q4 h4 => hrt w S4 v H4 (x'.trans x4) r4 q4 h4, fun ω4 S4 σ4 H4 x4 a4 p4 => hnx ω4 S4 σ4 H4 (x'.trans x4) a4 p4.1 p4.2, fun ω4 S4 σ4 H4 x4 a4 p4 => ⟨ω4, S4, a4, x'.trans x4, p4⟩⟩⟩
  · have ej : j = ks.length := by omega
    subst ej
    exact .inl ⟨⟨hd', by rw [lz]; exact Nat.le_refl _⟩, hnx ω' S' σ' H' x' a' (px _ _ _ pp) (pe _ _ pp)⟩
theorem ds_forK (hp : PassesOwn (model X.prog X.w) X.A X.env X.xe) (hg : PG X tg (gOf X.K T)) (hb : DSs X Z0 body tb) (hN : X.N[i]? = some x := by rfl) (hvi : Vis X.env.scope x := by first | exact Or.inl rfl | exact Or.inr (Or.inl rfl) | exact Or.inr (Or.inr rfl)) (hc : X.calm = true := by rfl) (hs : ∀ y, foldedSetIterable (.Name x p) X.env y = pure y := by intro _; rfl)
    (hd : (x == ("__debug__" : Str)) = false := by decide) (hcd : (x == ("__classdict__" : Str)) = false := by decide) :
    DS X Z0 (.For tg (.Name x p) body [] pos) (dForK i T tb) := PS.or (ps_lock (ps_for hp hc (pi_keys (pe_var hN hvi hd hcd)) hg hb hs)) (ps_for hp hc (pi_keys (pe_var hN hvi hd hcd)) hg hb hs) fun D σ H ⟨ω, S, Dd, a, h, f⟩ => by
  unfold dForK at h
  split at h
  · rename_i ks xs hω
    obtain ⟨v, hv, rv⟩ := a.rs.at' i _ hω
    cases rv with
    | @dct d _ _ vs hR n e r =>
      rcases hR with hH | ⟨o, hH⟩
      · refine .inl ⟨d, .dK (ks.zip vs), hH, True.intro, fun od => ?_⟩
        have ex0 : ω.ex = XF := by obtain ⟨_, P, p0, px, _⟩ := h; exact px _ _ _ p0
        refine forK_core hv upd_same n e (a.sw (Sw.lock hH n) ex0) h (fun ω' S' σ' H' x' a' e' q' => ?_) (fun w S' v H' x' r' q' h' => ?_)
        · have hd' : H' d = some (.frz od (.dK (ks.zip vs))) := x'.keep _ _ upd_same n
          have n' : S' d = none := x'.dom _ _ upd_same n
          exact ⟨hd', f.nx _ _ _ _ (Nx.opened hH n x') (a'.sw (Sw.open hd' n') e') q'⟩
        · have hd' : H' d = some (.frz od (.dK (ks.zip vs))) := x'.keep _ _ upd_same n
          have n' : S' d = none := x'.dom _ _ upd_same n
          exact ⟨hd', f.rt _ _ _ _ (Nx.opened hH n x') (r'.sw (Sw.open hd' n')) (q'.sw (Sw.open hd' n')) h'⟩
      · exact .inr (forK_core hv hH n e a h (fun ω' S' σ' H' x' a' _ q' => f.nx _ _ _ _ x' a' q') (fun w S' v H' x' r' q' h' => f.rt _ _ _ _ x' r' q' h'))
  · exact h.elim
end
end DL

set_option Elab.async false
set_option linter.all false
set_option maxRecDepth 100000
set_option maxHeartbeats 4000000
namespace DL
open PySem PySem.Spec PyProof.Rows L2
/-- behind a statement the thing of a slot is taken as data -/
def dFz (i : Nat) (t : DS') : DS' := fun D ω S => t { D with nx := fun ω' S' => ∃ w0 w S2, ω'.s[i]? = some (some w0) ∧ Frz w0 S' w S2 ∧ D.nx (ω'.set i (some w)) S2 } ω S
theorem ds_fz {X : Cx} {Z : WX} {s : Stmt} {t : DS'} (i : Nat) (h : DS X Z s t) : DS X Z s (dFz i t) := PS.im h fun D σ H ⟨ω, S, Dd, a, h, f⟩ =>
  ⟨ω, S, _, a, h, ⟨fun ω' S' σ' H' x a' ⟨w0, w, S2, h0, fz, h'⟩ => by
    obtain ⟨v, ev, rv⟩ := a'.rs.at' i w0 h0
    obtain ⟨x2, r2, q2⟩ := fz.ok a'.rel rv
    have e : σ'.set i (some v) = σ' := by
      refine List.ext_getElem? fun j => ?_
      by_cases c : i = j
      · subst c
        rw [List.getElem?_set_self (List.getElem?_eq_some_iff.mp ev).1, ev]
      · rw [List.getElem?_set_ne c]
    have a2 := (a'.to x2 r2).set q2 i
    rw [e] at a2
    exact f.nx _ _ _ _ (x.trans x2) a2 h', f.rt, f.bk, f.ct⟩⟩
end DL

set_option Elab.async false
set_option linter.all false
set_option maxRecDepth 100000
set_option maxHeartbeats 4000000
namespace My
open PySem PySem.Spec PyProof.Rows L2 PpSet
section
variable {X : Cx}
/-- {e for target in iter if ..}, e a whole number or a text: D the new set -/
def tScK (P : Program) (w : World) (wi : TI) (g : TG) (tt : TT) (te : TE) (vs : List Nat) : TE := fun σ H Q => wi σ H fun J H1 => ∀ D, H1 D = none → ∃ W : Nat → Nat → Hp → Prop, (∃ m, W 0 m (upd H1 D (SetK P w D (fun _ => false) 0))) ∧ ∀ i m G, W i m G →
  (J.stop i G ∧ Q (.ref D) G) ∨ (J.go i G ∧ ∃ Nx : Hp → Prop, (∀ G', Nx G' → ∃ m', m' < m ∧ W (i + 1) m' G') ∧ ∀ x G', J.yld i G x G' → g x (wipe σ vs) G' fun σ2 G2 => wipe σ2 vs = wipe σ vs ∧ tt σ2 G2 fun b G3 =>
    if b = true then te σ2 G3 fun y G4 => ∃ (c : Key) (S : Key → Bool) (n : Nat), y = kV c ∧ G4 D = some (SetK P w D S n) ∧ n + 1 < scanBound ∧ Nx (upd G4 D (SetK P w D (fun j => S j || decide (j = c)) (if S c = true then n else n + 1))) else Nx G3)
theorem fresh_setK (P : Program) (w : World) (h : Heap) : (h.push { cls := .type "set", dict := none, data := .set #[] 0 (.fresh 0 0 (!w.params.followText "set-order")) }).SetOf (mixKind P w) h.objs.size (fun _ => false) 0 :=
  ⟨_, #[], 0, _, Heap.get?_push_size _ rfl, ⟨rfl, rfl, rfl⟩, rfl, fun e he => absurd he (by simp), fun k => by simp, by decide, rfl, rfl⟩
theorem sck_core {pins : List (Addr × Obj)} {s : Shared} {σ : L2.St} {H : Hp} {Q : VK} {elt tg iter : Expr} {ifs : List Expr} {scope : Scope} {own : List (PySem.Str × Nat)} {pos pos' : Pos} {wi : TI} {g : TG} {tt : TT} {te : TE} {Qf : Value → Shared → Prop}
    (calm : X.calm = true) (nodup : X.N.Nodup) (I : Inv X pins σ H s) (walked : PI X tg iter wi) (ok : BlkOk X.N X.env.scope scope own)
    (targets : ∀ (s : Shared) (H : Hp) (C : Addr) (cl : List (PySem.Str × Addr)) (fp : List Addr), PG (X.blk s H scope (compEnvC scope cl C X.env) fp) tg g)
    (tests : ∀ (s : Shared) (H : Hp) (C : Addr) (cl : List (PySem.Str × Addr)) (fp : List Addr), PTs (X.blk s H scope (compEnvC scope cl C X.env) fp) ifs tt)
    (items : ∀ (s : Shared) (H : Hp) (C : Addr) (cl : List (PySem.Str × Addr)) (fp : List Addr), PE (X.blk s H scope (compEnvC scope cl C X.env) fp) elt te)
    (plain : ∀ x, foldedSetIterable iter X.env x = pure x) (want : tScK X.prog X.w wi g tt te (own.map (·.2)) σ H Q)
    (after : ∀ D C s' m G, Inv X pins σ G s' → Q (.ref D) G → s'.heap.Ns C m → FpOk X pins G C → compPost (model X.prog X.w) X.A X.xe none Qf (.ref D) C (.ok .next) s') :
    wpAny (model X.prog X.w) X.A (comprehension (.SetComp elt [⟨tg, iter, ifs, 0⟩] scope pos) scope X.env pos' (newSet (.type "set")) false (eval iter X.env) none) Qf X.xe s := by
  have cells : ∀ y ∈ scope.names, y.2 = .free → ∃ c, X.env.cells.lookup y.1 = some c := fun y hy e => (ok.free y hy e).elim (fun k => I.ok.has _ (.inl k)) fun k => I.ok.has _ (.inr k)
  refine wpAny_comprehension_free (use := none) rfl plain (closure_ok cells) ok.kind (fun y hy e => by rw [ok.uniq y hy, e]) ?_
  refine thn (walked.run pins s σ H _ I want) fun xv s1 start => thn start fun itv s2 got => ?_
  obtain ⟨it, fp, tn, J, H2, rfl, I2, T, st2, free2, q⟩ := got
  refine newSet_ok (newEnv_comp ?_)
  obtain ⟨D, hD⟩ : ∃ D, s2.heap.objs.size = D := ⟨_, rfl⟩
  rw [hD]
  obtain ⟨W, ⟨m0, w0⟩, turn⟩ := q D (I2.hok.fresh (Nat.le_of_eq hD))
  obtain ⟨s3, hs3⟩ : ∃ s3 : Shared, ({ s2 with heap := s2.heap.push { cls := .type "set", dict := none, data := .set #[] 0 (.fresh 0 0 (!X.w.params.followText "set-order")) } } : Shared) = s3 := ⟨_, rfl⟩
  have hp3 : s3.heap = s2.heap.push { cls := .type "set", dict := none, data := .set #[] 0 (.fresh 0 0 (!X.w.params.followText "set-order")) } := by rw [← hs3]
  rw [hs3]
  have old3 : ∀ (b : Addr) (o : Obj), s2.heap.get? b = some o → s3.heap.get? b = some o := fun b o e => by
    rw [hp3]
    exact Heap.get?_push_of_some _ e
  have I3 : Inv X pins σ (upd H2 D (SetK X.prog X.w D (fun _ => false) 0)) s3 := by
    subst hs3
    refine I2.laid (t' := s2.toks) old3 (Nat.le_of_eq hD) ?_
    subst hD
    exact setK_new (fresh_setK X.prog X.w s2.heap)
  have young : ∀ b ∈ fp, b < s2.heap.objs.size := fun b hb => by
    obtain ⟨o, e, _⟩ := T.obj _ _ st2 b hb
    exact Heap.lt_size e
  have free3 : ∀ b ∈ fp, FpOk X pins (upd H2 D (SetK X.prog X.w D (fun _ => false) 0)) b ∧ b < s3.heap.objs.size := fun b hb => by
    have lt := young b hb
    have nb : b ≠ D := by
      rw [← hD]
      exact Nat.ne_of_lt lt
    refine ⟨⟨by rw [upd_ne nb]; exact (free2 b hb).1, (free2 b hb).2⟩, ?_⟩
    rw [hp3, Heap.size_push]
    exact Nat.lt_succ_of_lt lt
  have st3 : tn 0 s3.heap := T.keep _ _ _ st2 fun b _ o e => old3 b o e
  have I4 := block_start I3 ok nodup free3
  obtain ⟨H3, hH3⟩ : ∃ H3, upd H2 D (SetK X.prog X.w D (fun _ => false) 0) = H3 := ⟨_, rfl⟩
  rw [hH3] at I3 I4 w0 free3
  obtain ⟨ce, hce⟩ : ∃ ce, compEnvC scope (cellsFrom (s3.heap.objs.size + 1) scope.names (cloFrom X.env.cells scope.names [])) s3.heap.objs.size X.env = ce := ⟨_, rfl⟩
  have pg := targets s3 H3 s3.heap.objs.size (cellsFrom (s3.heap.objs.size + 1) scope.names (cloFrom X.env.cells scope.names [])) fp
  have pt := tests s3 H3 s3.heap.objs.size (cellsFrom (s3.heap.objs.size + 1) scope.names (cloFrom X.env.cells scope.names [])) fp
  have pe := items s3 H3 s3.heap.objs.size (cellsFrom (s3.heap.objs.size + 1) scope.names (cloFrom X.env.cells scope.names [])) fp
  rw [hce] at I4 pg pt pe
  have cL : ce.locals = s3.heap.objs.size := by
    subst hce
    rfl
  obtain ⟨s4, hs4⟩ : ∃ s4 : Shared, ({ s3 with heap := pushCells (s3.heap.push { cls := .type "dict", data := .dict #[] }) scope.names } : Shared) = s4 := ⟨_, rfl⟩
  rw [hs4] at I4
  change codeAny _ _ (.compStart (.SetComp elt [⟨tg, iter, ifs, 0⟩] scope pos) 0 (.ref it) (.ref D) (compEnvC scope (cellsFrom (s3.heap.objs.size + 1) scope.names (cloFrom X.env.cells scope.names [])) s3.heap.objs.size X.env)) (compPost (model X.prog X.w) X.A X.xe none Qf (.ref D) s3.heap.objs.size) { s3 with heap := pushCells (s3.heap.push { cls := .type "dict", data := .dict #[] }) scope.names }
  rw [hce, hs4]
  have none3 : ∀ b ∈ fp, H3 b = none := fun b hb => (free3 b hb).1.1
  have st4 : tn 0 s4.heap := T.keep _ _ _ st3 fun b _ o e => by
    rw [← hs4]
    exact pushCells_keeps _ _ _ _ (Heap.get?_push_of_some _ e)
  have still : ∀ {σ' : L2.St} {G : Hp} {s' : Shared}, Inv (X.blk s3 H3 scope ce fp) [] σ' G s' → (∀ b ∈ fp, G b = none) → ∀ b ∈ fp, FpOk (X.blk s3 H3 scope ce fp) [] G b := fun {σ' G s'} J' hn b hb =>
    ⟨hn b hb, (J'.ok.exf b hb).1, J'.ok.exfs b hb, .inl hb, fun x c e => (J'.ok.exf b hb).2 x c e, fun p hp => absurd (show p ∈ ([] : List (Addr × Obj)) ++ [] from hp) (by simp)⟩
  have loop : codeAny (model X.prog X.w) X.A (.compLoop (.SetComp elt [⟨tg, iter, ifs, 0⟩] scope pos) 0 (.ref it) (.ref D) ce) (compPost (model X.prog X.w) X.A X.xe none Qf (.ref D) s3.heap.objs.size) s4 := by
    refine compLoopS_any (fun n s' => ∃ i G, Inv (X.blk s3 H3 scope ce fp) [] (wipe σ (own.map (·.2))) G s' ∧ tn i s'.heap ∧ (∀ b ∈ fp, G b = none) ∧ W i n G) ?_ m0 ⟨0, H3, I4, st4, none3, w0⟩
    rintro n s5 ⟨i, H5, I5, st5, n5, w5⟩
    rcases turn i n H5 w5 with ⟨stop, qq⟩ | ⟨go, Nx, hNx, step⟩
    · refine thnF (T.done (X.blk s3 H3 scope ce fp) rfl rfl rfl calm i [] s5 _ H5 (fun _ _ => False) I5 (still I5 n5) st5 stop) fun r s6 got => ?_
      obtain ⟨rfl, I6⟩ := got
      have I7 : Inv X pins σ H5 s6 := I3.call' (ch := fp) I6.os I6.base I6.hok I6.bare fun b hb => by
        have f := (free3 b hb).1
        exact ⟨f.2.2.2.1, f.2.1, f.2.2.2.2.1, f.2.2.2.2.2⟩
      obtain ⟨m, hn, _⟩ := I6.loc
      have here : s6.heap.Ns ce.locals m := hn
      have nC : H5 ce.locals = none := I6.free
      rw [cL] at here nC
      exact after D _ s6 m H5 I7 qq here (I3.fpOk (Nat.le_refl _) nC)
    · refine thnF (T.item (X.blk s3 H3 scope ce fp) rfl rfl rfl calm i [] s5 _ H5 (fun _ _ => False) I5 (still I5 n5) st5 go) fun r s6 got => ?_
      obtain ⟨u, rfl, h6⟩ := got
      refine thnF h6 fun _ s7 got7 => ?_
      obtain ⟨x, H7, I7, r7, y7, st7, n7⟩ := got7
      refine thnF (pg.run _ s7 _ H7 x u _ (I7.pinned (still I7 n7) (T.obj _ _ st7)) r7 (step x H7 y7)) fun _ s8 got8 => ?_
      obtain ⟨σ8, H8, I8, hw8, q8⟩ := got8
      refine thnF (pt.run _ s8 σ8 H8 _ I8 q8) fun b s9 got9 => ?_
      obtain ⟨H9, I9, q9⟩ := got9
      have close : ∀ {s' : Shared} {G : Hp}, Inv (X.blk s3 H3 scope ce fp) ([] ++ pinsAt fp s7.heap) σ8 G s' → Nx G → ∃ m, m < n ∧ ∃ i G, Inv (X.blk s3 H3 scope ce fp) [] (wipe σ (own.map (·.2))) G s' ∧ tn i s'.heap ∧ (∀ b ∈ fp, G b = none) ∧ W i m G := fun {s' G} J' nx => by
        obtain ⟨m', hm, w'⟩ := hNx G nx
        have pinned : ∀ b ∈ fp, ∀ o, s7.heap.get? b = some o → s'.heap.get? b = some o ∧ G b = none := fun b hb o e => by
          have z := J'.pin (b, o) (List.mem_append_right _ (List.mem_append_right _ (mem_pinsAt hb e)))
          exact ⟨z.1, z.2.1⟩
        have lens : (wipe σ (own.map (·.2))).length = σ8.length := by
          rw [← hw8]
          exact wipe_length ..
        refine ⟨m', hm, i + 1, G, (J'.unpinned (pins := [])).weak lens (fun j v e => (wipe_some (by rw [hw8]; exact e)).1), T.keep _ _ _ st7 fun b hb o e => (pinned b hb o e).1, fun b hb => ?_, w'⟩
        obtain ⟨o, e, _⟩ := T.obj _ _ st7 b hb
        exact (pinned b hb o e).2
      cases b with
      | false =>
        rw [if_neg Bool.false_ne_true] at q9
        rw [if_neg Bool.false_ne_true]
        exact close I9 q9
      | true =>
        rw [if_pos rfl] at q9
        rw [if_pos rfl]
        refine thnF (pe.run _ s9 σ8 H9 _ I9 q9) fun z s10 got10 => ?_
        obtain ⟨yv, H10, I10, r10, c, S0, n0, rfl, hD10, room, nx⟩ := got10
        refine thnF (mt_saddK (X := X.blk s3 H3 scope ce fp) _ s10 σ8 H10 (.ref D) [kV c] (.ref D) [z] (fun _ G => Nx G) I10 rfl (.cons r10 .nil) ⟨D, c, S0, n0, rfl, rfl, hD10, room, nx⟩) fun _ s11 got11 => ?_
        obtain ⟨v11, H11, I11, _, nx11⟩ := got11
        exact close I11 nx11
  exact codeAny_compStart_set loop (T.self X.A 0 _ _ _ st4 loop)
theorem pe_scK {elt tg iter : Expr} {ifs : List Expr} {scope : Scope} {own : List (PySem.Str × Nat)} {pos : Pos} {wi : TI} {g : TG} {tt : TT} {te : TE} (calm : X.calm = true) (nodup : X.N.Nodup) (walked : PI X tg iter wi) (ok : BlkOk X.N X.env.scope scope own)
    (targets : ∀ (s : Shared) (H : Hp) (C : Addr) (cl : List (PySem.Str × Addr)) (fp : List Addr), PG (X.blk s H scope (compEnvC scope cl C X.env) fp) tg g)
    (tests : ∀ (s : Shared) (H : Hp) (C : Addr) (cl : List (PySem.Str × Addr)) (fp : List Addr), PTs (X.blk s H scope (compEnvC scope cl C X.env) fp) ifs tt)
    (items : ∀ (s : Shared) (H : Hp) (C : Addr) (cl : List (PySem.Str × Addr)) (fp : List Addr), PE (X.blk s H scope (compEnvC scope cl C X.env) fp) elt te)
    (plain : ∀ x, foldedSetIterable iter X.env x = pure x := by intro _; rfl) : PE X (.SetComp elt [⟨tg, iter, ifs, 0⟩] scope pos) (tScK X.prog X.w wi g tt te (own.map (·.2))) := by
  constructor
  intro pins s σ H Q I want
  rw [eval_SetComp]
  refine sck_core calm nodup I walked ok targets tests items plain want fun D C s' m G J q hn f => ⟨m, hn, fun h2 kept => ?_⟩
  obtain ⟨f0, f1, _, f3, f4, f5⟩ := f
  exact ⟨.ref D, G, J.turned (t' := s'.toks) (fun b o hb e => (kept.2 b hb).trans e) f0 f1 f3 f4 f5, rfl, q⟩
end
/-- the reading of such a comprehension by a walk -/
theorem sck_it {P : Program} {w : World} {J : It} {n : Nat} {Gd : Hp → Prop} {Y : Nat → Hp → V → Hp → Prop} (wk : Walk J n Gd Y) {g : TG} {tt : TT} {te : TE} {vs : List Nat} {σ : L2.St} {H1 : Hp} {D : Addr} {Qd : Hp → Prop} (Pv : Nat → Hp → Prop) (h0 : Pv 0 (upd H1 D (SetK P w D (fun _ => false) 0))) (hG : ∀ i H, i ≤ n → Pv i H → Gd H)
    (hs : ∀ i x H H', i < n → Pv i H → Y i H x H' → g x (wipe σ vs) H' fun σ2 G2 => wipe σ2 vs = wipe σ vs ∧ tt σ2 G2 fun b G3 =>
      if b = true then te σ2 G3 fun y G4 => ∃ (c : Key) (S : Key → Bool) (k : Nat), y = kV c ∧ G4 D = some (SetK P w D S k) ∧ k + 1 < scanBound ∧ Pv (i + 1) (upd G4 D (SetK P w D (fun j => S j || decide (j = c)) (if S c = true then k else k + 1))) else Pv (i + 1) G3) (hd : ∀ H, Pv n H → Qd H) :
    ∃ W : Nat → Nat → Hp → Prop, (∃ m, W 0 m (upd H1 D (SetK P w D (fun _ => false) 0))) ∧ ∀ i m G, W i m G →
      (J.stop i G ∧ Qd G) ∨ (J.go i G ∧ ∃ Nx : Hp → Prop, (∀ G', Nx G' → ∃ m', m' < m ∧ W (i + 1) m' G') ∧ ∀ x G', J.yld i G x G' → g x (wipe σ vs) G' fun σ2 G2 => wipe σ2 vs = wipe σ vs ∧ tt σ2 G2 fun b G3 =>
        if b = true then te σ2 G3 fun y G4 => ∃ (c : Key) (S : Key → Bool) (k : Nat), y = kV c ∧ G4 D = some (SetK P w D S k) ∧ k + 1 < scanBound ∧ Nx (upd G4 D (SetK P w D (fun j => S j || decide (j = c)) (if S c = true then k else k + 1))) else Nx G3) := by
  refine ⟨fun i m G => m = n - i ∧ i ≤ n ∧ Pv i G, ⟨n, by simp, Nat.zero_le _, h0⟩, fun i m G hw => ?_⟩
  obtain ⟨rfl, hi, pv⟩ := hw
  have gd := hG i G hi pv
  by_cases lt : i < n
  · exact .inr ⟨wk.goes i G lt gd, Pv (i + 1), fun G' p' => ⟨n - (i + 1), by omega, rfl, lt, p'⟩, fun x G' y => hs i x G G' lt pv (wk.yields i G x G' lt gd y)⟩
  · have e : i = n := Nat.le_antisymm hi (Nat.le_of_not_lt lt)
    subst e
    exact .inl ⟨wk.stops G gd, hd G pv⟩
end My

set_option Elab.async false
set_option linter.all false
set_option maxRecDepth 100000
set_option maxHeartbeats 4000000
namespace DL
open PySem PySem.Spec PyProof.Rows L2 PpSet
/-! ### len({e for ..}) -/
instance memKey (k : Key) (ks : List Key) : Decidable (k ∈ ks) := @List.instDecidableMemOfLawfulBEq Key instBEqOfDecidableEq inferInstance k ks
/-- at D something else than data stands, all else is as it was -/
def Off (D : Addr) (H H' : Hp) : Prop := (∀ b, b ≠ D → H' b = H b) ∧ ∃ e, H D = some (.ext e)
section
variable {K : PySem.W.Frag} {S : Sto} {H H' : Hp} {D : Addr}
theorem Off.at {b : Addr} {o : HO} (x : Off D H H') (h : H b = some o) (hn : ∀ e, o ≠ .ext e) : H' b = some o := by
  obtain ⟨x1, e, he⟩ := x
  rw [x1 b fun c => by subst c; rw [he] at h; cases h; exact hn _ rfl]
  exact h
mutual
theorem RW.off (x : Off D H H') : ∀ {w : W} {v : V}, RW K S H w v → RW K S H' w v
  | _, _, .non => .non
  | _, _, .bl b => .bl b
  | _, _, .int i => .int i
  | _, _, .str y ok => .str y ok
  | _, _, .ty n => .ty n
  | _, _, .tup h n r => .tup (x.at h (fun _ e => nomatch e)) n (RWs.off x r)
  | _, _, .tupK h r => .tupK h (RWs.off x r)
  | _, _, .lst h n r => .lst (x.at h (fun _ e => nomatch e)) n (RWs.off x r)
  | _, _, .scr h => .scr (h.elim (fun ⟨o, z, n⟩ => .inl ⟨o, x.at z (fun _ e => nomatch e), n⟩) .inr)
  | _, _, .dct h n e r => .dct (h.elim (fun z => .inl (x.at z (fun _ e => nomatch e))) fun ⟨o, z⟩ => .inr ⟨o, x.at z (fun _ e => nomatch e)⟩) n e (RWs.off x r)
  | _, _, .ins h o n m e r => .ins (x.at h (fun _ e => nomatch e)) (x.at o (fun _ e => nomatch e)) n m e (RWs.off x r)
  | _, _, .ref a => .ref a
theorem RWs.off (x : Off D H H') : ∀ {ws : List W} {vs : List V}, RWs K S H ws vs → RWs K S H' ws vs
  | _, _, .nil => .nil
  | _, _, .cons h t => .cons (RW.off x h) (RWs.off x t)
end
theorem RWp.off {κ : Type} (x : Off D H H') {fs : List (κ × W)} {gs : List (κ × V)} (h : RWp K S H fs gs) : RWp K S H' fs gs := Paired.mapP h fun _ _ r => ⟨r.1, r.2.off x⟩
theorem Rel.off (x : Off D H H') (r : Rel K S H) : Rel K S H' := fun a o ho => by
  cases r a o ho with
  | lst h q => exact .lst (x.at h (fun _ e => nomatch e)) (q.off x)
  | dK h q => exact .dK (x.at h (fun _ e => nomatch e)) (RWp.off x q)
  | dT h q => exact .dT (x.at h (fun _ e => nomatch e)) (RWp.off x q)
  | ins h m q => exact .ins (x.at h (fun _ e => nomatch e)) m (RWp.off x q)
  | own h => exact .own (x.at h (fun _ e => nomatch e))
  | tup h q => exact .tup (x.at h (fun _ e => nomatch e)) (q.off x)
theorem Off.upd {e : _} {o : HO} (h : H D = some (.ext e)) : Off D H (L2.upd H D o) := ⟨fun _ n => upd_ne n, e, h⟩
end
section
variable {X : Cx} {Z : WX}
theorem call_lenK : CallR X (.builtin "len") (fun xs H Q => ∃ (a : Addr) (S : Key → Bool) (n : Nat), xs = [.ref a] ∧ H a = some (SetK X.prog X.w a S n) ∧ Q (.int (n : Nat)) H) := by
  intro pins s σ H xs us Q I r h
  obtain ⟨a, S, n, rfl, ha, q⟩ := h
  obtain ⟨u, rfl, rx⟩ := vals1 r
  obtain rfl : u = .ref a := rx
  obtain ⟨o, es, ep, t, ho, hex, hd, _, _, hb, hf, rfl⟩ := setK_get I ha
  refine call_len_set ho hex hd hf (by have : scanBound ≤ 2 ^ 62 := by decide
                                       omega) ?_
  exact ⟨.int ((es.size : Nat) : Int), H, I.tok _, ⟨_, rfl⟩, q⟩
def dLenSc (di : DI') (T : Tg) (tt : DT') (te : DE') (own : List Nat) : DE' := fun ω S Q => di ω S fun xs ok S1 => ∃ P : Nat → List Key → Sto → Prop, P 0 [] S1 ∧ (∀ i ks S', P i ks S' → ok S') ∧
  (∀ i w ks S', xs[i]? = some w → P i ks S' → ∃ ω2, tbind T w (wp ω own) = some ω2 ∧ tt ω2 S' fun b S3 => if b = true then te ω2 S3 fun v S4 => ∃ k, wkey v = some k ∧ ks.length < 1000 ∧ P (i + 1) (if k ∈ ks then ks else ks ++ [k]) S4 else P (i + 1) ks S3) ∧
  ∀ ks S', P xs.length ks S' → Q (.int (ks.length : Nat)) S'
theorem uSc {K : PySem.W.Frag} {P : Program} {w0 : World} {di : DI'} {T : Tg} {tt : DT'} {te : DE'} {vs : List Nat} (hT : ∀ i ∈ tix T, i ∈ vs) {σ : L2.St} {H : Hp} {Q : VK} (h : uE K Z (dLenSc di T tt te vs) σ H Q) :
    My.tScK P w0 (uI K Z di) (gOf K T) (uT K Z0 tt) (uE K Z0 te) vs σ H (fun v G => ∃ (a : Addr) (S : Key → Bool) (n : Nat), [v] = [V.ref a] ∧ G a = some (SetK P w0 a S n) ∧ Q (.int (n : Nat)) G) := by
  obtain ⟨ω, S, Qd, a, h, f⟩ := h
  refine ⟨ω, S, _, a, h, fun xs ok S1 H1 J x1 r1 src hp => fun D nD => ?_⟩
  obtain ⟨Pv, p0, pk, ps, pe⟩ := hp
  have aw := (a.to x1 r1).wipe vs
  have e0 : (fun j : Key => decide (j ∈ ([] : List Key))) = fun _ => false := by funext j; simp
  refine ⟨fun i m H' => m = xs.length - i ∧ i ≤ xs.length ∧ ∃ ks S', Rel K S' H' ∧ Nx S1 H1 S' H' ∧ H' D = some (SetK P w0 D (fun j => decide (j ∈ ks)) ks.length) ∧ S' D = none ∧ Pv i ks S', ⟨xs.length, by simp, Nat.zero_le _, [], S1, r1.new nD, Nx.new nD, by rw [upd_same, e0]; rfl, r1.free nD, p0⟩, ?_⟩
  rintro i m H' ⟨rfl, hi, ks, S', r', x', hD, sD, p⟩
  by_cases hlt : i < xs.length
  · refine .inr ⟨src.go i S' H' x' r' (pk _ _ _ p) hlt, fun H2 => ∃ ks S2, Rel K S2 H2 ∧ Nx S1 H1 S2 H2 ∧ H2 D = some (SetK P w0 D (fun j => decide (j ∈ ks)) ks.length) ∧ S2 D = none ∧ Pv (i + 1) ks S2, fun H2 ⟨ks2, S2, r2, x2, d2, s2, p2⟩ => ⟨xs.length - (i + 1), by omega, rfl, hlt, ks2, S2, r2, x2, d2, s2, p2⟩, fun v H2 y => ?_⟩
    obtain ⟨w, ew, x2, r2, q2⟩ := src.yld i S' H' v H2 x' r' (pk _ _ _ p) hlt y
    obtain ⟨ω2, eb, hb⟩ := ps i w ks S' ew p
    obtain ⟨σ3, a3, hw, hq⟩ := tbind_ok eb (aw.to (x'.trans x2) r2) q2
    refine hq _ ⟨?_, ω2, S', _, a3, hb, fun b S3 H3 x3 r3 h3 => ?_⟩
    · rw [hw vs hT]
      have : ∀ (σ : L2.St) (us : List Nat), (∀ i ∈ us, i ∈ vs) → L2.wipe (L2.wipe σ us) vs = L2.wipe σ vs := by
        intro σ us
        induction us with
        | nil => intro _; rfl
        | cons u us ih =>
          intro hu
          show L2.wipe ((L2.wipe σ us).set u none) vs = _
          rw [wipe_set (hu u (List.mem_cons_self ..))]
          exact ih fun i hi => hu i (List.mem_cons_of_mem _ hi)
      exact this σ vs fun _ h => h
    · have d2 := x2.keep _ _ hD sD
      have d3 := x3.keep _ _ d2 sD
      have s3 := x3.dom _ _ d2 sD
      cases b with
      | true =>
        rw [if_pos rfl] at h3
        dsimp only
        rw [if_pos rfl]
        refine ⟨ω2, S3, _, a3.to x3 r3, h3, fun w4 S4 v4 H4 x4 r4 q4 h4 => ?_⟩
        obtain ⟨k, hk, hl, p5⟩ := h4
        have d4 := x4.keep _ _ d3 s3
        have s4 := x4.dom _ _ d3 s3
        have ev : v4 = kV k := wkey_rel q4 hk
        refine ⟨k, _, _, ev, d4, Nat.lt_of_lt_of_le (Nat.succ_lt_succ hl) (by decide), (if k ∈ ks then ks else ks ++ [k]), S4, r4.off (Off.upd d4), ?_, ?_, s4, p5⟩
        · have xx := x'.trans (x2.trans (x3.trans x4))
          exact ⟨fun b o hb nb => by rw [upd_ne (fun e => by subst e; rw [nD] at hb; cases hb)]; exact xx.keep b o hb nb, xx.dom⟩
        · rw [upd_same]
          by_cases c : k ∈ ks
          · have e1 : (fun j : Key => decide (j ∈ ks) || decide (j = k)) = fun j => decide (j ∈ ks) := by
              funext j
              by_cases cj : j = k
              · subst cj; simp [c]
              · simp [cj]
            rw [if_pos c, e1, if_pos (decide_eq_true c)]
          · have e1 : (fun j : Key => decide (j ∈ ks) || decide (j = k)) = fun j => decide (j ∈ ks ++ [k]) := by
              funext j
              rw [← Bool.decide_or]
              exact decide_eq_decide.mpr (by simp)
            rw [if_neg c, e1, if_neg (by rw [decide_eq_true_iff]; exact c), List.length_append]
            rfl
      | false =>
        rw [if_neg Bool.false_ne_true] at h3
        dsimp only
        rw [if_neg Bool.false_ne_true]
        exact ⟨ks, S3, r3, x'.trans (x2.trans x3), d3, s3, h3⟩
  · have e : i = xs.length := by omega
    subst e
    exact .inl ⟨src.stop _ S' H' x' r' (pk _ _ _ p) rfl, D, _, _, rfl, hD, f _ _ _ _ (x1.trans x') r' (.int _) (pe _ _ p)⟩
theorem de_lenSc {tg iter elt : Expr} {ifs : List Expr} {di : DI'} {T : Tg} {tt : DT'} {te : DE'} {p pos pos2 : Pos} {scope : Scope} {own : List (Str × Nat)} (hN : X.N.Nodup) (hi : DI X Z tg iter di) (ok : BlkOk X.N X.env.scope scope own)
    (hg : ∀ (s : Shared) (H : Hp) (C : Addr) (cl : List (Str × Addr)) (fp : List Addr), PG (X.blk s H scope (compEnvC scope cl C X.env) fp) tg (gOf X.K T)) (ht : ∀ (s : Shared) (H : Hp) (C : Addr) (cl : List (Str × Addr)) (fp : List Addr), DTs (X.blk s H scope (compEnvC scope cl C X.env) fp) Z0 ifs tt)
    (he : ∀ (s : Shared) (H : Hp) (C : Addr) (cl : List (Str × Addr)) (fp : List Addr), DE (X.blk s H scope (compEnvC scope cl C X.env) fp) Z0 elt te) (hm : X.mg "len" = none) (hT : ∀ i ∈ tix T, i ∈ own.map (·.2) := by decide) (hc : X.calm = true := by rfl) (hs : ∀ x, foldedSetIterable iter X.env x = pure x := by intro _; rfl)
    (hgl : Gl X "len" := by rfl) (hea : starEach [.SetComp elt [⟨tg, iter, ifs, 0⟩] scope pos2] X.env = (false, eval (.SetComp elt [⟨tg, iter, ifs, 0⟩] scope pos2) X.env) :: starEach [] X.env := by rfl) (hpl : (backTo pos (starEach [] X.env)).any (·.1) = false := by rfl) :
    DE X Z (.Call (.Name "len" p) [.SetComp elt [⟨tg, iter, ifs, 0⟩] scope pos2] [] pos) (dLenSc di T tt te (own.map (·.2))) :=
  PE.im (pe_callB (id := "len") call_lenK hgl hm (by decide +kernel) (pa_cons (My.pe_scK hc hN hi ok hg ht he hs) pa_nil hea) (by decide) (by decide) hea hpl) fun _ _ _ h => uSc hT h
/-! ### f(.., k = v): by names -/
def pm {α : Type} (ix : List Nat) (l : List α) : List α := ix.filterMap (l[·]?)
theorem pm_rel {ix : List Nat} {vs zs : List V} {us ws : List Value} (r : Vals vs us) (rz : Vals zs ws) : Vals (pm ix (vs ++ zs)) (pm ix (us ++ ws)) := by
  have rr : Vals (vs ++ zs) (us ++ ws) := r.append rz
  induction ix with
  | nil => exact .nil
  | cons i ix ih =>
    unfold pm at ih ⊢
    rw [List.filterMap_cons, List.filterMap_cons]
    cases e : (vs ++ zs)[i]? with
    | none =>
      have : (us ++ ws)[i]? = none := by
        rw [List.getElem?_eq_none_iff] at e ⊢
        rw [← rr.length]; exact e
      rw [this]
      exact ih
    | some v =>
      obtain ⟨u, e2, ru⟩ := rr.get e
      rw [e2]
      exact .cons ru ih
theorem RWs.pm {K : PySem.W.Frag} {S : Sto} {H : Hp} {ix : List Nat} {ws : List W} {vs : List V} (r : RWs K S H ws vs) : RWs K S H (DL.pm ix ws) (DL.pm ix vs) := by
  induction ix with
  | nil => exact .nil
  | cons i ix ih =>
    unfold DL.pm at ih ⊢
    rw [List.filterMap_cons, List.filterMap_cons]
    cases e : ws[i]? with
    | none =>
      have : vs[i]? = none := by
        rw [List.getElem?_eq_none_iff] at e ⊢
        rw [← r.len]; exact e
      rw [this]
      exact ih
    | some w =>
      obtain ⟨v, e2, rv⟩ := r.get e
      rw [e2]
      exact .cons rv ih
/-- called by names: n by place, ks by name; ix: where each parameter's value stands -/
def KCal (P : Program) (w : World) (K : PySem.W.Frag) (mg : Str → Option Value) (base : Heap) (k : Nat) (x : Str) (n : Nat) (ks : List Str) (ix : List Nat) (dsp : DSp) : Prop :=
  ∃ (f : Addr) (fd : FuncData) (ps : List Str), FnOk P w K mg base CX0 k f fd ps (uSp K dsp) ∧ mg x = some (.ref f) ∧ PySem.W.keepIn K (.ref f) = true ∧ KBn K fd ps n ks (fun us ws => pm ix (us ++ ws)) (fun vs zs => pm ix (vs ++ zs))
def dCallN (n m : Nat) (ix : List Nat) (dsp : DSp) (t tk : DA') : DE' := fun ω S Q => t ω S fun ws S1 => tk ω S1 fun zs S2 => ws.length = n ∧ zs.length = m ∧ dsp (pm ix (ws ++ zs)) S2 Q X0
theorem uCallN {K : PySem.W.Frag} {n m : Nat} {ix : List Nat} {dsp : DSp} {t tk : DA'} {E : XK} {σ : L2.St} {H : Hp} {Q : VK} (h : uE K Z (dCallN n m ix dsp t tk) σ H Q) : tCallN n m (uSp K dsp) (fun vs zs => pm ix (vs ++ zs)) E (uA K Z t) (uA K Z tk) σ H Q := by
  obtain ⟨ω, S, Qd, a, h, f⟩ := h
  refine ⟨ω, S, _, a, h, fun ws S1 vs H1 x1 r1 q1 h1 => ⟨ω, S1, _, a.to x1 r1, h1, fun zs S2 us H2 x2 r2 q2 h2 => ?_⟩⟩
  obtain ⟨l1, l2, h2⟩ := h2
  exact ⟨by rw [← q1.len]; exact l1, by rw [← q2.len]; exact l2, _, S2, Qd, X0, r2, ((q1.mono x2).app q2).pm, h2, fun w S' v H' x r q h => f w S' v H' (x1.trans (x2.trans x)) r q h, .zero⟩
theorem pe_callN0 {CX : CXT} {k : Nat} {f : Addr} {fd : FuncData} {ps ks : List Str} {sp : Sp} {E : XK} {x : Str} {p pos : Pos} {kws : List Keyword} {tk : TA} {g : List Value → List Value → List Value} {gV : List V → List V → List V} (F : FnOk X.prog X.w X.K X.mg X.base CX k f fd ps sp) (hr : Room k X.A) (hg : Gl X x) (hm : X.mg x = some (.ref f)) (hk : PySem.W.keepIn X.K (.ref f) = true) (hb : KBn X.K fd ps 0 ks g gV) (hx : Passes CX X E) (hkw : PK X kws tk)
    (hall : (backToKw pos (keywordEach kws X.env)).all (·.1.isSome) = true) (hks : (backToKw pos (keywordEach kws X.env)).filterMap (·.1) = ks) (hdb : (x == ("__debug__" : Str)) = false)
    (hpl : ((backTo pos (starEach [] X.env)).any (·.1) || (backToKw pos (keywordEach kws X.env)).any (·.1.isNone)) = false) :
    PE X (.Call (.Name x p) [] kws pos) (tCallN 0 ks.length sp gV E tNil tk) := by
  refine ⟨fun pins s σ H Q I h => ?_⟩
  refine wpAny_Call_Name_kw (ld_glob I hg hm ?_ hdb)
  refine PySem.W.callWith_KW0 (h₀ := X.base) I.ok.mod.kin hk hall ?_ hpl
  refine thn (hkw.run pos pins s σ H _ I h) fun ws s2 ⟨zs, H2, I2, rz, l1, l2, q2⟩ => ⟨I2.kIn, ?_⟩
  rw [hks]
  exact run_fnN (us := []) (vs := []) F hr hb hx I2 .nil rz rfl l2 q2
theorem de_callN0 {k j m : Nat} {x : Str} {dsp : DSp} {ks : List Str} {ix : List Nat} {p pos : Pos} {kws : List Keyword} {tk : DA'} (c : KCal X.prog X.w X.K X.mg X.base k x 0 ks ix dsp) (hr : Room j X.A) (hkw : DKw X Z kws tk) (hml : ks.length = m := by rfl) (hk : k ≤ j := by decide) (hg : Gl X x := by rfl)
    (hall : (backToKw pos (keywordEach kws X.env)).all (·.1.isSome) = true := by rfl) (hks : (backToKw pos (keywordEach kws X.env)).filterMap (·.1) = ks := by rfl) (hdb : (x == ("__debug__" : Str)) = false := by decide)
    (hpl : ((backTo pos (starEach [] X.env)).any (·.1) || (backToKw pos (keywordEach kws X.env)).any (·.1.isNone)) = false := by rfl) :
    DE X Z (.Call (.Name x p) [] kws pos) (dCallN 0 m ix dsp dNil tk) := by
  subst hml
  obtain ⟨f, fd, ps, F, hm, kp, b⟩ := c
  refine PE.im (pe_callN0 F (hr.mono hk) hg hm kp b pass0 hkw hall hks hdb hpl) fun σ H Q h => ?_
  obtain ⟨ω, S, Qd, a, h, f⟩ := uCallN (E := fun _ _ _ => False) h
  exact f [] _ [] _ Nx.refl a.rel .nil h
theorem de_callNn {k j n m : Nat} {x : Str} {dsp : DSp} {ks : List Str} {ix : List Nat} {p pos : Pos} {e : Expr} {es : List Expr} {kws : List Keyword} {t tk : DA'} (c : KCal X.prog X.w X.K X.mg X.base k x n ks ix dsp) (hr : Room j X.A) (ha : DA X Z (e :: es) t) (hkw : DKw X Z kws tk) (hml : ks.length = m := by rfl) (hk : k ≤ j := by decide) (hg : Gl X x := by rfl)
    (hall : (backToKw pos (keywordEach kws X.env)).all (·.1.isSome) = true := by rfl) (hks : (backToKw pos (keywordEach kws X.env)).filterMap (·.1) = ks := by rfl) (hdb : (x == ("__debug__" : Str)) = false := by decide) (he : starEach (e :: es) X.env = (false, eval e X.env) :: starEach es X.env := by rfl)
    (hpl : ((backTo pos (starEach (e :: es) X.env)).any (·.1) || (backToKw pos (keywordEach kws X.env)).any (·.1.isNone)) = false := by rfl) :
    DE X Z (.Call (.Name x p) (e :: es) kws pos) (dCallN n m ix dsp t tk) := by
  subst hml
  obtain ⟨f, fd, ps, F, hm, kp, b⟩ := c
  exact PE.im (pe_callN F (hr.mono hk) hg hm kp b pass0 ha hkw hall hks hdb he hpl) fun σ H Q h => uCallN h
end
end DL

set_option Elab.async false
set_option linter.all false
set_option maxRecDepth 100000
set_option maxHeartbeats 4000000
namespace DL
open PySem PySem.Spec PyProof.Rows L2
/-! ### xs[::s], s 1 or -1 -/
theorem slicePick_all (items : Array Value) : slicePick items none none (some 1) = items := by
  show slicePick items none none none = items
  rw [slicePick_cut]
  have e1 : HT.sIx items.toList.length 0 none = 0 := rfl
  have e2 : HT.sIx items.toList.length items.toList.length none = items.toList.length := rfl
  rw [e1, e2, List.drop_zero, Nat.sub_zero, List.take_of_length_le (Nat.le_refl _)]
def dSlk (Q : WQ) (w : W) : WQ := fun st S2 => match view S2 w, st with
  | .lst xs, .int i => (i = 1 ∧ Q (.lst xs) S2) ∨ (i = -1 ∧ Q (.lst xs.reverse) S2)
  | _, _ => False
def dSlS (te ts : DE') : DE' := fun ω S Q => te ω S fun w S1 => ts ω S1 (dSlk Q w)
section
variable {X : Cx} {Z : WX}
theorem de_slS {e st : Expr} {te ts : DE'} {p3 pos : Pos} (he : DE X Z e te) (hs : DE X Z st ts) (hop : ∀ (v w : Value), subscripted (.Slice none none (some st) p3) false v w = operate [v, w] (getItem v w) := by intro _ _; rfl) : DE X Z (.Subscript e (.Slice none none (some st) p3) pos) (dSlS te ts) := by
  refine ⟨fun pins s σ H Q I ⟨ω, S, Qd, a, h, f⟩ => ?_⟩
  refine Subscript_ (thn (he.run pins s σ H (fun v H1 => ∃ w S1, Nx S H S1 H1 ∧ Rel X.K S1 H1 ∧ RW X.K S1 H1 w v ∧ ts ω S1 (dSlk Qd w)) I ⟨ω, S, _, a, h, fun w S1 v H1 x1 r1 q1 h1 => ⟨w, S1, x1, r1, q1, h1⟩⟩) fun v s1 ⟨x, H1, I1, rx, w, S1, x1, r1, q1, h1⟩ => ?_)
  refine wpAny_Slice (thn (po_none.run pins s1 σ H1 (fun o H2 => o = none ∧ H2 = H1) I1 ⟨rfl, rfl⟩) fun vl s2 ⟨l, H2, I2, pl, el, e2⟩ => ?_)
  subst el e2
  refine thn (po_none.run pins s2 σ H2 (fun o H3 => o = none ∧ H3 = H2) I2 ⟨rfl, rfl⟩) fun vu s3 ⟨u, H3, I3, pu, eu, e3⟩ => ?_
  subst eu e3
  have hst : PO X (some st) (tPart (uE X.K Z ts)) := po_some hs
  refine thn (hst.run pins s3 σ H3 (fun o H4 => ∃ S2 i xs, o = some i ∧ Nx S1 H3 S2 H4 ∧ Rel X.K S2 H4 ∧ view S2 w = .lst xs ∧ ((i = 1 ∧ Qd (.lst xs) S2) ∨ (i = -1 ∧ Qd (.lst xs.reverse) S2))) I3 ?_) fun vs s4 ⟨o, H4, I4, ps, S2, i, xs, eo, x2, r2, ev, hq⟩ => ?_
  · refine ⟨ω, S1, _, a.to x1 r1, h1, fun w2 S2 v2 H4 x2 r2 q2 h2 => ?_⟩
    unfold dSlk at h2
    split at h2
    · rename_i xs i ev
      cases q2
      exact ⟨i, rfl, S2, i, xs, rfl, x2, r2, ev, h2⟩
    · exact h2.elim
  subst eo
  have I5 : Inv X pins σ H4 { s4 with heap := s4.heap.push { cls := .type "slice", data := .fields #[vl, vu, vs] } } := I4.kept (t' := s4.toks) fun b ob q => Heap.get?_push_of_some _ q
  obtain ⟨ad, vs', rfl, h1', s1'⟩ := view_lst r2 (q1.mono x2) ev
  cases rx
  obtain ⟨its, r, ht, hz⟩ := I5.list (.inl (.inl h1'))
  have hlen := r.length
  refine tail_any (ops := [.ref ad, .ref s4.heap.objs.size]) ht.isList.typeIs (PySem.slot_list_getitem.lookup) ?_ (by with_unfolding_all rfl)
  rcases hq with ⟨rfl, q⟩ | ⟨rfl, q⟩
  · refine wpAny_getItem_list_slice ht.isList (Heap.IsSliceOf.new _ vl vu vs) pl pu ps (by decide) ?_ (by rw [List.size_toArray]; omega)
    rw [slicePick_all]
    have fr := I5.hok.fresh (Nat.le_refl _)
    refine ⟨.ref _, _, I5.laid (t' := s4.toks) (o := .lst vs') (fun b ob q => Heap.get?_push_of_some _ q) (Nat.le_refl _) ?_, rfl, f _ _ _ _ (x1.trans (x2.trans (Nx.new fr))) (r2.new fr) (.lst upd_same (r2.free fr) (s1'.mono (Nx.new fr))) q⟩
    exact ⟨hz, _, 0, r, Heap.get?_push_size _ rfl⟩
  · refine wpAny_getItem_list_slice ht.isList (Heap.IsSliceOf.new _ vl vu vs) pl pu ps (by decide) ?_ (by rw [List.size_toArray]; omega)
    rw [PySem.W.krv_pick]
    have fr := I5.hok.fresh (Nat.le_refl _)
    refine ⟨.ref _, _, I5.laid (t' := s4.toks) (o := .lst vs'.reverse) (fun b ob q => Heap.get?_push_of_some _ q) (Nat.le_refl _) ?_, rfl, f _ _ _ _ (x1.trans (x2.trans (Nx.new fr))) (r2.new fr) (.lst upd_same (r2.free fr) (s1'.reverse.mono (Nx.new fr))) q⟩
    exact ⟨by rw [List.length_reverse]; exact hz, _, 0, r.reverse, Heap.get?_push_size _ rfl⟩
end
theorem kbn_mk {K : PySem.W.Frag} {x qual : Str} {st : Stmt} {f : Addr} {fd : FuncData} {ps ks : List Str} {n : Nat} {ix : List Nat} (F : Fun K x qual st f fd)
    (h : ∀ (kV doc pm : Value) (an : Option Addr) (cdv ct : Value) (us ws : List Value), us.length = n → ws.length = ks.length → bindArgs (PySem.W.fnOf x qual (defArgs st) (defBody st) (defScope st) .none kV doc pm an cdv ct) ⟨us, ks.zip ws⟩ = pure (ps.zip (DL.pm ix (us ++ ws)))) :
    KBn K fd ps n ks (fun us ws => DL.pm ix (us ++ ws)) (fun vs zs => DL.pm ix (vs ++ zs)) := by
  obtain ⟨oc, od, kV, doc, pm, an, cdv, ct, osl, rfl, lk, hcd⟩ := F.ex
  exact ⟨fun s us ws X l1 l2 => .of_eq (h kV doc pm an cdv ct us ws l1 l2), fun r rz => pm_rel r rz⟩
/-! ### True + 1 -/
def dAddB : D2 := fun a b S Q => match view S a, view S b with
  | .int i, .int j => Q (.int (i + j)) S
  | .bl k, .int j => Q (.int ((if k = true then (1 : Int) else 0) + j)) S
  | _, _ => False
theorem oa_addB {X : Cx} : OD X (binaryOp .Add) dAddB := by
  intro pins s σ H x y v u Q I rx ry ⟨w1, w2, S, Qd, r, r1, r2, q, fi⟩
  unfold dAddB at q
  split at q
  · rename_i i j e1 e2
    cases view_int r1 e1; cases view_int r2 e2
    exact op_add pins s σ H _ _ v u Q I rx ry ⟨_, _, rfl, rfl, fi.one r (.int _) q⟩
  · rename_i i j e1 e2
    have e3 : x = .bl i := by
      cases r1 <;> simp only [view] at e1 <;> try cases e1
      · rfl
      · split at e1 <;> cases e1
    subst e3
    cases view_int r2 e2
    cases rx
    obtain ⟨t, rfl⟩ := ry
    exact PySem.IntBool.add_bool_int ⟨.int ((if i = true then (1 : Int) else 0) + j), H, I.tok _, ⟨_, rfl⟩, fi.one r (.int _) q⟩
  · exact q.elim
/-! ### a new list out of two, that may change -/
def dAddM : D2 := fun a b S Q => match view S a, view S b with
  | .lst xs, .lst ys => xs.length + ys.length ≤ 1000000 ∧ ∀ p, S p = none → Q (.ref p) (up S p (.lst (xs ++ ys)))
  | _, _ => False
theorem oa_addM {X : Cx} : OD X (binaryOp .Add) dAddM := by
  intro pins s σ H x y v u Q I rx ry ⟨w1, w2, S, Qd, r, r1, r2, q, fi⟩
  unfold dAddM at q
  split at q
  · rename_i i j e1 e2
    obtain ⟨a, vs, rfl, h1, s1⟩ := view_lst r r1 e1
    obtain ⟨b, us, rfl, h2, s2⟩ := view_lst r r2 e2
    exact op_cat pins s σ H _ _ v u Q I rx ry ⟨a, b, vs, us, rfl, rfl, h1, h2, by rw [← s1.len, ← s2.len]; exact sz_of q.1, fun p np => fi _ _ _ _ (Nx.newS np) (r.newS np (.lst upd_same ((s1.app s2).mono (Nx.newS np)))) (.ref p) (q.2 p (r.free np))⟩
  · exact q.elim
/-! ### plain things, their depth, their lengths -/
def Tk (L : Nat) : Nat → W → Prop
  | _, .non | _, .bl _ | _, .int _ | _, .str _ => True
  | n + 1, .tup xs | n + 1, .lst xs => xs.length ≤ L ∧ ∀ x ∈ xs, Tk L n x
  | _, _ => False
theorem Tk.non {L n} : Tk L n .non := by cases n <;> exact trivial
theorem Tk.bl {L n b} : Tk L n (.bl b) := by cases n <;> exact trivial
theorem Tk.int {L n b} : Tk L n (.int b) := by cases n <;> exact trivial
theorem Tk.str {L n b} : Tk L n (.str b) := by cases n <;> exact trivial
theorem Tk.tup {L n xs} (l : xs.length ≤ L) (h : ∀ x ∈ xs, Tk L n x) : Tk L (n + 1) (.tup xs) := ⟨l, h⟩
theorem Tk.lst {L n xs} (l : xs.length ≤ L) (h : ∀ x ∈ xs, Tk L n x) : Tk L (n + 1) (.lst xs) := ⟨l, h⟩
theorem Tk.p {L n w} (h : Tk L n w) : Pl w = true := by
  cases n <;> cases w <;> first | rfl | exact h.elim
theorem Tk.mono {L L' : Nat} (hL : L ≤ L') : ∀ {n m : Nat} {w : W}, n ≤ m → Tk L n w → Tk L' m w
  | _, _, .non, _, _ => Tk.non
  | _, _, .bl _, _, _ => Tk.bl
  | _, _, .int _, _, _ => Tk.int
  | _, _, .str _, _, _ => Tk.str
  | n + 1, m + 1, .tup xs, hn, h => ⟨Nat.le_trans h.1 hL, fun x hx => Tk.mono hL (Nat.le_of_succ_le_succ hn) (h.2 x hx)⟩
  | n + 1, m + 1, .lst xs, hn, h => ⟨Nat.le_trans h.1 hL, fun x hx => Tk.mono hL (Nat.le_of_succ_le_succ hn) (h.2 x hx)⟩
  | 0, _, .tup xs, _, h => h.elim
  | 0, _, .lst xs, _, h => h.elim
  | n + 1, 0, .tup xs, hn, h => absurd hn (by omega)
  | n + 1, 0, .lst xs, hn, h => absurd hn (by omega)
  | 0, _, .ty _, _, h => h.elim
  | 0, _, .scr _, _, h => h.elim
  | 0, _, .dct _ _, _, h => h.elim
  | 0, _, .ins _ _ _, _, h => h.elim
  | 0, _, .ref _, _, h => h.elim
  | _ + 1, _, .ty _, _, h => h.elim
  | _ + 1, _, .scr _, _, h => h.elim
  | _ + 1, _, .dct _ _, _, h => h.elim
  | _ + 1, _, .ins _ _ _, _, h => h.elim
  | _ + 1, _, .ref _, _, h => h.elim
theorem Tk.nd {L : Nat} : ∀ {n : Nat} {w : W}, Tk L n w → ND n w
  | _, .non, _ => ND.non
  | _, .bl _, _ => ND.bl _
  | _, .int _, _ => ND.int _
  | _, .str _, _ => ND.str _
  | n + 1, .tup xs, h => ND.tup fun x hx => Tk.nd (h.2 x hx)
  | n + 1, .lst xs, h => ND.lst fun x hx => Tk.nd (h.2 x hx)
  | 0, .tup xs, h => h.elim
  | 0, .lst xs, h => h.elim
  | 0, .ty _, h => h.elim
  | 0, .scr _, h => h.elim
  | 0, .dct _ _, h => h.elim
  | 0, .ins _ _ _, h => h.elim
  | 0, .ref _, h => h.elim
  | _ + 1, .ty _, h => h.elim
  | _ + 1, .scr _, h => h.elim
  | _ + 1, .dct _ _, h => h.elim
  | _ + 1, .ins _ _ _, h => h.elim
  | _ + 1, .ref _, h => h.elim
theorem Tk.ok {L n w} (h : Tk L n w) (hn : n ≤ 60) : okD w = true := h.nd.ok hn
end DL

set_option Elab.async false
set_option linter.all false
set_option maxRecDepth 100000
set_option maxHeartbeats 4000000
namespace DL
open PySem PySem.Spec PyProof.Rows L2 TL
theorem var_go {i : Nat} {ω : Om} {S : Sto} {Q : WQ} {w : W} (h : ω.s[i]? = some (some w)) (q : Q w S) : dVar i ω S Q := by
  unfold dVar
  rw [h]
  exact q
theorem op_go {rd : D2} {ta tb : DE'} {ω : Om} {S : Sto} {Q : WQ} (h : ta ω S fun x S1 => tb ω S1 fun y S2 => rd x y S2 Q) : dOp rd ta tb ω S Q := h
theorem ifE_go {t : DT'} {ta tb : DE'} {ω : Om} {S : Sto} {Q : WQ} (h : t ω S fun c S1 => if c = true then ta ω S1 Q else tb ω S1 Q) : dIf t ta tb ω S Q := h
theorem setN_go {i : Nat} {te : DE'} {D : Out} {ω : Om} {S : Sto} (N : W → Sto → Prop) (h : ∀ Q : WQ, (∀ w S1, N w S1 → Q w S1) → te ω S Q) (k : ∀ w S1, N w S1 → D.nx (ω.set i (some w)) S1) : dSet i te D ω S := h _ k
theorem par_go {i j : Nat} {t : DA'} {D : Out} {ω : Om} {S : Sto} (N : W → W → Sto → Prop) (h : ∀ Q : List W → Sto → Prop, (∀ w u S1, N w u S1 → Q [w, u] S1) → t ω S Q) (k : ∀ w u S1, N w u S1 → D.nx ((ω.set i (some w)).set j (some u)) S1) : dPar2 i j t D ω S := h _ k
theorem drop_go {te : DE'} {D : Out} {ω : Om} {S : Sto} (h : te ω S fun _ S1 => D.nx ω S1) : dDrop te D ω S := h
theorem bm_go {rd : DM'} {to : DE'} {t : DA'} {ω : Om} {S : Sto} {Q : WQ} (h : to ω S fun w S1 => isL S1 w = true ∧ t ω S1 fun ws S2 => rd w ws S2 Q) : dBM rd to t ω S Q := h
theorem cut_take {α : Type} {xs : List α} {i : Nat} (h : i ≤ xs.length) : cut xs none (some (i : Int)) = xs.take i := by
  unfold cut
  have e1 : HT.sIx xs.length 0 none = 0 := rfl
  have e2 : HT.sIx xs.length xs.length (some (i : Int)) = i := by
    rw [HT.sIx_nat]
    omega
  rw [e1, e2, List.drop_zero, Nat.sub_zero]
theorem cut_drop {α : Type} {xs : List α} {i : Nat} (h : i ≤ xs.length) : cut xs (some (i : Int)) none = xs.drop i := by
  unfold cut
  have e1 : HT.sIx xs.length xs.length none = xs.length := rfl
  have e2 : HT.sIx xs.length 0 (some (i : Int)) = i := by
    rw [HT.sIx_nat]
    omega
  rw [e1, e2, List.take_of_length_le]
  rw [List.length_drop]
  exact Nat.le_refl _
theorem cut_drop1 {α : Type} {xs : List α} {i : Nat} (h : i + 1 ≤ xs.length) : cut xs (some ((i : Int) + 1)) none = xs.drop (i + 1) := by
  have : ((i : Int) + 1) = ((i + 1 : Nat) : Int) := by omega
  rw [this]; exact cut_drop h
theorem cut_any {xs : List W} {a b : Option Int} {x : W} (h : x ∈ cut xs a b) : x ∈ xs := List.mem_of_mem_drop (List.mem_of_mem_take h)
theorem cut_len {xs : List W} {a b : Option Int} : (cut xs a b).length ≤ xs.length := by
  unfold cut
  rw [List.length_take, List.length_drop]; omega
theorem forR2 {t : DA'} {T : Tg} {tb : DS'} {D : Out} {ω : Om} {S : Sto} {lo hi : Int} (h : ∀ Q' : List W → Sto → Prop, Q' [.int lo, .int hi] S → t ω S Q') (hb : -(2 ^ 62) ≤ lo ∧ lo < 2 ^ 62 ∧ -(2 ^ 62) ≤ hi ∧ hi < 2 ^ 62) (P : Nat → Om → Sto → Prop) (h0 : P 0 ω S)
    (st : ∀ (i : Nat) ω' S', i < (hi - lo).toNat → P i ω' S' → ∃ ω2, tbind T (.int (lo + (i : Nat))) ω' = some ω2 ∧ tb { D with nx := P (i + 1), ct := P (i + 1), bk := D.nx } ω2 S') (fin : ∀ ω' S', P (hi - lo).toNat ω' S' → D.nx ω' S') : dFor (dRng2 t) T tb D ω S := by
  refine h _ ⟨hb, P, h0, fun _ _ _ _ => trivial, fun i u ω' S' hu p => ?_, fun ω' S' p => fin ω' S' (by unfold irange at p; rw [List.length_map, List.length_range] at p; exact p)⟩
  have hlt : i < (hi - lo).toNat := by
    have := (List.getElem?_eq_some_iff.mp hu).1
    unfold irange at this
    rw [List.length_map, List.length_range] at this
    exact this
  have e : (irange lo (hi - lo).toNat)[i]? = some (.int (lo + (i : Nat))) := by
    unfold irange
    rw [List.getElem?_map, List.getElem?_range hlt]
    rfl
  rw [e] at hu
  cases hu
  exact st i ω' S' hlt p
/-! ### tests whose answer is known, the store as it is -/
theorem or_b {ta tb : DT'} {ω : Om} {S : Sto} {Q : Bool → Sto → Prop} {a b : Bool} (ha : ∀ Q : Bool → Sto → Prop, Q a S → ta ω S Q) (hb : a = false → ∀ Q : Bool → Sto → Prop, Q b S → tb ω S Q) (q : Q (a || b) S) : dOr ta tb ω S Q := by
  refine ha _ ?_
  cases a with
  | true => exact q
  | false => exact hb rfl _ q
theorem and_b {ta tb : DT'} {ω : Om} {S : Sto} {Q : Bool → Sto → Prop} {a b : Bool} (ha : ∀ Q : Bool → Sto → Prop, Q a S → ta ω S Q) (hb : a = true → ∀ Q : Bool → Sto → Prop, Q b S → tb ω S Q) (q : Q (a && b) S) : dAnd ta tb ω S Q := by
  refine ha _ ?_
  cases a with
  | true => exact hb rfl _ q
  | false => exact q
theorem not_b {ta : DT'} {ω : Om} {S : Sto} {Q : Bool → Sto → Prop} {a : Bool} (ha : ∀ Q : Bool → Sto → Prop, Q a S → ta ω S Q) (q : Q (!a) S) : dNot ta ω S Q := ha _ q
theorem tru_b {te : DE'} {ω : Om} {S : Sto} {Q : Bool → Sto → Prop} {a : Bool} (ha : ∀ Q : WQ, Q (.bl a) S → te ω S Q) (q : Q a S) : dTru te ω S Q := ha _ q
theorem if_b {c : DT'} {t u : DS'} {D : Out} {ω : Om} {S : Sto} (b : Bool) (h : ∀ Q : Bool → Sto → Prop, Q b S → c ω S Q) (ht : b = true → t D ω S) (hf : b = false → u D ω S) : dIfS c t u D ω S := by
  refine h _ ?_
  cases b with
  | true => rw [if_pos rfl]; exact ht rfl
  | false => rw [if_neg Bool.false_ne_true]; exact hf rfl
theorem Om.set_self {ω : Om} {i : Nat} {w : W} (h : ω.s[i]? = some (some w)) : ω.set i (some w) = ω := by
  obtain ⟨s, ex⟩ := ω
  show (⟨s.set i (some w), ex⟩ : Om) = ⟨s, ex⟩
  congr 1
  refine List.ext_getElem? fun j => ?_
  by_cases c : i = j
  · subst c
    have h' : s[i]? = some (some w) := h
    rw [List.getElem?_set_self (List.getElem?_eq_some_iff.mp h').1, h']
  · rw [List.getElem?_set_ne c]
/-- if c: x = e (no else) -/
theorem ifset_go {c : DT'} {i : Nat} {te : DE'} {D : Out} {ω : Om} {S : Sto} (b : Bool) (N : W → Prop) (hc : ∀ Q : Bool → Sto → Prop, Q b S → c ω S Q) (ht : b = true → ∀ Q : WQ, (∀ w, N w → Q w S) → te ω S Q) (h0 : ∃ w0, ω.s[i]? = some (some w0) ∧ N w0) (k : ∀ w, N w → D.nx (ω.set i (some w)) S) : dIfS c (dSet i te) dNext D ω S := by
  refine if_b b hc (fun e => ht e _ k) (fun e => ?_)
  obtain ⟨w0, h1, h2⟩ := h0
  have := k w0 h2
  rw [Om.set_self h1] at this
  exact this
/-- all that is there now and was not then may be dropped -/
def Drp (S S' : Sto) : Prop := ∀ w, Frz w S w S'
theorem Drp.refl {S : Sto} : Drp S S := fun _ => .same
theorem Drp.new {S S' : Sto} {p : Addr} {o : WO} (h : Drp S S') (hp : S p = none) (hn : ∀ x, o ≠ .own x) : Drp (up S p o) S' := fun w => (Frz.new hp hn).trans (h w)
/-- what a drawer leaves behind it -/
theorem aft_up {S : Sto} {b : Addr} {o : WO} {R : Sto → Prop} (h : aft S b R) : aft (up S b o) b R := fun g s ok => by rw [up_up]; exact h g s ok
/-! ### keys of a set, each once -/
def dkeys (l : List Str) : List Key := l.foldl (fun acc n => if (Sum.inr n : Key) ∈ acc then acc else acc ++ [Sum.inr n]) []
theorem dkeys_snoc (l : List Str) (a : Str) : dkeys (l ++ [a]) = if (Sum.inr a : Key) ∈ dkeys l then dkeys l else dkeys l ++ [Sum.inr a] := by
  unfold dkeys
  rw [List.foldl_append]
  rfl
theorem dkeys_spec (l : List Str) : (∀ n : Str, (Sum.inr n : Key) ∈ dkeys l ↔ n ∈ l) ∧ (dkeys l).length ≤ l.length ∧ ((dkeys l).length = l.length ↔ l.Nodup) := by
  have all : ∀ r : List Str, (∀ n : Str, (Sum.inr n : Key) ∈ dkeys r.reverse ↔ n ∈ r.reverse) ∧ (dkeys r.reverse).length ≤ r.reverse.length ∧ ((dkeys r.reverse).length = r.reverse.length ↔ r.reverse.Nodup) := by
   intro r
   induction r with
   | nil => exact ⟨fun n => by simp [dkeys], Nat.le_refl _, ⟨fun _ => .nil, fun _ => rfl⟩⟩
   | cons a r ih =>
     rw [List.reverse_cons]
     generalize r.reverse = l at ih ⊢
     obtain ⟨h1, h2, h3⟩ := ih
     rw [dkeys_snoc]
     have hnd : (l ++ [a]).Nodup ↔ l.Nodup ∧ a ∉ l := by
       rw [List.nodup_append]
       constructor
       · rintro ⟨x, _, y⟩; exact ⟨x, fun hm => y a hm a (List.mem_singleton.mpr rfl) rfl⟩
       · rintro ⟨x, y⟩; exact ⟨x, by simp, fun b hb c hc => by rw [List.mem_singleton.mp hc]; exact fun e => y (e ▸ hb)⟩
     by_cases c : (Sum.inr a : Key) ∈ dkeys l
     · have ca := (h1 a).mp c
       rw [if_pos c]
       refine ⟨fun n => ?_, by rw [List.length_append]; omega, ⟨fun e => ?_, fun e => ?_⟩⟩
       · rw [h1, List.mem_append, List.mem_singleton]
         exact ⟨.inl, fun h => h.elim id fun e => e ▸ ca⟩
       · rw [List.length_append] at e
         have : [a].length = 1 := rfl
         omega
       · exact absurd ca (hnd.mp e).2
     · have ca : a ∉ l := fun h => c ((h1 a).mpr h)
       rw [if_neg c]
       refine ⟨fun n => ?_, by rw [List.length_append, List.length_append]; simp; omega, ⟨fun e => ?_, fun e => ?_⟩⟩
       · rw [List.mem_append, List.mem_singleton, h1, List.mem_append, List.mem_singleton]
         exact ⟨fun h => h.elim .inl fun e => .inr (Sum.inr.inj e), fun h => h.elim .inl fun e => .inr (by rw [e])⟩
       · rw [List.length_append, List.length_append] at e
         have e' : (dkeys l).length = l.length := by simpa using e
         exact hnd.mpr ⟨h3.mp e', ca⟩
       · rw [List.length_append, List.length_append, h3.mpr (hnd.mp e).1]; rfl
  have h := all l.reverse
  rw [List.reverse_reverse] at h
  exact h
/-- len({x[0] for x in rows}) and the like: keys that are texts, the store as it is -/
theorem lenSc_go {ti te : DE'} {T : Tg} {own : List Nat} {ω : Om} {S : Sto} {Q : WQ} {w : W} {xs : List W} (h : ∀ Q' : WQ, Q' w S → ti ω S Q') (hs : seqW S w = some xs) (hl : xs.length ≤ 900) (f : W → Str)
    (hb : ∀ w ∈ xs, ∃ ω2, tbind T w (wp ω own) = some ω2 ∧ ∀ Qe : WQ, Qe (.str (f w)) S → te ω2 S Qe) (q : Q (.int ((dkeys (xs.map f)).length : Nat)) S) : dLenSc (dSeqI ti) T dYes te own ω S Q := by
  refine seqI_go h hs ⟨fun i ks S' => ks = dkeys ((xs.take i).map f) ∧ S' = S, ⟨rfl, rfl⟩, fun i ks S' p => by rw [p.2]; exact hs, ?_, ?_⟩
  · rintro i w ks S' hw ⟨rfl, rfl⟩
    obtain ⟨ω2, e, hb⟩ := hb w (List.mem_of_getElem? hw)
    refine ⟨ω2, e, ?_⟩
    show te ω2 S' _
    refine hb _ ⟨Sum.inr (f w), rfl, ?_, ?_, rfl⟩
    · have := (dkeys_spec ((xs.take i).map f)).2.1
      have l2 : ((xs.take i).map f).length ≤ 900 := by rw [List.length_map, List.length_take]; omega
      omega
    · rw [take_succ_map f hw, dkeys_snoc]
  · rintro ks S' ⟨rfl, rfl⟩
    rw [List.take_length]
    exact q
/-- a comprehension over range(n), n drawn -/
theorem lcBrN {ti te : DE'} {T : Tg} {own : List Nat} {ω : Om} {S : Sto} {Q : WQ} (N : Int → Sto → Prop) (h : ∀ Q' : WQ, (∀ n S1, N n S1 → Q' (.int n) S1) → ti ω S Q') (body : ∀ n S1, N n S1 → dLc (dRng1 (dCons (dC (.int n)) dNil)) T dYes te own ω S1 Q) : dLc (dRng1 (dCons ti dNil)) T dYes te own ω S Q := h _ body
theorem Om.setI {ω : Om} {i : Nat} {w : Option W} : ω.set i w = ⟨ω.s.set i w, ω.ex⟩ := rfl
/-- joined signs -/
theorem join_go {ω : Om} {S : Sto} {Q : WQ} {te : DE'} (N : List Nat → Sto → Prop) (h : ∀ Q : WQ, (∀ cs S2, N cs S2 → Q (.lst (cs.map fun c => W.str ⟨#[c]⟩)) S2) → te ω S Q) (hl : ∀ cs S2, N cs S2 → cs.length ≤ 100) (q : ∀ cs S2, N cs S2 → ∀ x : Str, x.cps.toList = cs → Q (.str x) S2) : dJoin (dC (.str "")) te ω S Q := by
  show te ω S _
  refine h _ fun cs S2 hn => ?_
  have hq := q cs S2 hn _ (join_signs cs)
  have hl := hl cs S2 hn
  have sum1 : ((cs.map fun c => (⟨#[c]⟩ : Str)).map (fun x => x.length)).sum + (cs.map fun c => (⟨#[c]⟩ : Str)).length * (Str.ofString "").length ≤ 1000000 := by
    have e : ((cs.map fun c => (⟨#[c]⟩ : Str)).map (fun x => x.length)).sum = cs.length := by
      rw [List.map_map]
      clear hl q h hq hn
      induction cs with
      | nil => rfl
      | cons c cs ih => rw [List.map_cons, List.sum_cons, ih, List.length_cons]; show 1 + cs.length = _; omega
    have e2 : (Str.ofString "").length = 0 := by decide +kernel
    rw [e, e2]
    omega
  simp only [sq2_lst, strsOf_signs]
  exact ⟨sum1, hq⟩
theorem str_len (x : Str) : x.length = x.cps.toList.length := by
  show x.cps.size = _
  rw [Array.length_toList]
theorem nameOf {x : Str} {l : List Nat} (e : x.cps.toList = l) (h1 : 1 ≤ l.length) (h8 : l.length ≤ 8) (hz : l.all az = true) : isName (.str x) = true := by
  show (decide (1 ≤ x.length) && decide (x.length ≤ 8) && x.cps.toList.all az) = true
  rw [str_len, e, decide_eq_true h1, decide_eq_true h8, hz]; rfl
/-- not isinstance(x, tuple) or x == () -/
def isTC : W → Bool
  | .tup (_ :: _) => true
  | _ => false
theorem isTC_inv {x : W} (h : isTC x = true) : ∃ y ys, x = .tup (y :: ys) := by
  unfold isTC at h
  split at h
  · exact ⟨_, _, rfl⟩
  · cases h
theorem weq_nil (ys : List W) : weq (.tup ys) (.tup []) = ys.isEmpty := by
  cases ys with
  | nil => unfold weq; simp only [pd, pds, PyData.eqv, PyData.eqvAll]; rfl
  | cons y ys => unfold weq; simp only [pd, pds, PyData.eqv, PyData.eqvAll]; rfl
theorem test_ntc {i : Nat} {ω : Om} {S : Sto} {x : W} {Q : Bool → Sto → Prop} (h : ω.s[i]? = some (some x)) (hp : Pl x = true) (hd : okD x = true) (q : Q (!isTC x) S) : dOr (dNot (dTru (dUn (dIs .tup) (dVar i)))) (dTest (dOp dEq (dVar i) (dTup dNil))) ω S Q := by
  simp only [dOr, dNot, dTru, dUn, dVar, h, dTest, dOp]
  cases x with
  | tup ys =>
    (simp only [↓dFgt, ↓dVar, ↓dC, ↓dOp, ↓dUn, ↓dI, ↓dI0, ↓dSub, ↓dMul, ↓dDiv, ↓dMod, ↓dPow, ↓dAdd, ↓dNeg, ↓dEq, ↓dNe, ↓dLt, ↓dLe, ↓dGt, ↓dGe, ↓dIsN, ↓dNotN, ↓dTru, ↓dTest, ↓dChain, ↓dAnd, ↓dOr, ↓dNot, ↓dAndV, ↓dOrV, ↓dNotV, ↓dIf, ↓dNil, ↓dCons, ↓dTup, ↓dLst, ↓dLstM, ↓dCB, ↓dLen, ↓dAbs, ↓dMax2, ↓dMin2, ↓dAll, ↓dAny, ↓dListOf, ↓dListOfM, ↓dTupOf, ↓dNext, ↓dSeq, ↓dDrop, ↓dRet, ↓dRetN, ↓dIfS, ↓dBrk, ↓dCnt, ↓dSet, ↓dAsgT, ↓dPar2, ↓tbind, ↓tbinds, ↓Om.set, ↓dCall, ↓dIx, ↓dNo, ↓dPart, ↓dSl, ↓dSlr, ↓dBM, ↓dApp, ↓dExt, ↓dSetIx, ↓dIs, ↓dMinS, ↓dMaxS, ↓dJoin, ↓dFrz, ↓dPut, ↓dFld, ↓dSetF, ↓dInt, ↓dIsLT, ↓dRng1, ↓dRng2, ↓dEnum, ↓dZip, ↓dSeqI, view_c_non, view_c_bl, view_c_int, view_c_str, view_c_tup, view_c_lst, view_c_scr, view_c_dct, view_c_ins, ↓startW, ↓wp, ↓wps, ↓dInKD, ↓dNotInKD, ↓dIxKD, ↓dIn, ↓dNotIn, ↓dDg, List.getElem?_cons_zero, List.getElem?_cons_succ, List.set_cons_zero, List.set_cons_succ, List.map_cons, List.map_nil, List.length_cons, List.length_nil, List.replicate_succ, List.replicate_zero, List.nil_append, List.cons_append, Bool.not_true, Bool.not_false, if_true, wkey_int, wkey_str, atI_0, atI_1, atI_2, atI_3, up_same, if_false, Bool.false_eq_true, Bool.true_eq_false, tru_non, isLT_non, isi_int_non, isi_bool_non, isi_str_non, isi_tup_non, isi_lst_non, tru_bl, isLT_bl, isi_int_bl, isi_bool_bl, isi_str_bl, isi_tup_bl, isi_lst_bl, tru_int, isLT_int, isi_int_int, isi_bool_int, isi_str_int, isi_tup_int, isi_lst_int, tru_str, isLT_str, isi_int_str, isi_bool_str, isi_str_str, isi_tup_str, isi_lst_str, tru_tup, isLT_tup, isi_int_tup, isi_bool_tup, isi_str_tup, isi_tup_tup, isi_lst_tup, tru_lst, isLT_lst, isi_int_lst, isi_bool_lst, isi_str_lst, isi_tup_lst, isi_lst_lst, isL_lst, seqW_lst, seqW_tup, seqW_str, seqW_scr, sq2_lst, sq2_tup, inW_sign])
    refine ⟨by decide, hd, rfl, ?_⟩
    simp only [weq_nil]
    cases ys <;> exact q
  | _ => first | ((simp only [↓dFgt, ↓dVar, ↓dC, ↓dOp, ↓dUn, ↓dI, ↓dI0, ↓dSub, ↓dMul, ↓dDiv, ↓dMod, ↓dPow, ↓dAdd, ↓dNeg, ↓dEq, ↓dNe, ↓dLt, ↓dLe, ↓dGt, ↓dGe, ↓dIsN, ↓dNotN, ↓dTru, ↓dTest, ↓dChain, ↓dAnd, ↓dOr, ↓dNot, ↓dAndV, ↓dOrV, ↓dNotV, ↓dIf, ↓dNil, ↓dCons, ↓dTup, ↓dLst, ↓dLstM, ↓dCB, ↓dLen, ↓dAbs, ↓dMax2, ↓dMin2, ↓dAll, ↓dAny, ↓dListOf, ↓dListOfM, ↓dTupOf, ↓dNext, ↓dSeq, ↓dDrop, ↓dRet, ↓dRetN, ↓dIfS, ↓dBrk, ↓dCnt, ↓dSet, ↓dAsgT, ↓dPar2, ↓tbind, ↓tbinds, ↓Om.set, ↓dCall, ↓dIx, ↓dNo, ↓dPart, ↓dSl, ↓dSlr, ↓dBM, ↓dApp, ↓dExt, ↓dSetIx, ↓dIs, ↓dMinS, ↓dMaxS, ↓dJoin, ↓dFrz, ↓dPut, ↓dFld, ↓dSetF, ↓dInt, ↓dIsLT, ↓dRng1, ↓dRng2, ↓dEnum, ↓dZip, ↓dSeqI, view_c_non, view_c_bl, view_c_int, view_c_str, view_c_tup, view_c_lst, view_c_scr, view_c_dct, view_c_ins, ↓startW, ↓wp, ↓wps, ↓dInKD, ↓dNotInKD, ↓dIxKD, ↓dIn, ↓dNotIn, ↓dDg, List.getElem?_cons_zero, List.getElem?_cons_succ, List.set_cons_zero, List.set_cons_succ, List.map_cons, List.map_nil, List.length_cons, List.length_nil, List.replicate_succ, List.replicate_zero, List.nil_append, List.cons_append, Bool.not_true, Bool.not_false, if_true, wkey_int, wkey_str, atI_0, atI_1, atI_2, atI_3, up_same, if_false, Bool.false_eq_true, Bool.true_eq_false, tru_non, isLT_non, isi_int_non, isi_bool_non, isi_str_non, isi_tup_non, isi_lst_non, tru_bl, isLT_bl, isi_int_bl, isi_bool_bl, isi_str_bl, isi_tup_bl, isi_lst_bl, tru_int, isLT_int, isi_int_int, isi_bool_int, isi_str_int, isi_tup_int, isi_lst_int, tru_str, isLT_str, isi_int_str, isi_bool_str, isi_str_str, isi_tup_str, isi_lst_str, tru_tup, isLT_tup, isi_int_tup, isi_bool_tup, isi_str_tup, isi_tup_tup, isi_lst_tup, tru_lst, isLT_lst, isi_int_lst, isi_bool_lst, isi_str_lst, isi_tup_lst, isi_lst_lst, isL_lst, seqW_lst, seqW_tup, seqW_str, seqW_scr, sq2_lst, sq2_tup, inW_sign]); exact q) | cases hp
theorem Tk.cut {L n : Nat} {xs : List W} {a b : Option Int} (h : Tk L (n + 1) (.tup xs)) : ∀ x ∈ DL.cut xs a b, Tk L n x := fun x hx => h.2 x (cut_any hx)
theorem Tk.all_app {L n : Nat} {xs ys : List W} (h1 : ∀ x ∈ xs, Tk L n x) (h2 : ∀ x ∈ ys, Tk L n x) : ∀ x ∈ xs ++ ys, Tk L n x := fun x hx => (List.mem_append.mp hx).elim (h1 x) (h2 x)
theorem Tk.all_one {L n : Nat} {x : W} (h : Tk L n x) : ∀ y ∈ [x], Tk L n y := fun y hy => by rw [List.mem_singleton.mp hy]; exact h
/-- one thing of a tuple put otherwise -/
theorem Tk.put {L L' n : Nat} {xs : List W} {x : W} (a : Nat) (h : Tk L (n + 1) (.tup xs)) (hL : L ≤ L') (hx : Tk L' n x) (ha : a < xs.length) : Tk L' (n + 1) (.tup (xs.take a ++ [x] ++ xs.drop (a + 1))) := by
  refine .tup ?_ (Tk.all_app (Tk.all_app (fun y hy => Tk.mono hL (Nat.le_refl _) (h.2 y (List.mem_of_mem_take hy))) (Tk.all_one hx)) (fun y hy => Tk.mono hL (Nat.le_refl _) (h.2 y (List.mem_of_mem_drop hy))))
  have := h.1
  simp only [List.length_append, List.length_take, List.length_drop, List.length_cons, List.length_nil]
  omega
theorem Tk.outN {L L' n : Nat} {xs : List W} (a : Nat) (h : Tk L (n + 1) (.tup xs)) (hL : L ≤ L') : Tk L' (n + 1) (.tup (xs.take a ++ xs.drop (a + 1))) := by
  refine .tup ?_ (Tk.all_app (fun y hy => Tk.mono hL (Nat.le_refl _) (h.2 y (List.mem_of_mem_take hy))) (fun y hy => Tk.mono hL (Nat.le_refl _) (h.2 y (List.mem_of_mem_drop hy))))
  have := h.1
  simp only [List.length_append, List.length_take, List.length_drop]
  omega
/-- a, b = take(6), take(len): drawn -/
theorem atI_nat {xs : List W} {a : Nat} (h : a < xs.length) : ∃ x, x ∈ xs ∧ L2.atI xs (a : Int) = some x := ⟨xs[a], List.getElem_mem .., by rw [atI_n h]; exact List.getElem?_eq_getElem h⟩
theorem atI_prev {xs : List W} {a : Nat} (h : a < xs.length) : ∃ x, x ∈ xs ∧ L2.atI xs ((a : Int) - 1) = some x := by
  by_cases c : a = 0
  · subst c
    have h1 : ((-1 : Int) + (xs.length : Int)).toNat < xs.length := by omega
    refine ⟨xs[((-1 : Int) + (xs.length : Int)).toNat], List.getElem_mem .., ?_⟩
    unfold L2.atI L2.ixN
    rw [if_neg (by decide), if_pos (by omega)]
    show xs[((((0 : Nat) : Int) - 1) + (xs.length : Int)).toNat]? = _
    rw [show (((0 : Nat) : Int) - 1) = -1 by omega, List.getElem?_eq_getElem h1]
  · have e : ((a : Int) - 1) = ((a - 1 : Nat) : Int) := by omega
    rw [e]
    exact atI_nat (by omega)
/-- a comprehension over range(n), the store as it is -/
theorem lcMr {ti te : DE'} {T : Tg} {own : List Nat} {ω : Om} {S : Sto} {Q : WQ} {n : Int} (h : ∀ Q' : WQ, Q' (.int n) S → ti ω S Q') (h0 : 0 ≤ n) (h1 : n ≤ 100000) (g : Nat → W)
    (hb : ∀ i : Nat, i < n.toNat → ∃ ω2, tbind T (.int (i : Nat)) (wp ω own) = some ω2 ∧ ∀ p acc, S p = none → ∀ Qe : WQ, Qe (g i) (up S p (.lst acc)) → te ω2 (up S p (.lst acc)) Qe)
    (q : Q (.lst ((List.range n.toNat).map g)) S) : dLc (dRng1 (dCons ti dNil)) T dYes te own ω S Q := by
  have hl : (irange 0 n.toNat).length = n.toNat := by unfold irange; rw [List.length_map, List.length_range]
  refine h _ ⟨⟨by omega, by omega⟩, ?_⟩
  refine lcM (fun w => match w with | .int i => g i.toNat | _ => .non) (by rw [hl]; omega) (fun _ _ _ => trivial) (fun w hw => ?_) ?_
  · unfold irange at hw
    obtain ⟨i, hi, rfl⟩ := List.mem_map.mp hw
    rw [List.mem_range] at hi
    have e : W.int (0 + (i : Nat)) = W.int (i : Nat) := by rw [Int.zero_add]
    rw [e]
    exact hb i hi
  · unfold irange
    rw [List.map_map]
    have e : (fun w => match w with | W.int i => g i.toNat | _ => .non) ∘ (fun i : Nat => W.int (0 + (i : Nat))) = g := by
      funext i
      show g ((0 + (i : Int)).toNat) = g i
      rw [Int.zero_add]; rfl
    rw [e]
    exact q
theorem nodup_take_iff (l : List Str) : ((List.range l.length).all fun k => match l[k]? with | some x => !decide (x ∈ l.take k) | none => true) = decide l.Nodup := by
  rw [Bool.eq_iff_iff, List.all_eq_true, decide_eq_true_iff]
  constructor
  · intro h
    unfold List.Nodup
    rw [List.pairwise_iff_getElem]
    intro i j hi hj hij e
    have := h j (List.mem_range.mpr hj)
    rw [List.getElem?_eq_getElem hj] at this
    simp only [Bool.not_eq_true', decide_eq_false_iff_not] at this
    refine this ?_
    rw [← e]
    exact List.mem_take_iff_getElem.mpr ⟨i, by omega, rfl⟩
  · intro h k hk
    rw [List.mem_range] at hk
    rw [List.getElem?_eq_getElem hk]
    simp only [Bool.not_eq_true', decide_eq_false_iff_not]
    exact nodup_take h (List.getElem?_eq_getElem hk)
theorem all_bls (xs : List W) (f : W → Bool) : bls (xs.map fun w => W.bl (f w)) = some (xs.map f) := by
  have := bls_map (xs.map f)
  rw [List.map_map] at this
  exact this
theorem all_blsN (xs : List Nat) (f : Nat → Bool) : bls (xs.map fun w => W.bl (f w)) = some (xs.map f) := by
  have := bls_map (xs.map f)
  rw [List.map_map] at this
  exact this
/-- a statement, whatever way it goes -/
theorem stN_go {t : DS'} {D : Out} {ω : Om} {S : Sto} (N : Om → Sto → Prop) (h : ∀ D' : Out, (∀ ω S, N ω S → D'.nx ω S) → t D' ω S) (k : ∀ ω S, N ω S → D.nx ω S) : t D ω S := h D k
theorem weq_bl (a b : Bool) : weq (.bl a) (.bl b) = decide (a = b) := by
  unfold weq pd
  rw [PyData.eqv]
  cases a <;> cases b <;> rfl
end DL

set_option Elab.async false
set_option linter.all false
set_option maxRecDepth 100000
set_option maxHeartbeats 4000000
namespace DL
open PySem PySem.Spec PyProof.Rows L2
/-! ### is_station_of -/
abbrev s_is_station_of : Stmt := topS 24
abbrev N_is_station_of : List Str := ["ground", "thing"]
theorem sc_is_station_of : FnScope N_is_station_of ["ground", "thing"] (defScope s_is_station_of) := ⟨rfl, rfl, rfl, by decide +kernel, rfl, by decide +kernel, by decide +kernel⟩
theorem st_is_station_of {x0 x1 : W} : startW N_is_station_of [x0, x1] = [some x0, some x1] := rfl
def td_is_station_of (c_Ground : Addr) : DS' :=
    (dRet (dOp dIn (dVar 1) (dFld c_Ground "stations" (dVar 0))))
def sp_is_station_of (c_Ground : Addr) : DSp := fun ws S Q _ => ∃ ps rs ss x, ws = [gW c_Ground ps rs ss, x] ∧ Pl x = true ∧ okD x = true ∧ Q (.bl (isIn ss x)) S
theorem len_is_station_of {c ws S Q E} (h : sp_is_station_of c ws S Q E) : ws.length = 2 := by obtain ⟨ps, rs, ss, x, rfl, _⟩ := h; rfl
theorem g_risks {S : Sto} {C : Addr} {ps rs ss} : fget S C "risks" (gW C ps rs ss) = some (risksW ps) := fget_ins.trans rfl
theorem g_roads {S : Sto} {C : Addr} {ps rs ss} : fget S C "roads" (gW C ps rs ss) = some (roadsW rs) := fget_ins.trans rfl
theorem g_stations {S : Sto} {C : Addr} {ps rs ss} : fget S C "stations" (gW C ps rs ss) = some (stationsW ss) := fget_ins.trans rfl
theorem hd_is_station_of (c_Ground) (ws S Q E) (h : sp_is_station_of c_Ground ws S Q E) : td_is_station_of c_Ground { nx := fun _ S' => frzQ Q .non S', rt := frzQ Q } ⟨startW N_is_station_of ws, XF⟩ S := by
  obtain ⟨ps, rs, ss, x, rfl, p, d, q⟩ := h
  simp only [st_is_station_of, td_is_station_of]
  (simp only [↓dFgt, ↓dVar, ↓dC, ↓dOp, ↓dUn, ↓dI, ↓dI0, ↓dSub, ↓dMul, ↓dDiv, ↓dMod, ↓dPow, ↓dAdd, ↓dNeg, ↓dEq, ↓dNe, ↓dLt, ↓dLe, ↓dGt, ↓dGe, ↓dIsN, ↓dNotN, ↓dTru, ↓dTest, ↓dChain, ↓dAnd, ↓dOr, ↓dNot, ↓dAndV, ↓dOrV, ↓dNotV, ↓dIf, ↓dNil, ↓dCons, ↓dTup, ↓dLst, ↓dLstM, ↓dCB, ↓dLen, ↓dAbs, ↓dMax2, ↓dMin2, ↓dAll, ↓dAny, ↓dListOf, ↓dListOfM, ↓dTupOf, ↓dNext, ↓dSeq, ↓dDrop, ↓dRet, ↓dRetN, ↓dIfS, ↓dBrk, ↓dCnt, ↓dSet, ↓dAsgT, ↓dPar2, ↓tbind, ↓tbinds, ↓Om.set, ↓dCall, ↓dIx, ↓dNo, ↓dPart, ↓dSl, ↓dSlr, ↓dBM, ↓dApp, ↓dExt, ↓dSetIx, ↓dIs, ↓dMinS, ↓dMaxS, ↓dJoin, ↓dFrz, ↓dPut, ↓dFld, ↓dSetF, ↓dInt, ↓dIsLT, ↓dRng1, ↓dRng2, ↓dEnum, ↓dZip, ↓dSeqI, view_c_non, view_c_bl, view_c_int, view_c_str, view_c_tup, view_c_lst, view_c_scr, view_c_dct, view_c_ins, ↓startW, ↓wp, ↓wps, ↓dInKD, ↓dNotInKD, ↓dIxKD, ↓dIn, ↓dNotIn, ↓dDg, List.getElem?_cons_zero, List.getElem?_cons_succ, List.set_cons_zero, List.set_cons_succ, List.map_cons, List.map_nil, List.length_cons, List.length_nil, List.replicate_succ, List.replicate_zero, List.nil_append, List.cons_append, Bool.not_true, Bool.not_false, if_true, wkey_int, wkey_str, atI_0, atI_1, atI_2, atI_3, up_same, if_false, Bool.false_eq_true, Bool.true_eq_false, tru_non, isLT_non, isi_int_non, isi_bool_non, isi_str_non, isi_tup_non, isi_lst_non, tru_bl, isLT_bl, isi_int_bl, isi_bool_bl, isi_str_bl, isi_tup_bl, isi_lst_bl, tru_int, isLT_int, isi_int_int, isi_bool_int, isi_str_int, isi_tup_int, isi_lst_int, tru_str, isLT_str, isi_int_str, isi_bool_str, isi_str_str, isi_tup_str, isi_lst_str, tru_tup, isLT_tup, isi_int_tup, isi_bool_tup, isi_str_tup, isi_tup_tup, isi_lst_tup, tru_lst, isLT_lst, isi_int_lst, isi_bool_lst, isi_str_lst, isi_tup_lst, isi_lst_lst, isL_lst, seqW_lst, seqW_tup, seqW_str, seqW_scr, sq2_lst, sq2_tup, inW_sign])
  simp only [g_stations, inW_tup d (okD_strsT ss), weq_isIn p]
  exact frzQ.mk q
section
variable {P : Program} {w : World} {K : PySem.W.Frag} {mg : Str → Option Value} {base : Heap} {c_Ground : Addr}
theorem ok_is_station_of {f : Addr} {fd : FuncData} (F : Fun K "is_station_of" "is_station_of" s_is_station_of f fd) (T : Txt K w mg c_Ground) : FnOk P w K mg base CX0 1 f fd ["ground", "thing"] (uSp K (sp_is_station_of c_Ground)) :=
  Fun.okF F sc_is_station_of (td_is_station_of c_Ground) (fun cdv A outer s H E hr =>
    (dss_one (ds_ret (de_cmp (oc_in hr) (dv 1) (de_fld T.cl_Ground T.n_Ground_stations (dv 0)))))) (fun ws S Q E h => len_is_station_of h) (hd_is_station_of c_Ground)
end
/-! ### hands -/
def skillsL : List Str := ["drive", "lead", "wear"]
def skillB : W → Bool
  | .tup [a, b] => isIn skillsL a && within 0 9 b
  | _ => false
def skillsB : W → Bool
  | .tup xs => decide (xs.length ≤ 5) && xs.all skillB
  | _ => false
def handB (ss : List Str) : W → Bool
  | .tup [a, b, c, d] => isName a && (isIn ss b && (within 0 3 c && skillsB d))
  | _ => false
def fstS : W → Str
  | .tup (.str n :: _) => n
  | _ => ""
def fstOk : W → Bool
  | .tup (.str _ :: _) => true
  | _ => false
theorem fstOk_inv {x : W} (h : fstOk x = true) : ∃ r, x = .tup (.str (fstS x) :: r) := by
  unfold fstOk at h
  split at h
  · exact ⟨_, rfl⟩
  · cases h
def handsB (ss : List Str) : W → Bool
  | .tup xs => decide (xs.length ≤ 60) && (xs.all (handB ss) && decide ((xs.map fstS).Nodup))
  | _ => false
theorem handB_fst {ss : List Str} {x : W} (h : handB ss x = true) : fstOk x = true := by
  unfold handB at h
  split at h
  · rename_i a b c d
    rw [Bool.and_eq_true] at h
    cases a <;> first | rfl | cases h.1
  · cases h
theorem skills_eq : w_SKILLS = .tup (skillsL.map W.str) := rfl
theorem tup4 {ys : List W} (h : ys.length = 4) : ∃ a b c d, ys = [a, b, c, d] := by
  match ys, h with
  | [a, b, c, d], _ => exact ⟨a, b, c, d, rfl⟩
theorem tup2 {ys : List W} (h : ys.length = 2) : ∃ a b, ys = [a, b] := by
  match ys, h with
  | [a, b], _ => exact ⟨a, b, rfl⟩
theorem Tk.thg {L n : Nat} {x : W} (h : Tk L (n + 1) x) (hn : n ≤ 50) : Thg x := ⟨h.p, h.ok (by omega), fun ys e y hy => by subst e; exact ⟨(h.2 y hy).p, (h.2 y hy).ok (by omega)⟩⟩
theorem tupIn_inv {lo hi : Int} {x : W} (h : tupIn lo hi x = true) : ∃ ys, x = .tup ys ∧ lo ≤ (ys.length : Int) ∧ (ys.length : Int) ≤ hi := by
  cases x <;> first | cases h | skip
  rename_i ys
  simp only [tupIn, Bool.and_eq_true, decide_eq_true_eq] at h
  exact ⟨ys, rfl, h.1, h.2⟩
theorem tupIn_no {lo hi : Int} {ys : List W} (h : tupIn lo hi (.tup ys) = false) : ¬ (lo ≤ (ys.length : Int) ∧ (ys.length : Int) ≤ hi) := fun ⟨h1, h2⟩ => by
  simp only [tupIn, decide_eq_true h1, decide_eq_true h2] at h
  cases h
/-! ### is_skill -/
abbrev s_is_skill : Stmt := topS 40
abbrev N_is_skill : List Str := ["thing"]
theorem sc_is_skill : FnScope N_is_skill ["thing"] (defScope s_is_skill) := ⟨rfl, rfl, rfl, by decide +kernel, rfl, by decide +kernel, by decide +kernel⟩
theorem st_is_skill {x0 : W} : startW N_is_skill [x0] = [some x0] := rfl
def td_is_skill : DS' :=
    (dSeq (dIfS (dNot (dTru (dCall sp_is_tuple_within (dCons (dVar 0) (dCons (dC (.int 2)) (dCons (dC (.int 2)) dNil)))))) (dRet (dC (.bl false))) dNext)
    (dRet (dAndV (dOp dIn (dOp dIx (dVar 0) (dC (.int 0))) (dC w_SKILLS)) (dCall sp_is_whole_within (dCons (dOp dIx (dVar 0) (dC (.int 1))) (dCons (dC (.int 0)) (dCons (dC w_LAST_SKILL_DAY) dNil)))))))
def sp_is_skill : DSp := fun ws S Q _ => ∃ x, ws = [x] ∧ Thg x ∧ Q (.bl (skillB x)) S
theorem len_is_skill {ws S Q E} (h : sp_is_skill ws S Q E) : ws.length = 1 := by obtain ⟨x, rfl, _⟩ := h; rfl
theorem hd_is_skill (ws S Q E) (h : sp_is_skill ws S Q E) : td_is_skill { nx := fun _ S' => frzQ Q .non S', rt := frzQ Q } ⟨startW N_is_skill ws, XF⟩ S := by
  obtain ⟨x, rfl, hx, q⟩ := h
  replace q := frzQ.mk q
  simp only [st_is_skill, td_is_skill]
  refine seq_go ?_
  refine if_b (!tupIn 2 2 x) (fun Q h => not_b (a := tupIn 2 2 x) (fun Q h => by (simp only [↓dFgt, ↓dVar, ↓dC, ↓dOp, ↓dUn, ↓dI, ↓dI0, ↓dSub, ↓dMul, ↓dDiv, ↓dMod, ↓dPow, ↓dAdd, ↓dNeg, ↓dEq, ↓dNe, ↓dLt, ↓dLe, ↓dGt, ↓dGe, ↓dIsN, ↓dNotN, ↓dTru, ↓dTest, ↓dChain, ↓dAnd, ↓dOr, ↓dNot, ↓dAndV, ↓dOrV, ↓dNotV, ↓dIf, ↓dNil, ↓dCons, ↓dTup, ↓dLst, ↓dLstM, ↓dCB, ↓dLen, ↓dAbs, ↓dMax2, ↓dMin2, ↓dAll, ↓dAny, ↓dListOf, ↓dListOfM, ↓dTupOf, ↓dNext, ↓dSeq, ↓dDrop, ↓dRet, ↓dRetN, ↓dIfS, ↓dBrk, ↓dCnt, ↓dSet, ↓dAsgT, ↓dPar2, ↓tbind, ↓tbinds, ↓Om.set, ↓dCall, ↓dIx, ↓dNo, ↓dPart, ↓dSl, ↓dSlr, ↓dBM, ↓dApp, ↓dExt, ↓dSetIx, ↓dIs, ↓dMinS, ↓dMaxS, ↓dJoin, ↓dFrz, ↓dPut, ↓dFld, ↓dSetF, ↓dInt, ↓dIsLT, ↓dRng1, ↓dRng2, ↓dEnum, ↓dZip, ↓dSeqI, view_c_non, view_c_bl, view_c_int, view_c_str, view_c_tup, view_c_lst, view_c_scr, view_c_dct, view_c_ins, ↓startW, ↓wp, ↓wps, ↓dInKD, ↓dNotInKD, ↓dIxKD, ↓dIn, ↓dNotIn, ↓dDg, List.getElem?_cons_zero, List.getElem?_cons_succ, List.set_cons_zero, List.set_cons_succ, List.map_cons, List.map_nil, List.length_cons, List.length_nil, List.replicate_succ, List.replicate_zero, List.nil_append, List.cons_append, Bool.not_true, Bool.not_false, if_true, wkey_int, wkey_str, atI_0, atI_1, atI_2, atI_3, up_same, if_false, Bool.false_eq_true, Bool.true_eq_false, tru_non, isLT_non, isi_int_non, isi_bool_non, isi_str_non, isi_tup_non, isi_lst_non, tru_bl, isLT_bl, isi_int_bl, isi_bool_bl, isi_str_bl, isi_tup_bl, isi_lst_bl, tru_int, isLT_int, isi_int_int, isi_bool_int, isi_str_int, isi_tup_int, isi_lst_int, tru_str, isLT_str, isi_int_str, isi_bool_str, isi_str_str, isi_tup_str, isi_lst_str, tru_tup, isLT_tup, isi_int_tup, isi_bool_tup, isi_str_tup, isi_tup_tup, isi_lst_tup, tru_lst, isLT_lst, isi_int_lst, isi_bool_lst, isi_str_lst, isi_tup_lst, isi_lst_lst, isL_lst, seqW_lst, seqW_tup, seqW_str, seqW_scr, sq2_lst, sq2_tup, inW_sign]); exact ⟨x, 2, 2, rfl, hx.p, h⟩) h) (fun e => ?_) (fun e => ?_)
  · refine ret_go ?_
    have e2 : skillB x = false := by
      unfold skillB
      split
      · exact absurd e (by simp [tupIn])
      · rfl
    rw [e2] at q
    exact q
  obtain ⟨ys, rfl, h1, h2⟩ := tupIn_inv (by simpa using e)
  obtain ⟨a, b, rfl⟩ := tup2 (ys := ys) (by omega)
  have hi := hx.i _ rfl
  have ha := hi a (by simp)
  have hb := hi b (by simp)
  simp only [skillB] at q
  (((try unfold dNext); dsimp only))
  refine ret_go ?_
  (simp only [↓dFgt, ↓dVar, ↓dC, ↓dOp, ↓dUn, ↓dI, ↓dI0, ↓dSub, ↓dMul, ↓dDiv, ↓dMod, ↓dPow, ↓dAdd, ↓dNeg, ↓dEq, ↓dNe, ↓dLt, ↓dLe, ↓dGt, ↓dGe, ↓dIsN, ↓dNotN, ↓dTru, ↓dTest, ↓dChain, ↓dAnd, ↓dOr, ↓dNot, ↓dAndV, ↓dOrV, ↓dNotV, ↓dIf, ↓dNil, ↓dCons, ↓dTup, ↓dLst, ↓dLstM, ↓dCB, ↓dLen, ↓dAbs, ↓dMax2, ↓dMin2, ↓dAll, ↓dAny, ↓dListOf, ↓dListOfM, ↓dTupOf, ↓dNext, ↓dSeq, ↓dDrop, ↓dRet, ↓dRetN, ↓dIfS, ↓dBrk, ↓dCnt, ↓dSet, ↓dAsgT, ↓dPar2, ↓tbind, ↓tbinds, ↓Om.set, ↓dCall, ↓dIx, ↓dNo, ↓dPart, ↓dSl, ↓dSlr, ↓dBM, ↓dApp, ↓dExt, ↓dSetIx, ↓dIs, ↓dMinS, ↓dMaxS, ↓dJoin, ↓dFrz, ↓dPut, ↓dFld, ↓dSetF, ↓dInt, ↓dIsLT, ↓dRng1, ↓dRng2, ↓dEnum, ↓dZip, ↓dSeqI, view_c_non, view_c_bl, view_c_int, view_c_str, view_c_tup, view_c_lst, view_c_scr, view_c_dct, view_c_ins, ↓startW, ↓wp, ↓wps, ↓dInKD, ↓dNotInKD, ↓dIxKD, ↓dIn, ↓dNotIn, ↓dDg, List.getElem?_cons_zero, List.getElem?_cons_succ, List.set_cons_zero, List.set_cons_succ, List.map_cons, List.map_nil, List.length_cons, List.length_nil, List.replicate_succ, List.replicate_zero, List.nil_append, List.cons_append, Bool.not_true, Bool.not_false, if_true, wkey_int, wkey_str, atI_0, atI_1, atI_2, atI_3, up_same, if_false, Bool.false_eq_true, Bool.true_eq_false, tru_non, isLT_non, isi_int_non, isi_bool_non, isi_str_non, isi_tup_non, isi_lst_non, tru_bl, isLT_bl, isi_int_bl, isi_bool_bl, isi_str_bl, isi_tup_bl, isi_lst_bl, tru_int, isLT_int, isi_int_int, isi_bool_int, isi_str_int, isi_tup_int, isi_lst_int, tru_str, isLT_str, isi_int_str, isi_bool_str, isi_str_str, isi_tup_str, isi_lst_str, tru_tup, isLT_tup, isi_int_tup, isi_bool_tup, isi_str_tup, isi_tup_tup, isi_lst_tup, tru_lst, isLT_lst, isi_int_lst, isi_bool_lst, isi_str_lst, isi_tup_lst, isi_lst_lst, isL_lst, seqW_lst, seqW_tup, seqW_str, seqW_scr, sq2_lst, sq2_tup, inW_sign])
  rw [skills_eq]
  simp only [inW_tup ha.2 (okD_strsT skillsL), weq_isIn ha.1]
  cases c3 : isIn skillsL a with
  | false => rw [c3] at q; exact q
  | true =>
    rw [c3] at q
    (simp only [↓dFgt, ↓dVar, ↓dC, ↓dOp, ↓dUn, ↓dI, ↓dI0, ↓dSub, ↓dMul, ↓dDiv, ↓dMod, ↓dPow, ↓dAdd, ↓dNeg, ↓dEq, ↓dNe, ↓dLt, ↓dLe, ↓dGt, ↓dGe, ↓dIsN, ↓dNotN, ↓dTru, ↓dTest, ↓dChain, ↓dAnd, ↓dOr, ↓dNot, ↓dAndV, ↓dOrV, ↓dNotV, ↓dIf, ↓dNil, ↓dCons, ↓dTup, ↓dLst, ↓dLstM, ↓dCB, ↓dLen, ↓dAbs, ↓dMax2, ↓dMin2, ↓dAll, ↓dAny, ↓dListOf, ↓dListOfM, ↓dTupOf, ↓dNext, ↓dSeq, ↓dDrop, ↓dRet, ↓dRetN, ↓dIfS, ↓dBrk, ↓dCnt, ↓dSet, ↓dAsgT, ↓dPar2, ↓tbind, ↓tbinds, ↓Om.set, ↓dCall, ↓dIx, ↓dNo, ↓dPart, ↓dSl, ↓dSlr, ↓dBM, ↓dApp, ↓dExt, ↓dSetIx, ↓dIs, ↓dMinS, ↓dMaxS, ↓dJoin, ↓dFrz, ↓dPut, ↓dFld, ↓dSetF, ↓dInt, ↓dIsLT, ↓dRng1, ↓dRng2, ↓dEnum, ↓dZip, ↓dSeqI, view_c_non, view_c_bl, view_c_int, view_c_str, view_c_tup, view_c_lst, view_c_scr, view_c_dct, view_c_ins, ↓startW, ↓wp, ↓wps, ↓dInKD, ↓dNotInKD, ↓dIxKD, ↓dIn, ↓dNotIn, ↓dDg, List.getElem?_cons_zero, List.getElem?_cons_succ, List.set_cons_zero, List.set_cons_succ, List.map_cons, List.map_nil, List.length_cons, List.length_nil, List.replicate_succ, List.replicate_zero, List.nil_append, List.cons_append, Bool.not_true, Bool.not_false, if_true, wkey_int, wkey_str, atI_0, atI_1, atI_2, atI_3, up_same, if_false, Bool.false_eq_true, Bool.true_eq_false, tru_non, isLT_non, isi_int_non, isi_bool_non, isi_str_non, isi_tup_non, isi_lst_non, tru_bl, isLT_bl, isi_int_bl, isi_bool_bl, isi_str_bl, isi_tup_bl, isi_lst_bl, tru_int, isLT_int, isi_int_int, isi_bool_int, isi_str_int, isi_tup_int, isi_lst_int, tru_str, isLT_str, isi_int_str, isi_bool_str, isi_str_str, isi_tup_str, isi_lst_str, tru_tup, isLT_tup, isi_int_tup, isi_bool_tup, isi_str_tup, isi_tup_tup, isi_lst_tup, tru_lst, isLT_lst, isi_int_lst, isi_bool_lst, isi_str_lst, isi_tup_lst, isi_lst_lst, isL_lst, seqW_lst, seqW_tup, seqW_str, seqW_scr, sq2_lst, sq2_tup, inW_sign])
    exact ⟨b, 0, 9, rfl, hb.1, q⟩
section
variable {P : Program} {w : World} {K : PySem.W.Frag} {mg : Str → Option Value} {base : Heap} {c_Ground : Addr}
theorem ok_is_skill {f : Addr} {fd : FuncData} (F : Fun K "is_skill" "is_skill" s_is_skill f fd) (T : Txt K w mg c_Ground) (C_is_tuple_within : CalD P w K mg base 1 "is_tuple_within" sp_is_tuple_within) (C_is_whole_within : CalD P w K mg base 2 "is_whole_within" sp_is_whole_within) : FnOk P w K mg base CX0 3 f fd ["thing"] (uSp K (sp_is_skill)) :=
  Fun.okF F sc_is_skill (td_is_skill) (fun cdv A outer s H E hr =>
    (dss_cons (ds_if (dt_not (dt_tru (de_call C_is_tuple_within hr (da_cons (dv 0) (da_cons de_int (da_cons de_int da_nil)))))) (dss_one (ds_ret de_bl)) dss_nil)
    (dss_one (ds_ret (de_and (de_cmp (oc_in hr) (de_ix (dv 0) de_int) (de_glob T.g_SKILLS)) (de_one (de_call C_is_whole_within hr (da_cons (de_ix (dv 0) de_int) (da_cons de_int (da_cons (de_glob T.g_LAST_SKILL_DAY) da_nil)))))))))) (fun ws S Q E h => len_is_skill h) (hd_is_skill)
end
/-! ### are_skills -/
abbrev s_are_skills : Stmt := topS 39
abbrev N_are_skills : List Str := ["thing", "skill"]
theorem sc_are_skills : FnScope N_are_skills ["thing"] (defScope s_are_skills) := ⟨rfl, rfl, rfl, by decide +kernel, rfl, by decide +kernel, by decide +kernel⟩
theorem st_are_skills {x0 : W} : startW N_are_skills [x0] = [some x0, none] := rfl
def td_are_skills : DS' :=
    (dRet (dAndV (dCall sp_is_tuple_within (dCons (dVar 0) (dCons (dC (.int 0)) (dCons (dC w_MOST_SKILLS) dNil)))) (dCB dAll (dCons (dLc (dSeqI (dVar 0)) (.nm 1) dYes (dCall sp_is_skill (dCons (dVar 1) dNil)) [1]) dNil))))
def sp_are_skills : DSp := fun ws S Q _ => ∃ x L, ws = [x] ∧ Tk L 9 x ∧ Q (.bl (skillsB x)) S
theorem len_are_skills {ws S Q E} (h : sp_are_skills ws S Q E) : ws.length = 1 := by obtain ⟨x, L, rfl, _⟩ := h; rfl
theorem hd_are_skills (ws S Q E) (h : sp_are_skills ws S Q E) : td_are_skills { nx := fun _ S' => frzQ Q .non S', rt := frzQ Q } ⟨startW N_are_skills ws, XF⟩ S := by
  obtain ⟨x, L, rfl, hx, q⟩ := h
  replace q := frzQ.mk q
  simp only [st_are_skills, td_are_skills]
  refine ret_go ?_
  (simp only [↓dFgt, ↓dVar, ↓dC, ↓dOp, ↓dUn, ↓dI, ↓dI0, ↓dSub, ↓dMul, ↓dDiv, ↓dMod, ↓dPow, ↓dAdd, ↓dNeg, ↓dEq, ↓dNe, ↓dLt, ↓dLe, ↓dGt, ↓dGe, ↓dIsN, ↓dNotN, ↓dTru, ↓dTest, ↓dChain, ↓dAnd, ↓dOr, ↓dNot, ↓dAndV, ↓dOrV, ↓dNotV, ↓dIf, ↓dNil, ↓dCons, ↓dTup, ↓dLst, ↓dLstM, ↓dCB, ↓dLen, ↓dAbs, ↓dMax2, ↓dMin2, ↓dAll, ↓dAny, ↓dListOf, ↓dListOfM, ↓dTupOf, ↓dNext, ↓dSeq, ↓dDrop, ↓dRet, ↓dRetN, ↓dIfS, ↓dBrk, ↓dCnt, ↓dSet, ↓dAsgT, ↓dPar2, ↓tbind, ↓tbinds, ↓Om.set, ↓dCall, ↓dIx, ↓dNo, ↓dPart, ↓dSl, ↓dSlr, ↓dBM, ↓dApp, ↓dExt, ↓dSetIx, ↓dIs, ↓dMinS, ↓dMaxS, ↓dJoin, ↓dFrz, ↓dPut, ↓dFld, ↓dSetF, ↓dInt, ↓dIsLT, ↓dRng1, ↓dRng2, ↓dEnum, ↓dZip, ↓dSeqI, view_c_non, view_c_bl, view_c_int, view_c_str, view_c_tup, view_c_lst, view_c_scr, view_c_dct, view_c_ins, ↓startW, ↓wp, ↓wps, ↓dInKD, ↓dNotInKD, ↓dIxKD, ↓dIn, ↓dNotIn, ↓dDg, List.getElem?_cons_zero, List.getElem?_cons_succ, List.set_cons_zero, List.set_cons_succ, List.map_cons, List.map_nil, List.length_cons, List.length_nil, List.replicate_succ, List.replicate_zero, List.nil_append, List.cons_append, Bool.not_true, Bool.not_false, if_true, wkey_int, wkey_str, atI_0, atI_1, atI_2, atI_3, up_same, if_false, Bool.false_eq_true, Bool.true_eq_false, tru_non, isLT_non, isi_int_non, isi_bool_non, isi_str_non, isi_tup_non, isi_lst_non, tru_bl, isLT_bl, isi_int_bl, isi_bool_bl, isi_str_bl, isi_tup_bl, isi_lst_bl, tru_int, isLT_int, isi_int_int, isi_bool_int, isi_str_int, isi_tup_int, isi_lst_int, tru_str, isLT_str, isi_int_str, isi_bool_str, isi_str_str, isi_tup_str, isi_lst_str, tru_tup, isLT_tup, isi_int_tup, isi_bool_tup, isi_str_tup, isi_tup_tup, isi_lst_tup, tru_lst, isLT_lst, isi_int_lst, isi_bool_lst, isi_str_lst, isi_tup_lst, isi_lst_lst, isL_lst, seqW_lst, seqW_tup, seqW_str, seqW_scr, sq2_lst, sq2_tup, inW_sign])
  refine ⟨x, 0, 5, rfl, hx.p, ?_⟩
  cases c : tupIn 0 5 x with
  | false =>
    have e : skillsB x = false := by
      cases x <;> first | rfl | skip
      rename_i ys
      have := tupIn_no c
      simp only [skillsB]
      rw [decide_eq_false (by omega)]; rfl
    rw [e] at q
    exact q
  | true =>
    obtain ⟨ys, rfl, h1, h2⟩ := tupIn_inv c
    (simp only [↓dFgt, ↓dVar, ↓dC, ↓dOp, ↓dUn, ↓dI, ↓dI0, ↓dSub, ↓dMul, ↓dDiv, ↓dMod, ↓dPow, ↓dAdd, ↓dNeg, ↓dEq, ↓dNe, ↓dLt, ↓dLe, ↓dGt, ↓dGe, ↓dIsN, ↓dNotN, ↓dTru, ↓dTest, ↓dChain, ↓dAnd, ↓dOr, ↓dNot, ↓dAndV, ↓dOrV, ↓dNotV, ↓dIf, ↓dNil, ↓dCons, ↓dTup, ↓dLst, ↓dLstM, ↓dCB, ↓dLen, ↓dAbs, ↓dMax2, ↓dMin2, ↓dAll, ↓dAny, ↓dListOf, ↓dListOfM, ↓dTupOf, ↓dNext, ↓dSeq, ↓dDrop, ↓dRet, ↓dRetN, ↓dIfS, ↓dBrk, ↓dCnt, ↓dSet, ↓dAsgT, ↓dPar2, ↓tbind, ↓tbinds, ↓Om.set, ↓dCall, ↓dIx, ↓dNo, ↓dPart, ↓dSl, ↓dSlr, ↓dBM, ↓dApp, ↓dExt, ↓dSetIx, ↓dIs, ↓dMinS, ↓dMaxS, ↓dJoin, ↓dFrz, ↓dPut, ↓dFld, ↓dSetF, ↓dInt, ↓dIsLT, ↓dRng1, ↓dRng2, ↓dEnum, ↓dZip, ↓dSeqI, view_c_non, view_c_bl, view_c_int, view_c_str, view_c_tup, view_c_lst, view_c_scr, view_c_dct, view_c_ins, ↓startW, ↓wp, ↓wps, ↓dInKD, ↓dNotInKD, ↓dIxKD, ↓dIn, ↓dNotIn, ↓dDg, List.getElem?_cons_zero, List.getElem?_cons_succ, List.set_cons_zero, List.set_cons_succ, List.map_cons, List.map_nil, List.length_cons, List.length_nil, List.replicate_succ, List.replicate_zero, List.nil_append, List.cons_append, Bool.not_true, Bool.not_false, if_true, wkey_int, wkey_str, atI_0, atI_1, atI_2, atI_3, up_same, if_false, Bool.false_eq_true, Bool.true_eq_false, tru_non, isLT_non, isi_int_non, isi_bool_non, isi_str_non, isi_tup_non, isi_lst_non, tru_bl, isLT_bl, isi_int_bl, isi_bool_bl, isi_str_bl, isi_tup_bl, isi_lst_bl, tru_int, isLT_int, isi_int_int, isi_bool_int, isi_str_int, isi_tup_int, isi_lst_int, tru_str, isLT_str, isi_int_str, isi_bool_str, isi_str_str, isi_tup_str, isi_lst_str, tru_tup, isLT_tup, isi_int_tup, isi_bool_tup, isi_str_tup, isi_tup_tup, isi_lst_tup, tru_lst, isLT_lst, isi_int_lst, isi_bool_lst, isi_str_lst, isi_tup_lst, isi_lst_lst, isL_lst, seqW_lst, seqW_tup, seqW_str, seqW_scr, sq2_lst, sq2_tup, inW_sign])
    refine lcMs (w := .tup ys) (xs := ys) (fun _ h => h) rfl (fun w => .bl (skillB w)) (by omega) (fun _ _ _ => rfl) (fun w hw => ⟨_, rfl, fun p acc hp Qe h => ?_⟩) ?_
    · (simp only [↓dFgt, ↓dVar, ↓dC, ↓dOp, ↓dUn, ↓dI, ↓dI0, ↓dSub, ↓dMul, ↓dDiv, ↓dMod, ↓dPow, ↓dAdd, ↓dNeg, ↓dEq, ↓dNe, ↓dLt, ↓dLe, ↓dGt, ↓dGe, ↓dIsN, ↓dNotN, ↓dTru, ↓dTest, ↓dChain, ↓dAnd, ↓dOr, ↓dNot, ↓dAndV, ↓dOrV, ↓dNotV, ↓dIf, ↓dNil, ↓dCons, ↓dTup, ↓dLst, ↓dLstM, ↓dCB, ↓dLen, ↓dAbs, ↓dMax2, ↓dMin2, ↓dAll, ↓dAny, ↓dListOf, ↓dListOfM, ↓dTupOf, ↓dNext, ↓dSeq, ↓dDrop, ↓dRet, ↓dRetN, ↓dIfS, ↓dBrk, ↓dCnt, ↓dSet, ↓dAsgT, ↓dPar2, ↓tbind, ↓tbinds, ↓Om.set, ↓dCall, ↓dIx, ↓dNo, ↓dPart, ↓dSl, ↓dSlr, ↓dBM, ↓dApp, ↓dExt, ↓dSetIx, ↓dIs, ↓dMinS, ↓dMaxS, ↓dJoin, ↓dFrz, ↓dPut, ↓dFld, ↓dSetF, ↓dInt, ↓dIsLT, ↓dRng1, ↓dRng2, ↓dEnum, ↓dZip, ↓dSeqI, view_c_non, view_c_bl, view_c_int, view_c_str, view_c_tup, view_c_lst, view_c_scr, view_c_dct, view_c_ins, ↓startW, ↓wp, ↓wps, ↓dInKD, ↓dNotInKD, ↓dIxKD, ↓dIn, ↓dNotIn, ↓dDg, List.getElem?_cons_zero, List.getElem?_cons_succ, List.set_cons_zero, List.set_cons_succ, List.map_cons, List.map_nil, List.length_cons, List.length_nil, List.replicate_succ, List.replicate_zero, List.nil_append, List.cons_append, Bool.not_true, Bool.not_false, if_true, wkey_int, wkey_str, atI_0, atI_1, atI_2, atI_3, up_same, if_false, Bool.false_eq_true, Bool.true_eq_false, tru_non, isLT_non, isi_int_non, isi_bool_non, isi_str_non, isi_tup_non, isi_lst_non, tru_bl, isLT_bl, isi_int_bl, isi_bool_bl, isi_str_bl, isi_tup_bl, isi_lst_bl, tru_int, isLT_int, isi_int_int, isi_bool_int, isi_str_int, isi_tup_int, isi_lst_int, tru_str, isLT_str, isi_int_str, isi_bool_str, isi_str_str, isi_tup_str, isi_lst_str, tru_tup, isLT_tup, isi_int_tup, isi_bool_tup, isi_str_tup, isi_tup_tup, isi_lst_tup, tru_lst, isLT_lst, isi_int_lst, isi_bool_lst, isi_str_lst, isi_tup_lst, isi_lst_lst, isL_lst, seqW_lst, seqW_tup, seqW_str, seqW_scr, sq2_lst, sq2_tup, inW_sign])
      exact ⟨w, rfl, (hx.2 w hw).thg (by decide), h⟩
    (simp only [↓dFgt, ↓dVar, ↓dC, ↓dOp, ↓dUn, ↓dI, ↓dI0, ↓dSub, ↓dMul, ↓dDiv, ↓dMod, ↓dPow, ↓dAdd, ↓dNeg, ↓dEq, ↓dNe, ↓dLt, ↓dLe, ↓dGt, ↓dGe, ↓dIsN, ↓dNotN, ↓dTru, ↓dTest, ↓dChain, ↓dAnd, ↓dOr, ↓dNot, ↓dAndV, ↓dOrV, ↓dNotV, ↓dIf, ↓dNil, ↓dCons, ↓dTup, ↓dLst, ↓dLstM, ↓dCB, ↓dLen, ↓dAbs, ↓dMax2, ↓dMin2, ↓dAll, ↓dAny, ↓dListOf, ↓dListOfM, ↓dTupOf, ↓dNext, ↓dSeq, ↓dDrop, ↓dRet, ↓dRetN, ↓dIfS, ↓dBrk, ↓dCnt, ↓dSet, ↓dAsgT, ↓dPar2, ↓tbind, ↓tbinds, ↓Om.set, ↓dCall, ↓dIx, ↓dNo, ↓dPart, ↓dSl, ↓dSlr, ↓dBM, ↓dApp, ↓dExt, ↓dSetIx, ↓dIs, ↓dMinS, ↓dMaxS, ↓dJoin, ↓dFrz, ↓dPut, ↓dFld, ↓dSetF, ↓dInt, ↓dIsLT, ↓dRng1, ↓dRng2, ↓dEnum, ↓dZip, ↓dSeqI, view_c_non, view_c_bl, view_c_int, view_c_str, view_c_tup, view_c_lst, view_c_scr, view_c_dct, view_c_ins, ↓startW, ↓wp, ↓wps, ↓dInKD, ↓dNotInKD, ↓dIxKD, ↓dIn, ↓dNotIn, ↓dDg, List.getElem?_cons_zero, List.getElem?_cons_succ, List.set_cons_zero, List.set_cons_succ, List.map_cons, List.map_nil, List.length_cons, List.length_nil, List.replicate_succ, List.replicate_zero, List.nil_append, List.cons_append, Bool.not_true, Bool.not_false, if_true, wkey_int, wkey_str, atI_0, atI_1, atI_2, atI_3, up_same, if_false, Bool.false_eq_true, Bool.true_eq_false, tru_non, isLT_non, isi_int_non, isi_bool_non, isi_str_non, isi_tup_non, isi_lst_non, tru_bl, isLT_bl, isi_int_bl, isi_bool_bl, isi_str_bl, isi_tup_bl, isi_lst_bl, tru_int, isLT_int, isi_int_int, isi_bool_int, isi_str_int, isi_tup_int, isi_lst_int, tru_str, isLT_str, isi_int_str, isi_bool_str, isi_str_str, isi_tup_str, isi_lst_str, tru_tup, isLT_tup, isi_int_tup, isi_bool_tup, isi_str_tup, isi_tup_tup, isi_lst_tup, tru_lst, isLT_lst, isi_int_lst, isi_bool_lst, isi_str_lst, isi_tup_lst, isi_lst_lst, isL_lst, seqW_lst, seqW_tup, seqW_str, seqW_scr, sq2_lst, sq2_tup, inW_sign])
    rw [all_bls]
    (simp only [↓dFgt, ↓dVar, ↓dC, ↓dOp, ↓dUn, ↓dI, ↓dI0, ↓dSub, ↓dMul, ↓dDiv, ↓dMod, ↓dPow, ↓dAdd, ↓dNeg, ↓dEq, ↓dNe, ↓dLt, ↓dLe, ↓dGt, ↓dGe, ↓dIsN, ↓dNotN, ↓dTru, ↓dTest, ↓dChain, ↓dAnd, ↓dOr, ↓dNot, ↓dAndV, ↓dOrV, ↓dNotV, ↓dIf, ↓dNil, ↓dCons, ↓dTup, ↓dLst, ↓dLstM, ↓dCB, ↓dLen, ↓dAbs, ↓dMax2, ↓dMin2, ↓dAll, ↓dAny, ↓dListOf, ↓dListOfM, ↓dTupOf, ↓dNext, ↓dSeq, ↓dDrop, ↓dRet, ↓dRetN, ↓dIfS, ↓dBrk, ↓dCnt, ↓dSet, ↓dAsgT, ↓dPar2, ↓tbind, ↓tbinds, ↓Om.set, ↓dCall, ↓dIx, ↓dNo, ↓dPart, ↓dSl, ↓dSlr, ↓dBM, ↓dApp, ↓dExt, ↓dSetIx, ↓dIs, ↓dMinS, ↓dMaxS, ↓dJoin, ↓dFrz, ↓dPut, ↓dFld, ↓dSetF, ↓dInt, ↓dIsLT, ↓dRng1, ↓dRng2, ↓dEnum, ↓dZip, ↓dSeqI, view_c_non, view_c_bl, view_c_int, view_c_str, view_c_tup, view_c_lst, view_c_scr, view_c_dct, view_c_ins, ↓startW, ↓wp, ↓wps, ↓dInKD, ↓dNotInKD, ↓dIxKD, ↓dIn, ↓dNotIn, ↓dDg, List.getElem?_cons_zero, List.getElem?_cons_succ, List.set_cons_zero, List.set_cons_succ, List.map_cons, List.map_nil, List.length_cons, List.length_nil, List.replicate_succ, List.replicate_zero, List.nil_append, List.cons_append, Bool.not_true, Bool.not_false, if_true, wkey_int, wkey_str, atI_0, atI_1, atI_2, atI_3, up_same, if_false, Bool.false_eq_true, Bool.true_eq_false, tru_non, isLT_non, isi_int_non, isi_bool_non, isi_str_non, isi_tup_non, isi_lst_non, tru_bl, isLT_bl, isi_int_bl, isi_bool_bl, isi_str_bl, isi_tup_bl, isi_lst_bl, tru_int, isLT_int, isi_int_int, isi_bool_int, isi_str_int, isi_tup_int, isi_lst_int, tru_str, isLT_str, isi_int_str, isi_bool_str, isi_str_str, isi_tup_str, isi_lst_str, tru_tup, isLT_tup, isi_int_tup, isi_bool_tup, isi_str_tup, isi_tup_tup, isi_lst_tup, tru_lst, isLT_lst, isi_int_lst, isi_bool_lst, isi_str_lst, isi_tup_lst, isi_lst_lst, isL_lst, seqW_lst, seqW_tup, seqW_str, seqW_scr, sq2_lst, sq2_tup, inW_sign])
    simp only [skillsB, decide_eq_true (show ys.length ≤ 5 by omega), Bool.true_and] at q
    have e : (ys.map skillB).all id = ys.all skillB := by rw [List.all_map]; rfl
    rw [e]
    exact q
section
variable {P : Program} {w : World} {K : PySem.W.Frag} {mg : Str → Option Value} {base : Heap} {c_Ground : Addr}
theorem ok_are_skills {f : Addr} {fd : FuncData} (F : Fun K "are_skills" "are_skills" s_are_skills f fd) (T : Txt K w mg c_Ground) (C_is_tuple_within : CalD P w K mg base 1 "is_tuple_within" sp_is_tuple_within) (C_is_skill : CalD P w K mg base 3 "is_skill" sp_is_skill) : FnOk P w K mg base CX0 4 f fd ["thing"] (uSp K (sp_are_skills)) :=
  Fun.okF F sc_are_skills (td_are_skills) (fun cdv A outer s H E hr =>
    (dss_one (ds_ret (de_and (de_call C_is_tuple_within hr (da_cons (dv 0) (da_cons de_int (da_cons (de_glob T.g_MOST_SKILLS) da_nil)))) (de_one (de_callB cd_all T.z_all (da_cons (de_lc (own := [("skill", 1)]) sc_are_skills.nd (di_seq (dv 0)) (blkOk_by (own := [("skill", 1)]) (N := N_are_skills) (sc := defScope s_are_skills) (by decide +kernel)) (fun _ _ _ _ _ => (dg_nm (i := 1) sc_are_skills.nd)) (fun _ _ _ _ _ => dts_nil) (fun _ _ _ _ _ => (de_call C_is_skill hr (da_cons (dv 1) da_nil)))) da_nil))))))) (fun ws S Q E h => len_are_skills h) (hd_are_skills)
end
/-! ### is_hand -/
abbrev s_is_hand : Stmt := topS 38
abbrev N_is_hand : List Str := ["ground", "thing", "name", "station", "shift", "skills"]
theorem sc_is_hand : FnScope N_is_hand ["ground", "thing"] (defScope s_is_hand) := ⟨rfl, rfl, rfl, by decide +kernel, rfl, by decide +kernel, by decide +kernel⟩
theorem st_is_hand {x0 x1 : W} : startW N_is_hand [x0, x1] = [some x0, some x1, none, none, none, none] := rfl
def td_is_hand (c_Ground : Addr) : DS' :=
    (dSeq (dIfS (dNot (dTru (dCall sp_is_tuple_within (dCons (dVar 1) (dCons (dC (.int 4)) (dCons (dC (.int 4)) dNil)))))) (dRet (dC (.bl false))) dNext)
    (dSeq (dAsgT (.tp ((.nm 2) :: ((.nm 3) :: ((.nm 4) :: ((.nm 5) :: []))))) (dVar 1))
    (dSeq (dIfS (dOr (dNot (dTru (dCall sp_is_name (dCons (dVar 2) dNil)))) (dNot (dTru (dCall (sp_is_station_of c_Ground) (dCons (dVar 0) (dCons (dVar 3) dNil)))))) (dRet (dC (.bl false))) dNext)
    (dRet (dAndV (dCall sp_is_whole_within (dCons (dVar 4) (dCons (dC (.int 0)) (dCons (dC w_LAST_SHIFT) dNil)))) (dCall sp_are_skills (dCons (dVar 5) dNil)))))))
def sp_is_hand (c_Ground : Addr) : DSp := fun ws S Q _ => ∃ ps rs ss x L, ws = [gW c_Ground ps rs ss, x] ∧ Tk L 10 x ∧ Q (.bl (handB ss x)) S
theorem len_is_hand {c ws S Q E} (h : sp_is_hand c ws S Q E) : ws.length = 2 := by obtain ⟨ps, rs, ss, x, L, rfl, _⟩ := h; rfl
theorem and4 {a b c d : Bool} (h : (!a || !b) = true) : (a && (b && (c && d))) = false := by cases a <;> cases b <;> first | rfl | cases h
theorem hd_is_hand (c_Ground) (ws S Q E) (h : sp_is_hand c_Ground ws S Q E) : td_is_hand c_Ground { nx := fun _ S' => frzQ Q .non S', rt := frzQ Q } ⟨startW N_is_hand ws, XF⟩ S := by
  obtain ⟨ps, rs, ss, x, L, rfl, hx, q⟩ := h
  replace q := frzQ.mk q
  simp only [st_is_hand, td_is_hand]
  refine seq_go ?_
  refine if_b (!tupIn 4 4 x) (fun Q h => not_b (a := tupIn 4 4 x) (fun Q h => by (simp only [↓dFgt, ↓dVar, ↓dC, ↓dOp, ↓dUn, ↓dI, ↓dI0, ↓dSub, ↓dMul, ↓dDiv, ↓dMod, ↓dPow, ↓dAdd, ↓dNeg, ↓dEq, ↓dNe, ↓dLt, ↓dLe, ↓dGt, ↓dGe, ↓dIsN, ↓dNotN, ↓dTru, ↓dTest, ↓dChain, ↓dAnd, ↓dOr, ↓dNot, ↓dAndV, ↓dOrV, ↓dNotV, ↓dIf, ↓dNil, ↓dCons, ↓dTup, ↓dLst, ↓dLstM, ↓dCB, ↓dLen, ↓dAbs, ↓dMax2, ↓dMin2, ↓dAll, ↓dAny, ↓dListOf, ↓dListOfM, ↓dTupOf, ↓dNext, ↓dSeq, ↓dDrop, ↓dRet, ↓dRetN, ↓dIfS, ↓dBrk, ↓dCnt, ↓dSet, ↓dAsgT, ↓dPar2, ↓tbind, ↓tbinds, ↓Om.set, ↓dCall, ↓dIx, ↓dNo, ↓dPart, ↓dSl, ↓dSlr, ↓dBM, ↓dApp, ↓dExt, ↓dSetIx, ↓dIs, ↓dMinS, ↓dMaxS, ↓dJoin, ↓dFrz, ↓dPut, ↓dFld, ↓dSetF, ↓dInt, ↓dIsLT, ↓dRng1, ↓dRng2, ↓dEnum, ↓dZip, ↓dSeqI, view_c_non, view_c_bl, view_c_int, view_c_str, view_c_tup, view_c_lst, view_c_scr, view_c_dct, view_c_ins, ↓startW, ↓wp, ↓wps, ↓dInKD, ↓dNotInKD, ↓dIxKD, ↓dIn, ↓dNotIn, ↓dDg, List.getElem?_cons_zero, List.getElem?_cons_succ, List.set_cons_zero, List.set_cons_succ, List.map_cons, List.map_nil, List.length_cons, List.length_nil, List.replicate_succ, List.replicate_zero, List.nil_append, List.cons_append, Bool.not_true, Bool.not_false, if_true, wkey_int, wkey_str, atI_0, atI_1, atI_2, atI_3, up_same, if_false, Bool.false_eq_true, Bool.true_eq_false, tru_non, isLT_non, isi_int_non, isi_bool_non, isi_str_non, isi_tup_non, isi_lst_non, tru_bl, isLT_bl, isi_int_bl, isi_bool_bl, isi_str_bl, isi_tup_bl, isi_lst_bl, tru_int, isLT_int, isi_int_int, isi_bool_int, isi_str_int, isi_tup_int, isi_lst_int, tru_str, isLT_str, isi_int_str, isi_bool_str, isi_str_str, isi_tup_str, isi_lst_str, tru_tup, isLT_tup, isi_int_tup, isi_bool_tup, isi_str_tup, isi_tup_tup, isi_lst_tup, tru_lst, isLT_lst, isi_int_lst, isi_bool_lst, isi_str_lst, isi_tup_lst, isi_lst_lst, isL_lst, seqW_lst, seqW_tup, seqW_str, seqW_scr, sq2_lst, sq2_tup, inW_sign]); exact ⟨x, 4, 4, rfl, hx.p, h⟩) h) (fun e => ?_) (fun e => ?_)
  · refine ret_go ?_
    have e2 : handB ss x = false := by
      unfold handB
      split
      · exact absurd e (by simp [tupIn])
      · rfl
    rw [e2] at q
    exact q
  obtain ⟨ys, rfl, h1, h2⟩ := tupIn_inv (by simpa using e)
  obtain ⟨a, b, c, d, rfl⟩ := tup4 (ys := ys) (by omega)
  have ha : Tk L 9 a := hx.2 a (by simp)
  have hb : Tk L 9 b := hx.2 b (by simp)
  have hc : Tk L 9 c := hx.2 c (by simp)
  have hd : Tk L 9 d := hx.2 d (by simp)
  simp only [handB] at q
  (((try unfold dNext); dsimp only; refine seq_go ?_))
  refine asgT_go (.tup [a, b, c, d]) S (fun _ h => h) rfl ?_
  (((try unfold dNext); dsimp only; refine seq_go ?_))
  refine if_b (!isName a || !isIn ss b) (fun Q h => or_b (a := !isName a) (b := !isIn ss b) (fun Q h => ?_) (fun _ Q h => ?_) h) (fun e => ?_) (fun e => ?_)
  · (simp only [↓dFgt, ↓dVar, ↓dC, ↓dOp, ↓dUn, ↓dI, ↓dI0, ↓dSub, ↓dMul, ↓dDiv, ↓dMod, ↓dPow, ↓dAdd, ↓dNeg, ↓dEq, ↓dNe, ↓dLt, ↓dLe, ↓dGt, ↓dGe, ↓dIsN, ↓dNotN, ↓dTru, ↓dTest, ↓dChain, ↓dAnd, ↓dOr, ↓dNot, ↓dAndV, ↓dOrV, ↓dNotV, ↓dIf, ↓dNil, ↓dCons, ↓dTup, ↓dLst, ↓dLstM, ↓dCB, ↓dLen, ↓dAbs, ↓dMax2, ↓dMin2, ↓dAll, ↓dAny, ↓dListOf, ↓dListOfM, ↓dTupOf, ↓dNext, ↓dSeq, ↓dDrop, ↓dRet, ↓dRetN, ↓dIfS, ↓dBrk, ↓dCnt, ↓dSet, ↓dAsgT, ↓dPar2, ↓tbind, ↓tbinds, ↓Om.set, ↓dCall, ↓dIx, ↓dNo, ↓dPart, ↓dSl, ↓dSlr, ↓dBM, ↓dApp, ↓dExt, ↓dSetIx, ↓dIs, ↓dMinS, ↓dMaxS, ↓dJoin, ↓dFrz, ↓dPut, ↓dFld, ↓dSetF, ↓dInt, ↓dIsLT, ↓dRng1, ↓dRng2, ↓dEnum, ↓dZip, ↓dSeqI, view_c_non, view_c_bl, view_c_int, view_c_str, view_c_tup, view_c_lst, view_c_scr, view_c_dct, view_c_ins, ↓startW, ↓wp, ↓wps, ↓dInKD, ↓dNotInKD, ↓dIxKD, ↓dIn, ↓dNotIn, ↓dDg, List.getElem?_cons_zero, List.getElem?_cons_succ, List.set_cons_zero, List.set_cons_succ, List.map_cons, List.map_nil, List.length_cons, List.length_nil, List.replicate_succ, List.replicate_zero, List.nil_append, List.cons_append, Bool.not_true, Bool.not_false, if_true, wkey_int, wkey_str, atI_0, atI_1, atI_2, atI_3, up_same, if_false, Bool.false_eq_true, Bool.true_eq_false, tru_non, isLT_non, isi_int_non, isi_bool_non, isi_str_non, isi_tup_non, isi_lst_non, tru_bl, isLT_bl, isi_int_bl, isi_bool_bl, isi_str_bl, isi_tup_bl, isi_lst_bl, tru_int, isLT_int, isi_int_int, isi_bool_int, isi_str_int, isi_tup_int, isi_lst_int, tru_str, isLT_str, isi_int_str, isi_bool_str, isi_str_str, isi_tup_str, isi_lst_str, tru_tup, isLT_tup, isi_int_tup, isi_bool_tup, isi_str_tup, isi_tup_tup, isi_lst_tup, tru_lst, isLT_lst, isi_int_lst, isi_bool_lst, isi_str_lst, isi_tup_lst, isi_lst_lst, isL_lst, seqW_lst, seqW_tup, seqW_str, seqW_scr, sq2_lst, sq2_tup, inW_sign])
    exact ⟨a, rfl, ha.p, h⟩
  · (simp only [↓dFgt, ↓dVar, ↓dC, ↓dOp, ↓dUn, ↓dI, ↓dI0, ↓dSub, ↓dMul, ↓dDiv, ↓dMod, ↓dPow, ↓dAdd, ↓dNeg, ↓dEq, ↓dNe, ↓dLt, ↓dLe, ↓dGt, ↓dGe, ↓dIsN, ↓dNotN, ↓dTru, ↓dTest, ↓dChain, ↓dAnd, ↓dOr, ↓dNot, ↓dAndV, ↓dOrV, ↓dNotV, ↓dIf, ↓dNil, ↓dCons, ↓dTup, ↓dLst, ↓dLstM, ↓dCB, ↓dLen, ↓dAbs, ↓dMax2, ↓dMin2, ↓dAll, ↓dAny, ↓dListOf, ↓dListOfM, ↓dTupOf, ↓dNext, ↓dSeq, ↓dDrop, ↓dRet, ↓dRetN, ↓dIfS, ↓dBrk, ↓dCnt, ↓dSet, ↓dAsgT, ↓dPar2, ↓tbind, ↓tbinds, ↓Om.set, ↓dCall, ↓dIx, ↓dNo, ↓dPart, ↓dSl, ↓dSlr, ↓dBM, ↓dApp, ↓dExt, ↓dSetIx, ↓dIs, ↓dMinS, ↓dMaxS, ↓dJoin, ↓dFrz, ↓dPut, ↓dFld, ↓dSetF, ↓dInt, ↓dIsLT, ↓dRng1, ↓dRng2, ↓dEnum, ↓dZip, ↓dSeqI, view_c_non, view_c_bl, view_c_int, view_c_str, view_c_tup, view_c_lst, view_c_scr, view_c_dct, view_c_ins, ↓startW, ↓wp, ↓wps, ↓dInKD, ↓dNotInKD, ↓dIxKD, ↓dIn, ↓dNotIn, ↓dDg, List.getElem?_cons_zero, List.getElem?_cons_succ, List.set_cons_zero, List.set_cons_succ, List.map_cons, List.map_nil, List.length_cons, List.length_nil, List.replicate_succ, List.replicate_zero, List.nil_append, List.cons_append, Bool.not_true, Bool.not_false, if_true, wkey_int, wkey_str, atI_0, atI_1, atI_2, atI_3, up_same, if_false, Bool.false_eq_true, Bool.true_eq_false, tru_non, isLT_non, isi_int_non, isi_bool_non, isi_str_non, isi_tup_non, isi_lst_non, tru_bl, isLT_bl, isi_int_bl, isi_bool_bl, isi_str_bl, isi_tup_bl, isi_lst_bl, tru_int, isLT_int, isi_int_int, isi_bool_int, isi_str_int, isi_tup_int, isi_lst_int, tru_str, isLT_str, isi_int_str, isi_bool_str, isi_str_str, isi_tup_str, isi_lst_str, tru_tup, isLT_tup, isi_int_tup, isi_bool_tup, isi_str_tup, isi_tup_tup, isi_lst_tup, tru_lst, isLT_lst, isi_int_lst, isi_bool_lst, isi_str_lst, isi_tup_lst, isi_lst_lst, isL_lst, seqW_lst, seqW_tup, seqW_str, seqW_scr, sq2_lst, sq2_tup, inW_sign])
    exact ⟨ps, rs, ss, b, rfl, hb.p, hb.ok (by decide), h⟩
  · rw [and4 e] at q
    exact q
  rw [Bool.or_eq_false_iff, Bool.not_eq_false', Bool.not_eq_false'] at e
  rw [e.1, e.2] at q
  (((try unfold dNext); dsimp only))
  refine ret_go ?_
  (simp only [↓dFgt, ↓dVar, ↓dC, ↓dOp, ↓dUn, ↓dI, ↓dI0, ↓dSub, ↓dMul, ↓dDiv, ↓dMod, ↓dPow, ↓dAdd, ↓dNeg, ↓dEq, ↓dNe, ↓dLt, ↓dLe, ↓dGt, ↓dGe, ↓dIsN, ↓dNotN, ↓dTru, ↓dTest, ↓dChain, ↓dAnd, ↓dOr, ↓dNot, ↓dAndV, ↓dOrV, ↓dNotV, ↓dIf, ↓dNil, ↓dCons, ↓dTup, ↓dLst, ↓dLstM, ↓dCB, ↓dLen, ↓dAbs, ↓dMax2, ↓dMin2, ↓dAll, ↓dAny, ↓dListOf, ↓dListOfM, ↓dTupOf, ↓dNext, ↓dSeq, ↓dDrop, ↓dRet, ↓dRetN, ↓dIfS, ↓dBrk, ↓dCnt, ↓dSet, ↓dAsgT, ↓dPar2, ↓tbind, ↓tbinds, ↓Om.set, ↓dCall, ↓dIx, ↓dNo, ↓dPart, ↓dSl, ↓dSlr, ↓dBM, ↓dApp, ↓dExt, ↓dSetIx, ↓dIs, ↓dMinS, ↓dMaxS, ↓dJoin, ↓dFrz, ↓dPut, ↓dFld, ↓dSetF, ↓dInt, ↓dIsLT, ↓dRng1, ↓dRng2, ↓dEnum, ↓dZip, ↓dSeqI, view_c_non, view_c_bl, view_c_int, view_c_str, view_c_tup, view_c_lst, view_c_scr, view_c_dct, view_c_ins, ↓startW, ↓wp, ↓wps, ↓dInKD, ↓dNotInKD, ↓dIxKD, ↓dIn, ↓dNotIn, ↓dDg, List.getElem?_cons_zero, List.getElem?_cons_succ, List.set_cons_zero, List.set_cons_succ, List.map_cons, List.map_nil, List.length_cons, List.length_nil, List.replicate_succ, List.replicate_zero, List.nil_append, List.cons_append, Bool.not_true, Bool.not_false, if_true, wkey_int, wkey_str, atI_0, atI_1, atI_2, atI_3, up_same, if_false, Bool.false_eq_true, Bool.true_eq_false, tru_non, isLT_non, isi_int_non, isi_bool_non, isi_str_non, isi_tup_non, isi_lst_non, tru_bl, isLT_bl, isi_int_bl, isi_bool_bl, isi_str_bl, isi_tup_bl, isi_lst_bl, tru_int, isLT_int, isi_int_int, isi_bool_int, isi_str_int, isi_tup_int, isi_lst_int, tru_str, isLT_str, isi_int_str, isi_bool_str, isi_str_str, isi_tup_str, isi_lst_str, tru_tup, isLT_tup, isi_int_tup, isi_bool_tup, isi_str_tup, isi_tup_tup, isi_lst_tup, tru_lst, isLT_lst, isi_int_lst, isi_bool_lst, isi_str_lst, isi_tup_lst, isi_lst_lst, isL_lst, seqW_lst, seqW_tup, seqW_str, seqW_scr, sq2_lst, sq2_tup, inW_sign])
  refine ⟨c, 0, 3, rfl, hc.p, ?_⟩
  cases c3 : within 0 3 c with
  | false => rw [c3] at q; exact q
  | true =>
    rw [c3] at q
    (simp only [↓dFgt, ↓dVar, ↓dC, ↓dOp, ↓dUn, ↓dI, ↓dI0, ↓dSub, ↓dMul, ↓dDiv, ↓dMod, ↓dPow, ↓dAdd, ↓dNeg, ↓dEq, ↓dNe, ↓dLt, ↓dLe, ↓dGt, ↓dGe, ↓dIsN, ↓dNotN, ↓dTru, ↓dTest, ↓dChain, ↓dAnd, ↓dOr, ↓dNot, ↓dAndV, ↓dOrV, ↓dNotV, ↓dIf, ↓dNil, ↓dCons, ↓dTup, ↓dLst, ↓dLstM, ↓dCB, ↓dLen, ↓dAbs, ↓dMax2, ↓dMin2, ↓dAll, ↓dAny, ↓dListOf, ↓dListOfM, ↓dTupOf, ↓dNext, ↓dSeq, ↓dDrop, ↓dRet, ↓dRetN, ↓dIfS, ↓dBrk, ↓dCnt, ↓dSet, ↓dAsgT, ↓dPar2, ↓tbind, ↓tbinds, ↓Om.set, ↓dCall, ↓dIx, ↓dNo, ↓dPart, ↓dSl, ↓dSlr, ↓dBM, ↓dApp, ↓dExt, ↓dSetIx, ↓dIs, ↓dMinS, ↓dMaxS, ↓dJoin, ↓dFrz, ↓dPut, ↓dFld, ↓dSetF, ↓dInt, ↓dIsLT, ↓dRng1, ↓dRng2, ↓dEnum, ↓dZip, ↓dSeqI, view_c_non, view_c_bl, view_c_int, view_c_str, view_c_tup, view_c_lst, view_c_scr, view_c_dct, view_c_ins, ↓startW, ↓wp, ↓wps, ↓dInKD, ↓dNotInKD, ↓dIxKD, ↓dIn, ↓dNotIn, ↓dDg, List.getElem?_cons_zero, List.getElem?_cons_succ, List.set_cons_zero, List.set_cons_succ, List.map_cons, List.map_nil, List.length_cons, List.length_nil, List.replicate_succ, List.replicate_zero, List.nil_append, List.cons_append, Bool.not_true, Bool.not_false, if_true, wkey_int, wkey_str, atI_0, atI_1, atI_2, atI_3, up_same, if_false, Bool.false_eq_true, Bool.true_eq_false, tru_non, isLT_non, isi_int_non, isi_bool_non, isi_str_non, isi_tup_non, isi_lst_non, tru_bl, isLT_bl, isi_int_bl, isi_bool_bl, isi_str_bl, isi_tup_bl, isi_lst_bl, tru_int, isLT_int, isi_int_int, isi_bool_int, isi_str_int, isi_tup_int, isi_lst_int, tru_str, isLT_str, isi_int_str, isi_bool_str, isi_str_str, isi_tup_str, isi_lst_str, tru_tup, isLT_tup, isi_int_tup, isi_bool_tup, isi_str_tup, isi_tup_tup, isi_lst_tup, tru_lst, isLT_lst, isi_int_lst, isi_bool_lst, isi_str_lst, isi_tup_lst, isi_lst_lst, isL_lst, seqW_lst, seqW_tup, seqW_str, seqW_scr, sq2_lst, sq2_tup, inW_sign])
    exact ⟨d, L, rfl, hd, q⟩
section
variable {P : Program} {w : World} {K : PySem.W.Frag} {mg : Str → Option Value} {base : Heap} {c_Ground : Addr}
theorem ok_is_hand {f : Addr} {fd : FuncData} (F : Fun K "is_hand" "is_hand" s_is_hand f fd) (T : Txt K w mg c_Ground) (C_is_tuple_within : CalD P w K mg base 1 "is_tuple_within" sp_is_tuple_within) (C_is_whole_within : CalD P w K mg base 2 "is_whole_within" sp_is_whole_within) (C_are_skills : CalD P w K mg base 4 "are_skills" sp_are_skills) (C_is_name : CalD P w K mg base 1 "is_name" sp_is_name) (C_is_station_of : CalD P w K mg base 1 "is_station_of" (sp_is_station_of c_Ground)) : FnOk P w K mg base CX0 5 f fd ["ground", "thing"] (uSp K (sp_is_hand c_Ground)) :=
  Fun.okF F sc_is_hand (td_is_hand c_Ground) (fun cdv A outer s H E hr =>
    (dss_cons (ds_if (dt_not (dt_tru (de_call C_is_tuple_within hr (da_cons (dv 1) (da_cons de_int (da_cons de_int da_nil)))))) (dss_one (ds_ret de_bl)) dss_nil)
    (dss_cons (ds_asgT (dv 1) (dg_tp (dgs_cons (dg_nm (i := 2) sc_is_hand.nd) (dgs_cons (dg_nm (i := 3) sc_is_hand.nd) (dgs_cons (dg_nm (i := 4) sc_is_hand.nd) (dgs_cons (dg_nm (i := 5) sc_is_hand.nd) dgs_nil))))))
    (dss_cons (ds_if (PW.pt (dw_or (dt_not (dt_tru (de_call C_is_name hr (da_cons (dv 2) da_nil)))) (dw_or1 (dt_not (dt_tru (de_call C_is_station_of hr (da_cons (dv 0) (da_cons (dv 3) da_nil)))))))) (dss_one (ds_ret de_bl)) dss_nil)
    (dss_one (ds_ret (de_and (de_call C_is_whole_within hr (da_cons (dv 4) (da_cons de_int (da_cons (de_glob T.g_LAST_SHIFT) da_nil)))) (de_one (de_call C_are_skills hr (da_cons (dv 5) da_nil)))))))))) (fun ws S Q E h => len_is_hand h) (hd_is_hand c_Ground)
end
/-! ### have_unlike_names -/
abbrev s_have_unlike_names : Stmt := topS 41
abbrev N_have_unlike_names : List Str := ["rows", "row"]
theorem sc_have_unlike_names : FnScope N_have_unlike_names ["rows"] (defScope s_have_unlike_names) := ⟨rfl, rfl, rfl, by decide +kernel, rfl, by decide +kernel, by decide +kernel⟩
theorem st_have_unlike_names {x0 : W} : startW N_have_unlike_names [x0] = [some x0, none] := rfl
def td_have_unlike_names : DS' :=
    (dRet (dOp dEq (dLenSc (dSeqI (dVar 0)) (.nm 1) dYes (dOp dIx (dVar 1) (dC (.int 0))) [1]) (dCB dLen (dCons (dVar 0) dNil))))
def sp_have_unlike_names : DSp := fun ws S Q _ => ∃ xs, ws = [.tup xs] ∧ (∀ x ∈ xs, fstOk x = true) ∧ xs.length ≤ 900 ∧ Q (.bl (decide ((xs.map fstS).Nodup))) S
theorem len_have_unlike_names {ws S Q E} (h : sp_have_unlike_names ws S Q E) : ws.length = 1 := by obtain ⟨xs, rfl, _⟩ := h; rfl
theorem hd_have_unlike_names (ws S Q E) (h : sp_have_unlike_names ws S Q E) : td_have_unlike_names { nx := fun _ S' => frzQ Q .non S', rt := frzQ Q } ⟨startW N_have_unlike_names ws, XF⟩ S := by
  obtain ⟨xs, rfl, hx, hl, q⟩ := h
  replace q := frzQ.mk q
  simp only [st_have_unlike_names, td_have_unlike_names]
  refine ret_go (op_go ?_)
  refine lenSc_go (w := .tup xs) (xs := xs) (fun _ h => h) rfl hl fstS (fun w hw => ?_) ?_
  · obtain ⟨r, e⟩ := fstOk_inv (hx w hw)
    refine ⟨_, rfl, fun Qe h => ?_⟩
    generalize fstS w = n at e h
    subst e
    (simp only [↓dFgt, ↓dVar, ↓dC, ↓dOp, ↓dUn, ↓dI, ↓dI0, ↓dSub, ↓dMul, ↓dDiv, ↓dMod, ↓dPow, ↓dAdd, ↓dNeg, ↓dEq, ↓dNe, ↓dLt, ↓dLe, ↓dGt, ↓dGe, ↓dIsN, ↓dNotN, ↓dTru, ↓dTest, ↓dChain, ↓dAnd, ↓dOr, ↓dNot, ↓dAndV, ↓dOrV, ↓dNotV, ↓dIf, ↓dNil, ↓dCons, ↓dTup, ↓dLst, ↓dLstM, ↓dCB, ↓dLen, ↓dAbs, ↓dMax2, ↓dMin2, ↓dAll, ↓dAny, ↓dListOf, ↓dListOfM, ↓dTupOf, ↓dNext, ↓dSeq, ↓dDrop, ↓dRet, ↓dRetN, ↓dIfS, ↓dBrk, ↓dCnt, ↓dSet, ↓dAsgT, ↓dPar2, ↓tbind, ↓tbinds, ↓Om.set, ↓dCall, ↓dIx, ↓dNo, ↓dPart, ↓dSl, ↓dSlr, ↓dBM, ↓dApp, ↓dExt, ↓dSetIx, ↓dIs, ↓dMinS, ↓dMaxS, ↓dJoin, ↓dFrz, ↓dPut, ↓dFld, ↓dSetF, ↓dInt, ↓dIsLT, ↓dRng1, ↓dRng2, ↓dEnum, ↓dZip, ↓dSeqI, view_c_non, view_c_bl, view_c_int, view_c_str, view_c_tup, view_c_lst, view_c_scr, view_c_dct, view_c_ins, ↓startW, ↓wp, ↓wps, ↓dInKD, ↓dNotInKD, ↓dIxKD, ↓dIn, ↓dNotIn, ↓dDg, List.getElem?_cons_zero, List.getElem?_cons_succ, List.set_cons_zero, List.set_cons_succ, List.map_cons, List.map_nil, List.length_cons, List.length_nil, List.replicate_succ, List.replicate_zero, List.nil_append, List.cons_append, Bool.not_true, Bool.not_false, if_true, wkey_int, wkey_str, atI_0, atI_1, atI_2, atI_3, up_same, if_false, Bool.false_eq_true, Bool.true_eq_false, tru_non, isLT_non, isi_int_non, isi_bool_non, isi_str_non, isi_tup_non, isi_lst_non, tru_bl, isLT_bl, isi_int_bl, isi_bool_bl, isi_str_bl, isi_tup_bl, isi_lst_bl, tru_int, isLT_int, isi_int_int, isi_bool_int, isi_str_int, isi_tup_int, isi_lst_int, tru_str, isLT_str, isi_int_str, isi_bool_str, isi_str_str, isi_tup_str, isi_lst_str, tru_tup, isLT_tup, isi_int_tup, isi_bool_tup, isi_str_tup, isi_tup_tup, isi_lst_tup, tru_lst, isLT_lst, isi_int_lst, isi_bool_lst, isi_str_lst, isi_tup_lst, isi_lst_lst, isL_lst, seqW_lst, seqW_tup, seqW_str, seqW_scr, sq2_lst, sq2_tup, inW_sign])
    exact h
  (simp only [↓dFgt, ↓dVar, ↓dC, ↓dOp, ↓dUn, ↓dI, ↓dI0, ↓dSub, ↓dMul, ↓dDiv, ↓dMod, ↓dPow, ↓dAdd, ↓dNeg, ↓dEq, ↓dNe, ↓dLt, ↓dLe, ↓dGt, ↓dGe, ↓dIsN, ↓dNotN, ↓dTru, ↓dTest, ↓dChain, ↓dAnd, ↓dOr, ↓dNot, ↓dAndV, ↓dOrV, ↓dNotV, ↓dIf, ↓dNil, ↓dCons, ↓dTup, ↓dLst, ↓dLstM, ↓dCB, ↓dLen, ↓dAbs, ↓dMax2, ↓dMin2, ↓dAll, ↓dAny, ↓dListOf, ↓dListOfM, ↓dTupOf, ↓dNext, ↓dSeq, ↓dDrop, ↓dRet, ↓dRetN, ↓dIfS, ↓dBrk, ↓dCnt, ↓dSet, ↓dAsgT, ↓dPar2, ↓tbind, ↓tbinds, ↓Om.set, ↓dCall, ↓dIx, ↓dNo, ↓dPart, ↓dSl, ↓dSlr, ↓dBM, ↓dApp, ↓dExt, ↓dSetIx, ↓dIs, ↓dMinS, ↓dMaxS, ↓dJoin, ↓dFrz, ↓dPut, ↓dFld, ↓dSetF, ↓dInt, ↓dIsLT, ↓dRng1, ↓dRng2, ↓dEnum, ↓dZip, ↓dSeqI, view_c_non, view_c_bl, view_c_int, view_c_str, view_c_tup, view_c_lst, view_c_scr, view_c_dct, view_c_ins, ↓startW, ↓wp, ↓wps, ↓dInKD, ↓dNotInKD, ↓dIxKD, ↓dIn, ↓dNotIn, ↓dDg, List.getElem?_cons_zero, List.getElem?_cons_succ, List.set_cons_zero, List.set_cons_succ, List.map_cons, List.map_nil, List.length_cons, List.length_nil, List.replicate_succ, List.replicate_zero, List.nil_append, List.cons_append, Bool.not_true, Bool.not_false, if_true, wkey_int, wkey_str, atI_0, atI_1, atI_2, atI_3, up_same, if_false, Bool.false_eq_true, Bool.true_eq_false, tru_non, isLT_non, isi_int_non, isi_bool_non, isi_str_non, isi_tup_non, isi_lst_non, tru_bl, isLT_bl, isi_int_bl, isi_bool_bl, isi_str_bl, isi_tup_bl, isi_lst_bl, tru_int, isLT_int, isi_int_int, isi_bool_int, isi_str_int, isi_tup_int, isi_lst_int, tru_str, isLT_str, isi_int_str, isi_bool_str, isi_str_str, isi_tup_str, isi_lst_str, tru_tup, isLT_tup, isi_int_tup, isi_bool_tup, isi_str_tup, isi_tup_tup, isi_lst_tup, tru_lst, isLT_lst, isi_int_lst, isi_bool_lst, isi_str_lst, isi_tup_lst, isi_lst_lst, isL_lst, seqW_lst, seqW_tup, seqW_str, seqW_scr, sq2_lst, sq2_tup, inW_sign])
  refine ⟨rfl, rfl, ?_⟩
  rw [weq_int]
  have e : decide (((dkeys (xs.map fstS)).length : Int) = (xs.length : Int)) = decide ((xs.map fstS).Nodup) := decide_eq_decide.mpr (by
    rw [← (dkeys_spec (xs.map fstS)).2.2, List.length_map]
    omega)
  rw [e]
  exact q
section
variable {P : Program} {w : World} {K : PySem.W.Frag} {mg : Str → Option Value} {base : Heap} {c_Ground : Addr}
theorem ok_have_unlike_names {f : Addr} {fd : FuncData} (F : Fun K "have_unlike_names" "have_unlike_names" s_have_unlike_names f fd) (T : Txt K w mg c_Ground) : FnOk P w K mg base CX0 1 f fd ["rows"] (uSp K (sp_have_unlike_names)) :=
  Fun.okF F sc_have_unlike_names (td_have_unlike_names) (fun cdv A outer s H E hr =>
    (dss_one (ds_ret (de_cmp (oc_eq hr) (de_lenSc (own := [("row", 1)]) sc_have_unlike_names.nd (di_seq (dv 0)) (blkOk_by (own := [("row", 1)]) (N := N_have_unlike_names) (sc := defScope s_have_unlike_names) (by decide +kernel)) (fun _ _ _ _ _ => (dg_nm (i := 1) sc_have_unlike_names.nd)) (fun _ _ _ _ _ => dts_nil) (fun _ _ _ _ _ => (de_ix (dv 1) de_int)) T.z_len) (de_callB cd_len T.z_len (da_cons (dv 0) da_nil)))))) (fun ws S Q E h => len_have_unlike_names h) (hd_have_unlike_names)
end
/-! ### are_hands -/
abbrev s_are_hands : Stmt := topS 37
abbrev N_are_hands : List Str := ["ground", "thing", "hand"]
theorem sc_are_hands : FnScope N_are_hands ["ground", "thing"] (defScope s_are_hands) := ⟨rfl, rfl, rfl, by decide +kernel, rfl, by decide +kernel, by decide +kernel⟩
theorem st_are_hands {x0 x1 : W} : startW N_are_hands [x0, x1] = [some x0, some x1, none] := rfl
def td_are_hands (c_Ground : Addr) : DS' :=
    (dSeq (dIfS (dNot (dTru (dCall sp_is_tuple_within (dCons (dVar 1) (dCons (dC (.int 0)) (dCons (dC w_MOST_HANDS) dNil)))))) (dRet (dC (.bl false))) dNext)
    (dRet (dAndV (dCB dAll (dCons (dLc (dSeqI (dVar 1)) (.nm 2) dYes (dCall (sp_is_hand c_Ground) (dCons (dVar 0) (dCons (dVar 2) dNil))) [2]) dNil)) (dCall sp_have_unlike_names (dCons (dVar 1) dNil)))))
def sp_are_hands (c_Ground : Addr) : DSp := fun ws S Q _ => ∃ ps rs ss x L, ws = [gW c_Ground ps rs ss, x] ∧ Tk L 11 x ∧ Q (.bl (handsB ss x)) S
theorem len_are_hands {c ws S Q E} (h : sp_are_hands c ws S Q E) : ws.length = 2 := by obtain ⟨ps, rs, ss, x, L, rfl, _⟩ := h; rfl
theorem hd_are_hands (c_Ground) (ws S Q E) (h : sp_are_hands c_Ground ws S Q E) : td_are_hands c_Ground { nx := fun _ S' => frzQ Q .non S', rt := frzQ Q } ⟨startW N_are_hands ws, XF⟩ S := by
  obtain ⟨ps, rs, ss, x, L, rfl, hx, q⟩ := h
  replace q := frzQ.mk q
  simp only [st_are_hands, td_are_hands]
  refine seq_go ?_
  have tt : ∀ (Q : Bool → Sto → Prop), Q (tupIn 0 60 x) S → dTru (dCall sp_is_tuple_within (dCons (dVar 1) (dCons (dC (.int 0)) (dCons (dC w_MOST_HANDS) dNil)))) ⟨[some (gW c_Ground ps rs ss), some x, none], XF⟩ S Q := fun Q h => by
    (simp only [↓dFgt, ↓dVar, ↓dC, ↓dOp, ↓dUn, ↓dI, ↓dI0, ↓dSub, ↓dMul, ↓dDiv, ↓dMod, ↓dPow, ↓dAdd, ↓dNeg, ↓dEq, ↓dNe, ↓dLt, ↓dLe, ↓dGt, ↓dGe, ↓dIsN, ↓dNotN, ↓dTru, ↓dTest, ↓dChain, ↓dAnd, ↓dOr, ↓dNot, ↓dAndV, ↓dOrV, ↓dNotV, ↓dIf, ↓dNil, ↓dCons, ↓dTup, ↓dLst, ↓dLstM, ↓dCB, ↓dLen, ↓dAbs, ↓dMax2, ↓dMin2, ↓dAll, ↓dAny, ↓dListOf, ↓dListOfM, ↓dTupOf, ↓dNext, ↓dSeq, ↓dDrop, ↓dRet, ↓dRetN, ↓dIfS, ↓dBrk, ↓dCnt, ↓dSet, ↓dAsgT, ↓dPar2, ↓tbind, ↓tbinds, ↓Om.set, ↓dCall, ↓dIx, ↓dNo, ↓dPart, ↓dSl, ↓dSlr, ↓dBM, ↓dApp, ↓dExt, ↓dSetIx, ↓dIs, ↓dMinS, ↓dMaxS, ↓dJoin, ↓dFrz, ↓dPut, ↓dFld, ↓dSetF, ↓dInt, ↓dIsLT, ↓dRng1, ↓dRng2, ↓dEnum, ↓dZip, ↓dSeqI, view_c_non, view_c_bl, view_c_int, view_c_str, view_c_tup, view_c_lst, view_c_scr, view_c_dct, view_c_ins, ↓startW, ↓wp, ↓wps, ↓dInKD, ↓dNotInKD, ↓dIxKD, ↓dIn, ↓dNotIn, ↓dDg, List.getElem?_cons_zero, List.getElem?_cons_succ, List.set_cons_zero, List.set_cons_succ, List.map_cons, List.map_nil, List.length_cons, List.length_nil, List.replicate_succ, List.replicate_zero, List.nil_append, List.cons_append, Bool.not_true, Bool.not_false, if_true, wkey_int, wkey_str, atI_0, atI_1, atI_2, atI_3, up_same, if_false, Bool.false_eq_true, Bool.true_eq_false, tru_non, isLT_non, isi_int_non, isi_bool_non, isi_str_non, isi_tup_non, isi_lst_non, tru_bl, isLT_bl, isi_int_bl, isi_bool_bl, isi_str_bl, isi_tup_bl, isi_lst_bl, tru_int, isLT_int, isi_int_int, isi_bool_int, isi_str_int, isi_tup_int, isi_lst_int, tru_str, isLT_str, isi_int_str, isi_bool_str, isi_str_str, isi_tup_str, isi_lst_str, tru_tup, isLT_tup, isi_int_tup, isi_bool_tup, isi_str_tup, isi_tup_tup, isi_lst_tup, tru_lst, isLT_lst, isi_int_lst, isi_bool_lst, isi_str_lst, isi_tup_lst, isi_lst_lst, isL_lst, seqW_lst, seqW_tup, seqW_str, seqW_scr, sq2_lst, sq2_tup, inW_sign])
    exact ⟨x, 0, 60, rfl, hx.p, h⟩
  cases c : tupIn 0 60 x with
  | false =>
    refine if_t (S1 := S) (fun Q h => tt _ (by rw [c]; exact h)) ?_
    refine ret_go ?_
    have e : handsB ss x = false := by
      cases x <;> first | rfl | skip
      rename_i ys
      simp only [tupIn, handsB] at c ⊢
      have : ¬ ys.length ≤ 60 := fun h => by
        have : (decide ((0 : Int) ≤ (ys.length : Int)) && decide ((ys.length : Int) ≤ 60)) = true := by
          rw [decide_eq_true (by omega), decide_eq_true (by omega)]; rfl
        rw [this] at c; cases c
      rw [decide_eq_false this]; rfl
    rw [e] at q
    exact q
  | true =>
    refine if_f (S1 := S) (fun Q h => tt _ (by rw [c]; exact h)) ?_
    obtain ⟨ys, rfl, hl⟩ : ∃ ys, x = .tup ys ∧ ys.length ≤ 60 := by
      cases x <;> first | cases c | skip
      rename_i ys
      simp only [tupIn, Bool.and_eq_true, decide_eq_true_eq] at c
      exact ⟨ys, rfl, by omega⟩
    (((try unfold dNext); dsimp only))
    refine ret_go ?_
    (simp only [↓dFgt, ↓dVar, ↓dC, ↓dOp, ↓dUn, ↓dI, ↓dI0, ↓dSub, ↓dMul, ↓dDiv, ↓dMod, ↓dPow, ↓dAdd, ↓dNeg, ↓dEq, ↓dNe, ↓dLt, ↓dLe, ↓dGt, ↓dGe, ↓dIsN, ↓dNotN, ↓dTru, ↓dTest, ↓dChain, ↓dAnd, ↓dOr, ↓dNot, ↓dAndV, ↓dOrV, ↓dNotV, ↓dIf, ↓dNil, ↓dCons, ↓dTup, ↓dLst, ↓dLstM, ↓dCB, ↓dLen, ↓dAbs, ↓dMax2, ↓dMin2, ↓dAll, ↓dAny, ↓dListOf, ↓dListOfM, ↓dTupOf, ↓dNext, ↓dSeq, ↓dDrop, ↓dRet, ↓dRetN, ↓dIfS, ↓dBrk, ↓dCnt, ↓dSet, ↓dAsgT, ↓dPar2, ↓tbind, ↓tbinds, ↓Om.set, ↓dCall, ↓dIx, ↓dNo, ↓dPart, ↓dSl, ↓dSlr, ↓dBM, ↓dApp, ↓dExt, ↓dSetIx, ↓dIs, ↓dMinS, ↓dMaxS, ↓dJoin, ↓dFrz, ↓dPut, ↓dFld, ↓dSetF, ↓dInt, ↓dIsLT, ↓dRng1, ↓dRng2, ↓dEnum, ↓dZip, ↓dSeqI, view_c_non, view_c_bl, view_c_int, view_c_str, view_c_tup, view_c_lst, view_c_scr, view_c_dct, view_c_ins, ↓startW, ↓wp, ↓wps, ↓dInKD, ↓dNotInKD, ↓dIxKD, ↓dIn, ↓dNotIn, ↓dDg, List.getElem?_cons_zero, List.getElem?_cons_succ, List.set_cons_zero, List.set_cons_succ, List.map_cons, List.map_nil, List.length_cons, List.length_nil, List.replicate_succ, List.replicate_zero, List.nil_append, List.cons_append, Bool.not_true, Bool.not_false, if_true, wkey_int, wkey_str, atI_0, atI_1, atI_2, atI_3, up_same, if_false, Bool.false_eq_true, Bool.true_eq_false, tru_non, isLT_non, isi_int_non, isi_bool_non, isi_str_non, isi_tup_non, isi_lst_non, tru_bl, isLT_bl, isi_int_bl, isi_bool_bl, isi_str_bl, isi_tup_bl, isi_lst_bl, tru_int, isLT_int, isi_int_int, isi_bool_int, isi_str_int, isi_tup_int, isi_lst_int, tru_str, isLT_str, isi_int_str, isi_bool_str, isi_str_str, isi_tup_str, isi_lst_str, tru_tup, isLT_tup, isi_int_tup, isi_bool_tup, isi_str_tup, isi_tup_tup, isi_lst_tup, tru_lst, isLT_lst, isi_int_lst, isi_bool_lst, isi_str_lst, isi_tup_lst, isi_lst_lst, isL_lst, seqW_lst, seqW_tup, seqW_str, seqW_scr, sq2_lst, sq2_tup, inW_sign])
    refine lcMs (w := .tup ys) (xs := ys) (fun _ h => h) rfl (fun w => .bl (handB ss w)) (by omega) (fun _ _ _ => rfl) (fun w hw => ⟨_, rfl, fun p acc hp Qe h => ?_⟩) ?_
    · (simp only [↓dFgt, ↓dVar, ↓dC, ↓dOp, ↓dUn, ↓dI, ↓dI0, ↓dSub, ↓dMul, ↓dDiv, ↓dMod, ↓dPow, ↓dAdd, ↓dNeg, ↓dEq, ↓dNe, ↓dLt, ↓dLe, ↓dGt, ↓dGe, ↓dIsN, ↓dNotN, ↓dTru, ↓dTest, ↓dChain, ↓dAnd, ↓dOr, ↓dNot, ↓dAndV, ↓dOrV, ↓dNotV, ↓dIf, ↓dNil, ↓dCons, ↓dTup, ↓dLst, ↓dLstM, ↓dCB, ↓dLen, ↓dAbs, ↓dMax2, ↓dMin2, ↓dAll, ↓dAny, ↓dListOf, ↓dListOfM, ↓dTupOf, ↓dNext, ↓dSeq, ↓dDrop, ↓dRet, ↓dRetN, ↓dIfS, ↓dBrk, ↓dCnt, ↓dSet, ↓dAsgT, ↓dPar2, ↓tbind, ↓tbinds, ↓Om.set, ↓dCall, ↓dIx, ↓dNo, ↓dPart, ↓dSl, ↓dSlr, ↓dBM, ↓dApp, ↓dExt, ↓dSetIx, ↓dIs, ↓dMinS, ↓dMaxS, ↓dJoin, ↓dFrz, ↓dPut, ↓dFld, ↓dSetF, ↓dInt, ↓dIsLT, ↓dRng1, ↓dRng2, ↓dEnum, ↓dZip, ↓dSeqI, view_c_non, view_c_bl, view_c_int, view_c_str, view_c_tup, view_c_lst, view_c_scr, view_c_dct, view_c_ins, ↓startW, ↓wp, ↓wps, ↓dInKD, ↓dNotInKD, ↓dIxKD, ↓dIn, ↓dNotIn, ↓dDg, List.getElem?_cons_zero, List.getElem?_cons_succ, List.set_cons_zero, List.set_cons_succ, List.map_cons, List.map_nil, List.length_cons, List.length_nil, List.replicate_succ, List.replicate_zero, List.nil_append, List.cons_append, Bool.not_true, Bool.not_false, if_true, wkey_int, wkey_str, atI_0, atI_1, atI_2, atI_3, up_same, if_false, Bool.false_eq_true, Bool.true_eq_false, tru_non, isLT_non, isi_int_non, isi_bool_non, isi_str_non, isi_tup_non, isi_lst_non, tru_bl, isLT_bl, isi_int_bl, isi_bool_bl, isi_str_bl, isi_tup_bl, isi_lst_bl, tru_int, isLT_int, isi_int_int, isi_bool_int, isi_str_int, isi_tup_int, isi_lst_int, tru_str, isLT_str, isi_int_str, isi_bool_str, isi_str_str, isi_tup_str, isi_lst_str, tru_tup, isLT_tup, isi_int_tup, isi_bool_tup, isi_str_tup, isi_tup_tup, isi_lst_tup, tru_lst, isLT_lst, isi_int_lst, isi_bool_lst, isi_str_lst, isi_tup_lst, isi_lst_lst, isL_lst, seqW_lst, seqW_tup, seqW_str, seqW_scr, sq2_lst, sq2_tup, inW_sign])
      exact ⟨ps, rs, ss, w, L, rfl, hx.2 w hw, h⟩
    (simp only [↓dFgt, ↓dVar, ↓dC, ↓dOp, ↓dUn, ↓dI, ↓dI0, ↓dSub, ↓dMul, ↓dDiv, ↓dMod, ↓dPow, ↓dAdd, ↓dNeg, ↓dEq, ↓dNe, ↓dLt, ↓dLe, ↓dGt, ↓dGe, ↓dIsN, ↓dNotN, ↓dTru, ↓dTest, ↓dChain, ↓dAnd, ↓dOr, ↓dNot, ↓dAndV, ↓dOrV, ↓dNotV, ↓dIf, ↓dNil, ↓dCons, ↓dTup, ↓dLst, ↓dLstM, ↓dCB, ↓dLen, ↓dAbs, ↓dMax2, ↓dMin2, ↓dAll, ↓dAny, ↓dListOf, ↓dListOfM, ↓dTupOf, ↓dNext, ↓dSeq, ↓dDrop, ↓dRet, ↓dRetN, ↓dIfS, ↓dBrk, ↓dCnt, ↓dSet, ↓dAsgT, ↓dPar2, ↓tbind, ↓tbinds, ↓Om.set, ↓dCall, ↓dIx, ↓dNo, ↓dPart, ↓dSl, ↓dSlr, ↓dBM, ↓dApp, ↓dExt, ↓dSetIx, ↓dIs, ↓dMinS, ↓dMaxS, ↓dJoin, ↓dFrz, ↓dPut, ↓dFld, ↓dSetF, ↓dInt, ↓dIsLT, ↓dRng1, ↓dRng2, ↓dEnum, ↓dZip, ↓dSeqI, view_c_non, view_c_bl, view_c_int, view_c_str, view_c_tup, view_c_lst, view_c_scr, view_c_dct, view_c_ins, ↓startW, ↓wp, ↓wps, ↓dInKD, ↓dNotInKD, ↓dIxKD, ↓dIn, ↓dNotIn, ↓dDg, List.getElem?_cons_zero, List.getElem?_cons_succ, List.set_cons_zero, List.set_cons_succ, List.map_cons, List.map_nil, List.length_cons, List.length_nil, List.replicate_succ, List.replicate_zero, List.nil_append, List.cons_append, Bool.not_true, Bool.not_false, if_true, wkey_int, wkey_str, atI_0, atI_1, atI_2, atI_3, up_same, if_false, Bool.false_eq_true, Bool.true_eq_false, tru_non, isLT_non, isi_int_non, isi_bool_non, isi_str_non, isi_tup_non, isi_lst_non, tru_bl, isLT_bl, isi_int_bl, isi_bool_bl, isi_str_bl, isi_tup_bl, isi_lst_bl, tru_int, isLT_int, isi_int_int, isi_bool_int, isi_str_int, isi_tup_int, isi_lst_int, tru_str, isLT_str, isi_int_str, isi_bool_str, isi_str_str, isi_tup_str, isi_lst_str, tru_tup, isLT_tup, isi_int_tup, isi_bool_tup, isi_str_tup, isi_tup_tup, isi_lst_tup, tru_lst, isLT_lst, isi_int_lst, isi_bool_lst, isi_str_lst, isi_tup_lst, isi_lst_lst, isL_lst, seqW_lst, seqW_tup, seqW_str, seqW_scr, sq2_lst, sq2_tup, inW_sign])
    rw [all_bls]
    (simp only [↓dFgt, ↓dVar, ↓dC, ↓dOp, ↓dUn, ↓dI, ↓dI0, ↓dSub, ↓dMul, ↓dDiv, ↓dMod, ↓dPow, ↓dAdd, ↓dNeg, ↓dEq, ↓dNe, ↓dLt, ↓dLe, ↓dGt, ↓dGe, ↓dIsN, ↓dNotN, ↓dTru, ↓dTest, ↓dChain, ↓dAnd, ↓dOr, ↓dNot, ↓dAndV, ↓dOrV, ↓dNotV, ↓dIf, ↓dNil, ↓dCons, ↓dTup, ↓dLst, ↓dLstM, ↓dCB, ↓dLen, ↓dAbs, ↓dMax2, ↓dMin2, ↓dAll, ↓dAny, ↓dListOf, ↓dListOfM, ↓dTupOf, ↓dNext, ↓dSeq, ↓dDrop, ↓dRet, ↓dRetN, ↓dIfS, ↓dBrk, ↓dCnt, ↓dSet, ↓dAsgT, ↓dPar2, ↓tbind, ↓tbinds, ↓Om.set, ↓dCall, ↓dIx, ↓dNo, ↓dPart, ↓dSl, ↓dSlr, ↓dBM, ↓dApp, ↓dExt, ↓dSetIx, ↓dIs, ↓dMinS, ↓dMaxS, ↓dJoin, ↓dFrz, ↓dPut, ↓dFld, ↓dSetF, ↓dInt, ↓dIsLT, ↓dRng1, ↓dRng2, ↓dEnum, ↓dZip, ↓dSeqI, view_c_non, view_c_bl, view_c_int, view_c_str, view_c_tup, view_c_lst, view_c_scr, view_c_dct, view_c_ins, ↓startW, ↓wp, ↓wps, ↓dInKD, ↓dNotInKD, ↓dIxKD, ↓dIn, ↓dNotIn, ↓dDg, List.getElem?_cons_zero, List.getElem?_cons_succ, List.set_cons_zero, List.set_cons_succ, List.map_cons, List.map_nil, List.length_cons, List.length_nil, List.replicate_succ, List.replicate_zero, List.nil_append, List.cons_append, Bool.not_true, Bool.not_false, if_true, wkey_int, wkey_str, atI_0, atI_1, atI_2, atI_3, up_same, if_false, Bool.false_eq_true, Bool.true_eq_false, tru_non, isLT_non, isi_int_non, isi_bool_non, isi_str_non, isi_tup_non, isi_lst_non, tru_bl, isLT_bl, isi_int_bl, isi_bool_bl, isi_str_bl, isi_tup_bl, isi_lst_bl, tru_int, isLT_int, isi_int_int, isi_bool_int, isi_str_int, isi_tup_int, isi_lst_int, tru_str, isLT_str, isi_int_str, isi_bool_str, isi_str_str, isi_tup_str, isi_lst_str, tru_tup, isLT_tup, isi_int_tup, isi_bool_tup, isi_str_tup, isi_tup_tup, isi_lst_tup, tru_lst, isLT_lst, isi_int_lst, isi_bool_lst, isi_str_lst, isi_tup_lst, isi_lst_lst, isL_lst, seqW_lst, seqW_tup, seqW_str, seqW_scr, sq2_lst, sq2_tup, inW_sign])
    simp only [handsB, decide_eq_true hl, Bool.true_and] at q
    have e : (ys.map (handB ss)).all id = ys.all (handB ss) := by rw [List.all_map]; rfl
    rw [e]
    cases c2 : ys.all (handB ss) with
    | false => rw [c2] at q; exact q
    | true =>
      rw [c2] at q
      (simp only [↓dFgt, ↓dVar, ↓dC, ↓dOp, ↓dUn, ↓dI, ↓dI0, ↓dSub, ↓dMul, ↓dDiv, ↓dMod, ↓dPow, ↓dAdd, ↓dNeg, ↓dEq, ↓dNe, ↓dLt, ↓dLe, ↓dGt, ↓dGe, ↓dIsN, ↓dNotN, ↓dTru, ↓dTest, ↓dChain, ↓dAnd, ↓dOr, ↓dNot, ↓dAndV, ↓dOrV, ↓dNotV, ↓dIf, ↓dNil, ↓dCons, ↓dTup, ↓dLst, ↓dLstM, ↓dCB, ↓dLen, ↓dAbs, ↓dMax2, ↓dMin2, ↓dAll, ↓dAny, ↓dListOf, ↓dListOfM, ↓dTupOf, ↓dNext, ↓dSeq, ↓dDrop, ↓dRet, ↓dRetN, ↓dIfS, ↓dBrk, ↓dCnt, ↓dSet, ↓dAsgT, ↓dPar2, ↓tbind, ↓tbinds, ↓Om.set, ↓dCall, ↓dIx, ↓dNo, ↓dPart, ↓dSl, ↓dSlr, ↓dBM, ↓dApp, ↓dExt, ↓dSetIx, ↓dIs, ↓dMinS, ↓dMaxS, ↓dJoin, ↓dFrz, ↓dPut, ↓dFld, ↓dSetF, ↓dInt, ↓dIsLT, ↓dRng1, ↓dRng2, ↓dEnum, ↓dZip, ↓dSeqI, view_c_non, view_c_bl, view_c_int, view_c_str, view_c_tup, view_c_lst, view_c_scr, view_c_dct, view_c_ins, ↓startW, ↓wp, ↓wps, ↓dInKD, ↓dNotInKD, ↓dIxKD, ↓dIn, ↓dNotIn, ↓dDg, List.getElem?_cons_zero, List.getElem?_cons_succ, List.set_cons_zero, List.set_cons_succ, List.map_cons, List.map_nil, List.length_cons, List.length_nil, List.replicate_succ, List.replicate_zero, List.nil_append, List.cons_append, Bool.not_true, Bool.not_false, if_true, wkey_int, wkey_str, atI_0, atI_1, atI_2, atI_3, up_same, if_false, Bool.false_eq_true, Bool.true_eq_false, tru_non, isLT_non, isi_int_non, isi_bool_non, isi_str_non, isi_tup_non, isi_lst_non, tru_bl, isLT_bl, isi_int_bl, isi_bool_bl, isi_str_bl, isi_tup_bl, isi_lst_bl, tru_int, isLT_int, isi_int_int, isi_bool_int, isi_str_int, isi_tup_int, isi_lst_int, tru_str, isLT_str, isi_int_str, isi_bool_str, isi_str_str, isi_tup_str, isi_lst_str, tru_tup, isLT_tup, isi_int_tup, isi_bool_tup, isi_str_tup, isi_tup_tup, isi_lst_tup, tru_lst, isLT_lst, isi_int_lst, isi_bool_lst, isi_str_lst, isi_tup_lst, isi_lst_lst, isL_lst, seqW_lst, seqW_tup, seqW_str, seqW_scr, sq2_lst, sq2_tup, inW_sign])
      exact ⟨ys, rfl, fun x hx => handB_fst (List.all_eq_true.mp c2 x hx), by omega, q⟩
section
variable {P : Program} {w : World} {K : PySem.W.Frag} {mg : Str → Option Value} {base : Heap} {c_Ground : Addr}
theorem ok_are_hands {f : Addr} {fd : FuncData} (F : Fun K "are_hands" "are_hands" s_are_hands f fd) (T : Txt K w mg c_Ground) (C_is_tuple_within : CalD P w K mg base 1 "is_tuple_within" sp_is_tuple_within) (C_have_unlike_names : CalD P w K mg base 1 "have_unlike_names" sp_have_unlike_names) (C_is_hand : CalD P w K mg base 5 "is_hand" (sp_is_hand c_Ground)) : FnOk P w K mg base CX0 6 f fd ["ground", "thing"] (uSp K (sp_are_hands c_Ground)) :=
  Fun.okF F sc_are_hands (td_are_hands c_Ground) (fun cdv A outer s H E hr =>
    (dss_cons (ds_if (dt_not (dt_tru (de_call C_is_tuple_within hr (da_cons (dv 1) (da_cons de_int (da_cons (de_glob T.g_MOST_HANDS) da_nil)))))) (dss_one (ds_ret de_bl)) dss_nil)
    (dss_one (ds_ret (de_and (de_callB cd_all T.z_all (da_cons (de_lc (own := [("hand", 2)]) sc_are_hands.nd (di_seq (dv 1)) (blkOk_by (own := [("hand", 2)]) (N := N_are_hands) (sc := defScope s_are_hands) (by decide +kernel)) (fun _ _ _ _ _ => (dg_nm (i := 2) sc_are_hands.nd)) (fun _ _ _ _ _ => dts_nil) (fun _ _ _ _ _ => (de_call C_is_hand hr (da_cons (dv 0) (da_cons (dv 2) da_nil))))) da_nil)) (de_one (de_call C_have_unlike_names hr (da_cons (dv 1) da_nil)))))))) (fun ws S Q E h => len_are_hands h) (hd_are_hands c_Ground)
end
end DL

set_option Elab.async false
set_option linter.all false
set_option maxRecDepth 100000
set_option maxHeartbeats 4000000
namespace DL
open PySem PySem.Spec PyProof.Rows L2
/-! ### _law_take -/
abbrev s_law_take : Stmt := topS 44
abbrev N_law_take : List Str := ["_law_bag_here", "_law_many_here", "_law_digit"]
theorem sc_law_take : FnScope N_law_take ["_law_bag_here", "_law_many_here"] (defScope s_law_take) := ⟨rfl, rfl, rfl, by decide +kernel, rfl, by decide +kernel, by decide +kernel⟩
theorem st_law_take {x0 x1 : W} : startW N_law_take [x0, x1] = [some x0, some x1, none] := rfl
def td_law_take : DS' :=
    (dSeq (dIfS (dTest (dOp dGt (dOp dIx (dVar 0) (dC (.int 0))) (dC (.int 0)))) (dSeq (dSet 2 (dOp dMod (dOp dIx (dVar 0) (dC (.int 0))) (dVar 1)))
      (dSeq (dSetIx (dVar 0) (dC (.int 0)) (dOp dDiv (dOp dIx (dVar 0) (dC (.int 0))) (dVar 1)))
      (dRet (dVar 2)))) dNext)
    (dSeq (dSetIx (dVar 0) (dC (.int 1)) (dOp dMod (dOp dAdd (dOp dMul (dOp dIx (dVar 0) (dC (.int 1))) (dC (.int 48271))) (dC (.int 11))) (dC (.int 2147483647))))
    (dRet (dOp dMod (dOp dMod (dOp dPow (dOp dDiv (dOp dIx (dVar 0) (dC (.int 1))) (dC (.int 8))) (dC (.int 3))) (dC (.int 2147483629))) (dVar 1)))))
def sp_law_take : DSp := fun ws S Q _ => ∃ (b : Addr) (m : Int), ws = [.ref b, .int m] ∧ Bg S b ∧ 0 < m ∧ m < 1000000 ∧ ∀ r, 0 ≤ r → r < m → aft S b fun S' => Q (.int r) S'
theorem len_law_take {ws S Q E} (h : sp_law_take ws S Q E) : ws.length = 2 := by obtain ⟨b, m, rfl, _⟩ := h; rfl
theorem hd_law_take (ws S Q E) (h : sp_law_take ws S Q E) : td_law_take { nx := fun _ S' => frzQ Q .non S', rt := frzQ Q } ⟨startW N_law_take ws, XF⟩ S := by
  obtain ⟨b, m, rfl, ⟨g, s, hb, ok⟩, m0, m1, q⟩ := h
  simp only [st_law_take, td_law_take]
  (simp only [↓dFgt, ↓dVar, ↓dC, ↓dOp, ↓dUn, ↓dI, ↓dI0, ↓dSub, ↓dMul, ↓dDiv, ↓dMod, ↓dPow, ↓dAdd, ↓dNeg, ↓dEq, ↓dNe, ↓dLt, ↓dLe, ↓dGt, ↓dGe, ↓dIsN, ↓dNotN, ↓dTru, ↓dTest, ↓dChain, ↓dAnd, ↓dOr, ↓dNot, ↓dAndV, ↓dOrV, ↓dNotV, ↓dIf, ↓dNil, ↓dCons, ↓dTup, ↓dLst, ↓dLstM, ↓dCB, ↓dLen, ↓dAbs, ↓dMax2, ↓dMin2, ↓dAll, ↓dAny, ↓dListOf, ↓dListOfM, ↓dTupOf, ↓dNext, ↓dSeq, ↓dDrop, ↓dRet, ↓dRetN, ↓dIfS, ↓dBrk, ↓dCnt, ↓dSet, ↓dAsgT, ↓dPar2, ↓tbind, ↓tbinds, ↓Om.set, ↓dCall, ↓dIx, ↓dNo, ↓dPart, ↓dSl, ↓dSlr, ↓dBM, ↓dApp, ↓dExt, ↓dSetIx, ↓dIs, ↓dMinS, ↓dMaxS, ↓dJoin, ↓dFrz, ↓dPut, ↓dFld, ↓dSetF, ↓dInt, ↓dIsLT, ↓dRng1, ↓dRng2, ↓dEnum, ↓dZip, ↓dSeqI, view_c_non, view_c_bl, view_c_int, view_c_str, view_c_tup, view_c_lst, view_c_scr, view_c_dct, view_c_ins, ↓startW, ↓wp, ↓wps, ↓dInKD, ↓dNotInKD, ↓dIxKD, ↓dIn, ↓dNotIn, ↓dDg, List.getElem?_cons_zero, List.getElem?_cons_succ, List.set_cons_zero, List.set_cons_succ, List.map_cons, List.map_nil, List.length_cons, List.length_nil, List.replicate_succ, List.replicate_zero, List.nil_append, List.cons_append, Bool.not_true, Bool.not_false, if_true, wkey_int, wkey_str, atI_0, atI_1, atI_2, atI_3, up_same, if_false, Bool.false_eq_true, Bool.true_eq_false, tru_non, isLT_non, isi_int_non, isi_bool_non, isi_str_non, isi_tup_non, isi_lst_non, tru_bl, isLT_bl, isi_int_bl, isi_bool_bl, isi_str_bl, isi_tup_bl, isi_lst_bl, tru_int, isLT_int, isi_int_int, isi_bool_int, isi_str_int, isi_tup_int, isi_lst_int, tru_str, isLT_str, isi_int_str, isi_bool_str, isi_str_str, isi_tup_str, isi_lst_str, tru_tup, isLT_tup, isi_int_tup, isi_bool_tup, isi_str_tup, isi_tup_tup, isi_lst_tup, tru_lst, isLT_lst, isi_int_lst, isi_bool_lst, isi_str_lst, isi_tup_lst, isi_lst_lst, isL_lst, seqW_lst, seqW_tup, seqW_str, seqW_scr, sq2_lst, sq2_tup, inW_sign])
  simp only [view_ref hb, atI_0, atI_1]
  try (simp only [↓dFgt, ↓dVar, ↓dC, ↓dOp, ↓dUn, ↓dI, ↓dI0, ↓dSub, ↓dMul, ↓dDiv, ↓dMod, ↓dPow, ↓dAdd, ↓dNeg, ↓dEq, ↓dNe, ↓dLt, ↓dLe, ↓dGt, ↓dGe, ↓dIsN, ↓dNotN, ↓dTru, ↓dTest, ↓dChain, ↓dAnd, ↓dOr, ↓dNot, ↓dAndV, ↓dOrV, ↓dNotV, ↓dIf, ↓dNil, ↓dCons, ↓dTup, ↓dLst, ↓dLstM, ↓dCB, ↓dLen, ↓dAbs, ↓dMax2, ↓dMin2, ↓dAll, ↓dAny, ↓dListOf, ↓dListOfM, ↓dTupOf, ↓dNext, ↓dSeq, ↓dDrop, ↓dRet, ↓dRetN, ↓dIfS, ↓dBrk, ↓dCnt, ↓dSet, ↓dAsgT, ↓dPar2, ↓tbind, ↓tbinds, ↓Om.set, ↓dCall, ↓dIx, ↓dNo, ↓dPart, ↓dSl, ↓dSlr, ↓dBM, ↓dApp, ↓dExt, ↓dSetIx, ↓dIs, ↓dMinS, ↓dMaxS, ↓dJoin, ↓dFrz, ↓dPut, ↓dFld, ↓dSetF, ↓dInt, ↓dIsLT, ↓dRng1, ↓dRng2, ↓dEnum, ↓dZip, ↓dSeqI, view_c_non, view_c_bl, view_c_int, view_c_str, view_c_tup, view_c_lst, view_c_scr, view_c_dct, view_c_ins, ↓startW, ↓wp, ↓wps, ↓dInKD, ↓dNotInKD, ↓dIxKD, ↓dIn, ↓dNotIn, ↓dDg, List.getElem?_cons_zero, List.getElem?_cons_succ, List.set_cons_zero, List.set_cons_succ, List.map_cons, List.map_nil, List.length_cons, List.length_nil, List.replicate_succ, List.replicate_zero, List.nil_append, List.cons_append, Bool.not_true, Bool.not_false, if_true, wkey_int, wkey_str, atI_0, atI_1, atI_2, atI_3, up_same, if_false, Bool.false_eq_true, Bool.true_eq_false, tru_non, isLT_non, isi_int_non, isi_bool_non, isi_str_non, isi_tup_non, isi_lst_non, tru_bl, isLT_bl, isi_int_bl, isi_bool_bl, isi_str_bl, isi_tup_bl, isi_lst_bl, tru_int, isLT_int, isi_int_int, isi_bool_int, isi_str_int, isi_tup_int, isi_lst_int, tru_str, isLT_str, isi_int_str, isi_bool_str, isi_str_str, isi_tup_str, isi_lst_str, tru_tup, isLT_tup, isi_int_tup, isi_bool_tup, isi_str_tup, isi_tup_tup, isi_lst_tup, tru_lst, isLT_lst, isi_int_lst, isi_bool_lst, isi_str_lst, isi_tup_lst, isi_lst_lst, isL_lst, seqW_lst, seqW_tup, seqW_str, seqW_scr, sq2_lst, sq2_tup, inW_sign])
  refine bl_cases (fun e => ?_) (fun e => ?_)
  · have eg : (0 : Int) < g := of_decide_eq_true e
    refine ⟨m0, ⟨m0, by omega⟩, ?_⟩
    simp only [hb]
    have e1 : ixN [W.int g, W.int s].length 0 = some 0 := rfl
    simp only [e1]
    try (simp only [↓dFgt, ↓dVar, ↓dC, ↓dOp, ↓dUn, ↓dI, ↓dI0, ↓dSub, ↓dMul, ↓dDiv, ↓dMod, ↓dPow, ↓dAdd, ↓dNeg, ↓dEq, ↓dNe, ↓dLt, ↓dLe, ↓dGt, ↓dGe, ↓dIsN, ↓dNotN, ↓dTru, ↓dTest, ↓dChain, ↓dAnd, ↓dOr, ↓dNot, ↓dAndV, ↓dOrV, ↓dNotV, ↓dIf, ↓dNil, ↓dCons, ↓dTup, ↓dLst, ↓dLstM, ↓dCB, ↓dLen, ↓dAbs, ↓dMax2, ↓dMin2, ↓dAll, ↓dAny, ↓dListOf, ↓dListOfM, ↓dTupOf, ↓dNext, ↓dSeq, ↓dDrop, ↓dRet, ↓dRetN, ↓dIfS, ↓dBrk, ↓dCnt, ↓dSet, ↓dAsgT, ↓dPar2, ↓tbind, ↓tbinds, ↓Om.set, ↓dCall, ↓dIx, ↓dNo, ↓dPart, ↓dSl, ↓dSlr, ↓dBM, ↓dApp, ↓dExt, ↓dSetIx, ↓dIs, ↓dMinS, ↓dMaxS, ↓dJoin, ↓dFrz, ↓dPut, ↓dFld, ↓dSetF, ↓dInt, ↓dIsLT, ↓dRng1, ↓dRng2, ↓dEnum, ↓dZip, ↓dSeqI, view_c_non, view_c_bl, view_c_int, view_c_str, view_c_tup, view_c_lst, view_c_scr, view_c_dct, view_c_ins, ↓startW, ↓wp, ↓wps, ↓dInKD, ↓dNotInKD, ↓dIxKD, ↓dIn, ↓dNotIn, ↓dDg, List.getElem?_cons_zero, List.getElem?_cons_succ, List.set_cons_zero, List.set_cons_succ, List.map_cons, List.map_nil, List.length_cons, List.length_nil, List.replicate_succ, List.replicate_zero, List.nil_append, List.cons_append, Bool.not_true, Bool.not_false, if_true, wkey_int, wkey_str, atI_0, atI_1, atI_2, atI_3, up_same, if_false, Bool.false_eq_true, Bool.true_eq_false, tru_non, isLT_non, isi_int_non, isi_bool_non, isi_str_non, isi_tup_non, isi_lst_non, tru_bl, isLT_bl, isi_int_bl, isi_bool_bl, isi_str_bl, isi_tup_bl, isi_lst_bl, tru_int, isLT_int, isi_int_int, isi_bool_int, isi_str_int, isi_tup_int, isi_lst_int, tru_str, isLT_str, isi_int_str, isi_bool_str, isi_str_str, isi_tup_str, isi_lst_str, tru_tup, isLT_tup, isi_int_tup, isi_bool_tup, isi_str_tup, isi_tup_tup, isi_lst_tup, tru_lst, isLT_lst, isi_int_lst, isi_bool_lst, isi_str_lst, isi_tup_lst, isi_lst_lst, isL_lst, seqW_lst, seqW_tup, seqW_str, seqW_scr, sq2_lst, sq2_tup, inW_sign])
    exact frzQ.mk (q _ (Int.emod_nonneg _ (by omega)) (Int.emod_lt_of_pos _ m0) _ _ ⟨Int.ediv_nonneg ok.g0 (by omega), ok.s0, ok.s1⟩)
  · refine ⟨.inr ⟨by omega, by omega⟩, (by decide), ?_⟩
    simp only [hb]
    have e1 : ixN [W.int g, W.int s].length 1 = some 1 := rfl
    simp only [e1]
    try (simp only [↓dFgt, ↓dVar, ↓dC, ↓dOp, ↓dUn, ↓dI, ↓dI0, ↓dSub, ↓dMul, ↓dDiv, ↓dMod, ↓dPow, ↓dAdd, ↓dNeg, ↓dEq, ↓dNe, ↓dLt, ↓dLe, ↓dGt, ↓dGe, ↓dIsN, ↓dNotN, ↓dTru, ↓dTest, ↓dChain, ↓dAnd, ↓dOr, ↓dNot, ↓dAndV, ↓dOrV, ↓dNotV, ↓dIf, ↓dNil, ↓dCons, ↓dTup, ↓dLst, ↓dLstM, ↓dCB, ↓dLen, ↓dAbs, ↓dMax2, ↓dMin2, ↓dAll, ↓dAny, ↓dListOf, ↓dListOfM, ↓dTupOf, ↓dNext, ↓dSeq, ↓dDrop, ↓dRet, ↓dRetN, ↓dIfS, ↓dBrk, ↓dCnt, ↓dSet, ↓dAsgT, ↓dPar2, ↓tbind, ↓tbinds, ↓Om.set, ↓dCall, ↓dIx, ↓dNo, ↓dPart, ↓dSl, ↓dSlr, ↓dBM, ↓dApp, ↓dExt, ↓dSetIx, ↓dIs, ↓dMinS, ↓dMaxS, ↓dJoin, ↓dFrz, ↓dPut, ↓dFld, ↓dSetF, ↓dInt, ↓dIsLT, ↓dRng1, ↓dRng2, ↓dEnum, ↓dZip, ↓dSeqI, view_c_non, view_c_bl, view_c_int, view_c_str, view_c_tup, view_c_lst, view_c_scr, view_c_dct, view_c_ins, ↓startW, ↓wp, ↓wps, ↓dInKD, ↓dNotInKD, ↓dIxKD, ↓dIn, ↓dNotIn, ↓dDg, List.getElem?_cons_zero, List.getElem?_cons_succ, List.set_cons_zero, List.set_cons_succ, List.map_cons, List.map_nil, List.length_cons, List.length_nil, List.replicate_succ, List.replicate_zero, List.nil_append, List.cons_append, Bool.not_true, Bool.not_false, if_true, wkey_int, wkey_str, atI_0, atI_1, atI_2, atI_3, up_same, if_false, Bool.false_eq_true, Bool.true_eq_false, tru_non, isLT_non, isi_int_non, isi_bool_non, isi_str_non, isi_tup_non, isi_lst_non, tru_bl, isLT_bl, isi_int_bl, isi_bool_bl, isi_str_bl, isi_tup_bl, isi_lst_bl, tru_int, isLT_int, isi_int_int, isi_bool_int, isi_str_int, isi_tup_int, isi_lst_int, tru_str, isLT_str, isi_int_str, isi_bool_str, isi_str_str, isi_tup_str, isi_lst_str, tru_tup, isLT_tup, isi_int_tup, isi_bool_tup, isi_str_tup, isi_tup_tup, isi_lst_tup, tru_lst, isLT_lst, isi_int_lst, isi_bool_lst, isi_str_lst, isi_tup_lst, isi_lst_lst, isL_lst, seqW_lst, seqW_tup, seqW_str, seqW_scr, sq2_lst, sq2_tup, inW_sign])
    simp only [view_ref up_same, atI_1]
    try (simp only [↓dFgt, ↓dVar, ↓dC, ↓dOp, ↓dUn, ↓dI, ↓dI0, ↓dSub, ↓dMul, ↓dDiv, ↓dMod, ↓dPow, ↓dAdd, ↓dNeg, ↓dEq, ↓dNe, ↓dLt, ↓dLe, ↓dGt, ↓dGe, ↓dIsN, ↓dNotN, ↓dTru, ↓dTest, ↓dChain, ↓dAnd, ↓dOr, ↓dNot, ↓dAndV, ↓dOrV, ↓dNotV, ↓dIf, ↓dNil, ↓dCons, ↓dTup, ↓dLst, ↓dLstM, ↓dCB, ↓dLen, ↓dAbs, ↓dMax2, ↓dMin2, ↓dAll, ↓dAny, ↓dListOf, ↓dListOfM, ↓dTupOf, ↓dNext, ↓dSeq, ↓dDrop, ↓dRet, ↓dRetN, ↓dIfS, ↓dBrk, ↓dCnt, ↓dSet, ↓dAsgT, ↓dPar2, ↓tbind, ↓tbinds, ↓Om.set, ↓dCall, ↓dIx, ↓dNo, ↓dPart, ↓dSl, ↓dSlr, ↓dBM, ↓dApp, ↓dExt, ↓dSetIx, ↓dIs, ↓dMinS, ↓dMaxS, ↓dJoin, ↓dFrz, ↓dPut, ↓dFld, ↓dSetF, ↓dInt, ↓dIsLT, ↓dRng1, ↓dRng2, ↓dEnum, ↓dZip, ↓dSeqI, view_c_non, view_c_bl, view_c_int, view_c_str, view_c_tup, view_c_lst, view_c_scr, view_c_dct, view_c_ins, ↓startW, ↓wp, ↓wps, ↓dInKD, ↓dNotInKD, ↓dIxKD, ↓dIn, ↓dNotIn, ↓dDg, List.getElem?_cons_zero, List.getElem?_cons_succ, List.set_cons_zero, List.set_cons_succ, List.map_cons, List.map_nil, List.length_cons, List.length_nil, List.replicate_succ, List.replicate_zero, List.nil_append, List.cons_append, Bool.not_true, Bool.not_false, if_true, wkey_int, wkey_str, atI_0, atI_1, atI_2, atI_3, up_same, if_false, Bool.false_eq_true, Bool.true_eq_false, tru_non, isLT_non, isi_int_non, isi_bool_non, isi_str_non, isi_tup_non, isi_lst_non, tru_bl, isLT_bl, isi_int_bl, isi_bool_bl, isi_str_bl, isi_tup_bl, isi_lst_bl, tru_int, isLT_int, isi_int_int, isi_bool_int, isi_str_int, isi_tup_int, isi_lst_int, tru_str, isLT_str, isi_int_str, isi_bool_str, isi_str_str, isi_tup_str, isi_lst_str, tru_tup, isLT_tup, isi_int_tup, isi_bool_tup, isi_str_tup, isi_tup_tup, isi_lst_tup, tru_lst, isLT_lst, isi_int_lst, isi_bool_lst, isi_str_lst, isi_tup_lst, isi_lst_lst, isL_lst, seqW_lst, seqW_tup, seqW_str, seqW_scr, sq2_lst, sq2_tup, inW_sign])
    have h0 : 0 ≤ (s * 48271 + 11) % 2147483647 := Int.emod_nonneg _ (by decide)
    have h1 : (s * 48271 + 11) % 2147483647 < 2147483647 := Int.emod_lt_of_pos _ (by decide)
    refine ⟨⟨by decide, by decide⟩, ⟨by decide, by decide, by omega⟩, by decide, m0, ?_⟩
    exact frzQ.mk (q _ (Int.emod_nonneg _ (by omega)) (Int.emod_lt_of_pos _ m0) _ _ ⟨ok.g0, h0, by omega⟩)
section
variable {P : Program} {w : World} {K : PySem.W.Frag} {mg : Str → Option Value} {base : Heap} {c_Ground : Addr}
theorem ok_law_take {f : Addr} {fd : FuncData} (F : Fun K "_law_take" "_law_take" s_law_take f fd) (T : Txt K w mg c_Ground) : FnOk P w K mg base CX0 1 f fd ["_law_bag_here", "_law_many_here"] (uSp K (sp_law_take)) :=
  Fun.okF F sc_law_take (td_law_take) (fun cdv A outer s H E hr =>
    (dss_cons (ds_if (dt_cmp oc_gt (de_ix (dv 0) de_int) de_int) (dss_cons (ds_set (i := 2) sc_law_take.nd (de_op oa_mod (de_ix (dv 0) de_int) (dv 1)))
      (dss_cons (ds_setIx (dv 0) de_int (de_op oa_div (de_ix (dv 0) de_int) (dv 1)))
      (dss_one (ds_ret (dv 2))))) dss_nil)
    (dss_cons (ds_setIx (dv 0) de_int (de_op oa_mod (de_op oa_add (de_op oa_mul (de_ix (dv 0) de_int) de_int) de_int) de_int))
    (dss_one (ds_ret (de_op oa_mod (de_op oa_mod (de_op oa_pow (de_op oa_div (de_ix (dv 0) de_int) de_int) de_int) de_int) (dv 1))))))) (fun ws S Q E h => len_law_take h) (hd_law_take)
end
/-! ### _law_bag -/
abbrev s_law_bag : Stmt := topS 43
abbrev N_law_bag : List Str := ["_law_script", "_law_at", "_law_cell", "_law_great", "_law_primes"]
theorem sc_law_bag : FnScope N_law_bag ["_law_script", "_law_at"] (defScope s_law_bag) := ⟨rfl, rfl, rfl, by decide +kernel, rfl, by decide +kernel, by decide +kernel⟩
theorem st_law_bag {x0 x1 : W} : startW N_law_bag [x0, x1] = [some x0, some x1, none, none, none] := rfl
def td_law_bag : DS' :=
    (dSeq (dSet 2 (dC (.int 0)))
    (dSeq (dIfS (dTest (dOp dGt (dCB dLen (dCons (dVar 0) dNil)) (dC (.int 0)))) (dSet 2 (dOp dIx (dVar 0) (dOp dMod (dVar 1) (dCB dLen (dCons (dVar 0) dNil))))) dNext)
    (dSeq (dSet 3 (dC (.int 0)))
    (dSeq (dIfS (dAnd (dTest (dOp dGe (dCB dAbs (dCons (dVar 2) dNil)) (dOp dPow (dC (.int 10)) (dC (.int 18))))) (dTest (dOp dLt (dVar 1) (dCB dLen (dCons (dVar 0) dNil))))) (dSet 3 (dCB dAbs (dCons (dVar 2) dNil))) dNext)
    (dSeq (dSet 4 (dTup (dCons (dC (.int 2147483629)) (dCons (dC (.int 2147483587)) (dCons (dC (.int 2147483579)) (dCons (dC (.int 2147483563)) (dCons (dC (.int 2147483549)) (dCons (dC (.int 2147483543)) (dCons (dC (.int 2147483497)) (dCons (dC (.int 2147483489)) dNil))))))))))
    (dRet (dLstM (dCons (dVar 3) (dCons (dOp dMod (dOp dPow (dOp dAdd (dOp dAdd (dOp dMod (dVar 2) (dC (.int 2147483647))) (dOp dMul (dC (.int 104729)) (dVar 1))) (dC (.int 7))) (dC (.int 5))) (dOp dIx (dVar 4) (dOp dMod (dVar 1) (dC (.int 8))))) dNil)))))))))
def sp_law_bag : DSp := fun ws S Q _ => ∃ (ns : List Int) (m : Int), ws = [.scr ns, .int m] ∧ 0 ≤ m ∧ m < 1000000 ∧ ∀ p, S p = none → aft S p fun S' => Q (.ref p) S'
theorem len_law_bag {ws S Q E} (h : sp_law_bag ws S Q E) : ws.length = 2 := by obtain ⟨b, m, rfl, _⟩ := h; rfl
theorem hd_law_bag (ws S Q E) (h : sp_law_bag ws S Q E) : td_law_bag { nx := fun _ S' => frzQ Q .non S', rt := frzQ Q } ⟨startW N_law_bag ws, XF⟩ S := by
  obtain ⟨ns, m, rfl, m0, m1, q⟩ := h
  have nat8 : (m % 8).toNat < 8 := by omega
  obtain ⟨pr, hpr, pr0, pr1⟩ := primes_at _ nat8
  have hat : L2.atI (primes.map W.int) (m % 8) = some (.int pr) := by rw [atI_toNat (by omega) (by rw [List.length_map]; exact nat8), List.getElem?_map, hpr]; rfl
  have hcell : ∀ x : Int, (x % 2147483647 + 104729 * m + 7).natAbs < 2 ^ 64 := fun x => by omega
  have cp : CPow 10 18 := ⟨by decide, by decide, by omega⟩
  have cm : CMul 104729 m := .inl ⟨by omega, by omega⟩
  simp only [st_law_bag, td_law_bag]
  refine seq_go (set_go (.int 0) S (fun _ h => h) ?_)
  (((try unfold dNext); dsimp only; refine seq_go ?_))
  refine ifset_go (decide ((0 : Int) < (ns.length : Int))) (fun w => ∃ c : Int, w = .int c) (fun Q h => by (simp only [↓dFgt, ↓dVar, ↓dC, ↓dOp, ↓dUn, ↓dI, ↓dI0, ↓dSub, ↓dMul, ↓dDiv, ↓dMod, ↓dPow, ↓dAdd, ↓dNeg, ↓dEq, ↓dNe, ↓dLt, ↓dLe, ↓dGt, ↓dGe, ↓dIsN, ↓dNotN, ↓dTru, ↓dTest, ↓dChain, ↓dAnd, ↓dOr, ↓dNot, ↓dAndV, ↓dOrV, ↓dNotV, ↓dIf, ↓dNil, ↓dCons, ↓dTup, ↓dLst, ↓dLstM, ↓dCB, ↓dLen, ↓dAbs, ↓dMax2, ↓dMin2, ↓dAll, ↓dAny, ↓dListOf, ↓dListOfM, ↓dTupOf, ↓dNext, ↓dSeq, ↓dDrop, ↓dRet, ↓dRetN, ↓dIfS, ↓dBrk, ↓dCnt, ↓dSet, ↓dAsgT, ↓dPar2, ↓tbind, ↓tbinds, ↓Om.set, ↓dCall, ↓dIx, ↓dNo, ↓dPart, ↓dSl, ↓dSlr, ↓dBM, ↓dApp, ↓dExt, ↓dSetIx, ↓dIs, ↓dMinS, ↓dMaxS, ↓dJoin, ↓dFrz, ↓dPut, ↓dFld, ↓dSetF, ↓dInt, ↓dIsLT, ↓dRng1, ↓dRng2, ↓dEnum, ↓dZip, ↓dSeqI, view_c_non, view_c_bl, view_c_int, view_c_str, view_c_tup, view_c_lst, view_c_scr, view_c_dct, view_c_ins, ↓startW, ↓wp, ↓wps, ↓dInKD, ↓dNotInKD, ↓dIxKD, ↓dIn, ↓dNotIn, ↓dDg, List.getElem?_cons_zero, List.getElem?_cons_succ, List.set_cons_zero, List.set_cons_succ, List.map_cons, List.map_nil, List.length_cons, List.length_nil, List.replicate_succ, List.replicate_zero, List.nil_append, List.cons_append, Bool.not_true, Bool.not_false, if_true, wkey_int, wkey_str, atI_0, atI_1, atI_2, atI_3, up_same, if_false, Bool.false_eq_true, Bool.true_eq_false, tru_non, isLT_non, isi_int_non, isi_bool_non, isi_str_non, isi_tup_non, isi_lst_non, tru_bl, isLT_bl, isi_int_bl, isi_bool_bl, isi_str_bl, isi_tup_bl, isi_lst_bl, tru_int, isLT_int, isi_int_int, isi_bool_int, isi_str_int, isi_tup_int, isi_lst_int, tru_str, isLT_str, isi_int_str, isi_bool_str, isi_str_str, isi_tup_str, isi_lst_str, tru_tup, isLT_tup, isi_int_tup, isi_bool_tup, isi_str_tup, isi_tup_tup, isi_lst_tup, tru_lst, isLT_lst, isi_int_lst, isi_bool_lst, isi_str_lst, isi_tup_lst, isi_lst_lst, isL_lst, seqW_lst, seqW_tup, seqW_str, seqW_scr, sq2_lst, sq2_tup, inW_sign]); exact h) (fun e Q h => ?_) ⟨_, rfl, 0, rfl⟩ ?_
  · have hl : (0 : Int) < (ns.length : Int) := of_decide_eq_true e
    have h0 : 0 ≤ m % (ns.length : Int) := Int.emod_nonneg _ (by omega)
    have h1 : m % (ns.length : Int) < (ns.length : Int) := Int.emod_lt_of_pos _ hl
    have ha : L2.atI ns (m % (ns.length : Int)) = some (ns[(m % (ns.length : Int)).toNat]'(by omega)) := by rw [atI_toNat h0 (by omega)]; exact List.getElem?_eq_getElem (by omega)
    (simp only [↓dFgt, ↓dVar, ↓dC, ↓dOp, ↓dUn, ↓dI, ↓dI0, ↓dSub, ↓dMul, ↓dDiv, ↓dMod, ↓dPow, ↓dAdd, ↓dNeg, ↓dEq, ↓dNe, ↓dLt, ↓dLe, ↓dGt, ↓dGe, ↓dIsN, ↓dNotN, ↓dTru, ↓dTest, ↓dChain, ↓dAnd, ↓dOr, ↓dNot, ↓dAndV, ↓dOrV, ↓dNotV, ↓dIf, ↓dNil, ↓dCons, ↓dTup, ↓dLst, ↓dLstM, ↓dCB, ↓dLen, ↓dAbs, ↓dMax2, ↓dMin2, ↓dAll, ↓dAny, ↓dListOf, ↓dListOfM, ↓dTupOf, ↓dNext, ↓dSeq, ↓dDrop, ↓dRet, ↓dRetN, ↓dIfS, ↓dBrk, ↓dCnt, ↓dSet, ↓dAsgT, ↓dPar2, ↓tbind, ↓tbinds, ↓Om.set, ↓dCall, ↓dIx, ↓dNo, ↓dPart, ↓dSl, ↓dSlr, ↓dBM, ↓dApp, ↓dExt, ↓dSetIx, ↓dIs, ↓dMinS, ↓dMaxS, ↓dJoin, ↓dFrz, ↓dPut, ↓dFld, ↓dSetF, ↓dInt, ↓dIsLT, ↓dRng1, ↓dRng2, ↓dEnum, ↓dZip, ↓dSeqI, view_c_non, view_c_bl, view_c_int, view_c_str, view_c_tup, view_c_lst, view_c_scr, view_c_dct, view_c_ins, ↓startW, ↓wp, ↓wps, ↓dInKD, ↓dNotInKD, ↓dIxKD, ↓dIn, ↓dNotIn, ↓dDg, List.getElem?_cons_zero, List.getElem?_cons_succ, List.set_cons_zero, List.set_cons_succ, List.map_cons, List.map_nil, List.length_cons, List.length_nil, List.replicate_succ, List.replicate_zero, List.nil_append, List.cons_append, Bool.not_true, Bool.not_false, if_true, wkey_int, wkey_str, atI_0, atI_1, atI_2, atI_3, up_same, if_false, Bool.false_eq_true, Bool.true_eq_false, tru_non, isLT_non, isi_int_non, isi_bool_non, isi_str_non, isi_tup_non, isi_lst_non, tru_bl, isLT_bl, isi_int_bl, isi_bool_bl, isi_str_bl, isi_tup_bl, isi_lst_bl, tru_int, isLT_int, isi_int_int, isi_bool_int, isi_str_int, isi_tup_int, isi_lst_int, tru_str, isLT_str, isi_int_str, isi_bool_str, isi_str_str, isi_tup_str, isi_lst_str, tru_tup, isLT_tup, isi_int_tup, isi_bool_tup, isi_str_tup, isi_tup_tup, isi_lst_tup, tru_lst, isLT_lst, isi_int_lst, isi_bool_lst, isi_str_lst, isi_tup_lst, isi_lst_lst, isL_lst, seqW_lst, seqW_tup, seqW_str, seqW_scr, sq2_lst, sq2_tup, inW_sign])
    refine ⟨hl, ?_⟩
    simp only [ha]
    exact h _ ⟨_, rfl⟩
  rintro _ ⟨c, rfl⟩
  (((try unfold dNext); dsimp only; refine seq_go ?_))
  refine set_go (.int 0) S (fun _ h => h) ?_
  (((try unfold dNext); dsimp only; refine seq_go ?_))
  refine ifset_go (decide ((if c < 0 then -c else c) ≥ 10 ^ Int.toNat 18) && decide (m < (ns.length : Int))) (fun w => ∃ g : Int, w = .int g ∧ 0 ≤ g) (fun Q h => ?_) (fun e Q h => ?_) ⟨_, rfl, 0, rfl, by decide⟩ ?_
  · refine and_b (a := decide ((if c < 0 then -c else c) ≥ 10 ^ Int.toNat 18)) (b := decide (m < (ns.length : Int))) (fun Q h => ?_) (fun _ Q h => ?_) h
    · (simp only [↓dFgt, ↓dVar, ↓dC, ↓dOp, ↓dUn, ↓dI, ↓dI0, ↓dSub, ↓dMul, ↓dDiv, ↓dMod, ↓dPow, ↓dAdd, ↓dNeg, ↓dEq, ↓dNe, ↓dLt, ↓dLe, ↓dGt, ↓dGe, ↓dIsN, ↓dNotN, ↓dTru, ↓dTest, ↓dChain, ↓dAnd, ↓dOr, ↓dNot, ↓dAndV, ↓dOrV, ↓dNotV, ↓dIf, ↓dNil, ↓dCons, ↓dTup, ↓dLst, ↓dLstM, ↓dCB, ↓dLen, ↓dAbs, ↓dMax2, ↓dMin2, ↓dAll, ↓dAny, ↓dListOf, ↓dListOfM, ↓dTupOf, ↓dNext, ↓dSeq, ↓dDrop, ↓dRet, ↓dRetN, ↓dIfS, ↓dBrk, ↓dCnt, ↓dSet, ↓dAsgT, ↓dPar2, ↓tbind, ↓tbinds, ↓Om.set, ↓dCall, ↓dIx, ↓dNo, ↓dPart, ↓dSl, ↓dSlr, ↓dBM, ↓dApp, ↓dExt, ↓dSetIx, ↓dIs, ↓dMinS, ↓dMaxS, ↓dJoin, ↓dFrz, ↓dPut, ↓dFld, ↓dSetF, ↓dInt, ↓dIsLT, ↓dRng1, ↓dRng2, ↓dEnum, ↓dZip, ↓dSeqI, view_c_non, view_c_bl, view_c_int, view_c_str, view_c_tup, view_c_lst, view_c_scr, view_c_dct, view_c_ins, ↓startW, ↓wp, ↓wps, ↓dInKD, ↓dNotInKD, ↓dIxKD, ↓dIn, ↓dNotIn, ↓dDg, List.getElem?_cons_zero, List.getElem?_cons_succ, List.set_cons_zero, List.set_cons_succ, List.map_cons, List.map_nil, List.length_cons, List.length_nil, List.replicate_succ, List.replicate_zero, List.nil_append, List.cons_append, Bool.not_true, Bool.not_false, if_true, wkey_int, wkey_str, atI_0, atI_1, atI_2, atI_3, up_same, if_false, Bool.false_eq_true, Bool.true_eq_false, tru_non, isLT_non, isi_int_non, isi_bool_non, isi_str_non, isi_tup_non, isi_lst_non, tru_bl, isLT_bl, isi_int_bl, isi_bool_bl, isi_str_bl, isi_tup_bl, isi_lst_bl, tru_int, isLT_int, isi_int_int, isi_bool_int, isi_str_int, isi_tup_int, isi_lst_int, tru_str, isLT_str, isi_int_str, isi_bool_str, isi_str_str, isi_tup_str, isi_lst_str, tru_tup, isLT_tup, isi_int_tup, isi_bool_tup, isi_str_tup, isi_tup_tup, isi_lst_tup, tru_lst, isLT_lst, isi_int_lst, isi_bool_lst, isi_str_lst, isi_tup_lst, isi_lst_lst, isL_lst, seqW_lst, seqW_tup, seqW_str, seqW_scr, sq2_lst, sq2_tup, inW_sign])
      refine ⟨cp, ?_⟩
      exact h
    · (simp only [↓dFgt, ↓dVar, ↓dC, ↓dOp, ↓dUn, ↓dI, ↓dI0, ↓dSub, ↓dMul, ↓dDiv, ↓dMod, ↓dPow, ↓dAdd, ↓dNeg, ↓dEq, ↓dNe, ↓dLt, ↓dLe, ↓dGt, ↓dGe, ↓dIsN, ↓dNotN, ↓dTru, ↓dTest, ↓dChain, ↓dAnd, ↓dOr, ↓dNot, ↓dAndV, ↓dOrV, ↓dNotV, ↓dIf, ↓dNil, ↓dCons, ↓dTup, ↓dLst, ↓dLstM, ↓dCB, ↓dLen, ↓dAbs, ↓dMax2, ↓dMin2, ↓dAll, ↓dAny, ↓dListOf, ↓dListOfM, ↓dTupOf, ↓dNext, ↓dSeq, ↓dDrop, ↓dRet, ↓dRetN, ↓dIfS, ↓dBrk, ↓dCnt, ↓dSet, ↓dAsgT, ↓dPar2, ↓tbind, ↓tbinds, ↓Om.set, ↓dCall, ↓dIx, ↓dNo, ↓dPart, ↓dSl, ↓dSlr, ↓dBM, ↓dApp, ↓dExt, ↓dSetIx, ↓dIs, ↓dMinS, ↓dMaxS, ↓dJoin, ↓dFrz, ↓dPut, ↓dFld, ↓dSetF, ↓dInt, ↓dIsLT, ↓dRng1, ↓dRng2, ↓dEnum, ↓dZip, ↓dSeqI, view_c_non, view_c_bl, view_c_int, view_c_str, view_c_tup, view_c_lst, view_c_scr, view_c_dct, view_c_ins, ↓startW, ↓wp, ↓wps, ↓dInKD, ↓dNotInKD, ↓dIxKD, ↓dIn, ↓dNotIn, ↓dDg, List.getElem?_cons_zero, List.getElem?_cons_succ, List.set_cons_zero, List.set_cons_succ, List.map_cons, List.map_nil, List.length_cons, List.length_nil, List.replicate_succ, List.replicate_zero, List.nil_append, List.cons_append, Bool.not_true, Bool.not_false, if_true, wkey_int, wkey_str, atI_0, atI_1, atI_2, atI_3, up_same, if_false, Bool.false_eq_true, Bool.true_eq_false, tru_non, isLT_non, isi_int_non, isi_bool_non, isi_str_non, isi_tup_non, isi_lst_non, tru_bl, isLT_bl, isi_int_bl, isi_bool_bl, isi_str_bl, isi_tup_bl, isi_lst_bl, tru_int, isLT_int, isi_int_int, isi_bool_int, isi_str_int, isi_tup_int, isi_lst_int, tru_str, isLT_str, isi_int_str, isi_bool_str, isi_str_str, isi_tup_str, isi_lst_str, tru_tup, isLT_tup, isi_int_tup, isi_bool_tup, isi_str_tup, isi_tup_tup, isi_lst_tup, tru_lst, isLT_lst, isi_int_lst, isi_bool_lst, isi_str_lst, isi_tup_lst, isi_lst_lst, isL_lst, seqW_lst, seqW_tup, seqW_str, seqW_scr, sq2_lst, sq2_tup, inW_sign])
      exact h
  · (simp only [↓dFgt, ↓dVar, ↓dC, ↓dOp, ↓dUn, ↓dI, ↓dI0, ↓dSub, ↓dMul, ↓dDiv, ↓dMod, ↓dPow, ↓dAdd, ↓dNeg, ↓dEq, ↓dNe, ↓dLt, ↓dLe, ↓dGt, ↓dGe, ↓dIsN, ↓dNotN, ↓dTru, ↓dTest, ↓dChain, ↓dAnd, ↓dOr, ↓dNot, ↓dAndV, ↓dOrV, ↓dNotV, ↓dIf, ↓dNil, ↓dCons, ↓dTup, ↓dLst, ↓dLstM, ↓dCB, ↓dLen, ↓dAbs, ↓dMax2, ↓dMin2, ↓dAll, ↓dAny, ↓dListOf, ↓dListOfM, ↓dTupOf, ↓dNext, ↓dSeq, ↓dDrop, ↓dRet, ↓dRetN, ↓dIfS, ↓dBrk, ↓dCnt, ↓dSet, ↓dAsgT, ↓dPar2, ↓tbind, ↓tbinds, ↓Om.set, ↓dCall, ↓dIx, ↓dNo, ↓dPart, ↓dSl, ↓dSlr, ↓dBM, ↓dApp, ↓dExt, ↓dSetIx, ↓dIs, ↓dMinS, ↓dMaxS, ↓dJoin, ↓dFrz, ↓dPut, ↓dFld, ↓dSetF, ↓dInt, ↓dIsLT, ↓dRng1, ↓dRng2, ↓dEnum, ↓dZip, ↓dSeqI, view_c_non, view_c_bl, view_c_int, view_c_str, view_c_tup, view_c_lst, view_c_scr, view_c_dct, view_c_ins, ↓startW, ↓wp, ↓wps, ↓dInKD, ↓dNotInKD, ↓dIxKD, ↓dIn, ↓dNotIn, ↓dDg, List.getElem?_cons_zero, List.getElem?_cons_succ, List.set_cons_zero, List.set_cons_succ, List.map_cons, List.map_nil, List.length_cons, List.length_nil, List.replicate_succ, List.replicate_zero, List.nil_append, List.cons_append, Bool.not_true, Bool.not_false, if_true, wkey_int, wkey_str, atI_0, atI_1, atI_2, atI_3, up_same, if_false, Bool.false_eq_true, Bool.true_eq_false, tru_non, isLT_non, isi_int_non, isi_bool_non, isi_str_non, isi_tup_non, isi_lst_non, tru_bl, isLT_bl, isi_int_bl, isi_bool_bl, isi_str_bl, isi_tup_bl, isi_lst_bl, tru_int, isLT_int, isi_int_int, isi_bool_int, isi_str_int, isi_tup_int, isi_lst_int, tru_str, isLT_str, isi_int_str, isi_bool_str, isi_str_str, isi_tup_str, isi_lst_str, tru_tup, isLT_tup, isi_int_tup, isi_bool_tup, isi_str_tup, isi_tup_tup, isi_lst_tup, tru_lst, isLT_lst, isi_int_lst, isi_bool_lst, isi_str_lst, isi_tup_lst, isi_lst_lst, isL_lst, seqW_lst, seqW_tup, seqW_str, seqW_scr, sq2_lst, sq2_tup, inW_sign])
    exact h _ ⟨_, rfl, by split <;> omega⟩
  rintro _ ⟨g, rfl, hg⟩
  (((try unfold dNext); dsimp only; refine seq_go ?_))
  refine set_go (.tup (primes.map W.int)) S (fun Q h => ?_) ?_
  · (simp only [↓dFgt, ↓dVar, ↓dC, ↓dOp, ↓dUn, ↓dI, ↓dI0, ↓dSub, ↓dMul, ↓dDiv, ↓dMod, ↓dPow, ↓dAdd, ↓dNeg, ↓dEq, ↓dNe, ↓dLt, ↓dLe, ↓dGt, ↓dGe, ↓dIsN, ↓dNotN, ↓dTru, ↓dTest, ↓dChain, ↓dAnd, ↓dOr, ↓dNot, ↓dAndV, ↓dOrV, ↓dNotV, ↓dIf, ↓dNil, ↓dCons, ↓dTup, ↓dLst, ↓dLstM, ↓dCB, ↓dLen, ↓dAbs, ↓dMax2, ↓dMin2, ↓dAll, ↓dAny, ↓dListOf, ↓dListOfM, ↓dTupOf, ↓dNext, ↓dSeq, ↓dDrop, ↓dRet, ↓dRetN, ↓dIfS, ↓dBrk, ↓dCnt, ↓dSet, ↓dAsgT, ↓dPar2, ↓tbind, ↓tbinds, ↓Om.set, ↓dCall, ↓dIx, ↓dNo, ↓dPart, ↓dSl, ↓dSlr, ↓dBM, ↓dApp, ↓dExt, ↓dSetIx, ↓dIs, ↓dMinS, ↓dMaxS, ↓dJoin, ↓dFrz, ↓dPut, ↓dFld, ↓dSetF, ↓dInt, ↓dIsLT, ↓dRng1, ↓dRng2, ↓dEnum, ↓dZip, ↓dSeqI, view_c_non, view_c_bl, view_c_int, view_c_str, view_c_tup, view_c_lst, view_c_scr, view_c_dct, view_c_ins, ↓startW, ↓wp, ↓wps, ↓dInKD, ↓dNotInKD, ↓dIxKD, ↓dIn, ↓dNotIn, ↓dDg, List.getElem?_cons_zero, List.getElem?_cons_succ, List.set_cons_zero, List.set_cons_succ, List.map_cons, List.map_nil, List.length_cons, List.length_nil, List.replicate_succ, List.replicate_zero, List.nil_append, List.cons_append, Bool.not_true, Bool.not_false, if_true, wkey_int, wkey_str, atI_0, atI_1, atI_2, atI_3, up_same, if_false, Bool.false_eq_true, Bool.true_eq_false, tru_non, isLT_non, isi_int_non, isi_bool_non, isi_str_non, isi_tup_non, isi_lst_non, tru_bl, isLT_bl, isi_int_bl, isi_bool_bl, isi_str_bl, isi_tup_bl, isi_lst_bl, tru_int, isLT_int, isi_int_int, isi_bool_int, isi_str_int, isi_tup_int, isi_lst_int, tru_str, isLT_str, isi_int_str, isi_bool_str, isi_str_str, isi_tup_str, isi_lst_str, tru_tup, isLT_tup, isi_int_tup, isi_bool_tup, isi_str_tup, isi_tup_tup, isi_lst_tup, tru_lst, isLT_lst, isi_int_lst, isi_bool_lst, isi_str_lst, isi_tup_lst, isi_lst_lst, isL_lst, seqW_lst, seqW_tup, seqW_str, seqW_scr, sq2_lst, sq2_tup, inW_sign])
    exact ⟨by decide, h⟩
  (((try unfold dNext); dsimp only))
  refine ret_go ?_
  (simp only [↓dFgt, ↓dVar, ↓dC, ↓dOp, ↓dUn, ↓dI, ↓dI0, ↓dSub, ↓dMul, ↓dDiv, ↓dMod, ↓dPow, ↓dAdd, ↓dNeg, ↓dEq, ↓dNe, ↓dLt, ↓dLe, ↓dGt, ↓dGe, ↓dIsN, ↓dNotN, ↓dTru, ↓dTest, ↓dChain, ↓dAnd, ↓dOr, ↓dNot, ↓dAndV, ↓dOrV, ↓dNotV, ↓dIf, ↓dNil, ↓dCons, ↓dTup, ↓dLst, ↓dLstM, ↓dCB, ↓dLen, ↓dAbs, ↓dMax2, ↓dMin2, ↓dAll, ↓dAny, ↓dListOf, ↓dListOfM, ↓dTupOf, ↓dNext, ↓dSeq, ↓dDrop, ↓dRet, ↓dRetN, ↓dIfS, ↓dBrk, ↓dCnt, ↓dSet, ↓dAsgT, ↓dPar2, ↓tbind, ↓tbinds, ↓Om.set, ↓dCall, ↓dIx, ↓dNo, ↓dPart, ↓dSl, ↓dSlr, ↓dBM, ↓dApp, ↓dExt, ↓dSetIx, ↓dIs, ↓dMinS, ↓dMaxS, ↓dJoin, ↓dFrz, ↓dPut, ↓dFld, ↓dSetF, ↓dInt, ↓dIsLT, ↓dRng1, ↓dRng2, ↓dEnum, ↓dZip, ↓dSeqI, view_c_non, view_c_bl, view_c_int, view_c_str, view_c_tup, view_c_lst, view_c_scr, view_c_dct, view_c_ins, ↓startW, ↓wp, ↓wps, ↓dInKD, ↓dNotInKD, ↓dIxKD, ↓dIn, ↓dNotIn, ↓dDg, List.getElem?_cons_zero, List.getElem?_cons_succ, List.set_cons_zero, List.set_cons_succ, List.map_cons, List.map_nil, List.length_cons, List.length_nil, List.replicate_succ, List.replicate_zero, List.nil_append, List.cons_append, Bool.not_true, Bool.not_false, if_true, wkey_int, wkey_str, atI_0, atI_1, atI_2, atI_3, up_same, if_false, Bool.false_eq_true, Bool.true_eq_false, tru_non, isLT_non, isi_int_non, isi_bool_non, isi_str_non, isi_tup_non, isi_lst_non, tru_bl, isLT_bl, isi_int_bl, isi_bool_bl, isi_str_bl, isi_tup_bl, isi_lst_bl, tru_int, isLT_int, isi_int_int, isi_bool_int, isi_str_int, isi_tup_int, isi_lst_int, tru_str, isLT_str, isi_int_str, isi_bool_str, isi_str_str, isi_tup_str, isi_lst_str, tru_tup, isLT_tup, isi_int_tup, isi_bool_tup, isi_str_tup, isi_tup_tup, isi_lst_tup, tru_lst, isLT_lst, isi_int_lst, isi_bool_lst, isi_str_lst, isi_tup_lst, isi_lst_lst, isL_lst, seqW_lst, seqW_tup, seqW_str, seqW_scr, sq2_lst, sq2_tup, inW_sign])
  simp only [hat]
  refine ⟨by decide, cm, ⟨by decide, by decide, hcell c⟩, by decide, pr0, by decide, fun p hp => ?_⟩
  exact frzQ.mk (q p hp _ _ ⟨hg, Int.emod_nonneg _ (by omega), Int.lt_trans (Int.emod_lt_of_pos _ pr0) pr1⟩)
section
variable {P : Program} {w : World} {K : PySem.W.Frag} {mg : Str → Option Value} {base : Heap} {c_Ground : Addr}
theorem ok_law_bag {f : Addr} {fd : FuncData} (F : Fun K "_law_bag" "_law_bag" s_law_bag f fd) (T : Txt K w mg c_Ground) : FnOk P w K mg base CX0 1 f fd ["_law_script", "_law_at"] (uSp K (sp_law_bag)) :=
  Fun.okF F sc_law_bag (td_law_bag) (fun cdv A outer s H E hr =>
    (dss_cons (ds_set (i := 2) sc_law_bag.nd de_int)
    (dss_cons (ds_if (dt_cmp oc_gt (de_callB cd_len T.z_len (da_cons (dv 0) da_nil)) de_int) (dss_one (ds_set (i := 2) sc_law_bag.nd (de_ix (dv 0) (de_op oa_mod (dv 1) (de_callB cd_len T.z_len (da_cons (dv 0) da_nil)))))) dss_nil)
    (dss_cons (ds_set (i := 3) sc_law_bag.nd de_int)
    (dss_cons (ds_if (PW.pt (dw_and (dt_cmp oc_ge (de_callB cd_abs T.z_abs (da_cons (dv 2) da_nil)) (de_op oa_pow de_int de_int)) (dw_and1 (dt_cmp oc_lt (dv 1) (de_callB cd_len T.z_len (da_cons (dv 0) da_nil)))))) (dss_one (ds_set (i := 3) sc_law_bag.nd (de_callB cd_abs T.z_abs (da_cons (dv 2) da_nil)))) dss_nil)
    (dss_cons (ds_set (i := 4) sc_law_bag.nd (de_tup (da_cons de_int (da_cons de_int (da_cons de_int (da_cons de_int (da_cons de_int (da_cons de_int (da_cons de_int (da_cons de_int da_nil))))))))))
    (dss_one (ds_ret (de_lstM (da_cons (dv 3) (da_cons (de_op oa_mod (de_op oa_pow (de_op oa_add (de_op oa_add (de_op oa_mod (dv 2) de_int) (de_op oa_mul de_int (dv 1))) de_int) de_int) (de_ix (dv 4) (de_op oa_mod (dv 1) de_int))) da_nil))))))))))) (fun ws S Q E h => len_law_bag h) (hd_law_bag)
end
/-! ### _law_any -/
abbrev s_law_any : Stmt := topS 45
abbrev N_law_any : List Str := ["_law_bag_here", "_law_some"]
theorem sc_law_any : FnScope N_law_any ["_law_bag_here"] (defScope s_law_any) := ⟨rfl, rfl, rfl, by decide +kernel, rfl, by decide +kernel, by decide +kernel⟩
theorem st_law_any {x0 : W} : startW N_law_any [x0] = [some x0, none] := rfl
def td_law_any : DS' :=
    (dSeq (dSet 1 (dLst (dCons (dC .non) (dCons (dC (.bl true)) (dCons (dC (.bl false)) (dCons (dC (.int 0)) (dCons (dC (.int 1)) (dCons (dUn dNeg (dC (.int 1))) (dCons (dC (.int 2)) (dCons (dC (.int 59)) (dCons (dC (.int 60)) (dCons (dOp dPow (dC (.int 10)) (dC (.int 59))) (dCons (dC (.str "")) (dCons (dC (.str "a")) (dCons (dC (.str "A")) (dCons (dC (.str "abcdefghi")) (dCons (dLst dNil) (dCons (dTup dNil) (dCons (dLst (dCons (dC (.int 0)) dNil)) (dCons (dTup (dCons (dC (.int 0)) dNil)) (dCons (dTup (dCons (dLst dNil) dNil)) dNil)))))))))))))))))))))
    (dRet (dOp dIx (dVar 1) (dCall sp_law_take (dCons (dVar 0) (dCons (dC (.int 19)) dNil))))))
def sp_law_any : DSp := fun ws S Q _ => ∃ (b : Addr), ws = [.ref b] ∧ Bg S b ∧ ∀ x, Tk 1 2 x → aft S b (Q x)
theorem len_law_any {ws S Q E} (h : sp_law_any ws S Q E) : ws.length = 1 := by obtain ⟨b, rfl, _⟩ := h; rfl
theorem hd_law_any (ws S Q E) (h : sp_law_any ws S Q E) : td_law_any { nx := fun _ S' => frzQ Q .non S', rt := frzQ Q } ⟨startW N_law_any ws, XF⟩ S := by
  obtain ⟨b, rfl, hb, q⟩ := h
  simp only [st_law_any, td_law_any]
  refine seq_go (set_go (.lst [.non, .bl true, .bl false, .int 0, .int 1, .int (-1), .int 2, .int 59, .int 60, .int (10 ^ Int.toNat 59), .str "", .str "a", .str "A", .str "abcdefghi", .lst [], .tup [], .lst [.int 0], .tup [.int 0], .tup [.lst []]]) S (fun Q h => ?_) ?_)
  · (simp only [↓dFgt, ↓dVar, ↓dC, ↓dOp, ↓dUn, ↓dI, ↓dI0, ↓dSub, ↓dMul, ↓dDiv, ↓dMod, ↓dPow, ↓dAdd, ↓dNeg, ↓dEq, ↓dNe, ↓dLt, ↓dLe, ↓dGt, ↓dGe, ↓dIsN, ↓dNotN, ↓dTru, ↓dTest, ↓dChain, ↓dAnd, ↓dOr, ↓dNot, ↓dAndV, ↓dOrV, ↓dNotV, ↓dIf, ↓dNil, ↓dCons, ↓dTup, ↓dLst, ↓dLstM, ↓dCB, ↓dLen, ↓dAbs, ↓dMax2, ↓dMin2, ↓dAll, ↓dAny, ↓dListOf, ↓dListOfM, ↓dTupOf, ↓dNext, ↓dSeq, ↓dDrop, ↓dRet, ↓dRetN, ↓dIfS, ↓dBrk, ↓dCnt, ↓dSet, ↓dAsgT, ↓dPar2, ↓tbind, ↓tbinds, ↓Om.set, ↓dCall, ↓dIx, ↓dNo, ↓dPart, ↓dSl, ↓dSlr, ↓dBM, ↓dApp, ↓dExt, ↓dSetIx, ↓dIs, ↓dMinS, ↓dMaxS, ↓dJoin, ↓dFrz, ↓dPut, ↓dFld, ↓dSetF, ↓dInt, ↓dIsLT, ↓dRng1, ↓dRng2, ↓dEnum, ↓dZip, ↓dSeqI, view_c_non, view_c_bl, view_c_int, view_c_str, view_c_tup, view_c_lst, view_c_scr, view_c_dct, view_c_ins, ↓startW, ↓wp, ↓wps, ↓dInKD, ↓dNotInKD, ↓dIxKD, ↓dIn, ↓dNotIn, ↓dDg, List.getElem?_cons_zero, List.getElem?_cons_succ, List.set_cons_zero, List.set_cons_succ, List.map_cons, List.map_nil, List.length_cons, List.length_nil, List.replicate_succ, List.replicate_zero, List.nil_append, List.cons_append, Bool.not_true, Bool.not_false, if_true, wkey_int, wkey_str, atI_0, atI_1, atI_2, atI_3, up_same, if_false, Bool.false_eq_true, Bool.true_eq_false, tru_non, isLT_non, isi_int_non, isi_bool_non, isi_str_non, isi_tup_non, isi_lst_non, tru_bl, isLT_bl, isi_int_bl, isi_bool_bl, isi_str_bl, isi_tup_bl, isi_lst_bl, tru_int, isLT_int, isi_int_int, isi_bool_int, isi_str_int, isi_tup_int, isi_lst_int, tru_str, isLT_str, isi_int_str, isi_bool_str, isi_str_str, isi_tup_str, isi_lst_str, tru_tup, isLT_tup, isi_int_tup, isi_bool_tup, isi_str_tup, isi_tup_tup, isi_lst_tup, tru_lst, isLT_lst, isi_int_lst, isi_bool_lst, isi_str_lst, isi_tup_lst, isi_lst_lst, isL_lst, seqW_lst, seqW_tup, seqW_str, seqW_scr, sq2_lst, sq2_tup, inW_sign])
    refine ⟨⟨by decide, by decide, by decide⟩, by decide, by decide, by decide, by decide, by decide, by decide, by decide, ?_⟩
    exact h
  (((try unfold dNext); dsimp only))
  refine ret_go (op_go (var_go rfl ?_))
  (simp only [↓dFgt, ↓dVar, ↓dC, ↓dOp, ↓dUn, ↓dI, ↓dI0, ↓dSub, ↓dMul, ↓dDiv, ↓dMod, ↓dPow, ↓dAdd, ↓dNeg, ↓dEq, ↓dNe, ↓dLt, ↓dLe, ↓dGt, ↓dGe, ↓dIsN, ↓dNotN, ↓dTru, ↓dTest, ↓dChain, ↓dAnd, ↓dOr, ↓dNot, ↓dAndV, ↓dOrV, ↓dNotV, ↓dIf, ↓dNil, ↓dCons, ↓dTup, ↓dLst, ↓dLstM, ↓dCB, ↓dLen, ↓dAbs, ↓dMax2, ↓dMin2, ↓dAll, ↓dAny, ↓dListOf, ↓dListOfM, ↓dTupOf, ↓dNext, ↓dSeq, ↓dDrop, ↓dRet, ↓dRetN, ↓dIfS, ↓dBrk, ↓dCnt, ↓dSet, ↓dAsgT, ↓dPar2, ↓tbind, ↓tbinds, ↓Om.set, ↓dCall, ↓dIx, ↓dNo, ↓dPart, ↓dSl, ↓dSlr, ↓dBM, ↓dApp, ↓dExt, ↓dSetIx, ↓dIs, ↓dMinS, ↓dMaxS, ↓dJoin, ↓dFrz, ↓dPut, ↓dFld, ↓dSetF, ↓dInt, ↓dIsLT, ↓dRng1, ↓dRng2, ↓dEnum, ↓dZip, ↓dSeqI, view_c_non, view_c_bl, view_c_int, view_c_str, view_c_tup, view_c_lst, view_c_scr, view_c_dct, view_c_ins, ↓startW, ↓wp, ↓wps, ↓dInKD, ↓dNotInKD, ↓dIxKD, ↓dIn, ↓dNotIn, ↓dDg, List.getElem?_cons_zero, List.getElem?_cons_succ, List.set_cons_zero, List.set_cons_succ, List.map_cons, List.map_nil, List.length_cons, List.length_nil, List.replicate_succ, List.replicate_zero, List.nil_append, List.cons_append, Bool.not_true, Bool.not_false, if_true, wkey_int, wkey_str, atI_0, atI_1, atI_2, atI_3, up_same, if_false, Bool.false_eq_true, Bool.true_eq_false, tru_non, isLT_non, isi_int_non, isi_bool_non, isi_str_non, isi_tup_non, isi_lst_non, tru_bl, isLT_bl, isi_int_bl, isi_bool_bl, isi_str_bl, isi_tup_bl, isi_lst_bl, tru_int, isLT_int, isi_int_int, isi_bool_int, isi_str_int, isi_tup_int, isi_lst_int, tru_str, isLT_str, isi_int_str, isi_bool_str, isi_str_str, isi_tup_str, isi_lst_str, tru_tup, isLT_tup, isi_int_tup, isi_bool_tup, isi_str_tup, isi_tup_tup, isi_lst_tup, tru_lst, isLT_lst, isi_int_lst, isi_bool_lst, isi_str_lst, isi_tup_lst, isi_lst_lst, isL_lst, seqW_lst, seqW_tup, seqW_str, seqW_scr, sq2_lst, sq2_tup, inW_sign])
  refine ⟨b, 19, rfl, hb, by decide, by decide, fun r r0 r1 g s ok => ?_⟩
  obtain ⟨w, hw, hat⟩ := atI_pick (xs := [W.non, .bl true, .bl false, .int 0, .int 1, .int (-1), .int 2, .int 59, .int 60, .int (10 ^ Int.toNat 59), .str "", .str "a", .str "A", .str "abcdefghi", .lst [], .tup [], .lst [.int 0], .tup [.int 0], .tup [.lst []]]) r0 r1
  simp only [hat]
  have hw2 : Tk 1 2 w := by
    simp only [List.mem_cons, List.not_mem_nil, or_false] at hw
    rcases hw with rfl | rfl | rfl | rfl | rfl | rfl | rfl | rfl | rfl | rfl | rfl | rfl | rfl | rfl | rfl | rfl | rfl | rfl | rfl
    all_goals first
      | exact trivial
      | exact ⟨by decide, fun y hy => absurd hy List.not_mem_nil⟩
      | exact ⟨by decide, fun y hy => by rw [List.mem_singleton.mp hy]; exact trivial⟩
      | exact ⟨by decide, fun y hy => by rw [List.mem_singleton.mp hy]; exact ⟨by decide, fun y hy => absurd hy List.not_mem_nil⟩⟩
  exact frzQ.mk (q w hw2 g s ok)
section
variable {P : Program} {w : World} {K : PySem.W.Frag} {mg : Str → Option Value} {base : Heap} {c_Ground : Addr}
theorem ok_law_any {f : Addr} {fd : FuncData} (F : Fun K "_law_any" "_law_any" s_law_any f fd) (T : Txt K w mg c_Ground) (C_law_take : CalD P w K mg base 1 "_law_take" sp_law_take) : FnOk P w K mg base CX0 2 f fd ["_law_bag_here"] (uSp K (sp_law_any)) :=
  Fun.okF F sc_law_any (td_law_any) (fun cdv A outer s H E hr =>
    (dss_cons (ds_set (i := 1) sc_law_any.nd (de_lst (da_cons de_non (da_cons de_bl (da_cons de_bl (da_cons de_int (da_cons de_int (da_cons (de_neg de_int) (da_cons de_int (da_cons de_int (da_cons de_int (da_cons (de_op oa_pow de_int de_int) (da_cons de_str (da_cons de_str (da_cons de_str (da_cons de_str (da_cons (de_lst da_nil) (da_cons (de_tup da_nil) (da_cons (de_lst (da_cons de_int da_nil)) (da_cons (de_tup (da_cons de_int da_nil)) (da_cons (de_tup (da_cons (de_lst da_nil) da_nil)) da_nil)))))))))))))))))))))
    (dss_one (ds_ret (de_ix (dv 1) (de_call C_law_take hr (da_cons (dv 0) (da_cons de_int da_nil)))))))) (fun ws S Q E h => len_law_any h) (hd_law_any)
end
end DL

set_option Elab.async false
set_option linter.all false
set_option maxRecDepth 100000
set_option maxHeartbeats 4000000
namespace DL
open PySem PySem.Spec PyProof.Rows L2
/-! ### names: a letter of its own ahead or behind -/
def nmF (f sh k : Nat) (x : Str) : Prop := isName (.str x) = true ∧ (f = 0 → x.cps.toList.head? = some (97 + (sh + 7 * k) % 26)) ∧ (f ≠ 0 → x.cps.toList.getLast? = some (97 + (sh + 7 * k) % 26))
structure NsF (f sh n : Nat) (ns : List Str) : Prop where
  len : ns.length = n
  ok : ∀ i x, ns[i]? = some x → nmF f sh i x
structure NsOk (n : Nat) (ns : List Str) : Prop where
  len : ns.length = n
  ok : ∀ x ∈ ns, isName (.str x) = true
  nd : ns.Nodup
theorem NsF.nil {f sh : Nat} : NsF f sh 0 [] := ⟨rfl, fun i x h => by simp at h⟩
theorem NsF.snoc {f sh n : Nat} {ns : List Str} {x : Str} (h : NsF f sh n ns) (hx : nmF f sh n x) : NsF f sh (n + 1) (ns ++ [x]) := by
  refine ⟨by rw [List.length_append, h.len]; rfl, fun i y hy => ?_⟩
  by_cases c : i < ns.length
  · rw [List.getElem?_append_left c] at hy; exact h.ok i y hy
  · rw [List.getElem?_append_right (by omega)] at hy
    have h0 : i - ns.length = 0 := by
      have := (List.getElem?_eq_some_iff.mp hy).1
      simp at this
      omega
    rw [h0] at hy
    simp at hy
    subst hy
    have : i = n := by have := h.len; omega
    rw [this]; exact hx
theorem NsF.ok' {f sh n : Nat} {ns : List Str} (h : NsF f sh n ns) (hn : n ≤ 26) : NsOk n ns := by
  refine ⟨h.len, fun x hx => ?_, ?_⟩
  · obtain ⟨i, hi⟩ := List.getElem?_of_mem hx
    exact (h.ok i x hi).1
  · unfold List.Nodup
    rw [List.pairwise_iff_getElem]
    intro i j hi hj hij e
    have h1 := h.ok i ns[i] (List.getElem?_eq_getElem hi)
    have h2 := h.ok j ns[i] (by rw [e]; exact List.getElem?_eq_getElem hj)
    have hl := h.len
    have key : 97 + (sh + 7 * i) % 26 = 97 + (sh + 7 * j) % 26 := by
      by_cases c : f = 0
      · exact Option.some.inj ((h1.2.1 c).symm.trans (h2.2.1 c))
      · exact Option.some.inj ((h1.2.2 c).symm.trans (h2.2.2 c))
    omega
/-! ### _law_names -/
abbrev s_law_names : Stmt := topS 46
abbrev N_law_names : List Str := ["_law_bag_here", "_law_many_here", "_law_letters", "_law_first", "_law_shift", "_law_found", "_law_k", "_law_stem", "_law_own", "_law_step"]
theorem sc_law_names : FnScope N_law_names ["_law_bag_here", "_law_many_here"] (defScope s_law_names) := ⟨rfl, rfl, rfl, by decide +kernel, rfl, by decide +kernel, by decide +kernel⟩
theorem st_law_names {x0 x1 : W} : startW N_law_names [x0, x1] = [some x0, some x1, none, none, none, none, none, none, none, none] := rfl
def td_law_names : DS' :=
    (dSeq (dSet 2 (dC (.str "abcdefghijklmnopqrstuvwxyz")))
    (dSeq (dPar2 3 4 (dCons (dCall sp_law_take (dCons (dVar 0) (dCons (dC (.int 2)) dNil))) (dCons (dCall sp_law_take (dCons (dVar 0) (dCons (dC (.int 26)) dNil))) dNil)))
    (dSeq (dSet 5 (dLstM dNil))
    (dSeq (dFor (dRng1 (dCons (dVar 1) dNil)) (.nm 6)
      (dSeq (dSet 7 (dJoin (dC (.str "")) (dLc (dRng1 (dCons (dOp dIx (dTup (dCons (dC (.int 0)) (dCons (dC (.int 1)) (dCons (dC (.int 2)) (dCons (dC (.int 7)) dNil))))) (dCall sp_law_take (dCons (dVar 0) (dCons (dC (.int 4)) dNil)))) dNil)) (.nm 9) dYes (dOp dIx (dVar 2) (dCall sp_law_take (dCons (dVar 0) (dCons (dC (.int 26)) dNil)))) [9])))
      (dSeq (dSet 8 (dOp dIx (dVar 2) (dOp dMod (dOp dAdd (dVar 4) (dOp dMul (dC (.int 7)) (dVar 6))) (dC (.int 26)))))
      (dDrop (dBM dApp (dVar 5) (dCons (dIf (dTest (dOp dEq (dVar 3) (dC (.int 0)))) (dOp dAdd (dVar 8) (dVar 7)) (dOp dAdd (dVar 7) (dVar 8))) dNil))))))
    (dRet (dVar 5))))))
def sp_law_names : DSp := fun ws S Q _ => ∃ (b : Addr) (n : Int), ws = [.ref b, .int n] ∧ Bg S b ∧ 0 ≤ n ∧ n ≤ 26 ∧ ∀ ns, NsOk n.toNat ns → aft S b (Q (.lst (ns.map W.str)))
theorem len_law_names {ws S Q E} (h : sp_law_names ws S Q E) : ws.length = 2 := by obtain ⟨b, n, rfl, _⟩ := h; rfl
theorem hd_law_names (ws S Q E) (h : sp_law_names ws S Q E) : td_law_names { nx := fun _ S' => frzQ Q .non S', rt := frzQ Q } ⟨startW N_law_names ws, XF⟩ S := by
  obtain ⟨b, n, rfl, hb, n0, n1, q⟩ := h
  simp only [st_law_names, td_law_names]
  refine seq_go (set_go (.str letters) S (fun _ h => h) ?_)
  (((try unfold dNext); dsimp only; refine seq_go ?_))
  refine par_go (fun w u S1 => ∃ (f sh : Nat) (g s : Int), w = .int (f : Nat) ∧ u = .int (sh : Nat) ∧ sh < 26 ∧ BagOk g s ∧ S1 = up S b (bagO g s)) (fun Q h => ?_) ?_
  · (simp only [↓dFgt, ↓dVar, ↓dC, ↓dOp, ↓dUn, ↓dI, ↓dI0, ↓dSub, ↓dMul, ↓dDiv, ↓dMod, ↓dPow, ↓dAdd, ↓dNeg, ↓dEq, ↓dNe, ↓dLt, ↓dLe, ↓dGt, ↓dGe, ↓dIsN, ↓dNotN, ↓dTru, ↓dTest, ↓dChain, ↓dAnd, ↓dOr, ↓dNot, ↓dAndV, ↓dOrV, ↓dNotV, ↓dIf, ↓dNil, ↓dCons, ↓dTup, ↓dLst, ↓dLstM, ↓dCB, ↓dLen, ↓dAbs, ↓dMax2, ↓dMin2, ↓dAll, ↓dAny, ↓dListOf, ↓dListOfM, ↓dTupOf, ↓dNext, ↓dSeq, ↓dDrop, ↓dRet, ↓dRetN, ↓dIfS, ↓dBrk, ↓dCnt, ↓dSet, ↓dAsgT, ↓dPar2, ↓tbind, ↓tbinds, ↓Om.set, ↓dCall, ↓dIx, ↓dNo, ↓dPart, ↓dSl, ↓dSlr, ↓dBM, ↓dApp, ↓dExt, ↓dSetIx, ↓dIs, ↓dMinS, ↓dMaxS, ↓dJoin, ↓dFrz, ↓dPut, ↓dFld, ↓dSetF, ↓dInt, ↓dIsLT, ↓dRng1, ↓dRng2, ↓dEnum, ↓dZip, ↓dSeqI, view_c_non, view_c_bl, view_c_int, view_c_str, view_c_tup, view_c_lst, view_c_scr, view_c_dct, view_c_ins, ↓startW, ↓wp, ↓wps, ↓dInKD, ↓dNotInKD, ↓dIxKD, ↓dIn, ↓dNotIn, ↓dDg, List.getElem?_cons_zero, List.getElem?_cons_succ, List.set_cons_zero, List.set_cons_succ, List.map_cons, List.map_nil, List.length_cons, List.length_nil, List.replicate_succ, List.replicate_zero, List.nil_append, List.cons_append, Bool.not_true, Bool.not_false, if_true, wkey_int, wkey_str, atI_0, atI_1, atI_2, atI_3, up_same, if_false, Bool.false_eq_true, Bool.true_eq_false, tru_non, isLT_non, isi_int_non, isi_bool_non, isi_str_non, isi_tup_non, isi_lst_non, tru_bl, isLT_bl, isi_int_bl, isi_bool_bl, isi_str_bl, isi_tup_bl, isi_lst_bl, tru_int, isLT_int, isi_int_int, isi_bool_int, isi_str_int, isi_tup_int, isi_lst_int, tru_str, isLT_str, isi_int_str, isi_bool_str, isi_str_str, isi_tup_str, isi_lst_str, tru_tup, isLT_tup, isi_int_tup, isi_bool_tup, isi_str_tup, isi_tup_tup, isi_lst_tup, tru_lst, isLT_lst, isi_int_lst, isi_bool_lst, isi_str_lst, isi_tup_lst, isi_lst_lst, isL_lst, seqW_lst, seqW_tup, seqW_str, seqW_scr, sq2_lst, sq2_tup, inW_sign])
    refine ⟨b, 2, rfl, hb, by decide, by decide, fun r r0 r1 g s ok => ?_⟩
    refine ⟨b, 26, rfl, Bg.up ok, by decide, by decide, fun t t0 t1 g s ok => ?_⟩
    rw [up_up]
    exact h _ _ _ ⟨r.toNat, t.toNat, g, s, by rw [Int.toNat_of_nonneg r0], by rw [Int.toNat_of_nonneg t0], by omega, ok, rfl⟩
  rintro _ _ _ ⟨f, sh, g0, s0, rfl, rfl, hsh, ok0, rfl⟩
  (((try unfold dNext); dsimp only; refine seq_go ?_))
  refine setN_go (fun w S1 => ∃ p, w = .ref p ∧ p ≠ b ∧ S p = none ∧ S1 = up (up S p (.lst [])) b (bagO g0 s0)) (fun Q h => ?_) ?_
  · (simp only [↓dFgt, ↓dVar, ↓dC, ↓dOp, ↓dUn, ↓dI, ↓dI0, ↓dSub, ↓dMul, ↓dDiv, ↓dMod, ↓dPow, ↓dAdd, ↓dNeg, ↓dEq, ↓dNe, ↓dLt, ↓dLe, ↓dGt, ↓dGe, ↓dIsN, ↓dNotN, ↓dTru, ↓dTest, ↓dChain, ↓dAnd, ↓dOr, ↓dNot, ↓dAndV, ↓dOrV, ↓dNotV, ↓dIf, ↓dNil, ↓dCons, ↓dTup, ↓dLst, ↓dLstM, ↓dCB, ↓dLen, ↓dAbs, ↓dMax2, ↓dMin2, ↓dAll, ↓dAny, ↓dListOf, ↓dListOfM, ↓dTupOf, ↓dNext, ↓dSeq, ↓dDrop, ↓dRet, ↓dRetN, ↓dIfS, ↓dBrk, ↓dCnt, ↓dSet, ↓dAsgT, ↓dPar2, ↓tbind, ↓tbinds, ↓Om.set, ↓dCall, ↓dIx, ↓dNo, ↓dPart, ↓dSl, ↓dSlr, ↓dBM, ↓dApp, ↓dExt, ↓dSetIx, ↓dIs, ↓dMinS, ↓dMaxS, ↓dJoin, ↓dFrz, ↓dPut, ↓dFld, ↓dSetF, ↓dInt, ↓dIsLT, ↓dRng1, ↓dRng2, ↓dEnum, ↓dZip, ↓dSeqI, view_c_non, view_c_bl, view_c_int, view_c_str, view_c_tup, view_c_lst, view_c_scr, view_c_dct, view_c_ins, ↓startW, ↓wp, ↓wps, ↓dInKD, ↓dNotInKD, ↓dIxKD, ↓dIn, ↓dNotIn, ↓dDg, List.getElem?_cons_zero, List.getElem?_cons_succ, List.set_cons_zero, List.set_cons_succ, List.map_cons, List.map_nil, List.length_cons, List.length_nil, List.replicate_succ, List.replicate_zero, List.nil_append, List.cons_append, Bool.not_true, Bool.not_false, if_true, wkey_int, wkey_str, atI_0, atI_1, atI_2, atI_3, up_same, if_false, Bool.false_eq_true, Bool.true_eq_false, tru_non, isLT_non, isi_int_non, isi_bool_non, isi_str_non, isi_tup_non, isi_lst_non, tru_bl, isLT_bl, isi_int_bl, isi_bool_bl, isi_str_bl, isi_tup_bl, isi_lst_bl, tru_int, isLT_int, isi_int_int, isi_bool_int, isi_str_int, isi_tup_int, isi_lst_int, tru_str, isLT_str, isi_int_str, isi_bool_str, isi_str_str, isi_tup_str, isi_lst_str, tru_tup, isLT_tup, isi_int_tup, isi_bool_tup, isi_str_tup, isi_tup_tup, isi_lst_tup, tru_lst, isLT_lst, isi_int_lst, isi_bool_lst, isi_str_lst, isi_tup_lst, isi_lst_lst, isL_lst, seqW_lst, seqW_tup, seqW_str, seqW_scr, sq2_lst, sq2_tup, inW_sign])
    refine ⟨by decide, fun p hp => ?_⟩
    have hpb : p ≠ b := fun e => by subst e; rw [up_same] at hp; cases hp
    exact h _ _ ⟨p, rfl, hpb, by rw [up_ne hpb] at hp; exact hp, up_comm (Ne.symm hpb)⟩
  rintro _ _ ⟨p, rfl, hpb, hpS, rfl⟩
  (((try unfold dNext); dsimp only; refine seq_go ?_))
  refine forR (n := n) (fun _ h => h) ⟨by omega, by omega⟩ (fun i ω' S' => (∃ y6 y7 y8, ω' = ⟨[some (.ref b), some (.int n), some (.str letters), some (.int (f : Nat)), some (.int (sh : Nat)), some (.ref p), y6, y7, y8, none], XF⟩) ∧ ∃ ns g s, NsF f sh i ns ∧ BagOk g s ∧ S' = up (up S p (.lst (ns.map W.str))) b (bagO g s)) ⟨⟨_, _, _, rfl⟩, [], g0, s0, NsF.nil, ok0, rfl⟩ ?_ ?_
  · rintro i ω' S' hi ⟨⟨y6, y7, y8, rfl⟩, ns, g, s, hns, hgs, rfl⟩
    refine ⟨_, rfl, ?_⟩
    refine seq_go ?_
    refine setN_go (fun w S1 => ∃ x g s, w = .str x ∧ x.cps.toList.all az = true ∧ x.cps.toList.length ≤ 7 ∧ BagOk g s ∧ S1 = up (up S p (.lst (ns.map W.str))) b (bagO g s)) (fun Q h => ?_) ?_
    · refine join_go (fun cs S2 => cs.all az = true ∧ cs.length ≤ 7 ∧ ∃ g s, BagOk g s ∧ S2 = up (up S p (.lst (ns.map W.str))) b (bagO g s)) (fun Q h => ?_) (fun cs S2 hc => by have := hc.2.1; omega) (fun cs S2 hc x hx => ?_)
      · refine lcBrN (fun z S1 => 0 ≤ z ∧ z ≤ 7 ∧ ∃ g s, BagOk g s ∧ S1 = up (up S p (.lst (ns.map W.str))) b (bagO g s)) (fun Q' h => ?_) ?_
        · (simp only [↓dFgt, ↓dVar, ↓dC, ↓dOp, ↓dUn, ↓dI, ↓dI0, ↓dSub, ↓dMul, ↓dDiv, ↓dMod, ↓dPow, ↓dAdd, ↓dNeg, ↓dEq, ↓dNe, ↓dLt, ↓dLe, ↓dGt, ↓dGe, ↓dIsN, ↓dNotN, ↓dTru, ↓dTest, ↓dChain, ↓dAnd, ↓dOr, ↓dNot, ↓dAndV, ↓dOrV, ↓dNotV, ↓dIf, ↓dNil, ↓dCons, ↓dTup, ↓dLst, ↓dLstM, ↓dCB, ↓dLen, ↓dAbs, ↓dMax2, ↓dMin2, ↓dAll, ↓dAny, ↓dListOf, ↓dListOfM, ↓dTupOf, ↓dNext, ↓dSeq, ↓dDrop, ↓dRet, ↓dRetN, ↓dIfS, ↓dBrk, ↓dCnt, ↓dSet, ↓dAsgT, ↓dPar2, ↓tbind, ↓tbinds, ↓Om.set, ↓dCall, ↓dIx, ↓dNo, ↓dPart, ↓dSl, ↓dSlr, ↓dBM, ↓dApp, ↓dExt, ↓dSetIx, ↓dIs, ↓dMinS, ↓dMaxS, ↓dJoin, ↓dFrz, ↓dPut, ↓dFld, ↓dSetF, ↓dInt, ↓dIsLT, ↓dRng1, ↓dRng2, ↓dEnum, ↓dZip, ↓dSeqI, view_c_non, view_c_bl, view_c_int, view_c_str, view_c_tup, view_c_lst, view_c_scr, view_c_dct, view_c_ins, ↓startW, ↓wp, ↓wps, ↓dInKD, ↓dNotInKD, ↓dIxKD, ↓dIn, ↓dNotIn, ↓dDg, List.getElem?_cons_zero, List.getElem?_cons_succ, List.set_cons_zero, List.set_cons_succ, List.map_cons, List.map_nil, List.length_cons, List.length_nil, List.replicate_succ, List.replicate_zero, List.nil_append, List.cons_append, Bool.not_true, Bool.not_false, if_true, wkey_int, wkey_str, atI_0, atI_1, atI_2, atI_3, up_same, if_false, Bool.false_eq_true, Bool.true_eq_false, tru_non, isLT_non, isi_int_non, isi_bool_non, isi_str_non, isi_tup_non, isi_lst_non, tru_bl, isLT_bl, isi_int_bl, isi_bool_bl, isi_str_bl, isi_tup_bl, isi_lst_bl, tru_int, isLT_int, isi_int_int, isi_bool_int, isi_str_int, isi_tup_int, isi_lst_int, tru_str, isLT_str, isi_int_str, isi_bool_str, isi_str_str, isi_tup_str, isi_lst_str, tru_tup, isLT_tup, isi_int_tup, isi_bool_tup, isi_str_tup, isi_tup_tup, isi_lst_tup, tru_lst, isLT_lst, isi_int_lst, isi_bool_lst, isi_str_lst, isi_tup_lst, isi_lst_lst, isL_lst, seqW_lst, seqW_tup, seqW_str, seqW_scr, sq2_lst, sq2_tup, inW_sign])
          refine ⟨by decide, b, 4, rfl, Bg.up hgs, by decide, by decide, fun r r0 r1 g s ok => ?_⟩
          rw [up_up]
          obtain ⟨w, hw, hat⟩ := atI_pick (xs := [W.int 0, .int 1, .int 2, .int 7]) r0 r1
          simp only [hat]
          simp only [List.mem_cons, List.not_mem_nil, or_false] at hw
          rcases hw with rfl | rfl | rfl | rfl <;> exact h _ _ ⟨by decide, by decide, g, s, ok, rfl⟩
        · rintro z S1 ⟨z0, z7, g, s, ok, rfl⟩
          refine lcBr (b := b) (n := z) (fun _ h => h) z0 (by omega) (Bg.up ok) (fun _ v => ∃ c, v = W.str ⟨#[c]⟩ ∧ az c = true) (fun j hj => ⟨_, rfl, fun S' hB Qe hv => ?_⟩) (fun vs hl hG g' s' ok' => ?_)
          · (simp only [↓dFgt, ↓dVar, ↓dC, ↓dOp, ↓dUn, ↓dI, ↓dI0, ↓dSub, ↓dMul, ↓dDiv, ↓dMod, ↓dPow, ↓dAdd, ↓dNeg, ↓dEq, ↓dNe, ↓dLt, ↓dLe, ↓dGt, ↓dGe, ↓dIsN, ↓dNotN, ↓dTru, ↓dTest, ↓dChain, ↓dAnd, ↓dOr, ↓dNot, ↓dAndV, ↓dOrV, ↓dNotV, ↓dIf, ↓dNil, ↓dCons, ↓dTup, ↓dLst, ↓dLstM, ↓dCB, ↓dLen, ↓dAbs, ↓dMax2, ↓dMin2, ↓dAll, ↓dAny, ↓dListOf, ↓dListOfM, ↓dTupOf, ↓dNext, ↓dSeq, ↓dDrop, ↓dRet, ↓dRetN, ↓dIfS, ↓dBrk, ↓dCnt, ↓dSet, ↓dAsgT, ↓dPar2, ↓tbind, ↓tbinds, ↓Om.set, ↓dCall, ↓dIx, ↓dNo, ↓dPart, ↓dSl, ↓dSlr, ↓dBM, ↓dApp, ↓dExt, ↓dSetIx, ↓dIs, ↓dMinS, ↓dMaxS, ↓dJoin, ↓dFrz, ↓dPut, ↓dFld, ↓dSetF, ↓dInt, ↓dIsLT, ↓dRng1, ↓dRng2, ↓dEnum, ↓dZip, ↓dSeqI, view_c_non, view_c_bl, view_c_int, view_c_str, view_c_tup, view_c_lst, view_c_scr, view_c_dct, view_c_ins, ↓startW, ↓wp, ↓wps, ↓dInKD, ↓dNotInKD, ↓dIxKD, ↓dIn, ↓dNotIn, ↓dDg, List.getElem?_cons_zero, List.getElem?_cons_succ, List.set_cons_zero, List.set_cons_succ, List.map_cons, List.map_nil, List.length_cons, List.length_nil, List.replicate_succ, List.replicate_zero, List.nil_append, List.cons_append, Bool.not_true, Bool.not_false, if_true, wkey_int, wkey_str, atI_0, atI_1, atI_2, atI_3, up_same, if_false, Bool.false_eq_true, Bool.true_eq_false, tru_non, isLT_non, isi_int_non, isi_bool_non, isi_str_non, isi_tup_non, isi_lst_non, tru_bl, isLT_bl, isi_int_bl, isi_bool_bl, isi_str_bl, isi_tup_bl, isi_lst_bl, tru_int, isLT_int, isi_int_int, isi_bool_int, isi_str_int, isi_tup_int, isi_lst_int, tru_str, isLT_str, isi_int_str, isi_bool_str, isi_str_str, isi_tup_str, isi_lst_str, tru_tup, isLT_tup, isi_int_tup, isi_bool_tup, isi_str_tup, isi_tup_tup, isi_lst_tup, tru_lst, isLT_lst, isi_int_lst, isi_bool_lst, isi_str_lst, isi_tup_lst, isi_lst_lst, isL_lst, seqW_lst, seqW_tup, seqW_str, seqW_scr, sq2_lst, sq2_tup, inW_sign])
            refine ⟨b, 26, rfl, hB, by decide, by decide, fun r r0 r1 g s ok => ?_⟩
            have e : L2.atI (Str.ofString "abcdefghijklmnopqrstuvwxyz").cps.toList r = some (97 + r.toNat) := letter_at r0 r1
            simp only [e]
            refine hv _ ⟨_, rfl, ?_⟩ g s ok
            unfold az
            rw [decide_eq_true (by omega), decide_eq_true (by omega)]; rfl
          · obtain ⟨cs, rfl, hz⟩ := signs_of hG
            rw [List.length_map] at hl
            rw [up_up]
            exact h cs _ ⟨hz, by omega, g', s', ok', rfl⟩
      · obtain ⟨h1, h2, g, s, ok, rfl⟩ := hc
        exact h _ _ ⟨x, g, s, rfl, by rw [hx]; exact h1, by rw [hx]; exact h2, ok, rfl⟩
    rintro _ _ ⟨x, g, s, rfl, hz, hl7, ok, rfl⟩
    (((try unfold dNext); dsimp only; refine seq_go ?_))
    have hlet : L2.atI letters.cps.toList (((sh : Int) + 7 * (i : Int)) % 26) = some (97 + (sh + 7 * i) % 26) := by
      rw [letter_at (by omega) (by omega), show (((sh : Int) + 7 * (i : Int)) % 26).toNat = (sh + 7 * i) % 26 by omega]
    refine set_go (.str ⟨#[97 + (sh + 7 * i) % 26]⟩) (up (up S p (.lst (ns.map W.str))) b (bagO g s)) (fun Q h => ?_) ?_
    · (simp only [↓dFgt, ↓dVar, ↓dC, ↓dOp, ↓dUn, ↓dI, ↓dI0, ↓dSub, ↓dMul, ↓dDiv, ↓dMod, ↓dPow, ↓dAdd, ↓dNeg, ↓dEq, ↓dNe, ↓dLt, ↓dLe, ↓dGt, ↓dGe, ↓dIsN, ↓dNotN, ↓dTru, ↓dTest, ↓dChain, ↓dAnd, ↓dOr, ↓dNot, ↓dAndV, ↓dOrV, ↓dNotV, ↓dIf, ↓dNil, ↓dCons, ↓dTup, ↓dLst, ↓dLstM, ↓dCB, ↓dLen, ↓dAbs, ↓dMax2, ↓dMin2, ↓dAll, ↓dAny, ↓dListOf, ↓dListOfM, ↓dTupOf, ↓dNext, ↓dSeq, ↓dDrop, ↓dRet, ↓dRetN, ↓dIfS, ↓dBrk, ↓dCnt, ↓dSet, ↓dAsgT, ↓dPar2, ↓tbind, ↓tbinds, ↓Om.set, ↓dCall, ↓dIx, ↓dNo, ↓dPart, ↓dSl, ↓dSlr, ↓dBM, ↓dApp, ↓dExt, ↓dSetIx, ↓dIs, ↓dMinS, ↓dMaxS, ↓dJoin, ↓dFrz, ↓dPut, ↓dFld, ↓dSetF, ↓dInt, ↓dIsLT, ↓dRng1, ↓dRng2, ↓dEnum, ↓dZip, ↓dSeqI, view_c_non, view_c_bl, view_c_int, view_c_str, view_c_tup, view_c_lst, view_c_scr, view_c_dct, view_c_ins, ↓startW, ↓wp, ↓wps, ↓dInKD, ↓dNotInKD, ↓dIxKD, ↓dIn, ↓dNotIn, ↓dDg, List.getElem?_cons_zero, List.getElem?_cons_succ, List.set_cons_zero, List.set_cons_succ, List.map_cons, List.map_nil, List.length_cons, List.length_nil, List.replicate_succ, List.replicate_zero, List.nil_append, List.cons_append, Bool.not_true, Bool.not_false, if_true, wkey_int, wkey_str, atI_0, atI_1, atI_2, atI_3, up_same, if_false, Bool.false_eq_true, Bool.true_eq_false, tru_non, isLT_non, isi_int_non, isi_bool_non, isi_str_non, isi_tup_non, isi_lst_non, tru_bl, isLT_bl, isi_int_bl, isi_bool_bl, isi_str_bl, isi_tup_bl, isi_lst_bl, tru_int, isLT_int, isi_int_int, isi_bool_int, isi_str_int, isi_tup_int, isi_lst_int, tru_str, isLT_str, isi_int_str, isi_bool_str, isi_str_str, isi_tup_str, isi_lst_str, tru_tup, isLT_tup, isi_int_tup, isi_bool_tup, isi_str_tup, isi_tup_tup, isi_lst_tup, tru_lst, isLT_lst, isi_int_lst, isi_bool_lst, isi_str_lst, isi_tup_lst, isi_lst_lst, isL_lst, seqW_lst, seqW_tup, seqW_str, seqW_scr, sq2_lst, sq2_tup, inW_sign])
      refine ⟨.inl ⟨by omega, by omega⟩, by decide, ?_⟩
      simp only [hlet]
      exact h
    have hSp : up (up S p (.lst (ns.map W.str))) b (bagO g s) p = some (.lst (ns.map W.str)) := by rw [up_ne hpb, up_same]
    have hnl := hns.len
    have azc : az (97 + (sh + 7 * i) % 26) = true := by unfold az; rw [decide_eq_true (by omega), decide_eq_true (by omega)]; rfl
    (((try unfold dNext); dsimp only))
    refine drop_go (bm_go (var_go rfl ⟨isL_ref hSp, ?_⟩))
    have hx1 : (⟨#[97 + (sh + 7 * i) % 26]⟩ : Str).length = 1 := rfl
    have hxl : x.length ≤ 7 := by rw [str_len]; exact hl7
    have fin : ∀ y : Str, nmF f sh i y → ∃ ns' g' s', NsF f sh (i + 1) ns' ∧ BagOk g' s' ∧ up (up (up S p (.lst (ns.map W.str))) b (bagO g s)) p (.lst (ns.map W.str ++ [W.str y])) = up (up S p (.lst (ns'.map W.str))) b (bagO g' s') := fun y hy => by
      refine ⟨ns ++ [y], g, s, hns.snoc hy, ok, ?_⟩
      rw [List.map_append, ← up_comm hpb, up_up]
      rfl
    have c1 : ((⟨#[97 + (sh + 7 * i) % 26]⟩ : Str) ++ x).cps.toList = (97 + (sh + 7 * i) % 26) :: x.cps.toList := by
      show (#[97 + (sh + 7 * i) % 26] ++ x.cps).toList = _
      rw [Array.toList_append]; rfl
    have c2 : (x ++ (⟨#[97 + (sh + 7 * i) % 26]⟩ : Str)).cps.toList = x.cps.toList ++ [97 + (sh + 7 * i) % 26] := by
      show (x.cps ++ #[97 + (sh + 7 * i) % 26]).toList = _
      rw [Array.toList_append]
    (simp only [↓dFgt, ↓dVar, ↓dC, ↓dOp, ↓dUn, ↓dI, ↓dI0, ↓dSub, ↓dMul, ↓dDiv, ↓dMod, ↓dPow, ↓dAdd, ↓dNeg, ↓dEq, ↓dNe, ↓dLt, ↓dLe, ↓dGt, ↓dGe, ↓dIsN, ↓dNotN, ↓dTru, ↓dTest, ↓dChain, ↓dAnd, ↓dOr, ↓dNot, ↓dAndV, ↓dOrV, ↓dNotV, ↓dIf, ↓dNil, ↓dCons, ↓dTup, ↓dLst, ↓dLstM, ↓dCB, ↓dLen, ↓dAbs, ↓dMax2, ↓dMin2, ↓dAll, ↓dAny, ↓dListOf, ↓dListOfM, ↓dTupOf, ↓dNext, ↓dSeq, ↓dDrop, ↓dRet, ↓dRetN, ↓dIfS, ↓dBrk, ↓dCnt, ↓dSet, ↓dAsgT, ↓dPar2, ↓tbind, ↓tbinds, ↓Om.set, ↓dCall, ↓dIx, ↓dNo, ↓dPart, ↓dSl, ↓dSlr, ↓dBM, ↓dApp, ↓dExt, ↓dSetIx, ↓dIs, ↓dMinS, ↓dMaxS, ↓dJoin, ↓dFrz, ↓dPut, ↓dFld, ↓dSetF, ↓dInt, ↓dIsLT, ↓dRng1, ↓dRng2, ↓dEnum, ↓dZip, ↓dSeqI, view_c_non, view_c_bl, view_c_int, view_c_str, view_c_tup, view_c_lst, view_c_scr, view_c_dct, view_c_ins, ↓startW, ↓wp, ↓wps, ↓dInKD, ↓dNotInKD, ↓dIxKD, ↓dIn, ↓dNotIn, ↓dDg, List.getElem?_cons_zero, List.getElem?_cons_succ, List.set_cons_zero, List.set_cons_succ, List.map_cons, List.map_nil, List.length_cons, List.length_nil, List.replicate_succ, List.replicate_zero, List.nil_append, List.cons_append, Bool.not_true, Bool.not_false, if_true, wkey_int, wkey_str, atI_0, atI_1, atI_2, atI_3, up_same, if_false, Bool.false_eq_true, Bool.true_eq_false, tru_non, isLT_non, isi_int_non, isi_bool_non, isi_str_non, isi_tup_non, isi_lst_non, tru_bl, isLT_bl, isi_int_bl, isi_bool_bl, isi_str_bl, isi_tup_bl, isi_lst_bl, tru_int, isLT_int, isi_int_int, isi_bool_int, isi_str_int, isi_tup_int, isi_lst_int, tru_str, isLT_str, isi_int_str, isi_bool_str, isi_str_str, isi_tup_str, isi_lst_str, tru_tup, isLT_tup, isi_int_tup, isi_bool_tup, isi_str_tup, isi_tup_tup, isi_lst_tup, tru_lst, isLT_lst, isi_int_lst, isi_bool_lst, isi_str_lst, isi_tup_lst, isi_lst_lst, isL_lst, seqW_lst, seqW_tup, seqW_str, seqW_scr, sq2_lst, sq2_tup, inW_sign])
    refine ⟨rfl, rfl, ?_⟩
    simp only [weq_int]
    refine bl_cases (fun e => ?_) (fun e => ?_)
    · have e0 : f = 0 := by have := of_decide_eq_true e; omega
      refine ⟨by rw [hx1]; omega, ?_⟩
      simp only [hSp]
      refine ⟨by rw [List.length_map]; omega, ⟨_, _, _, rfl⟩, fin _ ⟨nameOf c1 (by simp) (by rw [List.length_cons]; omega) (by rw [List.all_cons, azc, hz]; rfl), fun _ => by rw [c1]; rfl, fun h => absurd e0 h⟩⟩
    · have e0 : f ≠ 0 := by have := of_decide_eq_false e; omega
      refine ⟨by rw [hx1]; omega, ?_⟩
      simp only [hSp]
      refine ⟨by rw [List.length_map]; omega, ⟨_, _, _, rfl⟩, fin _ ⟨nameOf c2 (by simp) (by rw [List.length_append]; simp; omega) (by rw [List.all_append, hz, List.all_cons, azc]; rfl), fun h => absurd h e0, fun _ => by rw [c2]; simp⟩⟩
  · rintro ω' S' ⟨⟨y6, y7, y8, rfl⟩, ns, g, s, hns, hgs, rfl⟩
    (((try unfold dNext); dsimp only))
    refine ret_go (var_go rfl ?_)
    refine ⟨_, _, Frz.lst (xs := ns.map W.str) (by rw [up_ne hpb, up_same]), ?_⟩
    rw [del_up hpb, del_new hpS]
    exact q ns (hns.ok' (by omega)) g s hgs
section
variable {P : Program} {w : World} {K : PySem.W.Frag} {mg : Str → Option Value} {base : Heap} {c_Ground : Addr}
theorem ok_law_names {f : Addr} {fd : FuncData} (F : Fun K "_law_names" "_law_names" s_law_names f fd) (T : Txt K w mg c_Ground) (C_law_take : CalD P w K mg base 1 "_law_take" sp_law_take) : FnOk P w K mg base CX0 2 f fd ["_law_bag_here", "_law_many_here"] (uSp K (sp_law_names)) :=
  Fun.okF F sc_law_names (td_law_names) (fun cdv A outer s H E hr =>
    (dss_cons (ds_set (i := 2) sc_law_names.nd de_str)
    (dss_cons (ds_par2 sc_law_names.nd (da_cons (de_call C_law_take hr (da_cons (dv 0) (da_cons de_int da_nil))) (da_cons (de_call C_law_take hr (da_cons (dv 0) (da_cons de_int da_nil))) da_nil)) (i := 3) (j := 4))
    (dss_cons (ds_set (i := 5) sc_law_names.nd (de_lstM da_nil))
    (dss_cons (ds_for PassesOwn.never (di_range1 T.z_range (da_cons (dv 1) da_nil)) (dg_nm (i := 6) sc_law_names.nd)
      (dss_cons (ds_set (i := 7) sc_law_names.nd (de_join de_str (de_lc (own := [("_law_step", 9)]) sc_law_names.nd (di_range1 T.z_range (da_cons (de_ix (de_tup (da_cons de_int (da_cons de_int (da_cons de_int (da_cons de_int da_nil))))) (de_call C_law_take hr (da_cons (dv 0) (da_cons de_int da_nil)))) da_nil)) (blkOk_by (own := [("_law_step", 9)]) (N := N_law_names) (sc := defScope s_law_names) (by decide +kernel)) (fun _ _ _ _ _ => (dg_nm (i := 9) sc_law_names.nd)) (fun _ _ _ _ _ => dts_nil) (fun _ _ _ _ _ => (de_ix (dv 2) (de_call C_law_take hr (da_cons (dv 0) (da_cons de_int da_nil))))))))
      (dss_cons (ds_set (i := 8) sc_law_names.nd (de_ix (dv 2) (de_op oa_mod (de_op oa_add (dv 4) (de_op oa_mul de_int (dv 6))) de_int)))
      (dss_one (ds_expr (de_append (dv 5) (da_cons (de_if (dt_cmp (oc_eq hr) (dv 3) de_int) (de_op oa_add (dv 8) (dv 7)) (de_op oa_add (dv 7) (dv 8))) da_nil)))))))
    (dss_one (ds_ret (dv 5)))))))) (fun ws S Q E h => len_law_names h) (hd_law_names)
end
end DL

set_option Elab.async false
set_option linter.all false
set_option maxRecDepth 100000
set_option maxHeartbeats 4000000
namespace DL
open PySem PySem.Spec PyProof.Rows L2
theorem make_ground {c : Addr} {ω : Om} {S : Sto} {Q : WQ} {t : DA'} {ps rs} (N : List W → Sto → Prop) (ht : ∀ Q' : List W → Sto → Prop, (∀ ws S1, N ws S1 → Q' ws S1) → t ω S Q') (h : ∀ ws S1, N ws S1 → ∃ ss, ws = [placesW ps, roadsW rs, stationsW ss] ∧ SsOk ps ss ∧ Q (gW c ps rs ss) S1) (hp : PsOk ps) (hr : RsOk ps rs) : dFrz (dMake c (sp_Ground__init_ c) t) ω S Q := by
  refine ht _ fun ws S1 hn => ?_
  obtain ⟨ss, rfl, hs, q⟩ := h ws S1 hn
  intro x dx hx hd hne
  refine ⟨x, dx, ps, rs, ss, rfl, up_same, hp, hr, hs, rfl, ?_⟩
  exact frzI hx hd hne q
theorem PsOk.ofN {ps : List (Str × Int)} {n : Nat} (h : NsOk n (ps.map (·.1))) (h1 : 1 ≤ n) (h2 : n ≤ 40) (hr : ∀ p ∈ ps, 1 ≤ p.2 ∧ p.2 ≤ 4) : PsOk ps := by
  have hl := h.len
  rw [List.length_map] at hl
  exact ⟨by omega, by omega, fun p hp => ⟨h.ok _ (List.mem_map.mpr ⟨p, hp, rfl⟩), hr p hp⟩, h.nd⟩
theorem RsOk.nil {ps : List (Str × Int)} : RsOk ps [] := ⟨by decide, fun r h => absurd h List.not_mem_nil, .nil⟩
/-! ### _law_ground -/
abbrev s_law_ground : Stmt := topS 47
abbrev N_law_ground : List Str := ["_law_bag_here", "_law_most", "_law_names_here", "_law_many_here", "_law_places", "_law_name"]
theorem sc_law_ground : FnScope N_law_ground ["_law_bag_here", "_law_most"] (defScope s_law_ground) := ⟨rfl, rfl, rfl, by decide +kernel, rfl, by decide +kernel, by decide +kernel⟩
theorem st_law_ground {x0 x1 : W} : startW N_law_ground [x0, x1] = [some x0, some x1, none, none, none, none] := rfl
def td_law_ground (c_Ground : Addr) : DS' :=
    (dSeq (dSet 2 (dCall sp_law_names (dCons (dVar 0) (dCons (dC (.int 12)) dNil))))
    (dSeq (dSet 3 (dOp dAdd (dC (.int 1)) (dCall sp_law_take (dCons (dVar 0) (dCons (dVar 1) dNil)))))
    (dSeq (dSet 4 (dCB dTupOf (dCons (dLc (dSeqI (dVar 2)) (.nm 5) dYes (dTup (dCons (dVar 5) (dCons (dOp dAdd (dC (.int 1)) (dCall sp_law_take (dCons (dVar 0) (dCons (dC (.int 4)) dNil)))) dNil))) [5]) dNil)))
    (dRet (dFrz (dMake c_Ground (sp_Ground__init_ c_Ground) (dCons (dVar 4) (dCons (dTup dNil) (dCons (dCB dTupOf (dCons (dSlS (dSl (dVar 2) dNo (dPart (dVar 3))) (dOp dSub (dC (.int 1)) (dOp dMul (dC (.int 2)) (dCall sp_law_take (dCons (dVar 0) (dCons (dC (.int 2)) dNil)))))) dNil)) dNil)))))))))
def sp_law_ground (c_Ground : Addr) : DSp := fun ws S Q _ => ∃ (b : Addr) (n : Int), ws = [.ref b, .int n] ∧ Bg S b ∧ 1 ≤ n ∧ n ≤ 12 ∧ ∀ ps ss, PsOk ps → SsOk ps ss → 1 ≤ ss.length → ss.length ≤ n.toNat → aft S b (Q (gW c_Ground ps [] ss))
theorem len_law_ground {c ws S Q E} (h : sp_law_ground c ws S Q E) : ws.length = 2 := by obtain ⟨b, n, rfl, _⟩ := h; rfl
theorem hd_law_ground (c_Ground) (ws S Q E) (h : sp_law_ground c_Ground ws S Q E) : td_law_ground c_Ground { nx := fun _ S' => frzQ Q .non S', rt := frzQ Q } ⟨startW N_law_ground ws, XF⟩ S := by
  obtain ⟨b, n, rfl, hb, n1, n12, q⟩ := h
  simp only [st_law_ground, td_law_ground]
  refine seq_go ?_
  refine setN_go (fun w S1 => ∃ ns g s, w = .lst (ns.map W.str) ∧ NsOk 12 ns ∧ BagOk g s ∧ S1 = up S b (bagO g s)) (fun Q h => ?_) ?_
  · (simp only [↓dFgt, ↓dVar, ↓dC, ↓dOp, ↓dUn, ↓dI, ↓dI0, ↓dSub, ↓dMul, ↓dDiv, ↓dMod, ↓dPow, ↓dAdd, ↓dNeg, ↓dEq, ↓dNe, ↓dLt, ↓dLe, ↓dGt, ↓dGe, ↓dIsN, ↓dNotN, ↓dTru, ↓dTest, ↓dChain, ↓dAnd, ↓dOr, ↓dNot, ↓dAndV, ↓dOrV, ↓dNotV, ↓dIf, ↓dNil, ↓dCons, ↓dTup, ↓dLst, ↓dLstM, ↓dCB, ↓dLen, ↓dAbs, ↓dMax2, ↓dMin2, ↓dAll, ↓dAny, ↓dListOf, ↓dListOfM, ↓dTupOf, ↓dNext, ↓dSeq, ↓dDrop, ↓dRet, ↓dRetN, ↓dIfS, ↓dBrk, ↓dCnt, ↓dSet, ↓dAsgT, ↓dPar2, ↓tbind, ↓tbinds, ↓Om.set, ↓dCall, ↓dIx, ↓dNo, ↓dPart, ↓dSl, ↓dSlr, ↓dBM, ↓dApp, ↓dExt, ↓dSetIx, ↓dIs, ↓dMinS, ↓dMaxS, ↓dJoin, ↓dFrz, ↓dPut, ↓dFld, ↓dSetF, ↓dInt, ↓dIsLT, ↓dRng1, ↓dRng2, ↓dEnum, ↓dZip, ↓dSeqI, view_c_non, view_c_bl, view_c_int, view_c_str, view_c_tup, view_c_lst, view_c_scr, view_c_dct, view_c_ins, ↓startW, ↓wp, ↓wps, ↓dInKD, ↓dNotInKD, ↓dIxKD, ↓dIn, ↓dNotIn, ↓dDg, List.getElem?_cons_zero, List.getElem?_cons_succ, List.set_cons_zero, List.set_cons_succ, List.map_cons, List.map_nil, List.length_cons, List.length_nil, List.replicate_succ, List.replicate_zero, List.nil_append, List.cons_append, Bool.not_true, Bool.not_false, if_true, wkey_int, wkey_str, atI_0, atI_1, atI_2, atI_3, up_same, if_false, Bool.false_eq_true, Bool.true_eq_false, tru_non, isLT_non, isi_int_non, isi_bool_non, isi_str_non, isi_tup_non, isi_lst_non, tru_bl, isLT_bl, isi_int_bl, isi_bool_bl, isi_str_bl, isi_tup_bl, isi_lst_bl, tru_int, isLT_int, isi_int_int, isi_bool_int, isi_str_int, isi_tup_int, isi_lst_int, tru_str, isLT_str, isi_int_str, isi_bool_str, isi_str_str, isi_tup_str, isi_lst_str, tru_tup, isLT_tup, isi_int_tup, isi_bool_tup, isi_str_tup, isi_tup_tup, isi_lst_tup, tru_lst, isLT_lst, isi_int_lst, isi_bool_lst, isi_str_lst, isi_tup_lst, isi_lst_lst, isL_lst, seqW_lst, seqW_tup, seqW_str, seqW_scr, sq2_lst, sq2_tup, inW_sign])
    exact ⟨b, 12, rfl, hb, by decide, by decide, fun ns hns g s ok => h _ _ ⟨ns, g, s, rfl, hns, ok, rfl⟩⟩
  rintro _ _ ⟨ns, g, s, rfl, hns, ok, rfl⟩
  have hnl := hns.len
  (((try unfold dNext); dsimp only; refine seq_go ?_))
  refine setN_go (fun w S1 => ∃ (m : Nat) (g s : Int), w = .int (m : Nat) ∧ 1 ≤ m ∧ m ≤ n.toNat ∧ BagOk g s ∧ S1 = up S b (bagO g s)) (fun Q h => ?_) ?_
  · (simp only [↓dFgt, ↓dVar, ↓dC, ↓dOp, ↓dUn, ↓dI, ↓dI0, ↓dSub, ↓dMul, ↓dDiv, ↓dMod, ↓dPow, ↓dAdd, ↓dNeg, ↓dEq, ↓dNe, ↓dLt, ↓dLe, ↓dGt, ↓dGe, ↓dIsN, ↓dNotN, ↓dTru, ↓dTest, ↓dChain, ↓dAnd, ↓dOr, ↓dNot, ↓dAndV, ↓dOrV, ↓dNotV, ↓dIf, ↓dNil, ↓dCons, ↓dTup, ↓dLst, ↓dLstM, ↓dCB, ↓dLen, ↓dAbs, ↓dMax2, ↓dMin2, ↓dAll, ↓dAny, ↓dListOf, ↓dListOfM, ↓dTupOf, ↓dNext, ↓dSeq, ↓dDrop, ↓dRet, ↓dRetN, ↓dIfS, ↓dBrk, ↓dCnt, ↓dSet, ↓dAsgT, ↓dPar2, ↓tbind, ↓tbinds, ↓Om.set, ↓dCall, ↓dIx, ↓dNo, ↓dPart, ↓dSl, ↓dSlr, ↓dBM, ↓dApp, ↓dExt, ↓dSetIx, ↓dIs, ↓dMinS, ↓dMaxS, ↓dJoin, ↓dFrz, ↓dPut, ↓dFld, ↓dSetF, ↓dInt, ↓dIsLT, ↓dRng1, ↓dRng2, ↓dEnum, ↓dZip, ↓dSeqI, view_c_non, view_c_bl, view_c_int, view_c_str, view_c_tup, view_c_lst, view_c_scr, view_c_dct, view_c_ins, ↓startW, ↓wp, ↓wps, ↓dInKD, ↓dNotInKD, ↓dIxKD, ↓dIn, ↓dNotIn, ↓dDg, List.getElem?_cons_zero, List.getElem?_cons_succ, List.set_cons_zero, List.set_cons_succ, List.map_cons, List.map_nil, List.length_cons, List.length_nil, List.replicate_succ, List.replicate_zero, List.nil_append, List.cons_append, Bool.not_true, Bool.not_false, if_true, wkey_int, wkey_str, atI_0, atI_1, atI_2, atI_3, up_same, if_false, Bool.false_eq_true, Bool.true_eq_false, tru_non, isLT_non, isi_int_non, isi_bool_non, isi_str_non, isi_tup_non, isi_lst_non, tru_bl, isLT_bl, isi_int_bl, isi_bool_bl, isi_str_bl, isi_tup_bl, isi_lst_bl, tru_int, isLT_int, isi_int_int, isi_bool_int, isi_str_int, isi_tup_int, isi_lst_int, tru_str, isLT_str, isi_int_str, isi_bool_str, isi_str_str, isi_tup_str, isi_lst_str, tru_tup, isLT_tup, isi_int_tup, isi_bool_tup, isi_str_tup, isi_tup_tup, isi_lst_tup, tru_lst, isLT_lst, isi_int_lst, isi_bool_lst, isi_str_lst, isi_tup_lst, isi_lst_lst, isL_lst, seqW_lst, seqW_tup, seqW_str, seqW_scr, sq2_lst, sq2_tup, inW_sign])
    refine ⟨b, n, rfl, Bg.up ok, by omega, by omega, fun r r0 r1 g s ok => ?_⟩
    rw [up_up]
    exact h _ _ ⟨(1 + r).toNat, g, s, by rw [Int.toNat_of_nonneg (by omega)], by omega, by omega, ok, rfl⟩
  rintro _ _ ⟨m, g, s, rfl, m1, mn, ok, rfl⟩
  (((try unfold dNext); dsimp only; refine seq_go ?_))
  refine setN_go (fun w S1 => ∃ ps g s, w = placesW ps ∧ ps.map (·.1) = ns ∧ (∀ p ∈ ps, 1 ≤ p.2 ∧ p.2 ≤ 4) ∧ BagOk g s ∧ S1 = up S b (bagO g s)) (fun Q h => ?_) ?_
  · (simp only [↓dFgt, ↓dVar, ↓dC, ↓dOp, ↓dUn, ↓dI, ↓dI0, ↓dSub, ↓dMul, ↓dDiv, ↓dMod, ↓dPow, ↓dAdd, ↓dNeg, ↓dEq, ↓dNe, ↓dLt, ↓dLe, ↓dGt, ↓dGe, ↓dIsN, ↓dNotN, ↓dTru, ↓dTest, ↓dChain, ↓dAnd, ↓dOr, ↓dNot, ↓dAndV, ↓dOrV, ↓dNotV, ↓dIf, ↓dNil, ↓dCons, ↓dTup, ↓dLst, ↓dLstM, ↓dCB, ↓dLen, ↓dAbs, ↓dMax2, ↓dMin2, ↓dAll, ↓dAny, ↓dListOf, ↓dListOfM, ↓dTupOf, ↓dNext, ↓dSeq, ↓dDrop, ↓dRet, ↓dRetN, ↓dIfS, ↓dBrk, ↓dCnt, ↓dSet, ↓dAsgT, ↓dPar2, ↓tbind, ↓tbinds, ↓Om.set, ↓dCall, ↓dIx, ↓dNo, ↓dPart, ↓dSl, ↓dSlr, ↓dBM, ↓dApp, ↓dExt, ↓dSetIx, ↓dIs, ↓dMinS, ↓dMaxS, ↓dJoin, ↓dFrz, ↓dPut, ↓dFld, ↓dSetF, ↓dInt, ↓dIsLT, ↓dRng1, ↓dRng2, ↓dEnum, ↓dZip, ↓dSeqI, view_c_non, view_c_bl, view_c_int, view_c_str, view_c_tup, view_c_lst, view_c_scr, view_c_dct, view_c_ins, ↓startW, ↓wp, ↓wps, ↓dInKD, ↓dNotInKD, ↓dIxKD, ↓dIn, ↓dNotIn, ↓dDg, List.getElem?_cons_zero, List.getElem?_cons_succ, List.set_cons_zero, List.set_cons_succ, List.map_cons, List.map_nil, List.length_cons, List.length_nil, List.replicate_succ, List.replicate_zero, List.nil_append, List.cons_append, Bool.not_true, Bool.not_false, if_true, wkey_int, wkey_str, atI_0, atI_1, atI_2, atI_3, up_same, if_false, Bool.false_eq_true, Bool.true_eq_false, tru_non, isLT_non, isi_int_non, isi_bool_non, isi_str_non, isi_tup_non, isi_lst_non, tru_bl, isLT_bl, isi_int_bl, isi_bool_bl, isi_str_bl, isi_tup_bl, isi_lst_bl, tru_int, isLT_int, isi_int_int, isi_bool_int, isi_str_int, isi_tup_int, isi_lst_int, tru_str, isLT_str, isi_int_str, isi_bool_str, isi_str_str, isi_tup_str, isi_lst_str, tru_tup, isLT_tup, isi_int_tup, isi_bool_tup, isi_str_tup, isi_tup_tup, isi_lst_tup, tru_lst, isLT_lst, isi_int_lst, isi_bool_lst, isi_str_lst, isi_tup_lst, isi_lst_lst, isL_lst, seqW_lst, seqW_tup, seqW_str, seqW_scr, sq2_lst, sq2_tup, inW_sign])
    refine lcBs (b := b) (xs := ns.map W.str) (fun _ h => h) (by rw [List.length_map]; omega) (Bg.up ok) (fun i v => ∃ x r, ns[i]? = some x ∧ v = placeW x r ∧ 1 ≤ r ∧ r ≤ 4) (fun i w hw => ?_) (fun vs hl hG g s ok => ?_)
    · rw [List.getElem?_map] at hw
      cases hx : ns[i]? with
      | none => rw [hx] at hw; cases hw
      | some x =>
        rw [hx] at hw
        cases hw
        refine ⟨_, rfl, fun S' hB Qe hv => ?_⟩
        (simp only [↓dFgt, ↓dVar, ↓dC, ↓dOp, ↓dUn, ↓dI, ↓dI0, ↓dSub, ↓dMul, ↓dDiv, ↓dMod, ↓dPow, ↓dAdd, ↓dNeg, ↓dEq, ↓dNe, ↓dLt, ↓dLe, ↓dGt, ↓dGe, ↓dIsN, ↓dNotN, ↓dTru, ↓dTest, ↓dChain, ↓dAnd, ↓dOr, ↓dNot, ↓dAndV, ↓dOrV, ↓dNotV, ↓dIf, ↓dNil, ↓dCons, ↓dTup, ↓dLst, ↓dLstM, ↓dCB, ↓dLen, ↓dAbs, ↓dMax2, ↓dMin2, ↓dAll, ↓dAny, ↓dListOf, ↓dListOfM, ↓dTupOf, ↓dNext, ↓dSeq, ↓dDrop, ↓dRet, ↓dRetN, ↓dIfS, ↓dBrk, ↓dCnt, ↓dSet, ↓dAsgT, ↓dPar2, ↓tbind, ↓tbinds, ↓Om.set, ↓dCall, ↓dIx, ↓dNo, ↓dPart, ↓dSl, ↓dSlr, ↓dBM, ↓dApp, ↓dExt, ↓dSetIx, ↓dIs, ↓dMinS, ↓dMaxS, ↓dJoin, ↓dFrz, ↓dPut, ↓dFld, ↓dSetF, ↓dInt, ↓dIsLT, ↓dRng1, ↓dRng2, ↓dEnum, ↓dZip, ↓dSeqI, view_c_non, view_c_bl, view_c_int, view_c_str, view_c_tup, view_c_lst, view_c_scr, view_c_dct, view_c_ins, ↓startW, ↓wp, ↓wps, ↓dInKD, ↓dNotInKD, ↓dIxKD, ↓dIn, ↓dNotIn, ↓dDg, List.getElem?_cons_zero, List.getElem?_cons_succ, List.set_cons_zero, List.set_cons_succ, List.map_cons, List.map_nil, List.length_cons, List.length_nil, List.replicate_succ, List.replicate_zero, List.nil_append, List.cons_append, Bool.not_true, Bool.not_false, if_true, wkey_int, wkey_str, atI_0, atI_1, atI_2, atI_3, up_same, if_false, Bool.false_eq_true, Bool.true_eq_false, tru_non, isLT_non, isi_int_non, isi_bool_non, isi_str_non, isi_tup_non, isi_lst_non, tru_bl, isLT_bl, isi_int_bl, isi_bool_bl, isi_str_bl, isi_tup_bl, isi_lst_bl, tru_int, isLT_int, isi_int_int, isi_bool_int, isi_str_int, isi_tup_int, isi_lst_int, tru_str, isLT_str, isi_int_str, isi_bool_str, isi_str_str, isi_tup_str, isi_lst_str, tru_tup, isLT_tup, isi_int_tup, isi_bool_tup, isi_str_tup, isi_tup_tup, isi_lst_tup, tru_lst, isLT_lst, isi_int_lst, isi_bool_lst, isi_str_lst, isi_tup_lst, isi_lst_lst, isL_lst, seqW_lst, seqW_tup, seqW_str, seqW_scr, sq2_lst, sq2_tup, inW_sign])
        refine ⟨b, 4, rfl, hB, by decide, by decide, fun r r0 r1 g s ok => ?_⟩
        exact ⟨by decide, hv _ ⟨x, 1 + r, rfl, rfl, by omega, by omega⟩ g s ok⟩
    · rw [List.length_map] at hl
      obtain ⟨ps, rfl, hps, hpr⟩ := places_of hl hG
      rw [up_up]
      simp only [view_c_lst]
      exact h _ _ ⟨ps, g, s, rfl, hps, hpr, ok, rfl⟩
  rintro _ _ ⟨ps, g, s, rfl, hps, hpr, ok, rfl⟩
  have hp : PsOk ps := PsOk.ofN (n := 12) (by rw [hps]; exact hns) (by decide) (by decide) hpr
  have c1 : cut (ns.map W.str) none (some (m : Int)) = (ns.take m).map W.str := by rw [cut_take (by rw [List.length_map]; omega), List.map_take]
  have hs : SsOk ps (ns.take m) := ⟨by rw [List.length_take]; omega, fun s hs => by rw [hps]; exact List.mem_of_mem_take hs, (List.take_sublist m ns).nodup hns.nd⟩
  have hs' : SsOk ps (ns.take m).reverse := ⟨by rw [List.length_reverse]; exact hs.hi, fun s h => hs.ok s (List.mem_reverse.mp h), (by unfold List.Nodup; rw [List.pairwise_reverse]; exact List.Pairwise.imp (fun h e => h e.symm) hs.nd)⟩
  have hl : (ns.take m).length = m := by rw [List.length_take]; omega
  (((try unfold dNext); dsimp only))
  refine ret_go ?_
  refine make_ground (rs := []) (ps := ps) (fun ws S1 => ∃ ss g s, ws = [placesW ps, .tup [], stationsW ss] ∧ SsOk ps ss ∧ ss.length = m ∧ BagOk g s ∧ S1 = up S b (bagO g s)) (fun Q' h => ?_) ?_ hp RsOk.nil
  · (simp only [↓dFgt, ↓dVar, ↓dC, ↓dOp, ↓dUn, ↓dI, ↓dI0, ↓dSub, ↓dMul, ↓dDiv, ↓dMod, ↓dPow, ↓dAdd, ↓dNeg, ↓dEq, ↓dNe, ↓dLt, ↓dLe, ↓dGt, ↓dGe, ↓dIsN, ↓dNotN, ↓dTru, ↓dTest, ↓dChain, ↓dAnd, ↓dOr, ↓dNot, ↓dAndV, ↓dOrV, ↓dNotV, ↓dIf, ↓dNil, ↓dCons, ↓dTup, ↓dLst, ↓dLstM, ↓dCB, ↓dLen, ↓dAbs, ↓dMax2, ↓dMin2, ↓dAll, ↓dAny, ↓dListOf, ↓dListOfM, ↓dTupOf, ↓dNext, ↓dSeq, ↓dDrop, ↓dRet, ↓dRetN, ↓dIfS, ↓dBrk, ↓dCnt, ↓dSet, ↓dAsgT, ↓dPar2, ↓tbind, ↓tbinds, ↓Om.set, ↓dCall, ↓dIx, ↓dNo, ↓dPart, ↓dSl, ↓dSlr, ↓dBM, ↓dApp, ↓dExt, ↓dSetIx, ↓dIs, ↓dMinS, ↓dMaxS, ↓dJoin, ↓dFrz, ↓dPut, ↓dFld, ↓dSetF, ↓dInt, ↓dIsLT, ↓dRng1, ↓dRng2, ↓dEnum, ↓dZip, ↓dSeqI, view_c_non, view_c_bl, view_c_int, view_c_str, view_c_tup, view_c_lst, view_c_scr, view_c_dct, view_c_ins, ↓startW, ↓wp, ↓wps, ↓dInKD, ↓dNotInKD, ↓dIxKD, ↓dIn, ↓dNotIn, ↓dDg, List.getElem?_cons_zero, List.getElem?_cons_succ, List.set_cons_zero, List.set_cons_succ, List.map_cons, List.map_nil, List.length_cons, List.length_nil, List.replicate_succ, List.replicate_zero, List.nil_append, List.cons_append, Bool.not_true, Bool.not_false, if_true, wkey_int, wkey_str, atI_0, atI_1, atI_2, atI_3, up_same, if_false, Bool.false_eq_true, Bool.true_eq_false, tru_non, isLT_non, isi_int_non, isi_bool_non, isi_str_non, isi_tup_non, isi_lst_non, tru_bl, isLT_bl, isi_int_bl, isi_bool_bl, isi_str_bl, isi_tup_bl, isi_lst_bl, tru_int, isLT_int, isi_int_int, isi_bool_int, isi_str_int, isi_tup_int, isi_lst_int, tru_str, isLT_str, isi_int_str, isi_bool_str, isi_str_str, isi_tup_str, isi_lst_str, tru_tup, isLT_tup, isi_int_tup, isi_bool_tup, isi_str_tup, isi_tup_tup, isi_lst_tup, tru_lst, isLT_lst, isi_int_lst, isi_bool_lst, isi_str_lst, isi_tup_lst, isi_lst_lst, isL_lst, seqW_lst, seqW_tup, seqW_str, seqW_scr, sq2_lst, sq2_tup, inW_sign])
    refine ⟨by decide, ?_⟩
    simp only [dSlS]
    (simp only [↓dFgt, ↓dVar, ↓dC, ↓dOp, ↓dUn, ↓dI, ↓dI0, ↓dSub, ↓dMul, ↓dDiv, ↓dMod, ↓dPow, ↓dAdd, ↓dNeg, ↓dEq, ↓dNe, ↓dLt, ↓dLe, ↓dGt, ↓dGe, ↓dIsN, ↓dNotN, ↓dTru, ↓dTest, ↓dChain, ↓dAnd, ↓dOr, ↓dNot, ↓dAndV, ↓dOrV, ↓dNotV, ↓dIf, ↓dNil, ↓dCons, ↓dTup, ↓dLst, ↓dLstM, ↓dCB, ↓dLen, ↓dAbs, ↓dMax2, ↓dMin2, ↓dAll, ↓dAny, ↓dListOf, ↓dListOfM, ↓dTupOf, ↓dNext, ↓dSeq, ↓dDrop, ↓dRet, ↓dRetN, ↓dIfS, ↓dBrk, ↓dCnt, ↓dSet, ↓dAsgT, ↓dPar2, ↓tbind, ↓tbinds, ↓Om.set, ↓dCall, ↓dIx, ↓dNo, ↓dPart, ↓dSl, ↓dSlr, ↓dBM, ↓dApp, ↓dExt, ↓dSetIx, ↓dIs, ↓dMinS, ↓dMaxS, ↓dJoin, ↓dFrz, ↓dPut, ↓dFld, ↓dSetF, ↓dInt, ↓dIsLT, ↓dRng1, ↓dRng2, ↓dEnum, ↓dZip, ↓dSeqI, view_c_non, view_c_bl, view_c_int, view_c_str, view_c_tup, view_c_lst, view_c_scr, view_c_dct, view_c_ins, ↓startW, ↓wp, ↓wps, ↓dInKD, ↓dNotInKD, ↓dIxKD, ↓dIn, ↓dNotIn, ↓dDg, List.getElem?_cons_zero, List.getElem?_cons_succ, List.set_cons_zero, List.set_cons_succ, List.map_cons, List.map_nil, List.length_cons, List.length_nil, List.replicate_succ, List.replicate_zero, List.nil_append, List.cons_append, Bool.not_true, Bool.not_false, if_true, wkey_int, wkey_str, atI_0, atI_1, atI_2, atI_3, up_same, if_false, Bool.false_eq_true, Bool.true_eq_false, tru_non, isLT_non, isi_int_non, isi_bool_non, isi_str_non, isi_tup_non, isi_lst_non, tru_bl, isLT_bl, isi_int_bl, isi_bool_bl, isi_str_bl, isi_tup_bl, isi_lst_bl, tru_int, isLT_int, isi_int_int, isi_bool_int, isi_str_int, isi_tup_int, isi_lst_int, tru_str, isLT_str, isi_int_str, isi_bool_str, isi_str_str, isi_tup_str, isi_lst_str, tru_tup, isLT_tup, isi_int_tup, isi_bool_tup, isi_str_tup, isi_tup_tup, isi_lst_tup, tru_lst, isLT_lst, isi_int_lst, isi_bool_lst, isi_str_lst, isi_tup_lst, isi_lst_lst, isL_lst, seqW_lst, seqW_tup, seqW_str, seqW_scr, sq2_lst, sq2_tup, inW_sign])
    refine ⟨b, 2, rfl, Bg.up ok, by decide, by decide, fun r r0 r1 g s ok => ?_⟩
    rw [up_up]
    simp only [view_c_int, dSlk, view_c_lst, c1]
    refine ⟨.inl ⟨by omega, by omega⟩, ?_⟩
    by_cases c : r = 0
    · exact .inl ⟨by omega, h _ _ ⟨ns.take m, g, s, rfl, hs, hl, ok, rfl⟩⟩
    · refine .inr ⟨by omega, ?_⟩
      rw [← List.map_reverse]
      exact h _ _ ⟨(ns.take m).reverse, g, s, rfl, hs', by rw [List.length_reverse]; exact hl, ok, rfl⟩
  · rintro ws S1 ⟨ss, g, s, rfl, h1, h2, ok, rfl⟩
    exact ⟨ss, rfl, h1, frzQ.mk (q ps ss hp h1 (by omega) (by omega) g s ok)⟩
section
variable {P : Program} {w : World} {K : PySem.W.Frag} {mg : Str → Option Value} {base : Heap} {c_Ground : Addr}
theorem ok_law_ground {f : Addr} {fd : FuncData} (F : Fun K "_law_ground" "_law_ground" s_law_ground f fd) (T : Txt K w mg c_Ground) (C_law_names : CalD P w K mg base 2 "_law_names" sp_law_names) (C_law_take : CalD P w K mg base 1 "_law_take" sp_law_take) {a_Ground__init_ : Addr} {fd_Ground__init_ : FuncData} {ps_Ground__init_ : List Str} (C_Ground__init_ : FnOk P w K mg base CX0 5 a_Ground__init_ fd_Ground__init_ ps_Ground__init_ (uSp K (sp_Ground__init_ c_Ground))) (B_Ground__init_ : Binds K fd_Ground__init_ ps_Ground__init_ []) (M_Ground : Mk K c_Ground a_Ground__init_) (G_Ground : mg "Ground" = some (.ref c_Ground)) : FnOk P w K mg base CX0 7 f fd ["_law_bag_here", "_law_most"] (uSp K (sp_law_ground c_Ground)) :=
  Fun.okF F sc_law_ground (td_law_ground c_Ground) (fun cdv A outer s H E hr =>
    (dss_cons (ds_set (i := 2) sc_law_ground.nd (de_call C_law_names hr (da_cons (dv 0) (da_cons de_int da_nil))))
    (dss_cons (ds_set (i := 3) sc_law_ground.nd (de_op oa_add de_int (de_call C_law_take hr (da_cons (dv 0) (da_cons (dv 1) da_nil)))))
    (dss_cons (ds_set (i := 4) sc_law_ground.nd (de_callTy cd_tuple T.z_tuple (da_cons (de_lc (own := [("_law_name", 5)]) sc_law_ground.nd (di_seq (dv 2)) (blkOk_by (own := [("_law_name", 5)]) (N := N_law_ground) (sc := defScope s_law_ground) (by decide +kernel)) (fun _ _ _ _ _ => (dg_nm (i := 5) sc_law_ground.nd)) (fun _ _ _ _ _ => dts_nil) (fun _ _ _ _ _ => (de_tup (da_cons (dv 5) (da_cons (de_op oa_add de_int (de_call C_law_take hr (da_cons (dv 0) (da_cons de_int da_nil)))) da_nil))))) da_nil)))
    (dss_one (ds_ret (de_frz (de_make M_Ground C_Ground__init_ G_Ground B_Ground__init_ hr (da_cons (dv 4) (da_cons (de_tup da_nil) (da_cons (de_callTy cd_tuple T.z_tuple (da_cons (de_slS (de_sl (dv 2) do_none (do_some (dv 3))) (de_op oa_sub de_int (de_op oa_mul de_int (de_call C_law_take hr (da_cons (dv 0) (da_cons de_int da_nil)))))) da_nil)) da_nil))))))))))) (fun ws S Q E h => len_law_ground h) (hd_law_ground c_Ground)
end
theorem drop_mid {S : Sto} {p q b : Addr} {l l2 : WO} {o o2 : WO} (hqp : q ≠ p) (hqb : q ≠ b) (hpb : p ≠ b) (hq : S q = none) (hn : ∀ x, o ≠ .own x) : Frz .non (up (up (up (up S p l) q o) b o2) p l2) .non (up (up S p l2) b o2) := by
  have d1 := Frz.drop (w := .non) (S := up (up (up (up S p l) q o) b o2) p l2) (p := q) (o := o) (by rw [up_ne hqp, up_ne hqb, up_same]) hn
  have e : del (up (up (up (up S p l) q o) b o2) p l2) q = up (up S p l2) b o2 := by
    funext c
    by_cases c1 : c = q
    · subst c1; rw [del_same, up_ne hqb, up_ne hqp, hq]
    · rw [del_ne c1]
      by_cases c2 : c = p
      · subst c2; rw [up_same, up_ne hpb, up_same]
      · rw [up_ne c2]
        by_cases c3 : c = b
        · subst c3; rw [up_same, up_same]
        · rw [up_ne c3, up_ne c1, up_ne c2, up_ne c3, up_ne c2]
  rw [e] at d1
  exact d1
def HR (x : W) : Prop := ∃ a st m sk, x = W.tup [.str a, .str st, .int m, .tup sk] ∧ sk.length ≤ 6 ∧ ∀ y ∈ sk, ∃ k d, y = W.tup [.str k, .int d]
/-! ### _law_hands -/
abbrev s_law_hands : Stmt := topS 49
abbrev N_law_hands : List Str := ["_law_bag_here", "_law_stations", "_law_most", "_law_letters", "_law_first", "_law_stem", "_law_found", "_law_name", "_law_skills", "_law_turn", "_law_skill", "_law_k"]
theorem sc_law_hands : FnScope N_law_hands ["_law_bag_here", "_law_stations", "_law_most"] (defScope s_law_hands) := ⟨rfl, rfl, rfl, by decide +kernel, rfl, by decide +kernel, by decide +kernel⟩
theorem st_law_hands {x0 x1 x2 : W} : startW N_law_hands [x0, x1, x2] = [some x0, some x1, some x2, none, none, none, none, none, none, none, none, none] := rfl
def td_law_hands : DS' :=
    (dSeq (dSet 3 (dC (.str "abcdefghijklmnopqrstuvwxyz")))
    (dSeq (dSet 4 (dCall sp_law_take (dCons (dVar 0) (dCons (dC (.int 26)) dNil))))
    (dSeq (dSet 5 (dJoin (dC (.str "")) (dLc (dRng1 (dCons (dC (.int 5)) dNil)) (.nm 11) dYes (dOp dIx (dVar 3) (dCall sp_law_take (dCons (dVar 0) (dCons (dC (.int 26)) dNil)))) [11])))
    (dSeq (dSet 6 (dLstM dNil))
    (dSeq (dFor (dRng1 (dCons (dCall sp_law_take (dCons (dVar 0) (dCons (dOp dAdd (dVar 2) (dC (.int 1))) dNil))) dNil)) (.nm 11)
      (dSeq (dSet 7 (dOp dAdd (dOp dIx (dVar 3) (dOp dMod (dOp dAdd (dVar 4) (dOp dMul (dC (.int 5)) (dVar 11))) (dC (.int 26)))) (dOp dIx (dVar 3) (dOp dMod (dOp dDiv (dOp dAdd (dOp dMul (dC (.int 3)) (dVar 4)) (dVar 11)) (dC (.int 26))) (dC (.int 26))))))
      (dSeq (dSet 7 (dOp dAdd (dVar 7) (dSl (dVar 5) dNo (dPart (dCall sp_law_take (dCons (dVar 0) (dCons (dC (.int 6)) dNil)))))))
      (dSeq (dSet 8 (dLstM dNil))
      (dSeq (dFor (dRng1 (dCons (dCall sp_law_take (dCons (dVar 0) (dCons (dOp dIx (dTup (dCons (dC (.int 3)) (dCons (dC (.int 6)) dNil))) (dCall sp_law_take (dCons (dVar 0) (dCons (dC (.int 2)) dNil)))) dNil))) dNil)) (.nm 9)
        (dSeq (dSet 10 (dOp dIx (dTup (dCons (dC (.str "drive")) (dCons (dC (.str "lead")) (dCons (dC (.str "wear")) (dCons (dC (.str "drive")) dNil))))) (dCall sp_law_take (dCons (dVar 0) (dCons (dC (.int 4)) dNil)))))
        (dDrop (dBM dApp (dVar 8) (dCons (dTup (dCons (dVar 10) (dCons (dCall sp_law_take (dCons (dVar 0) (dCons (dC (.int 10)) dNil))) dNil))) dNil)))))
      (dFgt (dDrop (dBM dApp (dVar 6) (dCons (dTup (dCons (dVar 7) (dCons (dOp dIx (dVar 1) (dCall sp_law_take (dCons (dVar 0) (dCons (dCB dLen (dCons (dVar 1) dNil)) dNil)))) (dCons (dCall sp_law_take (dCons (dVar 0) (dCons (dC (.int 4)) dNil))) (dCons (dCB dTupOf (dCons (dVar 8) dNil)) dNil))))) dNil)))))))))
    (dRet (dCB dTupOf (dCons (dVar 6) dNil))))))))
def sp_law_hands : DSp := fun ws S Q _ => ∃ (b : Addr) (ss : List Str) (n : Int), ws = [.ref b, stationsW ss, .int n] ∧ Bg S b ∧ 1 ≤ ss.length ∧ ss.length ≤ 12 ∧ 0 ≤ n ∧ n ≤ 60 ∧ ∀ xs, xs.length ≤ n.toNat → (∀ x ∈ xs, HR x) → aft S b (Q (.tup xs))
theorem len_law_hands {ws S Q E} (h : sp_law_hands ws S Q E) : ws.length = 3 := by obtain ⟨b, ss, n, rfl, _⟩ := h; rfl
theorem hd_law_hands (ws S Q E) (h : sp_law_hands ws S Q E) : td_law_hands { nx := fun _ S' => frzQ Q .non S', rt := frzQ Q } ⟨startW N_law_hands ws, XF⟩ S := by
  obtain ⟨b, ss, n, rfl, hb, sl, sh, n0, n24, q⟩ := h
  simp only [st_law_hands, td_law_hands]
  refine seq_go (set_go (.str letters) S (fun _ h => h) ?_)
  (((try unfold dNext); dsimp only; refine seq_go ?_))
  refine setN_go (fun w S1 => ∃ (f : Nat) (g s : Int), w = .int (f : Nat) ∧ f < 26 ∧ BagOk g s ∧ S1 = up S b (bagO g s)) (fun Q h => ?_) ?_
  · (simp only [↓dFgt, ↓dVar, ↓dC, ↓dOp, ↓dUn, ↓dI, ↓dI0, ↓dSub, ↓dMul, ↓dDiv, ↓dMod, ↓dPow, ↓dAdd, ↓dNeg, ↓dEq, ↓dNe, ↓dLt, ↓dLe, ↓dGt, ↓dGe, ↓dIsN, ↓dNotN, ↓dTru, ↓dTest, ↓dChain, ↓dAnd, ↓dOr, ↓dNot, ↓dAndV, ↓dOrV, ↓dNotV, ↓dIf, ↓dNil, ↓dCons, ↓dTup, ↓dLst, ↓dLstM, ↓dCB, ↓dLen, ↓dAbs, ↓dMax2, ↓dMin2, ↓dAll, ↓dAny, ↓dListOf, ↓dListOfM, ↓dTupOf, ↓dNext, ↓dSeq, ↓dDrop, ↓dRet, ↓dRetN, ↓dIfS, ↓dBrk, ↓dCnt, ↓dSet, ↓dAsgT, ↓dPar2, ↓tbind, ↓tbinds, ↓Om.set, ↓dCall, ↓dIx, ↓dNo, ↓dPart, ↓dSl, ↓dSlr, ↓dBM, ↓dApp, ↓dExt, ↓dSetIx, ↓dIs, ↓dMinS, ↓dMaxS, ↓dJoin, ↓dFrz, ↓dPut, ↓dFld, ↓dSetF, ↓dInt, ↓dIsLT, ↓dRng1, ↓dRng2, ↓dEnum, ↓dZip, ↓dSeqI, view_c_non, view_c_bl, view_c_int, view_c_str, view_c_tup, view_c_lst, view_c_scr, view_c_dct, view_c_ins, ↓startW, ↓wp, ↓wps, ↓dInKD, ↓dNotInKD, ↓dIxKD, ↓dIn, ↓dNotIn, ↓dDg, List.getElem?_cons_zero, List.getElem?_cons_succ, List.set_cons_zero, List.set_cons_succ, List.map_cons, List.map_nil, List.length_cons, List.length_nil, List.replicate_succ, List.replicate_zero, List.nil_append, List.cons_append, Bool.not_true, Bool.not_false, if_true, wkey_int, wkey_str, atI_0, atI_1, atI_2, atI_3, up_same, if_false, Bool.false_eq_true, Bool.true_eq_false, tru_non, isLT_non, isi_int_non, isi_bool_non, isi_str_non, isi_tup_non, isi_lst_non, tru_bl, isLT_bl, isi_int_bl, isi_bool_bl, isi_str_bl, isi_tup_bl, isi_lst_bl, tru_int, isLT_int, isi_int_int, isi_bool_int, isi_str_int, isi_tup_int, isi_lst_int, tru_str, isLT_str, isi_int_str, isi_bool_str, isi_str_str, isi_tup_str, isi_lst_str, tru_tup, isLT_tup, isi_int_tup, isi_bool_tup, isi_str_tup, isi_tup_tup, isi_lst_tup, tru_lst, isLT_lst, isi_int_lst, isi_bool_lst, isi_str_lst, isi_tup_lst, isi_lst_lst, isL_lst, seqW_lst, seqW_tup, seqW_str, seqW_scr, sq2_lst, sq2_tup, inW_sign])
    refine ⟨b, 26, rfl, hb, by decide, by decide, fun r r0 r1 g s ok => ?_⟩
    exact h _ _ ⟨r.toNat, g, s, by rw [Int.toNat_of_nonneg r0], by omega, ok, rfl⟩
  rintro _ _ ⟨f, g, s, rfl, hf, ok, rfl⟩
  (((try unfold dNext); dsimp only; refine seq_go ?_))
  refine setN_go (fun w S1 => ∃ x g s, w = .str x ∧ x.length = 5 ∧ BagOk g s ∧ S1 = up S b (bagO g s)) (fun Q h => ?_) ?_
  · refine join_go (fun cs S2 => cs.length = 5 ∧ ∃ g s, BagOk g s ∧ S2 = up S b (bagO g s)) (fun Q h => ?_) (fun cs S2 hc => by have := hc.1; omega) (fun cs S2 hc x hx => ?_)
    · refine lcBr (b := b) (n := 5) (fun _ h => h) (by decide) (by decide) (Bg.up ok) (fun _ v => ∃ c, v = W.str ⟨#[c]⟩ ∧ az c = true) (fun j hj => ⟨_, rfl, fun S' hB Qe hv => ?_⟩) (fun vs hl hG g' s' ok' => ?_)
      · (simp only [↓dFgt, ↓dVar, ↓dC, ↓dOp, ↓dUn, ↓dI, ↓dI0, ↓dSub, ↓dMul, ↓dDiv, ↓dMod, ↓dPow, ↓dAdd, ↓dNeg, ↓dEq, ↓dNe, ↓dLt, ↓dLe, ↓dGt, ↓dGe, ↓dIsN, ↓dNotN, ↓dTru, ↓dTest, ↓dChain, ↓dAnd, ↓dOr, ↓dNot, ↓dAndV, ↓dOrV, ↓dNotV, ↓dIf, ↓dNil, ↓dCons, ↓dTup, ↓dLst, ↓dLstM, ↓dCB, ↓dLen, ↓dAbs, ↓dMax2, ↓dMin2, ↓dAll, ↓dAny, ↓dListOf, ↓dListOfM, ↓dTupOf, ↓dNext, ↓dSeq, ↓dDrop, ↓dRet, ↓dRetN, ↓dIfS, ↓dBrk, ↓dCnt, ↓dSet, ↓dAsgT, ↓dPar2, ↓tbind, ↓tbinds, ↓Om.set, ↓dCall, ↓dIx, ↓dNo, ↓dPart, ↓dSl, ↓dSlr, ↓dBM, ↓dApp, ↓dExt, ↓dSetIx, ↓dIs, ↓dMinS, ↓dMaxS, ↓dJoin, ↓dFrz, ↓dPut, ↓dFld, ↓dSetF, ↓dInt, ↓dIsLT, ↓dRng1, ↓dRng2, ↓dEnum, ↓dZip, ↓dSeqI, view_c_non, view_c_bl, view_c_int, view_c_str, view_c_tup, view_c_lst, view_c_scr, view_c_dct, view_c_ins, ↓startW, ↓wp, ↓wps, ↓dInKD, ↓dNotInKD, ↓dIxKD, ↓dIn, ↓dNotIn, ↓dDg, List.getElem?_cons_zero, List.getElem?_cons_succ, List.set_cons_zero, List.set_cons_succ, List.map_cons, List.map_nil, List.length_cons, List.length_nil, List.replicate_succ, List.replicate_zero, List.nil_append, List.cons_append, Bool.not_true, Bool.not_false, if_true, wkey_int, wkey_str, atI_0, atI_1, atI_2, atI_3, up_same, if_false, Bool.false_eq_true, Bool.true_eq_false, tru_non, isLT_non, isi_int_non, isi_bool_non, isi_str_non, isi_tup_non, isi_lst_non, tru_bl, isLT_bl, isi_int_bl, isi_bool_bl, isi_str_bl, isi_tup_bl, isi_lst_bl, tru_int, isLT_int, isi_int_int, isi_bool_int, isi_str_int, isi_tup_int, isi_lst_int, tru_str, isLT_str, isi_int_str, isi_bool_str, isi_str_str, isi_tup_str, isi_lst_str, tru_tup, isLT_tup, isi_int_tup, isi_bool_tup, isi_str_tup, isi_tup_tup, isi_lst_tup, tru_lst, isLT_lst, isi_int_lst, isi_bool_lst, isi_str_lst, isi_tup_lst, isi_lst_lst, isL_lst, seqW_lst, seqW_tup, seqW_str, seqW_scr, sq2_lst, sq2_tup, inW_sign])
        refine ⟨b, 26, rfl, hB, by decide, by decide, fun r r0 r1 g s ok => ?_⟩
        have e : L2.atI (Str.ofString "abcdefghijklmnopqrstuvwxyz").cps.toList r = some (97 + r.toNat) := letter_at r0 r1
        simp only [e]
        refine hv _ ⟨_, rfl, ?_⟩ g s ok
        unfold az
        rw [decide_eq_true (by omega), decide_eq_true (by omega)]; rfl
      · obtain ⟨cs, rfl, hz⟩ := signs_of hG
        rw [List.length_map] at hl
        rw [up_up]
        exact h cs _ ⟨hl, g', s', ok', rfl⟩
    · obtain ⟨h1, g, s, ok, rfl⟩ := hc
      exact h _ _ ⟨x, g, s, rfl, by rw [str_len, hx]; exact h1, ok, rfl⟩
  rintro _ _ ⟨stem, g, s, rfl, hstem, ok, rfl⟩
  (((try unfold dNext); dsimp only; refine seq_go ?_))
  refine setN_go (fun w S1 => ∃ p, w = .ref p ∧ p ≠ b ∧ S p = none ∧ S1 = up (up S p (.lst [])) b (bagO g s)) (fun Q h => ?_) ?_
  · (simp only [↓dFgt, ↓dVar, ↓dC, ↓dOp, ↓dUn, ↓dI, ↓dI0, ↓dSub, ↓dMul, ↓dDiv, ↓dMod, ↓dPow, ↓dAdd, ↓dNeg, ↓dEq, ↓dNe, ↓dLt, ↓dLe, ↓dGt, ↓dGe, ↓dIsN, ↓dNotN, ↓dTru, ↓dTest, ↓dChain, ↓dAnd, ↓dOr, ↓dNot, ↓dAndV, ↓dOrV, ↓dNotV, ↓dIf, ↓dNil, ↓dCons, ↓dTup, ↓dLst, ↓dLstM, ↓dCB, ↓dLen, ↓dAbs, ↓dMax2, ↓dMin2, ↓dAll, ↓dAny, ↓dListOf, ↓dListOfM, ↓dTupOf, ↓dNext, ↓dSeq, ↓dDrop, ↓dRet, ↓dRetN, ↓dIfS, ↓dBrk, ↓dCnt, ↓dSet, ↓dAsgT, ↓dPar2, ↓tbind, ↓tbinds, ↓Om.set, ↓dCall, ↓dIx, ↓dNo, ↓dPart, ↓dSl, ↓dSlr, ↓dBM, ↓dApp, ↓dExt, ↓dSetIx, ↓dIs, ↓dMinS, ↓dMaxS, ↓dJoin, ↓dFrz, ↓dPut, ↓dFld, ↓dSetF, ↓dInt, ↓dIsLT, ↓dRng1, ↓dRng2, ↓dEnum, ↓dZip, ↓dSeqI, view_c_non, view_c_bl, view_c_int, view_c_str, view_c_tup, view_c_lst, view_c_scr, view_c_dct, view_c_ins, ↓startW, ↓wp, ↓wps, ↓dInKD, ↓dNotInKD, ↓dIxKD, ↓dIn, ↓dNotIn, ↓dDg, List.getElem?_cons_zero, List.getElem?_cons_succ, List.set_cons_zero, List.set_cons_succ, List.map_cons, List.map_nil, List.length_cons, List.length_nil, List.replicate_succ, List.replicate_zero, List.nil_append, List.cons_append, Bool.not_true, Bool.not_false, if_true, wkey_int, wkey_str, atI_0, atI_1, atI_2, atI_3, up_same, if_false, Bool.false_eq_true, Bool.true_eq_false, tru_non, isLT_non, isi_int_non, isi_bool_non, isi_str_non, isi_tup_non, isi_lst_non, tru_bl, isLT_bl, isi_int_bl, isi_bool_bl, isi_str_bl, isi_tup_bl, isi_lst_bl, tru_int, isLT_int, isi_int_int, isi_bool_int, isi_str_int, isi_tup_int, isi_lst_int, tru_str, isLT_str, isi_int_str, isi_bool_str, isi_str_str, isi_tup_str, isi_lst_str, tru_tup, isLT_tup, isi_int_tup, isi_bool_tup, isi_str_tup, isi_tup_tup, isi_lst_tup, tru_lst, isLT_lst, isi_int_lst, isi_bool_lst, isi_str_lst, isi_tup_lst, isi_lst_lst, isL_lst, seqW_lst, seqW_tup, seqW_str, seqW_scr, sq2_lst, sq2_tup, inW_sign])
    refine ⟨by decide, fun p hp => ?_⟩
    have hpb : p ≠ b := fun e => by subst e; rw [up_same] at hp; cases hp
    exact h _ _ ⟨p, rfl, hpb, by rw [up_ne hpb] at hp; exact hp, up_comm (Ne.symm hpb)⟩
  rintro _ _ ⟨p, rfl, hpb, hpS, rfl⟩
  (((try unfold dNext); dsimp only; refine seq_go ?_))
  refine forRN (fun m S1 => (0 ≤ m ∧ m ≤ n) ∧ ∃ g s, BagOk g s ∧ S1 = up (up S p (.lst [])) b (bagO g s)) (fun Q' h => ?_) ?_
  · (simp only [↓dFgt, ↓dVar, ↓dC, ↓dOp, ↓dUn, ↓dI, ↓dI0, ↓dSub, ↓dMul, ↓dDiv, ↓dMod, ↓dPow, ↓dAdd, ↓dNeg, ↓dEq, ↓dNe, ↓dLt, ↓dLe, ↓dGt, ↓dGe, ↓dIsN, ↓dNotN, ↓dTru, ↓dTest, ↓dChain, ↓dAnd, ↓dOr, ↓dNot, ↓dAndV, ↓dOrV, ↓dNotV, ↓dIf, ↓dNil, ↓dCons, ↓dTup, ↓dLst, ↓dLstM, ↓dCB, ↓dLen, ↓dAbs, ↓dMax2, ↓dMin2, ↓dAll, ↓dAny, ↓dListOf, ↓dListOfM, ↓dTupOf, ↓dNext, ↓dSeq, ↓dDrop, ↓dRet, ↓dRetN, ↓dIfS, ↓dBrk, ↓dCnt, ↓dSet, ↓dAsgT, ↓dPar2, ↓tbind, ↓tbinds, ↓Om.set, ↓dCall, ↓dIx, ↓dNo, ↓dPart, ↓dSl, ↓dSlr, ↓dBM, ↓dApp, ↓dExt, ↓dSetIx, ↓dIs, ↓dMinS, ↓dMaxS, ↓dJoin, ↓dFrz, ↓dPut, ↓dFld, ↓dSetF, ↓dInt, ↓dIsLT, ↓dRng1, ↓dRng2, ↓dEnum, ↓dZip, ↓dSeqI, view_c_non, view_c_bl, view_c_int, view_c_str, view_c_tup, view_c_lst, view_c_scr, view_c_dct, view_c_ins, ↓startW, ↓wp, ↓wps, ↓dInKD, ↓dNotInKD, ↓dIxKD, ↓dIn, ↓dNotIn, ↓dDg, List.getElem?_cons_zero, List.getElem?_cons_succ, List.set_cons_zero, List.set_cons_succ, List.map_cons, List.map_nil, List.length_cons, List.length_nil, List.replicate_succ, List.replicate_zero, List.nil_append, List.cons_append, Bool.not_true, Bool.not_false, if_true, wkey_int, wkey_str, atI_0, atI_1, atI_2, atI_3, up_same, if_false, Bool.false_eq_true, Bool.true_eq_false, tru_non, isLT_non, isi_int_non, isi_bool_non, isi_str_non, isi_tup_non, isi_lst_non, tru_bl, isLT_bl, isi_int_bl, isi_bool_bl, isi_str_bl, isi_tup_bl, isi_lst_bl, tru_int, isLT_int, isi_int_int, isi_bool_int, isi_str_int, isi_tup_int, isi_lst_int, tru_str, isLT_str, isi_int_str, isi_bool_str, isi_str_str, isi_tup_str, isi_lst_str, tru_tup, isLT_tup, isi_int_tup, isi_bool_tup, isi_str_tup, isi_tup_tup, isi_lst_tup, tru_lst, isLT_lst, isi_int_lst, isi_bool_lst, isi_str_lst, isi_tup_lst, isi_lst_lst, isL_lst, seqW_lst, seqW_tup, seqW_str, seqW_scr, sq2_lst, sq2_tup, inW_sign])
    refine ⟨b, n + 1, rfl, Bg.up ok, by omega, by omega, fun r r0 r1 g s ok => ?_⟩
    rw [up_up]
    exact h _ _ ⟨⟨r0, by omega⟩, g, s, ok, rfl⟩
  rintro m S1 ⟨⟨m0, mn⟩, g, s, ok, rfl⟩
  refine ⟨⟨by omega, by omega⟩, fun i ω' S' => (∃ y7 y8 y9 y10 y11, ω' = ⟨[some (.ref b), some (stationsW ss), some (.int n), some (.str letters), some (.int (f : Nat)), some (.str stem), some (.ref p), y7, y8, y9, y10, y11], XF⟩) ∧ ∃ xs g s, (xs.length = i ∧ ∀ x ∈ xs, HR x) ∧ BagOk g s ∧ S' = up (up S p (.lst xs)) b (bagO g s), ⟨⟨_, _, _, _, _, rfl⟩, [], g, s, ⟨rfl, fun _ h => (nomatch h)⟩, ok, rfl⟩, ?_, ?_⟩
  · rintro i ω' S' hi ⟨⟨y7, y8, y9, y10, y11, rfl⟩, xs, g, s, ⟨hxl, hx⟩, ok, rfl⟩
    refine ⟨_, rfl, ?_⟩
    refine seq_go ?_
    have e1 : L2.atI letters.cps.toList (((f : Int) + 5 * (i : Int)) % 26) = some (97 + (f + 5 * i) % 26) := by
      rw [letter_at (by omega) (by omega), show (((f : Int) + 5 * (i : Int)) % 26).toNat = (f + 5 * i) % 26 by omega]
    have e2 : L2.atI letters.cps.toList ((3 * (f : Int) + (i : Int)) / 26 % 26) = some (97 + ((3 * (f : Int) + (i : Int)) / 26 % 26).toNat) := letter_at (by omega) (by omega)
    refine setN_go (fun w S1 => ∃ x, w = .str x ∧ x.length ≤ 2 ∧ S1 = up (up S p (.lst xs)) b (bagO g s)) (fun Q h => ?_) ?_
    · (simp only [↓dFgt, ↓dVar, ↓dC, ↓dOp, ↓dUn, ↓dI, ↓dI0, ↓dSub, ↓dMul, ↓dDiv, ↓dMod, ↓dPow, ↓dAdd, ↓dNeg, ↓dEq, ↓dNe, ↓dLt, ↓dLe, ↓dGt, ↓dGe, ↓dIsN, ↓dNotN, ↓dTru, ↓dTest, ↓dChain, ↓dAnd, ↓dOr, ↓dNot, ↓dAndV, ↓dOrV, ↓dNotV, ↓dIf, ↓dNil, ↓dCons, ↓dTup, ↓dLst, ↓dLstM, ↓dCB, ↓dLen, ↓dAbs, ↓dMax2, ↓dMin2, ↓dAll, ↓dAny, ↓dListOf, ↓dListOfM, ↓dTupOf, ↓dNext, ↓dSeq, ↓dDrop, ↓dRet, ↓dRetN, ↓dIfS, ↓dBrk, ↓dCnt, ↓dSet, ↓dAsgT, ↓dPar2, ↓tbind, ↓tbinds, ↓Om.set, ↓dCall, ↓dIx, ↓dNo, ↓dPart, ↓dSl, ↓dSlr, ↓dBM, ↓dApp, ↓dExt, ↓dSetIx, ↓dIs, ↓dMinS, ↓dMaxS, ↓dJoin, ↓dFrz, ↓dPut, ↓dFld, ↓dSetF, ↓dInt, ↓dIsLT, ↓dRng1, ↓dRng2, ↓dEnum, ↓dZip, ↓dSeqI, view_c_non, view_c_bl, view_c_int, view_c_str, view_c_tup, view_c_lst, view_c_scr, view_c_dct, view_c_ins, ↓startW, ↓wp, ↓wps, ↓dInKD, ↓dNotInKD, ↓dIxKD, ↓dIn, ↓dNotIn, ↓dDg, List.getElem?_cons_zero, List.getElem?_cons_succ, List.set_cons_zero, List.set_cons_succ, List.map_cons, List.map_nil, List.length_cons, List.length_nil, List.replicate_succ, List.replicate_zero, List.nil_append, List.cons_append, Bool.not_true, Bool.not_false, if_true, wkey_int, wkey_str, atI_0, atI_1, atI_2, atI_3, up_same, if_false, Bool.false_eq_true, Bool.true_eq_false, tru_non, isLT_non, isi_int_non, isi_bool_non, isi_str_non, isi_tup_non, isi_lst_non, tru_bl, isLT_bl, isi_int_bl, isi_bool_bl, isi_str_bl, isi_tup_bl, isi_lst_bl, tru_int, isLT_int, isi_int_int, isi_bool_int, isi_str_int, isi_tup_int, isi_lst_int, tru_str, isLT_str, isi_int_str, isi_bool_str, isi_str_str, isi_tup_str, isi_lst_str, tru_tup, isLT_tup, isi_int_tup, isi_bool_tup, isi_str_tup, isi_tup_tup, isi_lst_tup, tru_lst, isLT_lst, isi_int_lst, isi_bool_lst, isi_str_lst, isi_tup_lst, isi_lst_lst, isL_lst, seqW_lst, seqW_tup, seqW_str, seqW_scr, sq2_lst, sq2_tup, inW_sign])
      refine ⟨.inl ⟨by omega, by omega⟩, by decide, ?_⟩
      simp only [e1]
      refine ⟨.inl ⟨by omega, by omega⟩, ⟨by decide, by omega⟩, by decide, ?_⟩
      simp only [e2]
      refine ⟨by show 1 + 1 ≤ 1000000; decide, h _ _ ⟨_, rfl, ?_, rfl⟩⟩
      rw [str_app]
      show 1 + 1 ≤ 2
      decide
    rintro _ _ ⟨x, rfl, hx2, rfl⟩
    (((try unfold dNext); dsimp only; refine seq_go ?_))
    refine setN_go (fun w S1 => ∃ x g s, w = .str x ∧ BagOk g s ∧ S1 = up (up S p (.lst xs)) b (bagO g s)) (fun Q h => ?_) ?_
    · (simp only [↓dFgt, ↓dVar, ↓dC, ↓dOp, ↓dUn, ↓dI, ↓dI0, ↓dSub, ↓dMul, ↓dDiv, ↓dMod, ↓dPow, ↓dAdd, ↓dNeg, ↓dEq, ↓dNe, ↓dLt, ↓dLe, ↓dGt, ↓dGe, ↓dIsN, ↓dNotN, ↓dTru, ↓dTest, ↓dChain, ↓dAnd, ↓dOr, ↓dNot, ↓dAndV, ↓dOrV, ↓dNotV, ↓dIf, ↓dNil, ↓dCons, ↓dTup, ↓dLst, ↓dLstM, ↓dCB, ↓dLen, ↓dAbs, ↓dMax2, ↓dMin2, ↓dAll, ↓dAny, ↓dListOf, ↓dListOfM, ↓dTupOf, ↓dNext, ↓dSeq, ↓dDrop, ↓dRet, ↓dRetN, ↓dIfS, ↓dBrk, ↓dCnt, ↓dSet, ↓dAsgT, ↓dPar2, ↓tbind, ↓tbinds, ↓Om.set, ↓dCall, ↓dIx, ↓dNo, ↓dPart, ↓dSl, ↓dSlr, ↓dBM, ↓dApp, ↓dExt, ↓dSetIx, ↓dIs, ↓dMinS, ↓dMaxS, ↓dJoin, ↓dFrz, ↓dPut, ↓dFld, ↓dSetF, ↓dInt, ↓dIsLT, ↓dRng1, ↓dRng2, ↓dEnum, ↓dZip, ↓dSeqI, view_c_non, view_c_bl, view_c_int, view_c_str, view_c_tup, view_c_lst, view_c_scr, view_c_dct, view_c_ins, ↓startW, ↓wp, ↓wps, ↓dInKD, ↓dNotInKD, ↓dIxKD, ↓dIn, ↓dNotIn, ↓dDg, List.getElem?_cons_zero, List.getElem?_cons_succ, List.set_cons_zero, List.set_cons_succ, List.map_cons, List.map_nil, List.length_cons, List.length_nil, List.replicate_succ, List.replicate_zero, List.nil_append, List.cons_append, Bool.not_true, Bool.not_false, if_true, wkey_int, wkey_str, atI_0, atI_1, atI_2, atI_3, up_same, if_false, Bool.false_eq_true, Bool.true_eq_false, tru_non, isLT_non, isi_int_non, isi_bool_non, isi_str_non, isi_tup_non, isi_lst_non, tru_bl, isLT_bl, isi_int_bl, isi_bool_bl, isi_str_bl, isi_tup_bl, isi_lst_bl, tru_int, isLT_int, isi_int_int, isi_bool_int, isi_str_int, isi_tup_int, isi_lst_int, tru_str, isLT_str, isi_int_str, isi_bool_str, isi_str_str, isi_tup_str, isi_lst_str, tru_tup, isLT_tup, isi_int_tup, isi_bool_tup, isi_str_tup, isi_tup_tup, isi_lst_tup, tru_lst, isLT_lst, isi_int_lst, isi_bool_lst, isi_str_lst, isi_tup_lst, isi_lst_lst, isL_lst, seqW_lst, seqW_tup, seqW_str, seqW_scr, sq2_lst, sq2_tup, inW_sign])
      refine ⟨b, 6, rfl, Bg.up ok, by decide, by decide, fun r r0 r1 g s ok => ?_⟩
      rw [up_up]
      have := cutS_length stem none (some r)
      exact ⟨by omega, h _ _ ⟨_, g, s, rfl, ok, rfl⟩⟩
    rintro _ _ ⟨name, g, s, rfl, ok, rfl⟩
    (((try unfold dNext); dsimp only; refine seq_go ?_))
    refine setN_go (fun w S1 => ∃ q, w = .ref q ∧ q ≠ p ∧ q ≠ b ∧ S q = none ∧ S1 = up (up (up S p (.lst xs)) q (.lst [])) b (bagO g s)) (fun Q h => ?_) ?_
    · (simp only [↓dFgt, ↓dVar, ↓dC, ↓dOp, ↓dUn, ↓dI, ↓dI0, ↓dSub, ↓dMul, ↓dDiv, ↓dMod, ↓dPow, ↓dAdd, ↓dNeg, ↓dEq, ↓dNe, ↓dLt, ↓dLe, ↓dGt, ↓dGe, ↓dIsN, ↓dNotN, ↓dTru, ↓dTest, ↓dChain, ↓dAnd, ↓dOr, ↓dNot, ↓dAndV, ↓dOrV, ↓dNotV, ↓dIf, ↓dNil, ↓dCons, ↓dTup, ↓dLst, ↓dLstM, ↓dCB, ↓dLen, ↓dAbs, ↓dMax2, ↓dMin2, ↓dAll, ↓dAny, ↓dListOf, ↓dListOfM, ↓dTupOf, ↓dNext, ↓dSeq, ↓dDrop, ↓dRet, ↓dRetN, ↓dIfS, ↓dBrk, ↓dCnt, ↓dSet, ↓dAsgT, ↓dPar2, ↓tbind, ↓tbinds, ↓Om.set, ↓dCall, ↓dIx, ↓dNo, ↓dPart, ↓dSl, ↓dSlr, ↓dBM, ↓dApp, ↓dExt, ↓dSetIx, ↓dIs, ↓dMinS, ↓dMaxS, ↓dJoin, ↓dFrz, ↓dPut, ↓dFld, ↓dSetF, ↓dInt, ↓dIsLT, ↓dRng1, ↓dRng2, ↓dEnum, ↓dZip, ↓dSeqI, view_c_non, view_c_bl, view_c_int, view_c_str, view_c_tup, view_c_lst, view_c_scr, view_c_dct, view_c_ins, ↓startW, ↓wp, ↓wps, ↓dInKD, ↓dNotInKD, ↓dIxKD, ↓dIn, ↓dNotIn, ↓dDg, List.getElem?_cons_zero, List.getElem?_cons_succ, List.set_cons_zero, List.set_cons_succ, List.map_cons, List.map_nil, List.length_cons, List.length_nil, List.replicate_succ, List.replicate_zero, List.nil_append, List.cons_append, Bool.not_true, Bool.not_false, if_true, wkey_int, wkey_str, atI_0, atI_1, atI_2, atI_3, up_same, if_false, Bool.false_eq_true, Bool.true_eq_false, tru_non, isLT_non, isi_int_non, isi_bool_non, isi_str_non, isi_tup_non, isi_lst_non, tru_bl, isLT_bl, isi_int_bl, isi_bool_bl, isi_str_bl, isi_tup_bl, isi_lst_bl, tru_int, isLT_int, isi_int_int, isi_bool_int, isi_str_int, isi_tup_int, isi_lst_int, tru_str, isLT_str, isi_int_str, isi_bool_str, isi_str_str, isi_tup_str, isi_lst_str, tru_tup, isLT_tup, isi_int_tup, isi_bool_tup, isi_str_tup, isi_tup_tup, isi_lst_tup, tru_lst, isLT_lst, isi_int_lst, isi_bool_lst, isi_str_lst, isi_tup_lst, isi_lst_lst, isL_lst, seqW_lst, seqW_tup, seqW_str, seqW_scr, sq2_lst, sq2_tup, inW_sign])
      refine ⟨by decide, fun q hq => ?_⟩
      have hqb : q ≠ b := fun e => by subst e; rw [up_same] at hq; cases hq
      have hqp : q ≠ p := fun e => by subst e; rw [up_ne hqb, up_same] at hq; cases hq
      exact h _ _ ⟨q, rfl, hqp, hqb, by rw [up_ne hqb, up_ne hqp] at hq; exact hq, up_comm (Ne.symm hqb)⟩
    rintro _ _ ⟨q', rfl, hqp, hqb, hqS, rfl⟩
    (((try unfold dNext); dsimp only; refine seq_go ?_))
    refine forRN (fun m S1 => (0 ≤ m ∧ m ≤ 6) ∧ ∃ g s, BagOk g s ∧ S1 = up (up (up S p (.lst xs)) q' (.lst [])) b (bagO g s)) (fun Q' h => ?_) ?_
    · (simp only [↓dFgt, ↓dVar, ↓dC, ↓dOp, ↓dUn, ↓dI, ↓dI0, ↓dSub, ↓dMul, ↓dDiv, ↓dMod, ↓dPow, ↓dAdd, ↓dNeg, ↓dEq, ↓dNe, ↓dLt, ↓dLe, ↓dGt, ↓dGe, ↓dIsN, ↓dNotN, ↓dTru, ↓dTest, ↓dChain, ↓dAnd, ↓dOr, ↓dNot, ↓dAndV, ↓dOrV, ↓dNotV, ↓dIf, ↓dNil, ↓dCons, ↓dTup, ↓dLst, ↓dLstM, ↓dCB, ↓dLen, ↓dAbs, ↓dMax2, ↓dMin2, ↓dAll, ↓dAny, ↓dListOf, ↓dListOfM, ↓dTupOf, ↓dNext, ↓dSeq, ↓dDrop, ↓dRet, ↓dRetN, ↓dIfS, ↓dBrk, ↓dCnt, ↓dSet, ↓dAsgT, ↓dPar2, ↓tbind, ↓tbinds, ↓Om.set, ↓dCall, ↓dIx, ↓dNo, ↓dPart, ↓dSl, ↓dSlr, ↓dBM, ↓dApp, ↓dExt, ↓dSetIx, ↓dIs, ↓dMinS, ↓dMaxS, ↓dJoin, ↓dFrz, ↓dPut, ↓dFld, ↓dSetF, ↓dInt, ↓dIsLT, ↓dRng1, ↓dRng2, ↓dEnum, ↓dZip, ↓dSeqI, view_c_non, view_c_bl, view_c_int, view_c_str, view_c_tup, view_c_lst, view_c_scr, view_c_dct, view_c_ins, ↓startW, ↓wp, ↓wps, ↓dInKD, ↓dNotInKD, ↓dIxKD, ↓dIn, ↓dNotIn, ↓dDg, List.getElem?_cons_zero, List.getElem?_cons_succ, List.set_cons_zero, List.set_cons_succ, List.map_cons, List.map_nil, List.length_cons, List.length_nil, List.replicate_succ, List.replicate_zero, List.nil_append, List.cons_append, Bool.not_true, Bool.not_false, if_true, wkey_int, wkey_str, atI_0, atI_1, atI_2, atI_3, up_same, if_false, Bool.false_eq_true, Bool.true_eq_false, tru_non, isLT_non, isi_int_non, isi_bool_non, isi_str_non, isi_tup_non, isi_lst_non, tru_bl, isLT_bl, isi_int_bl, isi_bool_bl, isi_str_bl, isi_tup_bl, isi_lst_bl, tru_int, isLT_int, isi_int_int, isi_bool_int, isi_str_int, isi_tup_int, isi_lst_int, tru_str, isLT_str, isi_int_str, isi_bool_str, isi_str_str, isi_tup_str, isi_lst_str, tru_tup, isLT_tup, isi_int_tup, isi_bool_tup, isi_str_tup, isi_tup_tup, isi_lst_tup, tru_lst, isLT_lst, isi_int_lst, isi_bool_lst, isi_str_lst, isi_tup_lst, isi_lst_lst, isL_lst, seqW_lst, seqW_tup, seqW_str, seqW_scr, sq2_lst, sq2_tup, inW_sign])
      refine ⟨by decide, b, 2, rfl, Bg.up ok, by decide, by decide, fun r r0 r1 g s ok => ?_⟩
      rw [up_up]
      obtain ⟨w, hw, hat⟩ := atI_pick (xs := [W.int 3, .int 6]) r0 r1
      have hm : ∃ m : Int, w = .int m ∧ 0 < m ∧ m ≤ 6 := by
        simp only [List.mem_cons, List.not_mem_nil, or_false] at hw
        rcases hw with rfl | rfl <;> exact ⟨_, rfl, by decide, by decide⟩
      obtain ⟨m, rfl, m0, m1⟩ := hm
      simp only [hat]
      refine ⟨b, m, rfl, Bg.up ok, m0, by omega, fun r r0 r1 g s ok => ?_⟩
      rw [up_up]
      exact h _ _ ⟨⟨r0, by omega⟩, g, s, ok, rfl⟩
    rintro z S1 ⟨⟨z0, z6⟩, g, s, ok, rfl⟩
    refine ⟨⟨by omega, by omega⟩, fun j ω' S' => (∃ y10 y11, ω' = ⟨[some (.ref b), some (stationsW ss), some (.int n), some (.str letters), some (.int (f : Nat)), some (.str stem), some (.ref p), some (.str name), some (.ref q'), y10, y11, some (.int (i : Nat))], XF⟩) ∧ ∃ sk g s, (sk.length = j ∧ ∀ y ∈ sk, ∃ k d, y = W.tup [.str k, .int d]) ∧ BagOk g s ∧ S' = up (up (up S p (.lst xs)) q' (.lst sk)) b (bagO g s), ⟨⟨_, _, rfl⟩, [], g, s, ⟨rfl, fun _ h => (nomatch h)⟩, ok, rfl⟩, ?_, ?_⟩
    · rintro j ω' S' hj ⟨⟨y10, y11, rfl⟩, sk, g, s, ⟨hsl, hsk⟩, ok, rfl⟩
      have hSq : ∀ g s : Int, up (up (up S p (.lst xs)) q' (.lst sk)) b (bagO g s) q' = some (.lst sk) := fun g s => by rw [up_ne hqb, up_same]
      refine ⟨_, rfl, ?_⟩
      refine seq_go ?_
      refine setN_go (fun w S1 => ∃ k g s, w = .str k ∧ BagOk g s ∧ S1 = up (up (up S p (.lst xs)) q' (.lst sk)) b (bagO g s)) (fun Q h => ?_) ?_
      · (simp only [↓dFgt, ↓dVar, ↓dC, ↓dOp, ↓dUn, ↓dI, ↓dI0, ↓dSub, ↓dMul, ↓dDiv, ↓dMod, ↓dPow, ↓dAdd, ↓dNeg, ↓dEq, ↓dNe, ↓dLt, ↓dLe, ↓dGt, ↓dGe, ↓dIsN, ↓dNotN, ↓dTru, ↓dTest, ↓dChain, ↓dAnd, ↓dOr, ↓dNot, ↓dAndV, ↓dOrV, ↓dNotV, ↓dIf, ↓dNil, ↓dCons, ↓dTup, ↓dLst, ↓dLstM, ↓dCB, ↓dLen, ↓dAbs, ↓dMax2, ↓dMin2, ↓dAll, ↓dAny, ↓dListOf, ↓dListOfM, ↓dTupOf, ↓dNext, ↓dSeq, ↓dDrop, ↓dRet, ↓dRetN, ↓dIfS, ↓dBrk, ↓dCnt, ↓dSet, ↓dAsgT, ↓dPar2, ↓tbind, ↓tbinds, ↓Om.set, ↓dCall, ↓dIx, ↓dNo, ↓dPart, ↓dSl, ↓dSlr, ↓dBM, ↓dApp, ↓dExt, ↓dSetIx, ↓dIs, ↓dMinS, ↓dMaxS, ↓dJoin, ↓dFrz, ↓dPut, ↓dFld, ↓dSetF, ↓dInt, ↓dIsLT, ↓dRng1, ↓dRng2, ↓dEnum, ↓dZip, ↓dSeqI, view_c_non, view_c_bl, view_c_int, view_c_str, view_c_tup, view_c_lst, view_c_scr, view_c_dct, view_c_ins, ↓startW, ↓wp, ↓wps, ↓dInKD, ↓dNotInKD, ↓dIxKD, ↓dIn, ↓dNotIn, ↓dDg, List.getElem?_cons_zero, List.getElem?_cons_succ, List.set_cons_zero, List.set_cons_succ, List.map_cons, List.map_nil, List.length_cons, List.length_nil, List.replicate_succ, List.replicate_zero, List.nil_append, List.cons_append, Bool.not_true, Bool.not_false, if_true, wkey_int, wkey_str, atI_0, atI_1, atI_2, atI_3, up_same, if_false, Bool.false_eq_true, Bool.true_eq_false, tru_non, isLT_non, isi_int_non, isi_bool_non, isi_str_non, isi_tup_non, isi_lst_non, tru_bl, isLT_bl, isi_int_bl, isi_bool_bl, isi_str_bl, isi_tup_bl, isi_lst_bl, tru_int, isLT_int, isi_int_int, isi_bool_int, isi_str_int, isi_tup_int, isi_lst_int, tru_str, isLT_str, isi_int_str, isi_bool_str, isi_str_str, isi_tup_str, isi_lst_str, tru_tup, isLT_tup, isi_int_tup, isi_bool_tup, isi_str_tup, isi_tup_tup, isi_lst_tup, tru_lst, isLT_lst, isi_int_lst, isi_bool_lst, isi_str_lst, isi_tup_lst, isi_lst_lst, isL_lst, seqW_lst, seqW_tup, seqW_str, seqW_scr, sq2_lst, sq2_tup, inW_sign])
        refine ⟨by decide, b, 4, rfl, Bg.up ok, by decide, by decide, fun r r0 r1 g s ok => ?_⟩
        rw [up_up]
        obtain ⟨w, hw, hat⟩ := atI_pick (xs := [W.str "drive", .str "lead", .str "wear", .str "drive"]) r0 r1
        simp only [hat]
        simp only [List.mem_cons, List.not_mem_nil, or_false] at hw
        rcases hw with rfl | rfl | rfl | rfl <;> exact h _ _ ⟨_, g, s, rfl, ok, rfl⟩
      rintro _ _ ⟨k, g, s, rfl, ok, rfl⟩
      (((try unfold dNext); dsimp only))
      refine drop_go (bm_go (var_go rfl ⟨isL_ref (hSq g s), ?_⟩))
      (simp only [↓dFgt, ↓dVar, ↓dC, ↓dOp, ↓dUn, ↓dI, ↓dI0, ↓dSub, ↓dMul, ↓dDiv, ↓dMod, ↓dPow, ↓dAdd, ↓dNeg, ↓dEq, ↓dNe, ↓dLt, ↓dLe, ↓dGt, ↓dGe, ↓dIsN, ↓dNotN, ↓dTru, ↓dTest, ↓dChain, ↓dAnd, ↓dOr, ↓dNot, ↓dAndV, ↓dOrV, ↓dNotV, ↓dIf, ↓dNil, ↓dCons, ↓dTup, ↓dLst, ↓dLstM, ↓dCB, ↓dLen, ↓dAbs, ↓dMax2, ↓dMin2, ↓dAll, ↓dAny, ↓dListOf, ↓dListOfM, ↓dTupOf, ↓dNext, ↓dSeq, ↓dDrop, ↓dRet, ↓dRetN, ↓dIfS, ↓dBrk, ↓dCnt, ↓dSet, ↓dAsgT, ↓dPar2, ↓tbind, ↓tbinds, ↓Om.set, ↓dCall, ↓dIx, ↓dNo, ↓dPart, ↓dSl, ↓dSlr, ↓dBM, ↓dApp, ↓dExt, ↓dSetIx, ↓dIs, ↓dMinS, ↓dMaxS, ↓dJoin, ↓dFrz, ↓dPut, ↓dFld, ↓dSetF, ↓dInt, ↓dIsLT, ↓dRng1, ↓dRng2, ↓dEnum, ↓dZip, ↓dSeqI, view_c_non, view_c_bl, view_c_int, view_c_str, view_c_tup, view_c_lst, view_c_scr, view_c_dct, view_c_ins, ↓startW, ↓wp, ↓wps, ↓dInKD, ↓dNotInKD, ↓dIxKD, ↓dIn, ↓dNotIn, ↓dDg, List.getElem?_cons_zero, List.getElem?_cons_succ, List.set_cons_zero, List.set_cons_succ, List.map_cons, List.map_nil, List.length_cons, List.length_nil, List.replicate_succ, List.replicate_zero, List.nil_append, List.cons_append, Bool.not_true, Bool.not_false, if_true, wkey_int, wkey_str, atI_0, atI_1, atI_2, atI_3, up_same, if_false, Bool.false_eq_true, Bool.true_eq_false, tru_non, isLT_non, isi_int_non, isi_bool_non, isi_str_non, isi_tup_non, isi_lst_non, tru_bl, isLT_bl, isi_int_bl, isi_bool_bl, isi_str_bl, isi_tup_bl, isi_lst_bl, tru_int, isLT_int, isi_int_int, isi_bool_int, isi_str_int, isi_tup_int, isi_lst_int, tru_str, isLT_str, isi_int_str, isi_bool_str, isi_str_str, isi_tup_str, isi_lst_str, tru_tup, isLT_tup, isi_int_tup, isi_bool_tup, isi_str_tup, isi_tup_tup, isi_lst_tup, tru_lst, isLT_lst, isi_int_lst, isi_bool_lst, isi_str_lst, isi_tup_lst, isi_lst_lst, isL_lst, seqW_lst, seqW_tup, seqW_str, seqW_scr, sq2_lst, sq2_tup, inW_sign])
      refine ⟨b, 10, rfl, Bg.up ok, by decide, by decide, fun t t0 t1 g s ok => ?_⟩
      rw [up_up]
      simp only [hSq]
      refine ⟨by decide, by omega, ⟨_, _, rfl⟩, sk ++ [.tup [.str k, .int t]], g, s, ⟨by rw [List.length_append, hsl]; rfl, fun y hy => ?_⟩, ok, ?_⟩
      · rcases List.mem_append.mp hy with hy | hy
        · exact hsk y hy
        · exact ⟨_, _, List.mem_singleton.mp hy⟩
      · rw [← up_comm hqb, up_up]
    · rintro ω' S' ⟨⟨y10, y11, rfl⟩, sk, g, s, ⟨hsl, hsk⟩, ok, rfl⟩
      have hSp : ∀ g s : Int, up (up (up S p (.lst xs)) q' (.lst sk)) b (bagO g s) p = some (.lst xs) := fun g s => by rw [up_ne hpb, up_ne (Ne.symm hqp), up_same]
      have hSq : ∀ g s : Int, view (up (up (up S p (.lst xs)) q' (.lst sk)) b (bagO g s)) (.ref q') = .lst sk := fun g s => view_ref (by rw [up_ne hqb, up_same])
      (((try unfold dNext); dsimp only))
      show dDrop _ _ _ _
      refine drop_go (bm_go (var_go rfl ⟨isL_ref (hSp g s), ?_⟩))
      (simp only [↓dFgt, ↓dVar, ↓dC, ↓dOp, ↓dUn, ↓dI, ↓dI0, ↓dSub, ↓dMul, ↓dDiv, ↓dMod, ↓dPow, ↓dAdd, ↓dNeg, ↓dEq, ↓dNe, ↓dLt, ↓dLe, ↓dGt, ↓dGe, ↓dIsN, ↓dNotN, ↓dTru, ↓dTest, ↓dChain, ↓dAnd, ↓dOr, ↓dNot, ↓dAndV, ↓dOrV, ↓dNotV, ↓dIf, ↓dNil, ↓dCons, ↓dTup, ↓dLst, ↓dLstM, ↓dCB, ↓dLen, ↓dAbs, ↓dMax2, ↓dMin2, ↓dAll, ↓dAny, ↓dListOf, ↓dListOfM, ↓dTupOf, ↓dNext, ↓dSeq, ↓dDrop, ↓dRet, ↓dRetN, ↓dIfS, ↓dBrk, ↓dCnt, ↓dSet, ↓dAsgT, ↓dPar2, ↓tbind, ↓tbinds, ↓Om.set, ↓dCall, ↓dIx, ↓dNo, ↓dPart, ↓dSl, ↓dSlr, ↓dBM, ↓dApp, ↓dExt, ↓dSetIx, ↓dIs, ↓dMinS, ↓dMaxS, ↓dJoin, ↓dFrz, ↓dPut, ↓dFld, ↓dSetF, ↓dInt, ↓dIsLT, ↓dRng1, ↓dRng2, ↓dEnum, ↓dZip, ↓dSeqI, view_c_non, view_c_bl, view_c_int, view_c_str, view_c_tup, view_c_lst, view_c_scr, view_c_dct, view_c_ins, ↓startW, ↓wp, ↓wps, ↓dInKD, ↓dNotInKD, ↓dIxKD, ↓dIn, ↓dNotIn, ↓dDg, List.getElem?_cons_zero, List.getElem?_cons_succ, List.set_cons_zero, List.set_cons_succ, List.map_cons, List.map_nil, List.length_cons, List.length_nil, List.replicate_succ, List.replicate_zero, List.nil_append, List.cons_append, Bool.not_true, Bool.not_false, if_true, wkey_int, wkey_str, atI_0, atI_1, atI_2, atI_3, up_same, if_false, Bool.false_eq_true, Bool.true_eq_false, tru_non, isLT_non, isi_int_non, isi_bool_non, isi_str_non, isi_tup_non, isi_lst_non, tru_bl, isLT_bl, isi_int_bl, isi_bool_bl, isi_str_bl, isi_tup_bl, isi_lst_bl, tru_int, isLT_int, isi_int_int, isi_bool_int, isi_str_int, isi_tup_int, isi_lst_int, tru_str, isLT_str, isi_int_str, isi_bool_str, isi_str_str, isi_tup_str, isi_lst_str, tru_tup, isLT_tup, isi_int_tup, isi_bool_tup, isi_str_tup, isi_tup_tup, isi_lst_tup, tru_lst, isLT_lst, isi_int_lst, isi_bool_lst, isi_str_lst, isi_tup_lst, isi_lst_lst, isL_lst, seqW_lst, seqW_tup, seqW_str, seqW_scr, sq2_lst, sq2_tup, inW_sign])
      refine ⟨b, _, rfl, Bg.up ok, by rw [List.length_map]; omega, by rw [List.length_map]; omega, fun t t0 t1 g s ok => ?_⟩
      rw [up_up]
      obtain ⟨st, hstm, hst⟩ := atI_pick (xs := ss.map W.str) t0 t1
      obtain ⟨st, _, rfl⟩ := List.mem_map.mp hstm
      simp only [hst]
      refine ⟨b, 4, rfl, Bg.up ok, by decide, by decide, fun t t0 t1 g s ok => ?_⟩
      rw [up_up]
      simp only [hSp, hSq]
      refine ⟨by decide, by omega, _, drop_mid hqp hqb hpb hqS (fun _ e => nomatch e), ⟨_, _, _, _, _, rfl⟩, xs ++ [.tup [.str name, .str st, .int t, .tup sk]], g, s, ⟨by rw [List.length_append, hxl]; rfl, fun y hy => ?_⟩, ok, rfl⟩
      rcases List.mem_append.mp hy with hy | hy
      · exact hx y hy
      · exact ⟨_, _, _, _, List.mem_singleton.mp hy, by omega, hsk⟩
  · rintro ω' S' ⟨⟨y7, y8, y9, y10, y11, rfl⟩, xs, g, s, ⟨hxl, hx⟩, ok, rfl⟩
    have hv : view (up (up S p (.lst xs)) b (bagO g s)) (.ref p) = .lst xs := view_ref (by rw [up_ne hpb, up_same])
    (((try unfold dNext); dsimp only))
    refine ret_go ?_
    (simp only [↓dFgt, ↓dVar, ↓dC, ↓dOp, ↓dUn, ↓dI, ↓dI0, ↓dSub, ↓dMul, ↓dDiv, ↓dMod, ↓dPow, ↓dAdd, ↓dNeg, ↓dEq, ↓dNe, ↓dLt, ↓dLe, ↓dGt, ↓dGe, ↓dIsN, ↓dNotN, ↓dTru, ↓dTest, ↓dChain, ↓dAnd, ↓dOr, ↓dNot, ↓dAndV, ↓dOrV, ↓dNotV, ↓dIf, ↓dNil, ↓dCons, ↓dTup, ↓dLst, ↓dLstM, ↓dCB, ↓dLen, ↓dAbs, ↓dMax2, ↓dMin2, ↓dAll, ↓dAny, ↓dListOf, ↓dListOfM, ↓dTupOf, ↓dNext, ↓dSeq, ↓dDrop, ↓dRet, ↓dRetN, ↓dIfS, ↓dBrk, ↓dCnt, ↓dSet, ↓dAsgT, ↓dPar2, ↓tbind, ↓tbinds, ↓Om.set, ↓dCall, ↓dIx, ↓dNo, ↓dPart, ↓dSl, ↓dSlr, ↓dBM, ↓dApp, ↓dExt, ↓dSetIx, ↓dIs, ↓dMinS, ↓dMaxS, ↓dJoin, ↓dFrz, ↓dPut, ↓dFld, ↓dSetF, ↓dInt, ↓dIsLT, ↓dRng1, ↓dRng2, ↓dEnum, ↓dZip, ↓dSeqI, view_c_non, view_c_bl, view_c_int, view_c_str, view_c_tup, view_c_lst, view_c_scr, view_c_dct, view_c_ins, ↓startW, ↓wp, ↓wps, ↓dInKD, ↓dNotInKD, ↓dIxKD, ↓dIn, ↓dNotIn, ↓dDg, List.getElem?_cons_zero, List.getElem?_cons_succ, List.set_cons_zero, List.set_cons_succ, List.map_cons, List.map_nil, List.length_cons, List.length_nil, List.replicate_succ, List.replicate_zero, List.nil_append, List.cons_append, Bool.not_true, Bool.not_false, if_true, wkey_int, wkey_str, atI_0, atI_1, atI_2, atI_3, up_same, if_false, Bool.false_eq_true, Bool.true_eq_false, tru_non, isLT_non, isi_int_non, isi_bool_non, isi_str_non, isi_tup_non, isi_lst_non, tru_bl, isLT_bl, isi_int_bl, isi_bool_bl, isi_str_bl, isi_tup_bl, isi_lst_bl, tru_int, isLT_int, isi_int_int, isi_bool_int, isi_str_int, isi_tup_int, isi_lst_int, tru_str, isLT_str, isi_int_str, isi_bool_str, isi_str_str, isi_tup_str, isi_lst_str, tru_tup, isLT_tup, isi_int_tup, isi_bool_tup, isi_str_tup, isi_tup_tup, isi_lst_tup, tru_lst, isLT_lst, isi_int_lst, isi_bool_lst, isi_str_lst, isi_tup_lst, isi_lst_lst, isL_lst, seqW_lst, seqW_tup, seqW_str, seqW_scr, sq2_lst, sq2_tup, inW_sign])
    simp only [hv]
    refine ⟨_, _, Frz.drop (p := p) (o := .lst xs) (by rw [up_ne hpb, up_same]) (fun _ e => nomatch e), ?_⟩
    rw [del_up hpb, del_new hpS]
    exact q xs (by omega) hx g s ok
section
variable {P : Program} {w : World} {K : PySem.W.Frag} {mg : Str → Option Value} {base : Heap} {c_Ground : Addr}
theorem ok_law_hands {f : Addr} {fd : FuncData} (F : Fun K "_law_hands" "_law_hands" s_law_hands f fd) (T : Txt K w mg c_Ground) (C_law_take : CalD P w K mg base 1 "_law_take" sp_law_take) : FnOk P w K mg base CX0 2 f fd ["_law_bag_here", "_law_stations", "_law_most"] (uSp K (sp_law_hands)) :=
  Fun.okF F sc_law_hands (td_law_hands) (fun cdv A outer s H E hr =>
    (dss_cons (ds_set (i := 3) sc_law_hands.nd de_str)
    (dss_cons (ds_set (i := 4) sc_law_hands.nd (de_call C_law_take hr (da_cons (dv 0) (da_cons de_int da_nil))))
    (dss_cons (ds_set (i := 5) sc_law_hands.nd (de_join de_str (de_lc (own := [("_law_k", 11)]) sc_law_hands.nd (di_range1 T.z_range (da_cons de_int da_nil)) (blkOk_by (own := [("_law_k", 11)]) (N := N_law_hands) (sc := defScope s_law_hands) (by decide +kernel)) (fun _ _ _ _ _ => (dg_nm (i := 11) sc_law_hands.nd)) (fun _ _ _ _ _ => dts_nil) (fun _ _ _ _ _ => (de_ix (dv 3) (de_call C_law_take hr (da_cons (dv 0) (da_cons de_int da_nil))))))))
    (dss_cons (ds_set (i := 6) sc_law_hands.nd (de_lstM da_nil))
    (dss_cons (ds_for PassesOwn.never (di_range1 T.z_range (da_cons (de_call C_law_take hr (da_cons (dv 0) (da_cons (de_op oa_add (dv 2) de_int) da_nil))) da_nil)) (dg_nm (i := 11) sc_law_hands.nd)
      (dss_cons (ds_set (i := 7) sc_law_hands.nd (de_op oa_add (de_ix (dv 3) (de_op oa_mod (de_op oa_add (dv 4) (de_op oa_mul de_int (dv 11))) de_int)) (de_ix (dv 3) (de_op oa_mod (de_op oa_div (de_op oa_add (de_op oa_mul de_int (dv 4)) (dv 11)) de_int) de_int))))
      (dss_cons (ds_set (i := 7) sc_law_hands.nd (de_op oa_add (dv 7) (de_sl (dv 5) do_none (do_some (de_call C_law_take hr (da_cons (dv 0) (da_cons de_int da_nil)))))))
      (dss_cons (ds_set (i := 8) sc_law_hands.nd (de_lstM da_nil))
      (dss_cons (ds_for PassesOwn.never (di_range1 T.z_range (da_cons (de_call C_law_take hr (da_cons (dv 0) (da_cons (de_ix (de_tup (da_cons de_int (da_cons de_int da_nil))) (de_call C_law_take hr (da_cons (dv 0) (da_cons de_int da_nil)))) da_nil))) da_nil)) (dg_nm (i := 9) sc_law_hands.nd)
        (dss_cons (ds_set (i := 10) sc_law_hands.nd (de_ix (de_tup (da_cons de_str (da_cons de_str (da_cons de_str (da_cons de_str da_nil))))) (de_call C_law_take hr (da_cons (dv 0) (da_cons de_int da_nil)))))
        (dss_one (ds_expr (de_append (dv 8) (da_cons (de_tup (da_cons (dv 10) (da_cons (de_call C_law_take hr (da_cons (dv 0) (da_cons de_int da_nil))) da_nil))) da_nil))))))
      (dss_one (ds_fgt (ds_expr (de_append (dv 6) (da_cons (de_tup (da_cons (dv 7) (da_cons (de_ix (dv 1) (de_call C_law_take hr (da_cons (dv 0) (da_cons (de_callB cd_len T.z_len (da_cons (dv 1) da_nil)) da_nil)))) (da_cons (de_call C_law_take hr (da_cons (dv 0) (da_cons de_int da_nil))) (da_cons (de_callTy cd_tuple T.z_tuple (da_cons (dv 8) da_nil)) da_nil))))) da_nil))))))))))
    (dss_one (ds_ret (de_callTy cd_tuple T.z_tuple (da_cons (dv 6) da_nil)))))))))) (fun ws S Q E h => len_law_hands h) (hd_law_hands)
end
end DL

set_option Elab.async false
set_option linter.all false
set_option maxRecDepth 100000
set_option maxHeartbeats 4000000
namespace DL
open PySem PySem.Spec PyProof.Rows L2
theorem eqt {i : Nat} {k : Int} {way : Int} (ω : Om) (Q : Bool → Sto → Prop) (S1 : Sto) (h1 : ω.s[i]? = some (some (.int way))) (h : Q (decide (way = k)) S1) : dTest (dOp dEq (dVar i) (dC (.int k))) ω S1 Q := by
  simp only [dTest, dOp, dVar, h1, dC, dEq, view_c_int, weq_int]
  exact ⟨rfl, rfl, h⟩
def isI : W → Bool
  | .int _ => true
  | .bl _ => true
  | _ => false
/-! ### _law_bent_row -/
abbrev s_law_bent_row : Stmt := topS 50
abbrev N_law_bent_row : List Str := ["_law_bag_here", "_law_row", "_law_way", "_law_at"]
theorem sc_law_bent_row : FnScope N_law_bent_row ["_law_bag_here", "_law_row"] (defScope s_law_bent_row) := ⟨rfl, rfl, rfl, by decide +kernel, rfl, by decide +kernel, by decide +kernel⟩
theorem st_law_bent_row {x0 x1 : W} : startW N_law_bent_row [x0, x1] = [some x0, some x1, none, none] := rfl
def td_law_bent_row : DS' :=
    (dSeq (dIfS (dOr (dNot (dTru (dUn (dIs .tup) (dVar 1)))) (dTest (dOp dEq (dVar 1) (dTup dNil)))) (dRet (dCall sp_law_any (dCons (dVar 0) dNil))) dNext)
    (dSeq (dPar2 2 3 (dCons (dCall sp_law_take (dCons (dVar 0) (dCons (dC (.int 6)) dNil))) (dCons (dCall sp_law_take (dCons (dVar 0) (dCons (dCB dLen (dCons (dVar 1) dNil)) dNil))) dNil)))
    (dSeq (dIfS (dTest (dOp dEq (dVar 2) (dC (.int 0)))) (dRet (dOp dIx (dLst (dCons (dCB dListOf (dCons (dVar 1) dNil)) (dCons (dCall sp_law_any (dCons (dVar 0) dNil)) (dCons (dOp dAdd (dVar 1) (dTup (dCons (dC (.int 0)) dNil))) dNil)))) (dCall sp_law_take (dCons (dVar 0) (dCons (dC (.int 3)) dNil))))) dNext)
    (dSeq (dIfS (dTest (dOp dEq (dVar 2) (dC (.int 1)))) (dRet (dOp dAdd (dSl (dVar 1) dNo (dPart (dVar 3))) (dSl (dVar 1) (dPart (dOp dAdd (dVar 3) (dC (.int 1)))) dNo))) dNext)
    (dSeq (dIfS (dAnd (dTest (dOp dEq (dVar 2) (dC (.int 2)))) (dTru (dUn (dIs .int) (dOp dIx (dVar 1) (dVar 3))))) (dRet (dOp dAdd (dOp dAdd (dSl (dVar 1) dNo (dPart (dVar 3))) (dTup (dCons (dOp dAddB (dOp dIx (dVar 1) (dVar 3)) (dOp dIx (dTup (dCons (dC (.int 1)) (dCons (dUn dNeg (dC (.int 1))) (dCons (dC (.int 9)) (dCons (dUn dNeg (dC (.int 9))) dNil))))) (dCall sp_law_take (dCons (dVar 0) (dCons (dC (.int 4)) dNil))))) dNil))) (dSl (dVar 1) (dPart (dOp dAdd (dVar 3) (dC (.int 1)))) dNo))) dNext)
    (dSeq (dIfS (dTest (dOp dEq (dVar 2) (dC (.int 3)))) (dRet (dOp dAdd (dOp dAdd (dSl (dVar 1) dNo (dPart (dVar 3))) (dTup (dCons (dOp dIx (dVar 1) (dOp dSub (dVar 3) (dC (.int 1)))) dNil))) (dSl (dVar 1) (dPart (dOp dAdd (dVar 3) (dC (.int 1)))) dNo))) dNext)
    (dRet (dOp dAdd (dOp dAdd (dSl (dVar 1) dNo (dPart (dVar 3))) (dTup (dCons (dCall sp_law_any (dCons (dVar 0) dNil)) dNil))) (dSl (dVar 1) (dPart (dOp dAdd (dVar 3) (dC (.int 1)))) dNo)))))))))
def sp_law_bent_row : DSp := fun ws S Q _ => ∃ (b : Addr) (x : W) (L n : Nat), ws = [.ref b, x] ∧ Bg S b ∧ Tk L n x ∧ 3 ≤ n ∧ n ≤ 40 ∧ L ≤ 1000 ∧ ∀ y, Tk (L + 1) n y → aft S b (Q y)
theorem len_law_bent_row {ws S Q E} (h : sp_law_bent_row ws S Q E) : ws.length = 2 := by obtain ⟨b, x, L, n, rfl, _⟩ := h; rfl
theorem hd_law_bent_row (ws S Q E) (h : sp_law_bent_row ws S Q E) : td_law_bent_row { nx := fun _ S' => frzQ Q .non S', rt := frzQ Q } ⟨startW N_law_bent_row ws, XF⟩ S := by
  obtain ⟨b, x, L, n, rfl, hb, hx, n3, n40, hL, q⟩ := h
  simp only [st_law_bent_row, td_law_bent_row]
  refine seq_go ?_
  refine if_b (!isTC x) (fun Q h => test_ntc rfl hx.p (hx.ok (by omega)) h) (fun e => ?_) (fun e => ?_)
  · refine ret_go ?_
    (simp only [↓dFgt, ↓dVar, ↓dC, ↓dOp, ↓dUn, ↓dI, ↓dI0, ↓dSub, ↓dMul, ↓dDiv, ↓dMod, ↓dPow, ↓dAdd, ↓dNeg, ↓dEq, ↓dNe, ↓dLt, ↓dLe, ↓dGt, ↓dGe, ↓dIsN, ↓dNotN, ↓dTru, ↓dTest, ↓dChain, ↓dAnd, ↓dOr, ↓dNot, ↓dAndV, ↓dOrV, ↓dNotV, ↓dIf, ↓dNil, ↓dCons, ↓dTup, ↓dLst, ↓dLstM, ↓dCB, ↓dLen, ↓dAbs, ↓dMax2, ↓dMin2, ↓dAll, ↓dAny, ↓dListOf, ↓dListOfM, ↓dTupOf, ↓dNext, ↓dSeq, ↓dDrop, ↓dRet, ↓dRetN, ↓dIfS, ↓dBrk, ↓dCnt, ↓dSet, ↓dAsgT, ↓dPar2, ↓tbind, ↓tbinds, ↓Om.set, ↓dCall, ↓dIx, ↓dNo, ↓dPart, ↓dSl, ↓dSlr, ↓dBM, ↓dApp, ↓dExt, ↓dSetIx, ↓dIs, ↓dMinS, ↓dMaxS, ↓dJoin, ↓dFrz, ↓dPut, ↓dFld, ↓dSetF, ↓dInt, ↓dIsLT, ↓dRng1, ↓dRng2, ↓dEnum, ↓dZip, ↓dSeqI, view_c_non, view_c_bl, view_c_int, view_c_str, view_c_tup, view_c_lst, view_c_scr, view_c_dct, view_c_ins, ↓startW, ↓wp, ↓wps, ↓dInKD, ↓dNotInKD, ↓dIxKD, ↓dIn, ↓dNotIn, ↓dDg, List.getElem?_cons_zero, List.getElem?_cons_succ, List.set_cons_zero, List.set_cons_succ, List.map_cons, List.map_nil, List.length_cons, List.length_nil, List.replicate_succ, List.replicate_zero, List.nil_append, List.cons_append, Bool.not_true, Bool.not_false, if_true, wkey_int, wkey_str, atI_0, atI_1, atI_2, atI_3, up_same, if_false, Bool.false_eq_true, Bool.true_eq_false, tru_non, isLT_non, isi_int_non, isi_bool_non, isi_str_non, isi_tup_non, isi_lst_non, tru_bl, isLT_bl, isi_int_bl, isi_bool_bl, isi_str_bl, isi_tup_bl, isi_lst_bl, tru_int, isLT_int, isi_int_int, isi_bool_int, isi_str_int, isi_tup_int, isi_lst_int, tru_str, isLT_str, isi_int_str, isi_bool_str, isi_str_str, isi_tup_str, isi_lst_str, tru_tup, isLT_tup, isi_int_tup, isi_bool_tup, isi_str_tup, isi_tup_tup, isi_lst_tup, tru_lst, isLT_lst, isi_int_lst, isi_bool_lst, isi_str_lst, isi_tup_lst, isi_lst_lst, isL_lst, seqW_lst, seqW_tup, seqW_str, seqW_scr, sq2_lst, sq2_tup, inW_sign])
    exact ⟨b, rfl, hb, fun y hy g s ok => frzQ.mk (q y (Tk.mono (by omega) (by omega) hy) g s ok)⟩
  obtain ⟨x0, xs, rfl⟩ := isTC_inv (by simpa using e)
  obtain ⟨n, rfl⟩ : ∃ m, n = m + 1 := ⟨n - 1, by omega⟩
  generalize hds : x0 :: xs = ds at hx
  have d1 : 1 ≤ ds.length := by rw [← hds]; simp
  have dL := hx.1
  clear hds e
  (((try unfold dNext); dsimp only; refine seq_go ?_))
  refine par_go (fun w u S1 => ∃ (way : Int) (a : Nat) (g s : Int), w = .int way ∧ u = .int (a : Nat) ∧ a < ds.length ∧ BagOk g s ∧ S1 = up S b (bagO g s)) (fun Q h => ?_) ?_
  · (simp only [↓dFgt, ↓dVar, ↓dC, ↓dOp, ↓dUn, ↓dI, ↓dI0, ↓dSub, ↓dMul, ↓dDiv, ↓dMod, ↓dPow, ↓dAdd, ↓dNeg, ↓dEq, ↓dNe, ↓dLt, ↓dLe, ↓dGt, ↓dGe, ↓dIsN, ↓dNotN, ↓dTru, ↓dTest, ↓dChain, ↓dAnd, ↓dOr, ↓dNot, ↓dAndV, ↓dOrV, ↓dNotV, ↓dIf, ↓dNil, ↓dCons, ↓dTup, ↓dLst, ↓dLstM, ↓dCB, ↓dLen, ↓dAbs, ↓dMax2, ↓dMin2, ↓dAll, ↓dAny, ↓dListOf, ↓dListOfM, ↓dTupOf, ↓dNext, ↓dSeq, ↓dDrop, ↓dRet, ↓dRetN, ↓dIfS, ↓dBrk, ↓dCnt, ↓dSet, ↓dAsgT, ↓dPar2, ↓tbind, ↓tbinds, ↓Om.set, ↓dCall, ↓dIx, ↓dNo, ↓dPart, ↓dSl, ↓dSlr, ↓dBM, ↓dApp, ↓dExt, ↓dSetIx, ↓dIs, ↓dMinS, ↓dMaxS, ↓dJoin, ↓dFrz, ↓dPut, ↓dFld, ↓dSetF, ↓dInt, ↓dIsLT, ↓dRng1, ↓dRng2, ↓dEnum, ↓dZip, ↓dSeqI, view_c_non, view_c_bl, view_c_int, view_c_str, view_c_tup, view_c_lst, view_c_scr, view_c_dct, view_c_ins, ↓startW, ↓wp, ↓wps, ↓dInKD, ↓dNotInKD, ↓dIxKD, ↓dIn, ↓dNotIn, ↓dDg, List.getElem?_cons_zero, List.getElem?_cons_succ, List.set_cons_zero, List.set_cons_succ, List.map_cons, List.map_nil, List.length_cons, List.length_nil, List.replicate_succ, List.replicate_zero, List.nil_append, List.cons_append, Bool.not_true, Bool.not_false, if_true, wkey_int, wkey_str, atI_0, atI_1, atI_2, atI_3, up_same, if_false, Bool.false_eq_true, Bool.true_eq_false, tru_non, isLT_non, isi_int_non, isi_bool_non, isi_str_non, isi_tup_non, isi_lst_non, tru_bl, isLT_bl, isi_int_bl, isi_bool_bl, isi_str_bl, isi_tup_bl, isi_lst_bl, tru_int, isLT_int, isi_int_int, isi_bool_int, isi_str_int, isi_tup_int, isi_lst_int, tru_str, isLT_str, isi_int_str, isi_bool_str, isi_str_str, isi_tup_str, isi_lst_str, tru_tup, isLT_tup, isi_int_tup, isi_bool_tup, isi_str_tup, isi_tup_tup, isi_lst_tup, tru_lst, isLT_lst, isi_int_lst, isi_bool_lst, isi_str_lst, isi_tup_lst, isi_lst_lst, isL_lst, seqW_lst, seqW_tup, seqW_str, seqW_scr, sq2_lst, sq2_tup, inW_sign])
    refine ⟨b, 6, rfl, hb, by decide, by decide, fun r r0 r1 g s ok => ?_⟩
    refine ⟨b, _, rfl, Bg.up ok, by omega, by omega, fun t t0 t1 g s ok => ?_⟩
    rw [up_up]
    exact h _ _ _ ⟨r, t.toNat, g, s, rfl, by rw [Int.toNat_of_nonneg t0], by omega, ok, rfl⟩
  rintro _ _ _ ⟨way, a, g, s, rfl, rfl, ha, ok, rfl⟩
  have c1 : cut ds none (some (a : Int)) = ds.take a := cut_take (by omega)
  have c3 : cut ds (some ((a : Int) + 1)) none = ds.drop (a + 1) := cut_drop1 (by omega)
  obtain ⟨y, hy, hyat⟩ := atI_nat ha
  obtain ⟨z, hz, hzat⟩ := atI_prev ha
  have hyT := hx.2 y hy
  have hzT := hx.2 z hz
  have l1 : (ds.take a).length + 1 ≤ 1000000 := by rw [List.length_take]; omega
  have l2 : ∀ v : W, (ds.take a ++ [v]).length + (ds.drop (a + 1)).length ≤ 1000000 := fun v => by rw [List.length_append, List.length_take, List.length_drop]; show _ + 1 + _ ≤ _; omega
  have l3 : (ds.take a).length + (ds.drop (a + 1)).length ≤ 1000000 := by rw [List.length_take, List.length_drop]; omega
  (((try unfold dNext); dsimp only; refine seq_go ?_))
  refine if_b (decide (way = 0)) (fun Q h => eqt _ Q _ rfl h) (fun _ => ?_) (fun _ => ?_)
  · refine ret_go ?_
    (simp only [↓dFgt, ↓dVar, ↓dC, ↓dOp, ↓dUn, ↓dI, ↓dI0, ↓dSub, ↓dMul, ↓dDiv, ↓dMod, ↓dPow, ↓dAdd, ↓dNeg, ↓dEq, ↓dNe, ↓dLt, ↓dLe, ↓dGt, ↓dGe, ↓dIsN, ↓dNotN, ↓dTru, ↓dTest, ↓dChain, ↓dAnd, ↓dOr, ↓dNot, ↓dAndV, ↓dOrV, ↓dNotV, ↓dIf, ↓dNil, ↓dCons, ↓dTup, ↓dLst, ↓dLstM, ↓dCB, ↓dLen, ↓dAbs, ↓dMax2, ↓dMin2, ↓dAll, ↓dAny, ↓dListOf, ↓dListOfM, ↓dTupOf, ↓dNext, ↓dSeq, ↓dDrop, ↓dRet, ↓dRetN, ↓dIfS, ↓dBrk, ↓dCnt, ↓dSet, ↓dAsgT, ↓dPar2, ↓tbind, ↓tbinds, ↓Om.set, ↓dCall, ↓dIx, ↓dNo, ↓dPart, ↓dSl, ↓dSlr, ↓dBM, ↓dApp, ↓dExt, ↓dSetIx, ↓dIs, ↓dMinS, ↓dMaxS, ↓dJoin, ↓dFrz, ↓dPut, ↓dFld, ↓dSetF, ↓dInt, ↓dIsLT, ↓dRng1, ↓dRng2, ↓dEnum, ↓dZip, ↓dSeqI, view_c_non, view_c_bl, view_c_int, view_c_str, view_c_tup, view_c_lst, view_c_scr, view_c_dct, view_c_ins, ↓startW, ↓wp, ↓wps, ↓dInKD, ↓dNotInKD, ↓dIxKD, ↓dIn, ↓dNotIn, ↓dDg, List.getElem?_cons_zero, List.getElem?_cons_succ, List.set_cons_zero, List.set_cons_succ, List.map_cons, List.map_nil, List.length_cons, List.length_nil, List.replicate_succ, List.replicate_zero, List.nil_append, List.cons_append, Bool.not_true, Bool.not_false, if_true, wkey_int, wkey_str, atI_0, atI_1, atI_2, atI_3, up_same, if_false, Bool.false_eq_true, Bool.true_eq_false, tru_non, isLT_non, isi_int_non, isi_bool_non, isi_str_non, isi_tup_non, isi_lst_non, tru_bl, isLT_bl, isi_int_bl, isi_bool_bl, isi_str_bl, isi_tup_bl, isi_lst_bl, tru_int, isLT_int, isi_int_int, isi_bool_int, isi_str_int, isi_tup_int, isi_lst_int, tru_str, isLT_str, isi_int_str, isi_bool_str, isi_str_str, isi_tup_str, isi_lst_str, tru_tup, isLT_tup, isi_int_tup, isi_bool_tup, isi_str_tup, isi_tup_tup, isi_lst_tup, tru_lst, isLT_lst, isi_int_lst, isi_bool_lst, isi_str_lst, isi_tup_lst, isi_lst_lst, isL_lst, seqW_lst, seqW_tup, seqW_str, seqW_scr, sq2_lst, sq2_tup, inW_sign])
    refine ⟨b, rfl, Bg.up ok, fun v hv g s ok => ?_⟩
    refine ⟨by decide, ?_, by decide, ?_⟩
    · show ds.length + 1 ≤ 1000000; omega
    refine ⟨b, 3, rfl, by rw [up_up]; exact Bg.up ok, by decide, by decide, fun r r0 r1 g s ok => ?_⟩
    rw [up_up, up_up]
    obtain ⟨w, hw, hat⟩ := atI_pick (xs := [W.lst ds, v, .tup (ds ++ [.int 0])]) r0 r1
    simp only [hat]
    refine frzQ.mk (q w ?_ g s ok)
    simp only [List.mem_cons, List.not_mem_nil, or_false] at hw
    rcases hw with rfl | rfl | rfl
    · exact .lst (by omega) fun x h => Tk.mono (by omega) (Nat.le_refl _) (hx.2 x h)
    · exact Tk.mono (by omega) (by omega) hv
    · exact .tup (by rw [List.length_append]; show _ + 1 ≤ _; omega) (Tk.all_app (fun x h => Tk.mono (by omega) (Nat.le_refl _) (hx.2 x h)) (Tk.all_one Tk.int))
  (((try unfold dNext); dsimp only; refine seq_go ?_))
  refine if_b (decide (way = 1)) (fun Q h => eqt _ Q _ rfl h) (fun _ => ?_) (fun _ => ?_)
  · refine ret_go ?_
    (simp only [↓dFgt, ↓dVar, ↓dC, ↓dOp, ↓dUn, ↓dI, ↓dI0, ↓dSub, ↓dMul, ↓dDiv, ↓dMod, ↓dPow, ↓dAdd, ↓dNeg, ↓dEq, ↓dNe, ↓dLt, ↓dLe, ↓dGt, ↓dGe, ↓dIsN, ↓dNotN, ↓dTru, ↓dTest, ↓dChain, ↓dAnd, ↓dOr, ↓dNot, ↓dAndV, ↓dOrV, ↓dNotV, ↓dIf, ↓dNil, ↓dCons, ↓dTup, ↓dLst, ↓dLstM, ↓dCB, ↓dLen, ↓dAbs, ↓dMax2, ↓dMin2, ↓dAll, ↓dAny, ↓dListOf, ↓dListOfM, ↓dTupOf, ↓dNext, ↓dSeq, ↓dDrop, ↓dRet, ↓dRetN, ↓dIfS, ↓dBrk, ↓dCnt, ↓dSet, ↓dAsgT, ↓dPar2, ↓tbind, ↓tbinds, ↓Om.set, ↓dCall, ↓dIx, ↓dNo, ↓dPart, ↓dSl, ↓dSlr, ↓dBM, ↓dApp, ↓dExt, ↓dSetIx, ↓dIs, ↓dMinS, ↓dMaxS, ↓dJoin, ↓dFrz, ↓dPut, ↓dFld, ↓dSetF, ↓dInt, ↓dIsLT, ↓dRng1, ↓dRng2, ↓dEnum, ↓dZip, ↓dSeqI, view_c_non, view_c_bl, view_c_int, view_c_str, view_c_tup, view_c_lst, view_c_scr, view_c_dct, view_c_ins, ↓startW, ↓wp, ↓wps, ↓dInKD, ↓dNotInKD, ↓dIxKD, ↓dIn, ↓dNotIn, ↓dDg, List.getElem?_cons_zero, List.getElem?_cons_succ, List.set_cons_zero, List.set_cons_succ, List.map_cons, List.map_nil, List.length_cons, List.length_nil, List.replicate_succ, List.replicate_zero, List.nil_append, List.cons_append, Bool.not_true, Bool.not_false, if_true, wkey_int, wkey_str, atI_0, atI_1, atI_2, atI_3, up_same, if_false, Bool.false_eq_true, Bool.true_eq_false, tru_non, isLT_non, isi_int_non, isi_bool_non, isi_str_non, isi_tup_non, isi_lst_non, tru_bl, isLT_bl, isi_int_bl, isi_bool_bl, isi_str_bl, isi_tup_bl, isi_lst_bl, tru_int, isLT_int, isi_int_int, isi_bool_int, isi_str_int, isi_tup_int, isi_lst_int, tru_str, isLT_str, isi_int_str, isi_bool_str, isi_str_str, isi_tup_str, isi_lst_str, tru_tup, isLT_tup, isi_int_tup, isi_bool_tup, isi_str_tup, isi_tup_tup, isi_lst_tup, tru_lst, isLT_lst, isi_int_lst, isi_bool_lst, isi_str_lst, isi_tup_lst, isi_lst_lst, isL_lst, seqW_lst, seqW_tup, seqW_str, seqW_scr, sq2_lst, sq2_tup, inW_sign])
    simp only [c1, c3]
    exact ⟨l3, frzQ.mk (q _ (Tk.outN a hx (by omega)) g s ok)⟩
  (((try unfold dNext); dsimp only; refine seq_go ?_))
  refine if_b (decide (way = 2) && isI y) (fun Q h => and_b (a := decide (way = 2)) (b := isI y) (fun Q h => eqt _ Q _ rfl h) (fun _ Q h => ?_) h) (fun e => ?_) (fun _ => ?_)
  · (simp only [↓dFgt, ↓dVar, ↓dC, ↓dOp, ↓dUn, ↓dI, ↓dI0, ↓dSub, ↓dMul, ↓dDiv, ↓dMod, ↓dPow, ↓dAdd, ↓dNeg, ↓dEq, ↓dNe, ↓dLt, ↓dLe, ↓dGt, ↓dGe, ↓dIsN, ↓dNotN, ↓dTru, ↓dTest, ↓dChain, ↓dAnd, ↓dOr, ↓dNot, ↓dAndV, ↓dOrV, ↓dNotV, ↓dIf, ↓dNil, ↓dCons, ↓dTup, ↓dLst, ↓dLstM, ↓dCB, ↓dLen, ↓dAbs, ↓dMax2, ↓dMin2, ↓dAll, ↓dAny, ↓dListOf, ↓dListOfM, ↓dTupOf, ↓dNext, ↓dSeq, ↓dDrop, ↓dRet, ↓dRetN, ↓dIfS, ↓dBrk, ↓dCnt, ↓dSet, ↓dAsgT, ↓dPar2, ↓tbind, ↓tbinds, ↓Om.set, ↓dCall, ↓dIx, ↓dNo, ↓dPart, ↓dSl, ↓dSlr, ↓dBM, ↓dApp, ↓dExt, ↓dSetIx, ↓dIs, ↓dMinS, ↓dMaxS, ↓dJoin, ↓dFrz, ↓dPut, ↓dFld, ↓dSetF, ↓dInt, ↓dIsLT, ↓dRng1, ↓dRng2, ↓dEnum, ↓dZip, ↓dSeqI, view_c_non, view_c_bl, view_c_int, view_c_str, view_c_tup, view_c_lst, view_c_scr, view_c_dct, view_c_ins, ↓startW, ↓wp, ↓wps, ↓dInKD, ↓dNotInKD, ↓dIxKD, ↓dIn, ↓dNotIn, ↓dDg, List.getElem?_cons_zero, List.getElem?_cons_succ, List.set_cons_zero, List.set_cons_succ, List.map_cons, List.map_nil, List.length_cons, List.length_nil, List.replicate_succ, List.replicate_zero, List.nil_append, List.cons_append, Bool.not_true, Bool.not_false, if_true, wkey_int, wkey_str, atI_0, atI_1, atI_2, atI_3, up_same, if_false, Bool.false_eq_true, Bool.true_eq_false, tru_non, isLT_non, isi_int_non, isi_bool_non, isi_str_non, isi_tup_non, isi_lst_non, tru_bl, isLT_bl, isi_int_bl, isi_bool_bl, isi_str_bl, isi_tup_bl, isi_lst_bl, tru_int, isLT_int, isi_int_int, isi_bool_int, isi_str_int, isi_tup_int, isi_lst_int, tru_str, isLT_str, isi_int_str, isi_bool_str, isi_str_str, isi_tup_str, isi_lst_str, tru_tup, isLT_tup, isi_int_tup, isi_bool_tup, isi_str_tup, isi_tup_tup, isi_lst_tup, tru_lst, isLT_lst, isi_int_lst, isi_bool_lst, isi_str_lst, isi_tup_lst, isi_lst_lst, isL_lst, seqW_lst, seqW_tup, seqW_str, seqW_scr, sq2_lst, sq2_tup, inW_sign])
    simp only [hyat]
    cases y <;> first | ((simp only [↓dFgt, ↓dVar, ↓dC, ↓dOp, ↓dUn, ↓dI, ↓dI0, ↓dSub, ↓dMul, ↓dDiv, ↓dMod, ↓dPow, ↓dAdd, ↓dNeg, ↓dEq, ↓dNe, ↓dLt, ↓dLe, ↓dGt, ↓dGe, ↓dIsN, ↓dNotN, ↓dTru, ↓dTest, ↓dChain, ↓dAnd, ↓dOr, ↓dNot, ↓dAndV, ↓dOrV, ↓dNotV, ↓dIf, ↓dNil, ↓dCons, ↓dTup, ↓dLst, ↓dLstM, ↓dCB, ↓dLen, ↓dAbs, ↓dMax2, ↓dMin2, ↓dAll, ↓dAny, ↓dListOf, ↓dListOfM, ↓dTupOf, ↓dNext, ↓dSeq, ↓dDrop, ↓dRet, ↓dRetN, ↓dIfS, ↓dBrk, ↓dCnt, ↓dSet, ↓dAsgT, ↓dPar2, ↓tbind, ↓tbinds, ↓Om.set, ↓dCall, ↓dIx, ↓dNo, ↓dPart, ↓dSl, ↓dSlr, ↓dBM, ↓dApp, ↓dExt, ↓dSetIx, ↓dIs, ↓dMinS, ↓dMaxS, ↓dJoin, ↓dFrz, ↓dPut, ↓dFld, ↓dSetF, ↓dInt, ↓dIsLT, ↓dRng1, ↓dRng2, ↓dEnum, ↓dZip, ↓dSeqI, view_c_non, view_c_bl, view_c_int, view_c_str, view_c_tup, view_c_lst, view_c_scr, view_c_dct, view_c_ins, ↓startW, ↓wp, ↓wps, ↓dInKD, ↓dNotInKD, ↓dIxKD, ↓dIn, ↓dNotIn, ↓dDg, List.getElem?_cons_zero, List.getElem?_cons_succ, List.set_cons_zero, List.set_cons_succ, List.map_cons, List.map_nil, List.length_cons, List.length_nil, List.replicate_succ, List.replicate_zero, List.nil_append, List.cons_append, Bool.not_true, Bool.not_false, if_true, wkey_int, wkey_str, atI_0, atI_1, atI_2, atI_3, up_same, if_false, Bool.false_eq_true, Bool.true_eq_false, tru_non, isLT_non, isi_int_non, isi_bool_non, isi_str_non, isi_tup_non, isi_lst_non, tru_bl, isLT_bl, isi_int_bl, isi_bool_bl, isi_str_bl, isi_tup_bl, isi_lst_bl, tru_int, isLT_int, isi_int_int, isi_bool_int, isi_str_int, isi_tup_int, isi_lst_int, tru_str, isLT_str, isi_int_str, isi_bool_str, isi_str_str, isi_tup_str, isi_lst_str, tru_tup, isLT_tup, isi_int_tup, isi_bool_tup, isi_str_tup, isi_tup_tup, isi_lst_tup, tru_lst, isLT_lst, isi_int_lst, isi_bool_lst, isi_str_lst, isi_tup_lst, isi_lst_lst, isL_lst, seqW_lst, seqW_tup, seqW_str, seqW_scr, sq2_lst, sq2_tup, inW_sign]); exact h) | (have hp := hyT.p; cases hp)
  · rw [Bool.and_eq_true] at e
    refine ret_go ?_
    obtain ⟨v, hv⟩ : ∃ v : Int, (∃ k, y = .bl k ∧ v = if k = true then (1 : Int) else 0) ∨ y = .int v := by
      cases y <;> first | exact ⟨_, .inr rfl⟩ | exact ⟨_, .inl ⟨_, rfl, rfl⟩⟩ | cases e.2
    (simp only [↓dFgt, ↓dVar, ↓dC, ↓dOp, ↓dUn, ↓dI, ↓dI0, ↓dSub, ↓dMul, ↓dDiv, ↓dMod, ↓dPow, ↓dAdd, ↓dNeg, ↓dEq, ↓dNe, ↓dLt, ↓dLe, ↓dGt, ↓dGe, ↓dIsN, ↓dNotN, ↓dTru, ↓dTest, ↓dChain, ↓dAnd, ↓dOr, ↓dNot, ↓dAndV, ↓dOrV, ↓dNotV, ↓dIf, ↓dNil, ↓dCons, ↓dTup, ↓dLst, ↓dLstM, ↓dCB, ↓dLen, ↓dAbs, ↓dMax2, ↓dMin2, ↓dAll, ↓dAny, ↓dListOf, ↓dListOfM, ↓dTupOf, ↓dNext, ↓dSeq, ↓dDrop, ↓dRet, ↓dRetN, ↓dIfS, ↓dBrk, ↓dCnt, ↓dSet, ↓dAsgT, ↓dPar2, ↓tbind, ↓tbinds, ↓Om.set, ↓dCall, ↓dIx, ↓dNo, ↓dPart, ↓dSl, ↓dSlr, ↓dBM, ↓dApp, ↓dExt, ↓dSetIx, ↓dIs, ↓dMinS, ↓dMaxS, ↓dJoin, ↓dFrz, ↓dPut, ↓dFld, ↓dSetF, ↓dInt, ↓dIsLT, ↓dRng1, ↓dRng2, ↓dEnum, ↓dZip, ↓dSeqI, view_c_non, view_c_bl, view_c_int, view_c_str, view_c_tup, view_c_lst, view_c_scr, view_c_dct, view_c_ins, ↓startW, ↓wp, ↓wps, ↓dInKD, ↓dNotInKD, ↓dIxKD, ↓dIn, ↓dNotIn, ↓dDg, List.getElem?_cons_zero, List.getElem?_cons_succ, List.set_cons_zero, List.set_cons_succ, List.map_cons, List.map_nil, List.length_cons, List.length_nil, List.replicate_succ, List.replicate_zero, List.nil_append, List.cons_append, Bool.not_true, Bool.not_false, if_true, wkey_int, wkey_str, atI_0, atI_1, atI_2, atI_3, up_same, if_false, Bool.false_eq_true, Bool.true_eq_false, tru_non, isLT_non, isi_int_non, isi_bool_non, isi_str_non, isi_tup_non, isi_lst_non, tru_bl, isLT_bl, isi_int_bl, isi_bool_bl, isi_str_bl, isi_tup_bl, isi_lst_bl, tru_int, isLT_int, isi_int_int, isi_bool_int, isi_str_int, isi_tup_int, isi_lst_int, tru_str, isLT_str, isi_int_str, isi_bool_str, isi_str_str, isi_tup_str, isi_lst_str, tru_tup, isLT_tup, isi_int_tup, isi_bool_tup, isi_str_tup, isi_tup_tup, isi_lst_tup, tru_lst, isLT_lst, isi_int_lst, isi_bool_lst, isi_str_lst, isi_tup_lst, isi_lst_lst, isL_lst, seqW_lst, seqW_tup, seqW_str, seqW_scr, sq2_lst, sq2_tup, inW_sign])
    simp only [c1, hyat]
    refine ⟨by decide, b, 4, rfl, Bg.up ok, by decide, by decide, fun r r0 r1 g s ok => ?_⟩
    rw [up_up]
    obtain ⟨w, hw, hat⟩ := atI_pick (xs := [W.int 1, .int (-1), .int 9, .int (-9)]) r0 r1
    obtain ⟨j, rfl⟩ : ∃ j : Int, w = .int j := by
      simp only [List.mem_cons, List.not_mem_nil, or_false] at hw
      rcases hw with rfl | rfl | rfl | rfl <;> exact ⟨_, rfl⟩
    simp only [hat, dAddB, view_c_int]
    rcases hv with ⟨k, rfl, rfl⟩ | rfl
    · try simp only [view_c_bl]
      try (simp only [↓dFgt, ↓dVar, ↓dC, ↓dOp, ↓dUn, ↓dI, ↓dI0, ↓dSub, ↓dMul, ↓dDiv, ↓dMod, ↓dPow, ↓dAdd, ↓dNeg, ↓dEq, ↓dNe, ↓dLt, ↓dLe, ↓dGt, ↓dGe, ↓dIsN, ↓dNotN, ↓dTru, ↓dTest, ↓dChain, ↓dAnd, ↓dOr, ↓dNot, ↓dAndV, ↓dOrV, ↓dNotV, ↓dIf, ↓dNil, ↓dCons, ↓dTup, ↓dLst, ↓dLstM, ↓dCB, ↓dLen, ↓dAbs, ↓dMax2, ↓dMin2, ↓dAll, ↓dAny, ↓dListOf, ↓dListOfM, ↓dTupOf, ↓dNext, ↓dSeq, ↓dDrop, ↓dRet, ↓dRetN, ↓dIfS, ↓dBrk, ↓dCnt, ↓dSet, ↓dAsgT, ↓dPar2, ↓tbind, ↓tbinds, ↓Om.set, ↓dCall, ↓dIx, ↓dNo, ↓dPart, ↓dSl, ↓dSlr, ↓dBM, ↓dApp, ↓dExt, ↓dSetIx, ↓dIs, ↓dMinS, ↓dMaxS, ↓dJoin, ↓dFrz, ↓dPut, ↓dFld, ↓dSetF, ↓dInt, ↓dIsLT, ↓dRng1, ↓dRng2, ↓dEnum, ↓dZip, ↓dSeqI, view_c_non, view_c_bl, view_c_int, view_c_str, view_c_tup, view_c_lst, view_c_scr, view_c_dct, view_c_ins, ↓startW, ↓wp, ↓wps, ↓dInKD, ↓dNotInKD, ↓dIxKD, ↓dIn, ↓dNotIn, ↓dDg, List.getElem?_cons_zero, List.getElem?_cons_succ, List.set_cons_zero, List.set_cons_succ, List.map_cons, List.map_nil, List.length_cons, List.length_nil, List.replicate_succ, List.replicate_zero, List.nil_append, List.cons_append, Bool.not_true, Bool.not_false, if_true, wkey_int, wkey_str, atI_0, atI_1, atI_2, atI_3, up_same, if_false, Bool.false_eq_true, Bool.true_eq_false, tru_non, isLT_non, isi_int_non, isi_bool_non, isi_str_non, isi_tup_non, isi_lst_non, tru_bl, isLT_bl, isi_int_bl, isi_bool_bl, isi_str_bl, isi_tup_bl, isi_lst_bl, tru_int, isLT_int, isi_int_int, isi_bool_int, isi_str_int, isi_tup_int, isi_lst_int, tru_str, isLT_str, isi_int_str, isi_bool_str, isi_str_str, isi_tup_str, isi_lst_str, tru_tup, isLT_tup, isi_int_tup, isi_bool_tup, isi_str_tup, isi_tup_tup, isi_lst_tup, tru_lst, isLT_lst, isi_int_lst, isi_bool_lst, isi_str_lst, isi_tup_lst, isi_lst_lst, isL_lst, seqW_lst, seqW_tup, seqW_str, seqW_scr, sq2_lst, sq2_tup, inW_sign])
      try simp only [c3]
      exact ⟨by decide, l1, l2 _, frzQ.mk (q _ (Tk.put a hx (by omega) Tk.int ha) g s ok)⟩
    · try simp only [view_c_int]
      try (simp only [↓dFgt, ↓dVar, ↓dC, ↓dOp, ↓dUn, ↓dI, ↓dI0, ↓dSub, ↓dMul, ↓dDiv, ↓dMod, ↓dPow, ↓dAdd, ↓dNeg, ↓dEq, ↓dNe, ↓dLt, ↓dLe, ↓dGt, ↓dGe, ↓dIsN, ↓dNotN, ↓dTru, ↓dTest, ↓dChain, ↓dAnd, ↓dOr, ↓dNot, ↓dAndV, ↓dOrV, ↓dNotV, ↓dIf, ↓dNil, ↓dCons, ↓dTup, ↓dLst, ↓dLstM, ↓dCB, ↓dLen, ↓dAbs, ↓dMax2, ↓dMin2, ↓dAll, ↓dAny, ↓dListOf, ↓dListOfM, ↓dTupOf, ↓dNext, ↓dSeq, ↓dDrop, ↓dRet, ↓dRetN, ↓dIfS, ↓dBrk, ↓dCnt, ↓dSet, ↓dAsgT, ↓dPar2, ↓tbind, ↓tbinds, ↓Om.set, ↓dCall, ↓dIx, ↓dNo, ↓dPart, ↓dSl, ↓dSlr, ↓dBM, ↓dApp, ↓dExt, ↓dSetIx, ↓dIs, ↓dMinS, ↓dMaxS, ↓dJoin, ↓dFrz, ↓dPut, ↓dFld, ↓dSetF, ↓dInt, ↓dIsLT, ↓dRng1, ↓dRng2, ↓dEnum, ↓dZip, ↓dSeqI, view_c_non, view_c_bl, view_c_int, view_c_str, view_c_tup, view_c_lst, view_c_scr, view_c_dct, view_c_ins, ↓startW, ↓wp, ↓wps, ↓dInKD, ↓dNotInKD, ↓dIxKD, ↓dIn, ↓dNotIn, ↓dDg, List.getElem?_cons_zero, List.getElem?_cons_succ, List.set_cons_zero, List.set_cons_succ, List.map_cons, List.map_nil, List.length_cons, List.length_nil, List.replicate_succ, List.replicate_zero, List.nil_append, List.cons_append, Bool.not_true, Bool.not_false, if_true, wkey_int, wkey_str, atI_0, atI_1, atI_2, atI_3, up_same, if_false, Bool.false_eq_true, Bool.true_eq_false, tru_non, isLT_non, isi_int_non, isi_bool_non, isi_str_non, isi_tup_non, isi_lst_non, tru_bl, isLT_bl, isi_int_bl, isi_bool_bl, isi_str_bl, isi_tup_bl, isi_lst_bl, tru_int, isLT_int, isi_int_int, isi_bool_int, isi_str_int, isi_tup_int, isi_lst_int, tru_str, isLT_str, isi_int_str, isi_bool_str, isi_str_str, isi_tup_str, isi_lst_str, tru_tup, isLT_tup, isi_int_tup, isi_bool_tup, isi_str_tup, isi_tup_tup, isi_lst_tup, tru_lst, isLT_lst, isi_int_lst, isi_bool_lst, isi_str_lst, isi_tup_lst, isi_lst_lst, isL_lst, seqW_lst, seqW_tup, seqW_str, seqW_scr, sq2_lst, sq2_tup, inW_sign])
      try simp only [c3]
      exact ⟨by decide, l1, l2 _, frzQ.mk (q _ (Tk.put a hx (by omega) Tk.int ha) g s ok)⟩
  (((try unfold dNext); dsimp only; refine seq_go ?_))
  refine if_b (decide (way = 3)) (fun Q h => eqt _ Q _ rfl h) (fun _ => ?_) (fun _ => ?_)
  · refine ret_go ?_
    (simp only [↓dFgt, ↓dVar, ↓dC, ↓dOp, ↓dUn, ↓dI, ↓dI0, ↓dSub, ↓dMul, ↓dDiv, ↓dMod, ↓dPow, ↓dAdd, ↓dNeg, ↓dEq, ↓dNe, ↓dLt, ↓dLe, ↓dGt, ↓dGe, ↓dIsN, ↓dNotN, ↓dTru, ↓dTest, ↓dChain, ↓dAnd, ↓dOr, ↓dNot, ↓dAndV, ↓dOrV, ↓dNotV, ↓dIf, ↓dNil, ↓dCons, ↓dTup, ↓dLst, ↓dLstM, ↓dCB, ↓dLen, ↓dAbs, ↓dMax2, ↓dMin2, ↓dAll, ↓dAny, ↓dListOf, ↓dListOfM, ↓dTupOf, ↓dNext, ↓dSeq, ↓dDrop, ↓dRet, ↓dRetN, ↓dIfS, ↓dBrk, ↓dCnt, ↓dSet, ↓dAsgT, ↓dPar2, ↓tbind, ↓tbinds, ↓Om.set, ↓dCall, ↓dIx, ↓dNo, ↓dPart, ↓dSl, ↓dSlr, ↓dBM, ↓dApp, ↓dExt, ↓dSetIx, ↓dIs, ↓dMinS, ↓dMaxS, ↓dJoin, ↓dFrz, ↓dPut, ↓dFld, ↓dSetF, ↓dInt, ↓dIsLT, ↓dRng1, ↓dRng2, ↓dEnum, ↓dZip, ↓dSeqI, view_c_non, view_c_bl, view_c_int, view_c_str, view_c_tup, view_c_lst, view_c_scr, view_c_dct, view_c_ins, ↓startW, ↓wp, ↓wps, ↓dInKD, ↓dNotInKD, ↓dIxKD, ↓dIn, ↓dNotIn, ↓dDg, List.getElem?_cons_zero, List.getElem?_cons_succ, List.set_cons_zero, List.set_cons_succ, List.map_cons, List.map_nil, List.length_cons, List.length_nil, List.replicate_succ, List.replicate_zero, List.nil_append, List.cons_append, Bool.not_true, Bool.not_false, if_true, wkey_int, wkey_str, atI_0, atI_1, atI_2, atI_3, up_same, if_false, Bool.false_eq_true, Bool.true_eq_false, tru_non, isLT_non, isi_int_non, isi_bool_non, isi_str_non, isi_tup_non, isi_lst_non, tru_bl, isLT_bl, isi_int_bl, isi_bool_bl, isi_str_bl, isi_tup_bl, isi_lst_bl, tru_int, isLT_int, isi_int_int, isi_bool_int, isi_str_int, isi_tup_int, isi_lst_int, tru_str, isLT_str, isi_int_str, isi_bool_str, isi_str_str, isi_tup_str, isi_lst_str, tru_tup, isLT_tup, isi_int_tup, isi_bool_tup, isi_str_tup, isi_tup_tup, isi_lst_tup, tru_lst, isLT_lst, isi_int_lst, isi_bool_lst, isi_str_lst, isi_tup_lst, isi_lst_lst, isL_lst, seqW_lst, seqW_tup, seqW_str, seqW_scr, sq2_lst, sq2_tup, inW_sign])
    simp only [c1, c3, hzat]
    exact ⟨by decide, l1, l2 _, frzQ.mk (q _ (Tk.put a hx (by omega) (Tk.mono (by omega) (Nat.le_refl _) hzT) ha) g s ok)⟩
  (((try unfold dNext); dsimp only))
  refine ret_go ?_
  (simp only [↓dFgt, ↓dVar, ↓dC, ↓dOp, ↓dUn, ↓dI, ↓dI0, ↓dSub, ↓dMul, ↓dDiv, ↓dMod, ↓dPow, ↓dAdd, ↓dNeg, ↓dEq, ↓dNe, ↓dLt, ↓dLe, ↓dGt, ↓dGe, ↓dIsN, ↓dNotN, ↓dTru, ↓dTest, ↓dChain, ↓dAnd, ↓dOr, ↓dNot, ↓dAndV, ↓dOrV, ↓dNotV, ↓dIf, ↓dNil, ↓dCons, ↓dTup, ↓dLst, ↓dLstM, ↓dCB, ↓dLen, ↓dAbs, ↓dMax2, ↓dMin2, ↓dAll, ↓dAny, ↓dListOf, ↓dListOfM, ↓dTupOf, ↓dNext, ↓dSeq, ↓dDrop, ↓dRet, ↓dRetN, ↓dIfS, ↓dBrk, ↓dCnt, ↓dSet, ↓dAsgT, ↓dPar2, ↓tbind, ↓tbinds, ↓Om.set, ↓dCall, ↓dIx, ↓dNo, ↓dPart, ↓dSl, ↓dSlr, ↓dBM, ↓dApp, ↓dExt, ↓dSetIx, ↓dIs, ↓dMinS, ↓dMaxS, ↓dJoin, ↓dFrz, ↓dPut, ↓dFld, ↓dSetF, ↓dInt, ↓dIsLT, ↓dRng1, ↓dRng2, ↓dEnum, ↓dZip, ↓dSeqI, view_c_non, view_c_bl, view_c_int, view_c_str, view_c_tup, view_c_lst, view_c_scr, view_c_dct, view_c_ins, ↓startW, ↓wp, ↓wps, ↓dInKD, ↓dNotInKD, ↓dIxKD, ↓dIn, ↓dNotIn, ↓dDg, List.getElem?_cons_zero, List.getElem?_cons_succ, List.set_cons_zero, List.set_cons_succ, List.map_cons, List.map_nil, List.length_cons, List.length_nil, List.replicate_succ, List.replicate_zero, List.nil_append, List.cons_append, Bool.not_true, Bool.not_false, if_true, wkey_int, wkey_str, atI_0, atI_1, atI_2, atI_3, up_same, if_false, Bool.false_eq_true, Bool.true_eq_false, tru_non, isLT_non, isi_int_non, isi_bool_non, isi_str_non, isi_tup_non, isi_lst_non, tru_bl, isLT_bl, isi_int_bl, isi_bool_bl, isi_str_bl, isi_tup_bl, isi_lst_bl, tru_int, isLT_int, isi_int_int, isi_bool_int, isi_str_int, isi_tup_int, isi_lst_int, tru_str, isLT_str, isi_int_str, isi_bool_str, isi_str_str, isi_tup_str, isi_lst_str, tru_tup, isLT_tup, isi_int_tup, isi_bool_tup, isi_str_tup, isi_tup_tup, isi_lst_tup, tru_lst, isLT_lst, isi_int_lst, isi_bool_lst, isi_str_lst, isi_tup_lst, isi_lst_lst, isL_lst, seqW_lst, seqW_tup, seqW_str, seqW_scr, sq2_lst, sq2_tup, inW_sign])
  simp only [c1, c3]
  refine ⟨b, rfl, Bg.up ok, fun v hv g s ok => ?_⟩
  rw [up_up]
  exact ⟨by decide, l1, l2 _, frzQ.mk (q _ (Tk.put a hx (by omega) (Tk.mono (by omega) (by omega) hv) ha) g s ok)⟩
section
variable {P : Program} {w : World} {K : PySem.W.Frag} {mg : Str → Option Value} {base : Heap} {c_Ground : Addr}
theorem ok_law_bent_row {f : Addr} {fd : FuncData} (F : Fun K "_law_bent_row" "_law_bent_row" s_law_bent_row f fd) (T : Txt K w mg c_Ground) (C_law_any : CalD P w K mg base 2 "_law_any" sp_law_any) (C_law_take : CalD P w K mg base 1 "_law_take" sp_law_take) : FnOk P w K mg base CX0 3 f fd ["_law_bag_here", "_law_row"] (uSp K (sp_law_bent_row)) :=
  Fun.okF F sc_law_bent_row (td_law_bent_row) (fun cdv A outer s H E hr =>
    (dss_cons (ds_if (PW.pt (dw_or (dt_not (dt_tru (de_isi .tup (dv 1) T.z_isinstance T.z_tuple))) (dw_or1 (dt_cmp (oc_eq hr) (dv 1) (de_tup da_nil))))) (dss_one (ds_ret (de_call C_law_any hr (da_cons (dv 0) da_nil)))) dss_nil)
    (dss_cons (ds_par2 sc_law_bent_row.nd (da_cons (de_call C_law_take hr (da_cons (dv 0) (da_cons de_int da_nil))) (da_cons (de_call C_law_take hr (da_cons (dv 0) (da_cons (de_callB cd_len T.z_len (da_cons (dv 1) da_nil)) da_nil))) da_nil)) (i := 2) (j := 3))
    (dss_cons (ds_if (dt_cmp (oc_eq hr) (dv 2) de_int) (dss_one (ds_ret (de_ix (de_lst (da_cons (de_callTy cd_list T.z_list (da_cons (dv 1) da_nil)) (da_cons (de_call C_law_any hr (da_cons (dv 0) da_nil)) (da_cons (de_op oa_add (dv 1) (de_tup (da_cons de_int da_nil))) da_nil)))) (de_call C_law_take hr (da_cons (dv 0) (da_cons de_int da_nil)))))) dss_nil)
    (dss_cons (ds_if (dt_cmp (oc_eq hr) (dv 2) de_int) (dss_one (ds_ret (de_op oa_add (de_sl (dv 1) do_none (do_some (dv 3))) (de_sl (dv 1) (do_some (de_op oa_add (dv 3) de_int)) do_none)))) dss_nil)
    (dss_cons (ds_if (PW.pt (dw_and (dt_cmp (oc_eq hr) (dv 2) de_int) (dw_and1 (dt_tru (de_isi .int (de_ix (dv 1) (dv 3)) T.z_isinstance T.z_int))))) (dss_one (ds_ret (de_op oa_add (de_op oa_add (de_sl (dv 1) do_none (do_some (dv 3))) (de_tup (da_cons (de_op oa_addB (de_ix (dv 1) (dv 3)) (de_ix (de_tup (da_cons de_int (da_cons (de_neg de_int) (da_cons de_int (da_cons (de_neg de_int) da_nil))))) (de_call C_law_take hr (da_cons (dv 0) (da_cons de_int da_nil))))) da_nil))) (de_sl (dv 1) (do_some (de_op oa_add (dv 3) de_int)) do_none)))) dss_nil)
    (dss_cons (ds_if (dt_cmp (oc_eq hr) (dv 2) de_int) (dss_one (ds_ret (de_op oa_add (de_op oa_add (de_sl (dv 1) do_none (do_some (dv 3))) (de_tup (da_cons (de_ix (dv 1) (de_op oa_sub (dv 3) de_int)) da_nil))) (de_sl (dv 1) (do_some (de_op oa_add (dv 3) de_int)) do_none)))) dss_nil)
    (dss_one (ds_ret (de_op oa_add (de_op oa_add (de_sl (dv 1) do_none (do_some (dv 3))) (de_tup (da_cons (de_call C_law_any hr (da_cons (dv 0) da_nil)) da_nil))) (de_sl (dv 1) (do_some (de_op oa_add (dv 3) de_int)) do_none))))))))))) (fun ws S Q E h => len_law_bent_row h) (hd_law_bent_row)
end
end DL

set_option Elab.async false
set_option linter.all false
set_option maxRecDepth 100000
set_option maxHeartbeats 4000000
namespace DL
open PySem PySem.Spec PyProof.Rows L2
/-- rows of four -/
def R4 (x : W) : Prop := ∃ a b c d, x = .tup [a, b, c, d]
theorem or_eqnil {i j : Nat} {k : Int} {way : Int} {rs : List W} (ω : Om) (Q : Bool → Sto → Prop) (S1 : Sto) (h1 : ω.s[i]? = some (some (.int way))) (h2 : ω.s[j]? = some (some (.tup rs))) (hd : okD (.tup rs) = true) (h : Q (decide (way = k) || rs.isEmpty) S1) : dOr (dTest (dOp dEq (dVar i) (dC (.int k)))) (dTest (dOp dEq (dVar j) (dTup dNil))) ω S1 Q := by
  refine or_b (a := decide (way = k)) (b := rs.isEmpty) (fun Q h => eqt ω Q S1 h1 h) (fun _ Q h => ?_) h
  simp only [dTest, dOp, dVar, h2]
  (simp only [↓dFgt, ↓dVar, ↓dC, ↓dOp, ↓dUn, ↓dI, ↓dI0, ↓dSub, ↓dMul, ↓dDiv, ↓dMod, ↓dPow, ↓dAdd, ↓dNeg, ↓dEq, ↓dNe, ↓dLt, ↓dLe, ↓dGt, ↓dGe, ↓dIsN, ↓dNotN, ↓dTru, ↓dTest, ↓dChain, ↓dAnd, ↓dOr, ↓dNot, ↓dAndV, ↓dOrV, ↓dNotV, ↓dIf, ↓dNil, ↓dCons, ↓dTup, ↓dLst, ↓dLstM, ↓dCB, ↓dLen, ↓dAbs, ↓dMax2, ↓dMin2, ↓dAll, ↓dAny, ↓dListOf, ↓dListOfM, ↓dTupOf, ↓dNext, ↓dSeq, ↓dDrop, ↓dRet, ↓dRetN, ↓dIfS, ↓dBrk, ↓dCnt, ↓dSet, ↓dAsgT, ↓dPar2, ↓tbind, ↓tbinds, ↓Om.set, ↓dCall, ↓dIx, ↓dNo, ↓dPart, ↓dSl, ↓dSlr, ↓dBM, ↓dApp, ↓dExt, ↓dSetIx, ↓dIs, ↓dMinS, ↓dMaxS, ↓dJoin, ↓dFrz, ↓dPut, ↓dFld, ↓dSetF, ↓dInt, ↓dIsLT, ↓dRng1, ↓dRng2, ↓dEnum, ↓dZip, ↓dSeqI, view_c_non, view_c_bl, view_c_int, view_c_str, view_c_tup, view_c_lst, view_c_scr, view_c_dct, view_c_ins, ↓startW, ↓wp, ↓wps, ↓dInKD, ↓dNotInKD, ↓dIxKD, ↓dIn, ↓dNotIn, ↓dDg, List.getElem?_cons_zero, List.getElem?_cons_succ, List.set_cons_zero, List.set_cons_succ, List.map_cons, List.map_nil, List.length_cons, List.length_nil, List.replicate_succ, List.replicate_zero, List.nil_append, List.cons_append, Bool.not_true, Bool.not_false, if_true, wkey_int, wkey_str, atI_0, atI_1, atI_2, atI_3, up_same, if_false, Bool.false_eq_true, Bool.true_eq_false, tru_non, isLT_non, isi_int_non, isi_bool_non, isi_str_non, isi_tup_non, isi_lst_non, tru_bl, isLT_bl, isi_int_bl, isi_bool_bl, isi_str_bl, isi_tup_bl, isi_lst_bl, tru_int, isLT_int, isi_int_int, isi_bool_int, isi_str_int, isi_tup_int, isi_lst_int, tru_str, isLT_str, isi_int_str, isi_bool_str, isi_str_str, isi_tup_str, isi_lst_str, tru_tup, isLT_tup, isi_int_tup, isi_bool_tup, isi_str_tup, isi_tup_tup, isi_lst_tup, tru_lst, isLT_lst, isi_int_lst, isi_bool_lst, isi_str_lst, isi_tup_lst, isi_lst_lst, isL_lst, seqW_lst, seqW_tup, seqW_str, seqW_scr, sq2_lst, sq2_tup, inW_sign])
  refine ⟨by decide, hd, rfl, ?_⟩
  simp only [weq_nil]
  exact h
/-! ### _law_bent -/
abbrev s_law_bent : Stmt := topS 51
abbrev N_law_bent : List Str := ["_law_bag_here", "_law_rows", "_law_way", "_law_at", "_law_skills", "_law_k", "_law_bent_here"]
theorem sc_law_bent : FnScope N_law_bent ["_law_bag_here", "_law_rows"] (defScope s_law_bent) := ⟨rfl, rfl, rfl, by decide +kernel, rfl, by decide +kernel, by decide +kernel⟩
theorem st_law_bent {x0 x1 : W} : startW N_law_bent [x0, x1] = [some x0, some x1, none, none, none, none, none] := rfl
def td_law_bent : DS' :=
    (dSeq (dPar2 2 3 (dCons (dCall sp_law_take (dCons (dVar 0) (dCons (dC (.int 8)) dNil))) (dCons (dCall sp_law_take (dCons (dVar 0) (dCons (dCB dMax2 (dCons (dC (.int 1)) (dCons (dCB dLen (dCons (dVar 1) dNil)) dNil))) dNil))) dNil)))
    (dSeq (dIfS (dOr (dTest (dOp dEq (dVar 2) (dC (.int 0)))) (dTest (dOp dEq (dVar 1) (dTup dNil)))) (dRet (dOp dIx (dLst (dCons (dCB dListOf (dCons (dVar 1) dNil)) (dCons (dCall sp_law_any (dCons (dVar 0) dNil)) (dCons (dOp dAdd (dVar 1) (dTup (dCons (dCall sp_law_any (dCons (dVar 0) dNil)) dNil))) dNil)))) (dCall sp_law_take (dCons (dVar 0) (dCons (dC (.int 3)) dNil))))) dNext)
    (dSeq (dIfS (dTest (dOp dEq (dVar 2) (dC (.int 1)))) (dRet (dOp dAdd (dOp dAdd (dSl (dVar 1) dNo (dPart (dVar 3))) (dTup (dCons (dOp dIx (dVar 1) (dVar 3)) dNil))) (dSl (dVar 1) (dPart (dVar 3)) dNo))) dNext)
    (dSeq (dIfS (dTest (dOp dEq (dVar 2) (dC (.int 2)))) (dRet (dOp dAdd (dOp dAdd (dSl (dVar 1) dNo (dPart (dVar 3))) (dTup (dCons (dOp dAdd (dSl (dOp dIx (dVar 1) (dOp dSub (dVar 3) (dC (.int 1)))) dNo (dPart (dC (.int 1)))) (dSl (dOp dIx (dVar 1) (dVar 3)) (dPart (dC (.int 1))) dNo)) dNil))) (dSl (dVar 1) (dPart (dOp dAdd (dVar 3) (dC (.int 1)))) dNo))) dNext)
    (dSeq (dIfS (dTest (dOp dEq (dVar 2) (dC (.int 3)))) (dRet (dOp dAdd (dSl (dVar 1) dNo (dPart (dVar 3))) (dSl (dVar 1) (dPart (dOp dAdd (dVar 3) (dC (.int 1)))) dNo))) dNext)
    (dSeq (dIfS (dAnd (dTest (dOp dEq (dVar 2) (dC (.int 4)))) (dAnd (dTru (dUn (dIs .tup) (dOp dIx (dOp dIx (dVar 1) (dVar 3)) (dC (.int 3))))) (dTest (dOp dNe (dOp dIx (dOp dIx (dVar 1) (dVar 3)) (dC (.int 3))) (dTup dNil))))) (dSeq (dPar2 4 5 (dCons (dOp dIx (dOp dIx (dVar 1) (dVar 3)) (dC (.int 3))) (dCons (dCall sp_law_take (dCons (dVar 0) (dCons (dCB dLen (dCons (dOp dIx (dOp dIx (dVar 1) (dVar 3)) (dC (.int 3))) dNil)) dNil))) dNil)))
      (dSeq (dSet 6 (dOp dAdd (dOp dAdd (dSl (dVar 4) dNo (dPart (dVar 5))) (dTup (dCons (dCall sp_law_bent_row (dCons (dVar 0) (dCons (dOp dIx (dVar 4) (dVar 5)) dNil))) dNil))) (dSl (dVar 4) (dPart (dOp dAdd (dVar 5) (dC (.int 1)))) dNo)))
      (dSeq (dSet 6 (dOp dIx (dLst (dCons (dVar 6) (dCons (dVar 6) (dCons (dCB dListOf (dCons (dVar 4) dNil)) (dCons (dOp dAdd (dVar 4) (dVar 4)) dNil))))) (dCall sp_law_take (dCons (dVar 0) (dCons (dC (.int 4)) dNil)))))
      (dRet (dOp dAdd (dOp dAdd (dSl (dVar 1) dNo (dPart (dVar 3))) (dTup (dCons (dOp dAdd (dSl (dOp dIx (dVar 1) (dVar 3)) dNo (dPart (dC (.int 3)))) (dTup (dCons (dVar 6) dNil))) dNil))) (dSl (dVar 1) (dPart (dOp dAdd (dVar 3) (dC (.int 1)))) dNo)))))) dNext)
    (dRet (dOp dAdd (dOp dAdd (dSl (dVar 1) dNo (dPart (dVar 3))) (dTup (dCons (dCall sp_law_bent_row (dCons (dVar 0) (dCons (dOp dIx (dVar 1) (dVar 3)) dNil))) dNil))) (dSl (dVar 1) (dPart (dOp dAdd (dVar 3) (dC (.int 1)))) dNo)))))))))
def sp_law_bent : DSp := fun ws S Q _ => ∃ (b : Addr) (rs : List W) (L n : Nat), ws = [.ref b, .tup rs] ∧ Bg S b ∧ Tk L n (.tup rs) ∧ (∀ r ∈ rs, R4 r) ∧ 7 ≤ n ∧ n ≤ 40 ∧ 4 ≤ L ∧ L ≤ 400 ∧ ∀ y, Tk (2 * L + 2) n y → aft S b (Q y)
theorem len_law_bent {ws S Q E} (h : sp_law_bent ws S Q E) : ws.length = 2 := by obtain ⟨b, x, L, n, rfl, _⟩ := h; rfl
theorem hd_law_bent (ws S Q E) (h : sp_law_bent ws S Q E) : td_law_bent { nx := fun _ S' => frzQ Q .non S', rt := frzQ Q } ⟨startW N_law_bent ws, XF⟩ S := by
  obtain ⟨b, rs, L, n, rfl, hb, hx, hr4, n7, n40, L4, hL, q⟩ := h
  simp only [st_law_bent, td_law_bent]
  obtain ⟨n, rfl⟩ : ∃ m, n = m + 3 := ⟨n - 3, by omega⟩
  have dL := hx.1
  refine seq_go ?_
  refine par_go (fun w u S1 => ∃ (way : Int) (a : Nat) (g s : Int), w = .int way ∧ u = .int (a : Nat) ∧ (rs ≠ [] → a < rs.length) ∧ BagOk g s ∧ S1 = up S b (bagO g s)) (fun Q h => ?_) ?_
  · (simp only [↓dFgt, ↓dVar, ↓dC, ↓dOp, ↓dUn, ↓dI, ↓dI0, ↓dSub, ↓dMul, ↓dDiv, ↓dMod, ↓dPow, ↓dAdd, ↓dNeg, ↓dEq, ↓dNe, ↓dLt, ↓dLe, ↓dGt, ↓dGe, ↓dIsN, ↓dNotN, ↓dTru, ↓dTest, ↓dChain, ↓dAnd, ↓dOr, ↓dNot, ↓dAndV, ↓dOrV, ↓dNotV, ↓dIf, ↓dNil, ↓dCons, ↓dTup, ↓dLst, ↓dLstM, ↓dCB, ↓dLen, ↓dAbs, ↓dMax2, ↓dMin2, ↓dAll, ↓dAny, ↓dListOf, ↓dListOfM, ↓dTupOf, ↓dNext, ↓dSeq, ↓dDrop, ↓dRet, ↓dRetN, ↓dIfS, ↓dBrk, ↓dCnt, ↓dSet, ↓dAsgT, ↓dPar2, ↓tbind, ↓tbinds, ↓Om.set, ↓dCall, ↓dIx, ↓dNo, ↓dPart, ↓dSl, ↓dSlr, ↓dBM, ↓dApp, ↓dExt, ↓dSetIx, ↓dIs, ↓dMinS, ↓dMaxS, ↓dJoin, ↓dFrz, ↓dPut, ↓dFld, ↓dSetF, ↓dInt, ↓dIsLT, ↓dRng1, ↓dRng2, ↓dEnum, ↓dZip, ↓dSeqI, view_c_non, view_c_bl, view_c_int, view_c_str, view_c_tup, view_c_lst, view_c_scr, view_c_dct, view_c_ins, ↓startW, ↓wp, ↓wps, ↓dInKD, ↓dNotInKD, ↓dIxKD, ↓dIn, ↓dNotIn, ↓dDg, List.getElem?_cons_zero, List.getElem?_cons_succ, List.set_cons_zero, List.set_cons_succ, List.map_cons, List.map_nil, List.length_cons, List.length_nil, List.replicate_succ, List.replicate_zero, List.nil_append, List.cons_append, Bool.not_true, Bool.not_false, if_true, wkey_int, wkey_str, atI_0, atI_1, atI_2, atI_3, up_same, if_false, Bool.false_eq_true, Bool.true_eq_false, tru_non, isLT_non, isi_int_non, isi_bool_non, isi_str_non, isi_tup_non, isi_lst_non, tru_bl, isLT_bl, isi_int_bl, isi_bool_bl, isi_str_bl, isi_tup_bl, isi_lst_bl, tru_int, isLT_int, isi_int_int, isi_bool_int, isi_str_int, isi_tup_int, isi_lst_int, tru_str, isLT_str, isi_int_str, isi_bool_str, isi_str_str, isi_tup_str, isi_lst_str, tru_tup, isLT_tup, isi_int_tup, isi_bool_tup, isi_str_tup, isi_tup_tup, isi_lst_tup, tru_lst, isLT_lst, isi_int_lst, isi_bool_lst, isi_str_lst, isi_tup_lst, isi_lst_lst, isL_lst, seqW_lst, seqW_tup, seqW_str, seqW_scr, sq2_lst, sq2_tup, inW_sign])
    refine ⟨b, 8, rfl, hb, by decide, by decide, fun r r0 r1 g s ok => ?_⟩
    refine ⟨b, _, rfl, Bg.up ok, by split <;> omega, by split <;> omega, fun t t0 t1 g s ok => ?_⟩
    rw [up_up]
    refine h _ _ _ ⟨r, t.toNat, g, s, rfl, by rw [Int.toNat_of_nonneg t0], fun hne => ?_, ok, rfl⟩
    have : 1 ≤ rs.length := by
      cases rs with
      | nil => exact absurd rfl hne
      | cons _ _ => simp
    split at t1 <;> omega
  rintro _ _ _ ⟨way, a, g, s, rfl, rfl, ha, ok, rfl⟩
  (((try unfold dNext); dsimp only; refine seq_go ?_))
  refine if_b (decide (way = 0) || rs.isEmpty) (fun Q h => or_eqnil _ Q _ rfl rfl (hx.ok (by omega)) h) (fun _ => ?_) (fun e => ?_)
  · refine ret_go ?_
    (simp only [↓dFgt, ↓dVar, ↓dC, ↓dOp, ↓dUn, ↓dI, ↓dI0, ↓dSub, ↓dMul, ↓dDiv, ↓dMod, ↓dPow, ↓dAdd, ↓dNeg, ↓dEq, ↓dNe, ↓dLt, ↓dLe, ↓dGt, ↓dGe, ↓dIsN, ↓dNotN, ↓dTru, ↓dTest, ↓dChain, ↓dAnd, ↓dOr, ↓dNot, ↓dAndV, ↓dOrV, ↓dNotV, ↓dIf, ↓dNil, ↓dCons, ↓dTup, ↓dLst, ↓dLstM, ↓dCB, ↓dLen, ↓dAbs, ↓dMax2, ↓dMin2, ↓dAll, ↓dAny, ↓dListOf, ↓dListOfM, ↓dTupOf, ↓dNext, ↓dSeq, ↓dDrop, ↓dRet, ↓dRetN, ↓dIfS, ↓dBrk, ↓dCnt, ↓dSet, ↓dAsgT, ↓dPar2, ↓tbind, ↓tbinds, ↓Om.set, ↓dCall, ↓dIx, ↓dNo, ↓dPart, ↓dSl, ↓dSlr, ↓dBM, ↓dApp, ↓dExt, ↓dSetIx, ↓dIs, ↓dMinS, ↓dMaxS, ↓dJoin, ↓dFrz, ↓dPut, ↓dFld, ↓dSetF, ↓dInt, ↓dIsLT, ↓dRng1, ↓dRng2, ↓dEnum, ↓dZip, ↓dSeqI, view_c_non, view_c_bl, view_c_int, view_c_str, view_c_tup, view_c_lst, view_c_scr, view_c_dct, view_c_ins, ↓startW, ↓wp, ↓wps, ↓dInKD, ↓dNotInKD, ↓dIxKD, ↓dIn, ↓dNotIn, ↓dDg, List.getElem?_cons_zero, List.getElem?_cons_succ, List.set_cons_zero, List.set_cons_succ, List.map_cons, List.map_nil, List.length_cons, List.length_nil, List.replicate_succ, List.replicate_zero, List.nil_append, List.cons_append, Bool.not_true, Bool.not_false, if_true, wkey_int, wkey_str, atI_0, atI_1, atI_2, atI_3, up_same, if_false, Bool.false_eq_true, Bool.true_eq_false, tru_non, isLT_non, isi_int_non, isi_bool_non, isi_str_non, isi_tup_non, isi_lst_non, tru_bl, isLT_bl, isi_int_bl, isi_bool_bl, isi_str_bl, isi_tup_bl, isi_lst_bl, tru_int, isLT_int, isi_int_int, isi_bool_int, isi_str_int, isi_tup_int, isi_lst_int, tru_str, isLT_str, isi_int_str, isi_bool_str, isi_str_str, isi_tup_str, isi_lst_str, tru_tup, isLT_tup, isi_int_tup, isi_bool_tup, isi_str_tup, isi_tup_tup, isi_lst_tup, tru_lst, isLT_lst, isi_int_lst, isi_bool_lst, isi_str_lst, isi_tup_lst, isi_lst_lst, isL_lst, seqW_lst, seqW_tup, seqW_str, seqW_scr, sq2_lst, sq2_tup, inW_sign])
    refine ⟨b, rfl, Bg.up ok, fun v hv g s ok => ?_⟩
    rw [up_up]
    refine ⟨b, rfl, Bg.up ok, fun v2 hv2 g s ok => ?_⟩
    rw [up_up]
    refine ⟨by decide, ?_, by decide, ?_⟩
    · show rs.length + 1 ≤ 1000000; omega
    refine ⟨b, 3, rfl, Bg.up ok, by decide, by decide, fun r r0 r1 g s ok => ?_⟩
    rw [up_up]
    obtain ⟨w, hw, hat⟩ := atI_pick (xs := [W.lst rs, v, .tup (rs ++ [v2])]) r0 r1
    simp only [hat]
    refine frzQ.mk (q w ?_ g s ok)
    simp only [List.mem_cons, List.not_mem_nil, or_false] at hw
    rcases hw with rfl | rfl | rfl
    · exact .lst (by omega) fun x h => Tk.mono (by omega) (Nat.le_refl _) (hx.2 x h)
    · exact Tk.mono (by omega) (by omega) hv
    · exact .tup (by rw [List.length_append]; show _ + 1 ≤ _; omega) (Tk.all_app (fun x h => Tk.mono (by omega) (Nat.le_refl _) (hx.2 x h)) (Tk.all_one (Tk.mono (by omega) (by omega) hv2)))
  rw [Bool.or_eq_false_iff] at e
  have ha := ha (fun h => by rw [h] at e; cases e.2)
  clear e
  have c1 : cut rs none (some (a : Int)) = rs.take a := cut_take (by omega)
  have c2 : cut rs (some (a : Int)) none = rs.drop a := cut_drop (by omega)
  have c3 : cut rs (some ((a : Int) + 1)) none = rs.drop (a + 1) := cut_drop1 (by omega)
  obtain ⟨y, hy, hyat⟩ := atI_nat ha
  obtain ⟨z, hz, hzat⟩ := atI_prev ha
  have hyT := hx.2 y hy
  have hzT := hx.2 z hz
  obtain ⟨y1, y2, y3, y4, rfl⟩ := hr4 y hy
  obtain ⟨z1, z2, z3, z4, rfl⟩ := hr4 z hz
  have l1 : (rs.take a).length + 1 ≤ 1000000 := by rw [List.length_take]; omega
  have l2 : ∀ v : W, (rs.take a ++ [v]).length + (rs.drop (a + 1)).length ≤ 1000000 := fun v => by rw [List.length_append, List.length_take, List.length_drop]; show _ + 1 + _ ≤ _; omega
  have l2' : ∀ v : W, (rs.take a ++ [v]).length + (rs.drop a).length ≤ 1000000 := fun v => by rw [List.length_append, List.length_take, List.length_drop]; show _ + 1 + _ ≤ _; omega
  have l3 : (rs.take a).length + (rs.drop (a + 1)).length ≤ 1000000 := by rw [List.length_take, List.length_drop]; omega
  (((try unfold dNext); dsimp only; refine seq_go ?_))
  refine if_b (decide (way = 1)) (fun Q h => eqt _ Q _ rfl h) (fun _ => ?_) (fun _ => ?_)
  · refine ret_go ?_
    (simp only [↓dFgt, ↓dVar, ↓dC, ↓dOp, ↓dUn, ↓dI, ↓dI0, ↓dSub, ↓dMul, ↓dDiv, ↓dMod, ↓dPow, ↓dAdd, ↓dNeg, ↓dEq, ↓dNe, ↓dLt, ↓dLe, ↓dGt, ↓dGe, ↓dIsN, ↓dNotN, ↓dTru, ↓dTest, ↓dChain, ↓dAnd, ↓dOr, ↓dNot, ↓dAndV, ↓dOrV, ↓dNotV, ↓dIf, ↓dNil, ↓dCons, ↓dTup, ↓dLst, ↓dLstM, ↓dCB, ↓dLen, ↓dAbs, ↓dMax2, ↓dMin2, ↓dAll, ↓dAny, ↓dListOf, ↓dListOfM, ↓dTupOf, ↓dNext, ↓dSeq, ↓dDrop, ↓dRet, ↓dRetN, ↓dIfS, ↓dBrk, ↓dCnt, ↓dSet, ↓dAsgT, ↓dPar2, ↓tbind, ↓tbinds, ↓Om.set, ↓dCall, ↓dIx, ↓dNo, ↓dPart, ↓dSl, ↓dSlr, ↓dBM, ↓dApp, ↓dExt, ↓dSetIx, ↓dIs, ↓dMinS, ↓dMaxS, ↓dJoin, ↓dFrz, ↓dPut, ↓dFld, ↓dSetF, ↓dInt, ↓dIsLT, ↓dRng1, ↓dRng2, ↓dEnum, ↓dZip, ↓dSeqI, view_c_non, view_c_bl, view_c_int, view_c_str, view_c_tup, view_c_lst, view_c_scr, view_c_dct, view_c_ins, ↓startW, ↓wp, ↓wps, ↓dInKD, ↓dNotInKD, ↓dIxKD, ↓dIn, ↓dNotIn, ↓dDg, List.getElem?_cons_zero, List.getElem?_cons_succ, List.set_cons_zero, List.set_cons_succ, List.map_cons, List.map_nil, List.length_cons, List.length_nil, List.replicate_succ, List.replicate_zero, List.nil_append, List.cons_append, Bool.not_true, Bool.not_false, if_true, wkey_int, wkey_str, atI_0, atI_1, atI_2, atI_3, up_same, if_false, Bool.false_eq_true, Bool.true_eq_false, tru_non, isLT_non, isi_int_non, isi_bool_non, isi_str_non, isi_tup_non, isi_lst_non, tru_bl, isLT_bl, isi_int_bl, isi_bool_bl, isi_str_bl, isi_tup_bl, isi_lst_bl, tru_int, isLT_int, isi_int_int, isi_bool_int, isi_str_int, isi_tup_int, isi_lst_int, tru_str, isLT_str, isi_int_str, isi_bool_str, isi_str_str, isi_tup_str, isi_lst_str, tru_tup, isLT_tup, isi_int_tup, isi_bool_tup, isi_str_tup, isi_tup_tup, isi_lst_tup, tru_lst, isLT_lst, isi_int_lst, isi_bool_lst, isi_str_lst, isi_tup_lst, isi_lst_lst, isL_lst, seqW_lst, seqW_tup, seqW_str, seqW_scr, sq2_lst, sq2_tup, inW_sign])
    simp only [c1, c2, hyat]
    refine ⟨by decide, l1, l2' _, frzQ.mk (q _ (.tup ?_ (Tk.all_app (Tk.all_app (fun y hy => Tk.mono (by omega) (Nat.le_refl _) (hx.2 y (List.mem_of_mem_take hy))) (Tk.all_one (Tk.mono (by omega) (Nat.le_refl _) hyT))) (fun y hy => Tk.mono (by omega) (Nat.le_refl _) (hx.2 y (List.mem_of_mem_drop hy))))) g s ok)⟩
    simp only [List.length_append, List.length_take, List.length_drop, List.length_cons, List.length_nil]
    omega
  (((try unfold dNext); dsimp only; refine seq_go ?_))
  refine if_b (decide (way = 2)) (fun Q h => eqt _ Q _ rfl h) (fun _ => ?_) (fun _ => ?_)
  · refine ret_go ?_
    have e1 : cut [z1, z2, z3, z4] none (some 1) = [z1] := cut_take (i := 1) (by simp)
    have e2 : cut [y1, y2, y3, y4] (some 1) none = [y2, y3, y4] := cut_drop (i := 1) (by simp)
    (simp only [↓dFgt, ↓dVar, ↓dC, ↓dOp, ↓dUn, ↓dI, ↓dI0, ↓dSub, ↓dMul, ↓dDiv, ↓dMod, ↓dPow, ↓dAdd, ↓dNeg, ↓dEq, ↓dNe, ↓dLt, ↓dLe, ↓dGt, ↓dGe, ↓dIsN, ↓dNotN, ↓dTru, ↓dTest, ↓dChain, ↓dAnd, ↓dOr, ↓dNot, ↓dAndV, ↓dOrV, ↓dNotV, ↓dIf, ↓dNil, ↓dCons, ↓dTup, ↓dLst, ↓dLstM, ↓dCB, ↓dLen, ↓dAbs, ↓dMax2, ↓dMin2, ↓dAll, ↓dAny, ↓dListOf, ↓dListOfM, ↓dTupOf, ↓dNext, ↓dSeq, ↓dDrop, ↓dRet, ↓dRetN, ↓dIfS, ↓dBrk, ↓dCnt, ↓dSet, ↓dAsgT, ↓dPar2, ↓tbind, ↓tbinds, ↓Om.set, ↓dCall, ↓dIx, ↓dNo, ↓dPart, ↓dSl, ↓dSlr, ↓dBM, ↓dApp, ↓dExt, ↓dSetIx, ↓dIs, ↓dMinS, ↓dMaxS, ↓dJoin, ↓dFrz, ↓dPut, ↓dFld, ↓dSetF, ↓dInt, ↓dIsLT, ↓dRng1, ↓dRng2, ↓dEnum, ↓dZip, ↓dSeqI, view_c_non, view_c_bl, view_c_int, view_c_str, view_c_tup, view_c_lst, view_c_scr, view_c_dct, view_c_ins, ↓startW, ↓wp, ↓wps, ↓dInKD, ↓dNotInKD, ↓dIxKD, ↓dIn, ↓dNotIn, ↓dDg, List.getElem?_cons_zero, List.getElem?_cons_succ, List.set_cons_zero, List.set_cons_succ, List.map_cons, List.map_nil, List.length_cons, List.length_nil, List.replicate_succ, List.replicate_zero, List.nil_append, List.cons_append, Bool.not_true, Bool.not_false, if_true, wkey_int, wkey_str, atI_0, atI_1, atI_2, atI_3, up_same, if_false, Bool.false_eq_true, Bool.true_eq_false, tru_non, isLT_non, isi_int_non, isi_bool_non, isi_str_non, isi_tup_non, isi_lst_non, tru_bl, isLT_bl, isi_int_bl, isi_bool_bl, isi_str_bl, isi_tup_bl, isi_lst_bl, tru_int, isLT_int, isi_int_int, isi_bool_int, isi_str_int, isi_tup_int, isi_lst_int, tru_str, isLT_str, isi_int_str, isi_bool_str, isi_str_str, isi_tup_str, isi_lst_str, tru_tup, isLT_tup, isi_int_tup, isi_bool_tup, isi_str_tup, isi_tup_tup, isi_lst_tup, tru_lst, isLT_lst, isi_int_lst, isi_bool_lst, isi_str_lst, isi_tup_lst, isi_lst_lst, isL_lst, seqW_lst, seqW_tup, seqW_str, seqW_scr, sq2_lst, sq2_tup, inW_sign])
    simp only [c1, c3, hyat, hzat]
    (simp only [↓dFgt, ↓dVar, ↓dC, ↓dOp, ↓dUn, ↓dI, ↓dI0, ↓dSub, ↓dMul, ↓dDiv, ↓dMod, ↓dPow, ↓dAdd, ↓dNeg, ↓dEq, ↓dNe, ↓dLt, ↓dLe, ↓dGt, ↓dGe, ↓dIsN, ↓dNotN, ↓dTru, ↓dTest, ↓dChain, ↓dAnd, ↓dOr, ↓dNot, ↓dAndV, ↓dOrV, ↓dNotV, ↓dIf, ↓dNil, ↓dCons, ↓dTup, ↓dLst, ↓dLstM, ↓dCB, ↓dLen, ↓dAbs, ↓dMax2, ↓dMin2, ↓dAll, ↓dAny, ↓dListOf, ↓dListOfM, ↓dTupOf, ↓dNext, ↓dSeq, ↓dDrop, ↓dRet, ↓dRetN, ↓dIfS, ↓dBrk, ↓dCnt, ↓dSet, ↓dAsgT, ↓dPar2, ↓tbind, ↓tbinds, ↓Om.set, ↓dCall, ↓dIx, ↓dNo, ↓dPart, ↓dSl, ↓dSlr, ↓dBM, ↓dApp, ↓dExt, ↓dSetIx, ↓dIs, ↓dMinS, ↓dMaxS, ↓dJoin, ↓dFrz, ↓dPut, ↓dFld, ↓dSetF, ↓dInt, ↓dIsLT, ↓dRng1, ↓dRng2, ↓dEnum, ↓dZip, ↓dSeqI, view_c_non, view_c_bl, view_c_int, view_c_str, view_c_tup, view_c_lst, view_c_scr, view_c_dct, view_c_ins, ↓startW, ↓wp, ↓wps, ↓dInKD, ↓dNotInKD, ↓dIxKD, ↓dIn, ↓dNotIn, ↓dDg, List.getElem?_cons_zero, List.getElem?_cons_succ, List.set_cons_zero, List.set_cons_succ, List.map_cons, List.map_nil, List.length_cons, List.length_nil, List.replicate_succ, List.replicate_zero, List.nil_append, List.cons_append, Bool.not_true, Bool.not_false, if_true, wkey_int, wkey_str, atI_0, atI_1, atI_2, atI_3, up_same, if_false, Bool.false_eq_true, Bool.true_eq_false, tru_non, isLT_non, isi_int_non, isi_bool_non, isi_str_non, isi_tup_non, isi_lst_non, tru_bl, isLT_bl, isi_int_bl, isi_bool_bl, isi_str_bl, isi_tup_bl, isi_lst_bl, tru_int, isLT_int, isi_int_int, isi_bool_int, isi_str_int, isi_tup_int, isi_lst_int, tru_str, isLT_str, isi_int_str, isi_bool_str, isi_str_str, isi_tup_str, isi_lst_str, tru_tup, isLT_tup, isi_int_tup, isi_bool_tup, isi_str_tup, isi_tup_tup, isi_lst_tup, tru_lst, isLT_lst, isi_int_lst, isi_bool_lst, isi_str_lst, isi_tup_lst, isi_lst_lst, isL_lst, seqW_lst, seqW_tup, seqW_str, seqW_scr, sq2_lst, sq2_tup, inW_sign])
    simp only [e1, e2]
    refine ⟨by show 4 ≤ 1000000; decide, by decide, l1, l2 _, frzQ.mk (q _ (Tk.put a hx (by omega) (.tup (by show 4 ≤ _; omega) fun v hv => ?_) ha) g s ok)⟩
    have hv : v = z1 ∨ v = y2 ∨ v = y3 ∨ v = y4 := by simpa using hv
    rcases hv with rfl | rfl | rfl | rfl
    · exact Tk.mono (by omega) (Nat.le_refl _) (hzT.2 _ (by simp))
    · exact Tk.mono (by omega) (Nat.le_refl _) (hyT.2 _ (by simp))
    · exact Tk.mono (by omega) (Nat.le_refl _) (hyT.2 _ (by simp))
    · exact Tk.mono (by omega) (Nat.le_refl _) (hyT.2 _ (by simp))
  (((try unfold dNext); dsimp only; refine seq_go ?_))
  refine if_b (decide (way = 3)) (fun Q h => eqt _ Q _ rfl h) (fun _ => ?_) (fun _ => ?_)
  · refine ret_go ?_
    (simp only [↓dFgt, ↓dVar, ↓dC, ↓dOp, ↓dUn, ↓dI, ↓dI0, ↓dSub, ↓dMul, ↓dDiv, ↓dMod, ↓dPow, ↓dAdd, ↓dNeg, ↓dEq, ↓dNe, ↓dLt, ↓dLe, ↓dGt, ↓dGe, ↓dIsN, ↓dNotN, ↓dTru, ↓dTest, ↓dChain, ↓dAnd, ↓dOr, ↓dNot, ↓dAndV, ↓dOrV, ↓dNotV, ↓dIf, ↓dNil, ↓dCons, ↓dTup, ↓dLst, ↓dLstM, ↓dCB, ↓dLen, ↓dAbs, ↓dMax2, ↓dMin2, ↓dAll, ↓dAny, ↓dListOf, ↓dListOfM, ↓dTupOf, ↓dNext, ↓dSeq, ↓dDrop, ↓dRet, ↓dRetN, ↓dIfS, ↓dBrk, ↓dCnt, ↓dSet, ↓dAsgT, ↓dPar2, ↓tbind, ↓tbinds, ↓Om.set, ↓dCall, ↓dIx, ↓dNo, ↓dPart, ↓dSl, ↓dSlr, ↓dBM, ↓dApp, ↓dExt, ↓dSetIx, ↓dIs, ↓dMinS, ↓dMaxS, ↓dJoin, ↓dFrz, ↓dPut, ↓dFld, ↓dSetF, ↓dInt, ↓dIsLT, ↓dRng1, ↓dRng2, ↓dEnum, ↓dZip, ↓dSeqI, view_c_non, view_c_bl, view_c_int, view_c_str, view_c_tup, view_c_lst, view_c_scr, view_c_dct, view_c_ins, ↓startW, ↓wp, ↓wps, ↓dInKD, ↓dNotInKD, ↓dIxKD, ↓dIn, ↓dNotIn, ↓dDg, List.getElem?_cons_zero, List.getElem?_cons_succ, List.set_cons_zero, List.set_cons_succ, List.map_cons, List.map_nil, List.length_cons, List.length_nil, List.replicate_succ, List.replicate_zero, List.nil_append, List.cons_append, Bool.not_true, Bool.not_false, if_true, wkey_int, wkey_str, atI_0, atI_1, atI_2, atI_3, up_same, if_false, Bool.false_eq_true, Bool.true_eq_false, tru_non, isLT_non, isi_int_non, isi_bool_non, isi_str_non, isi_tup_non, isi_lst_non, tru_bl, isLT_bl, isi_int_bl, isi_bool_bl, isi_str_bl, isi_tup_bl, isi_lst_bl, tru_int, isLT_int, isi_int_int, isi_bool_int, isi_str_int, isi_tup_int, isi_lst_int, tru_str, isLT_str, isi_int_str, isi_bool_str, isi_str_str, isi_tup_str, isi_lst_str, tru_tup, isLT_tup, isi_int_tup, isi_bool_tup, isi_str_tup, isi_tup_tup, isi_lst_tup, tru_lst, isLT_lst, isi_int_lst, isi_bool_lst, isi_str_lst, isi_tup_lst, isi_lst_lst, isL_lst, seqW_lst, seqW_tup, seqW_str, seqW_scr, sq2_lst, sq2_tup, inW_sign])
    simp only [c1, c3]
    exact ⟨l3, frzQ.mk (q _ (Tk.outN a hx (by omega)) g s ok)⟩
  have hy4 : Tk L (n + 1) y4 := hyT.2 y4 (by simp)
  (((try unfold dNext); dsimp only; refine seq_go ?_))
  refine if_b (decide (way = 4) && isTC y4) (fun Q h => and_b (a := decide (way = 4)) (b := isTC y4) (fun Q h => eqt _ Q _ rfl h) (fun _ Q h => ?_) h) (fun e => ?_) (fun _ => ?_)
  · (simp only [↓dFgt, ↓dVar, ↓dC, ↓dOp, ↓dUn, ↓dI, ↓dI0, ↓dSub, ↓dMul, ↓dDiv, ↓dMod, ↓dPow, ↓dAdd, ↓dNeg, ↓dEq, ↓dNe, ↓dLt, ↓dLe, ↓dGt, ↓dGe, ↓dIsN, ↓dNotN, ↓dTru, ↓dTest, ↓dChain, ↓dAnd, ↓dOr, ↓dNot, ↓dAndV, ↓dOrV, ↓dNotV, ↓dIf, ↓dNil, ↓dCons, ↓dTup, ↓dLst, ↓dLstM, ↓dCB, ↓dLen, ↓dAbs, ↓dMax2, ↓dMin2, ↓dAll, ↓dAny, ↓dListOf, ↓dListOfM, ↓dTupOf, ↓dNext, ↓dSeq, ↓dDrop, ↓dRet, ↓dRetN, ↓dIfS, ↓dBrk, ↓dCnt, ↓dSet, ↓dAsgT, ↓dPar2, ↓tbind, ↓tbinds, ↓Om.set, ↓dCall, ↓dIx, ↓dNo, ↓dPart, ↓dSl, ↓dSlr, ↓dBM, ↓dApp, ↓dExt, ↓dSetIx, ↓dIs, ↓dMinS, ↓dMaxS, ↓dJoin, ↓dFrz, ↓dPut, ↓dFld, ↓dSetF, ↓dInt, ↓dIsLT, ↓dRng1, ↓dRng2, ↓dEnum, ↓dZip, ↓dSeqI, view_c_non, view_c_bl, view_c_int, view_c_str, view_c_tup, view_c_lst, view_c_scr, view_c_dct, view_c_ins, ↓startW, ↓wp, ↓wps, ↓dInKD, ↓dNotInKD, ↓dIxKD, ↓dIn, ↓dNotIn, ↓dDg, List.getElem?_cons_zero, List.getElem?_cons_succ, List.set_cons_zero, List.set_cons_succ, List.map_cons, List.map_nil, List.length_cons, List.length_nil, List.replicate_succ, List.replicate_zero, List.nil_append, List.cons_append, Bool.not_true, Bool.not_false, if_true, wkey_int, wkey_str, atI_0, atI_1, atI_2, atI_3, up_same, if_false, Bool.false_eq_true, Bool.true_eq_false, tru_non, isLT_non, isi_int_non, isi_bool_non, isi_str_non, isi_tup_non, isi_lst_non, tru_bl, isLT_bl, isi_int_bl, isi_bool_bl, isi_str_bl, isi_tup_bl, isi_lst_bl, tru_int, isLT_int, isi_int_int, isi_bool_int, isi_str_int, isi_tup_int, isi_lst_int, tru_str, isLT_str, isi_int_str, isi_bool_str, isi_str_str, isi_tup_str, isi_lst_str, tru_tup, isLT_tup, isi_int_tup, isi_bool_tup, isi_str_tup, isi_tup_tup, isi_lst_tup, tru_lst, isLT_lst, isi_int_lst, isi_bool_lst, isi_str_lst, isi_tup_lst, isi_lst_lst, isL_lst, seqW_lst, seqW_tup, seqW_str, seqW_scr, sq2_lst, sq2_tup, inW_sign])
    simp only [hyat]
    (simp only [↓dFgt, ↓dVar, ↓dC, ↓dOp, ↓dUn, ↓dI, ↓dI0, ↓dSub, ↓dMul, ↓dDiv, ↓dMod, ↓dPow, ↓dAdd, ↓dNeg, ↓dEq, ↓dNe, ↓dLt, ↓dLe, ↓dGt, ↓dGe, ↓dIsN, ↓dNotN, ↓dTru, ↓dTest, ↓dChain, ↓dAnd, ↓dOr, ↓dNot, ↓dAndV, ↓dOrV, ↓dNotV, ↓dIf, ↓dNil, ↓dCons, ↓dTup, ↓dLst, ↓dLstM, ↓dCB, ↓dLen, ↓dAbs, ↓dMax2, ↓dMin2, ↓dAll, ↓dAny, ↓dListOf, ↓dListOfM, ↓dTupOf, ↓dNext, ↓dSeq, ↓dDrop, ↓dRet, ↓dRetN, ↓dIfS, ↓dBrk, ↓dCnt, ↓dSet, ↓dAsgT, ↓dPar2, ↓tbind, ↓tbinds, ↓Om.set, ↓dCall, ↓dIx, ↓dNo, ↓dPart, ↓dSl, ↓dSlr, ↓dBM, ↓dApp, ↓dExt, ↓dSetIx, ↓dIs, ↓dMinS, ↓dMaxS, ↓dJoin, ↓dFrz, ↓dPut, ↓dFld, ↓dSetF, ↓dInt, ↓dIsLT, ↓dRng1, ↓dRng2, ↓dEnum, ↓dZip, ↓dSeqI, view_c_non, view_c_bl, view_c_int, view_c_str, view_c_tup, view_c_lst, view_c_scr, view_c_dct, view_c_ins, ↓startW, ↓wp, ↓wps, ↓dInKD, ↓dNotInKD, ↓dIxKD, ↓dIn, ↓dNotIn, ↓dDg, List.getElem?_cons_zero, List.getElem?_cons_succ, List.set_cons_zero, List.set_cons_succ, List.map_cons, List.map_nil, List.length_cons, List.length_nil, List.replicate_succ, List.replicate_zero, List.nil_append, List.cons_append, Bool.not_true, Bool.not_false, if_true, wkey_int, wkey_str, atI_0, atI_1, atI_2, atI_3, up_same, if_false, Bool.false_eq_true, Bool.true_eq_false, tru_non, isLT_non, isi_int_non, isi_bool_non, isi_str_non, isi_tup_non, isi_lst_non, tru_bl, isLT_bl, isi_int_bl, isi_bool_bl, isi_str_bl, isi_tup_bl, isi_lst_bl, tru_int, isLT_int, isi_int_int, isi_bool_int, isi_str_int, isi_tup_int, isi_lst_int, tru_str, isLT_str, isi_int_str, isi_bool_str, isi_str_str, isi_tup_str, isi_lst_str, tru_tup, isLT_tup, isi_int_tup, isi_bool_tup, isi_str_tup, isi_tup_tup, isi_lst_tup, tru_lst, isLT_lst, isi_int_lst, isi_bool_lst, isi_str_lst, isi_tup_lst, isi_lst_lst, isL_lst, seqW_lst, seqW_tup, seqW_str, seqW_scr, sq2_lst, sq2_tup, inW_sign])
    cases y4 with
    | tup ks =>
      try (simp only [↓dFgt, ↓dVar, ↓dC, ↓dOp, ↓dUn, ↓dI, ↓dI0, ↓dSub, ↓dMul, ↓dDiv, ↓dMod, ↓dPow, ↓dAdd, ↓dNeg, ↓dEq, ↓dNe, ↓dLt, ↓dLe, ↓dGt, ↓dGe, ↓dIsN, ↓dNotN, ↓dTru, ↓dTest, ↓dChain, ↓dAnd, ↓dOr, ↓dNot, ↓dAndV, ↓dOrV, ↓dNotV, ↓dIf, ↓dNil, ↓dCons, ↓dTup, ↓dLst, ↓dLstM, ↓dCB, ↓dLen, ↓dAbs, ↓dMax2, ↓dMin2, ↓dAll, ↓dAny, ↓dListOf, ↓dListOfM, ↓dTupOf, ↓dNext, ↓dSeq, ↓dDrop, ↓dRet, ↓dRetN, ↓dIfS, ↓dBrk, ↓dCnt, ↓dSet, ↓dAsgT, ↓dPar2, ↓tbind, ↓tbinds, ↓Om.set, ↓dCall, ↓dIx, ↓dNo, ↓dPart, ↓dSl, ↓dSlr, ↓dBM, ↓dApp, ↓dExt, ↓dSetIx, ↓dIs, ↓dMinS, ↓dMaxS, ↓dJoin, ↓dFrz, ↓dPut, ↓dFld, ↓dSetF, ↓dInt, ↓dIsLT, ↓dRng1, ↓dRng2, ↓dEnum, ↓dZip, ↓dSeqI, view_c_non, view_c_bl, view_c_int, view_c_str, view_c_tup, view_c_lst, view_c_scr, view_c_dct, view_c_ins, ↓startW, ↓wp, ↓wps, ↓dInKD, ↓dNotInKD, ↓dIxKD, ↓dIn, ↓dNotIn, ↓dDg, List.getElem?_cons_zero, List.getElem?_cons_succ, List.set_cons_zero, List.set_cons_succ, List.map_cons, List.map_nil, List.length_cons, List.length_nil, List.replicate_succ, List.replicate_zero, List.nil_append, List.cons_append, Bool.not_true, Bool.not_false, if_true, wkey_int, wkey_str, atI_0, atI_1, atI_2, atI_3, up_same, if_false, Bool.false_eq_true, Bool.true_eq_false, tru_non, isLT_non, isi_int_non, isi_bool_non, isi_str_non, isi_tup_non, isi_lst_non, tru_bl, isLT_bl, isi_int_bl, isi_bool_bl, isi_str_bl, isi_tup_bl, isi_lst_bl, tru_int, isLT_int, isi_int_int, isi_bool_int, isi_str_int, isi_tup_int, isi_lst_int, tru_str, isLT_str, isi_int_str, isi_bool_str, isi_str_str, isi_tup_str, isi_lst_str, tru_tup, isLT_tup, isi_int_tup, isi_bool_tup, isi_str_tup, isi_tup_tup, isi_lst_tup, tru_lst, isLT_lst, isi_int_lst, isi_bool_lst, isi_str_lst, isi_tup_lst, isi_lst_lst, isL_lst, seqW_lst, seqW_tup, seqW_str, seqW_scr, sq2_lst, sq2_tup, inW_sign])
      try simp only [hyat]
      try (simp only [↓dFgt, ↓dVar, ↓dC, ↓dOp, ↓dUn, ↓dI, ↓dI0, ↓dSub, ↓dMul, ↓dDiv, ↓dMod, ↓dPow, ↓dAdd, ↓dNeg, ↓dEq, ↓dNe, ↓dLt, ↓dLe, ↓dGt, ↓dGe, ↓dIsN, ↓dNotN, ↓dTru, ↓dTest, ↓dChain, ↓dAnd, ↓dOr, ↓dNot, ↓dAndV, ↓dOrV, ↓dNotV, ↓dIf, ↓dNil, ↓dCons, ↓dTup, ↓dLst, ↓dLstM, ↓dCB, ↓dLen, ↓dAbs, ↓dMax2, ↓dMin2, ↓dAll, ↓dAny, ↓dListOf, ↓dListOfM, ↓dTupOf, ↓dNext, ↓dSeq, ↓dDrop, ↓dRet, ↓dRetN, ↓dIfS, ↓dBrk, ↓dCnt, ↓dSet, ↓dAsgT, ↓dPar2, ↓tbind, ↓tbinds, ↓Om.set, ↓dCall, ↓dIx, ↓dNo, ↓dPart, ↓dSl, ↓dSlr, ↓dBM, ↓dApp, ↓dExt, ↓dSetIx, ↓dIs, ↓dMinS, ↓dMaxS, ↓dJoin, ↓dFrz, ↓dPut, ↓dFld, ↓dSetF, ↓dInt, ↓dIsLT, ↓dRng1, ↓dRng2, ↓dEnum, ↓dZip, ↓dSeqI, view_c_non, view_c_bl, view_c_int, view_c_str, view_c_tup, view_c_lst, view_c_scr, view_c_dct, view_c_ins, ↓startW, ↓wp, ↓wps, ↓dInKD, ↓dNotInKD, ↓dIxKD, ↓dIn, ↓dNotIn, ↓dDg, List.getElem?_cons_zero, List.getElem?_cons_succ, List.set_cons_zero, List.set_cons_succ, List.map_cons, List.map_nil, List.length_cons, List.length_nil, List.replicate_succ, List.replicate_zero, List.nil_append, List.cons_append, Bool.not_true, Bool.not_false, if_true, wkey_int, wkey_str, atI_0, atI_1, atI_2, atI_3, up_same, if_false, Bool.false_eq_true, Bool.true_eq_false, tru_non, isLT_non, isi_int_non, isi_bool_non, isi_str_non, isi_tup_non, isi_lst_non, tru_bl, isLT_bl, isi_int_bl, isi_bool_bl, isi_str_bl, isi_tup_bl, isi_lst_bl, tru_int, isLT_int, isi_int_int, isi_bool_int, isi_str_int, isi_tup_int, isi_lst_int, tru_str, isLT_str, isi_int_str, isi_bool_str, isi_str_str, isi_tup_str, isi_lst_str, tru_tup, isLT_tup, isi_int_tup, isi_bool_tup, isi_str_tup, isi_tup_tup, isi_lst_tup, tru_lst, isLT_lst, isi_int_lst, isi_bool_lst, isi_str_lst, isi_tup_lst, isi_lst_lst, isL_lst, seqW_lst, seqW_tup, seqW_str, seqW_scr, sq2_lst, sq2_tup, inW_sign])
      refine ⟨by decide, hy4.ok (by omega), rfl, ?_⟩
      simp only [weq_nil]
      cases ks <;> exact h
    | _ => first | ((simp only [↓dFgt, ↓dVar, ↓dC, ↓dOp, ↓dUn, ↓dI, ↓dI0, ↓dSub, ↓dMul, ↓dDiv, ↓dMod, ↓dPow, ↓dAdd, ↓dNeg, ↓dEq, ↓dNe, ↓dLt, ↓dLe, ↓dGt, ↓dGe, ↓dIsN, ↓dNotN, ↓dTru, ↓dTest, ↓dChain, ↓dAnd, ↓dOr, ↓dNot, ↓dAndV, ↓dOrV, ↓dNotV, ↓dIf, ↓dNil, ↓dCons, ↓dTup, ↓dLst, ↓dLstM, ↓dCB, ↓dLen, ↓dAbs, ↓dMax2, ↓dMin2, ↓dAll, ↓dAny, ↓dListOf, ↓dListOfM, ↓dTupOf, ↓dNext, ↓dSeq, ↓dDrop, ↓dRet, ↓dRetN, ↓dIfS, ↓dBrk, ↓dCnt, ↓dSet, ↓dAsgT, ↓dPar2, ↓tbind, ↓tbinds, ↓Om.set, ↓dCall, ↓dIx, ↓dNo, ↓dPart, ↓dSl, ↓dSlr, ↓dBM, ↓dApp, ↓dExt, ↓dSetIx, ↓dIs, ↓dMinS, ↓dMaxS, ↓dJoin, ↓dFrz, ↓dPut, ↓dFld, ↓dSetF, ↓dInt, ↓dIsLT, ↓dRng1, ↓dRng2, ↓dEnum, ↓dZip, ↓dSeqI, view_c_non, view_c_bl, view_c_int, view_c_str, view_c_tup, view_c_lst, view_c_scr, view_c_dct, view_c_ins, ↓startW, ↓wp, ↓wps, ↓dInKD, ↓dNotInKD, ↓dIxKD, ↓dIn, ↓dNotIn, ↓dDg, List.getElem?_cons_zero, List.getElem?_cons_succ, List.set_cons_zero, List.set_cons_succ, List.map_cons, List.map_nil, List.length_cons, List.length_nil, List.replicate_succ, List.replicate_zero, List.nil_append, List.cons_append, Bool.not_true, Bool.not_false, if_true, wkey_int, wkey_str, atI_0, atI_1, atI_2, atI_3, up_same, if_false, Bool.false_eq_true, Bool.true_eq_false, tru_non, isLT_non, isi_int_non, isi_bool_non, isi_str_non, isi_tup_non, isi_lst_non, tru_bl, isLT_bl, isi_int_bl, isi_bool_bl, isi_str_bl, isi_tup_bl, isi_lst_bl, tru_int, isLT_int, isi_int_int, isi_bool_int, isi_str_int, isi_tup_int, isi_lst_int, tru_str, isLT_str, isi_int_str, isi_bool_str, isi_str_str, isi_tup_str, isi_lst_str, tru_tup, isLT_tup, isi_int_tup, isi_bool_tup, isi_str_tup, isi_tup_tup, isi_lst_tup, tru_lst, isLT_lst, isi_int_lst, isi_bool_lst, isi_str_lst, isi_tup_lst, isi_lst_lst, isL_lst, seqW_lst, seqW_tup, seqW_str, seqW_scr, sq2_lst, sq2_tup, inW_sign]); exact h) | (have hp := hy4.p; cases hp)
  · rw [Bool.and_eq_true] at e
    obtain ⟨k0, ks', rfl⟩ := isTC_inv e.2
    clear e
    generalize hks : k0 :: ks' = ks at hy4
    have k1 : 1 ≤ ks.length := by rw [← hks]; simp
    have kL := hy4.1
    rw [hks] at hyat hyT
    clear hks
    refine seq_go ?_
    refine par_go (fun w u S1 => ∃ (k : Nat) (g s : Int), w = .tup ks ∧ u = .int (k : Nat) ∧ k < ks.length ∧ BagOk g s ∧ S1 = up S b (bagO g s)) (fun Q h => ?_) ?_
    · (simp only [↓dFgt, ↓dVar, ↓dC, ↓dOp, ↓dUn, ↓dI, ↓dI0, ↓dSub, ↓dMul, ↓dDiv, ↓dMod, ↓dPow, ↓dAdd, ↓dNeg, ↓dEq, ↓dNe, ↓dLt, ↓dLe, ↓dGt, ↓dGe, ↓dIsN, ↓dNotN, ↓dTru, ↓dTest, ↓dChain, ↓dAnd, ↓dOr, ↓dNot, ↓dAndV, ↓dOrV, ↓dNotV, ↓dIf, ↓dNil, ↓dCons, ↓dTup, ↓dLst, ↓dLstM, ↓dCB, ↓dLen, ↓dAbs, ↓dMax2, ↓dMin2, ↓dAll, ↓dAny, ↓dListOf, ↓dListOfM, ↓dTupOf, ↓dNext, ↓dSeq, ↓dDrop, ↓dRet, ↓dRetN, ↓dIfS, ↓dBrk, ↓dCnt, ↓dSet, ↓dAsgT, ↓dPar2, ↓tbind, ↓tbinds, ↓Om.set, ↓dCall, ↓dIx, ↓dNo, ↓dPart, ↓dSl, ↓dSlr, ↓dBM, ↓dApp, ↓dExt, ↓dSetIx, ↓dIs, ↓dMinS, ↓dMaxS, ↓dJoin, ↓dFrz, ↓dPut, ↓dFld, ↓dSetF, ↓dInt, ↓dIsLT, ↓dRng1, ↓dRng2, ↓dEnum, ↓dZip, ↓dSeqI, view_c_non, view_c_bl, view_c_int, view_c_str, view_c_tup, view_c_lst, view_c_scr, view_c_dct, view_c_ins, ↓startW, ↓wp, ↓wps, ↓dInKD, ↓dNotInKD, ↓dIxKD, ↓dIn, ↓dNotIn, ↓dDg, List.getElem?_cons_zero, List.getElem?_cons_succ, List.set_cons_zero, List.set_cons_succ, List.map_cons, List.map_nil, List.length_cons, List.length_nil, List.replicate_succ, List.replicate_zero, List.nil_append, List.cons_append, Bool.not_true, Bool.not_false, if_true, wkey_int, wkey_str, atI_0, atI_1, atI_2, atI_3, up_same, if_false, Bool.false_eq_true, Bool.true_eq_false, tru_non, isLT_non, isi_int_non, isi_bool_non, isi_str_non, isi_tup_non, isi_lst_non, tru_bl, isLT_bl, isi_int_bl, isi_bool_bl, isi_str_bl, isi_tup_bl, isi_lst_bl, tru_int, isLT_int, isi_int_int, isi_bool_int, isi_str_int, isi_tup_int, isi_lst_int, tru_str, isLT_str, isi_int_str, isi_bool_str, isi_str_str, isi_tup_str, isi_lst_str, tru_tup, isLT_tup, isi_int_tup, isi_bool_tup, isi_str_tup, isi_tup_tup, isi_lst_tup, tru_lst, isLT_lst, isi_int_lst, isi_bool_lst, isi_str_lst, isi_tup_lst, isi_lst_lst, isL_lst, seqW_lst, seqW_tup, seqW_str, seqW_scr, sq2_lst, sq2_tup, inW_sign])
      simp only [hyat]
      (simp only [↓dFgt, ↓dVar, ↓dC, ↓dOp, ↓dUn, ↓dI, ↓dI0, ↓dSub, ↓dMul, ↓dDiv, ↓dMod, ↓dPow, ↓dAdd, ↓dNeg, ↓dEq, ↓dNe, ↓dLt, ↓dLe, ↓dGt, ↓dGe, ↓dIsN, ↓dNotN, ↓dTru, ↓dTest, ↓dChain, ↓dAnd, ↓dOr, ↓dNot, ↓dAndV, ↓dOrV, ↓dNotV, ↓dIf, ↓dNil, ↓dCons, ↓dTup, ↓dLst, ↓dLstM, ↓dCB, ↓dLen, ↓dAbs, ↓dMax2, ↓dMin2, ↓dAll, ↓dAny, ↓dListOf, ↓dListOfM, ↓dTupOf, ↓dNext, ↓dSeq, ↓dDrop, ↓dRet, ↓dRetN, ↓dIfS, ↓dBrk, ↓dCnt, ↓dSet, ↓dAsgT, ↓dPar2, ↓tbind, ↓tbinds, ↓Om.set, ↓dCall, ↓dIx, ↓dNo, ↓dPart, ↓dSl, ↓dSlr, ↓dBM, ↓dApp, ↓dExt, ↓dSetIx, ↓dIs, ↓dMinS, ↓dMaxS, ↓dJoin, ↓dFrz, ↓dPut, ↓dFld, ↓dSetF, ↓dInt, ↓dIsLT, ↓dRng1, ↓dRng2, ↓dEnum, ↓dZip, ↓dSeqI, view_c_non, view_c_bl, view_c_int, view_c_str, view_c_tup, view_c_lst, view_c_scr, view_c_dct, view_c_ins, ↓startW, ↓wp, ↓wps, ↓dInKD, ↓dNotInKD, ↓dIxKD, ↓dIn, ↓dNotIn, ↓dDg, List.getElem?_cons_zero, List.getElem?_cons_succ, List.set_cons_zero, List.set_cons_succ, List.map_cons, List.map_nil, List.length_cons, List.length_nil, List.replicate_succ, List.replicate_zero, List.nil_append, List.cons_append, Bool.not_true, Bool.not_false, if_true, wkey_int, wkey_str, atI_0, atI_1, atI_2, atI_3, up_same, if_false, Bool.false_eq_true, Bool.true_eq_false, tru_non, isLT_non, isi_int_non, isi_bool_non, isi_str_non, isi_tup_non, isi_lst_non, tru_bl, isLT_bl, isi_int_bl, isi_bool_bl, isi_str_bl, isi_tup_bl, isi_lst_bl, tru_int, isLT_int, isi_int_int, isi_bool_int, isi_str_int, isi_tup_int, isi_lst_int, tru_str, isLT_str, isi_int_str, isi_bool_str, isi_str_str, isi_tup_str, isi_lst_str, tru_tup, isLT_tup, isi_int_tup, isi_bool_tup, isi_str_tup, isi_tup_tup, isi_lst_tup, tru_lst, isLT_lst, isi_int_lst, isi_bool_lst, isi_str_lst, isi_tup_lst, isi_lst_lst, isL_lst, seqW_lst, seqW_tup, seqW_str, seqW_scr, sq2_lst, sq2_tup, inW_sign])
      refine ⟨b, _, rfl, Bg.up ok, by omega, by omega, fun t t0 t1 g s ok => ?_⟩
      rw [up_up]
      exact h _ _ _ ⟨t.toNat, g, s, rfl, by rw [Int.toNat_of_nonneg t0], by omega, ok, rfl⟩
    rintro _ _ _ ⟨k, g, s, rfl, rfl, hk, ok, rfl⟩
    have d1 : cut ks none (some (k : Int)) = ks.take k := cut_take (by omega)
    have d3 : cut ks (some ((k : Int) + 1)) none = ks.drop (k + 1) := cut_drop1 (by omega)
    obtain ⟨sk, hsk, hskat⟩ := atI_nat hk
    have hskT := hy4.2 sk hsk
    (((try unfold dNext); dsimp only; refine seq_go ?_))
    refine setN_go (fun w S1 => ∃ g s, Tk (L + 1) (n + 1) w ∧ BagOk g s ∧ S1 = up S b (bagO g s)) (fun Q h => ?_) ?_
    · (simp only [↓dFgt, ↓dVar, ↓dC, ↓dOp, ↓dUn, ↓dI, ↓dI0, ↓dSub, ↓dMul, ↓dDiv, ↓dMod, ↓dPow, ↓dAdd, ↓dNeg, ↓dEq, ↓dNe, ↓dLt, ↓dLe, ↓dGt, ↓dGe, ↓dIsN, ↓dNotN, ↓dTru, ↓dTest, ↓dChain, ↓dAnd, ↓dOr, ↓dNot, ↓dAndV, ↓dOrV, ↓dNotV, ↓dIf, ↓dNil, ↓dCons, ↓dTup, ↓dLst, ↓dLstM, ↓dCB, ↓dLen, ↓dAbs, ↓dMax2, ↓dMin2, ↓dAll, ↓dAny, ↓dListOf, ↓dListOfM, ↓dTupOf, ↓dNext, ↓dSeq, ↓dDrop, ↓dRet, ↓dRetN, ↓dIfS, ↓dBrk, ↓dCnt, ↓dSet, ↓dAsgT, ↓dPar2, ↓tbind, ↓tbinds, ↓Om.set, ↓dCall, ↓dIx, ↓dNo, ↓dPart, ↓dSl, ↓dSlr, ↓dBM, ↓dApp, ↓dExt, ↓dSetIx, ↓dIs, ↓dMinS, ↓dMaxS, ↓dJoin, ↓dFrz, ↓dPut, ↓dFld, ↓dSetF, ↓dInt, ↓dIsLT, ↓dRng1, ↓dRng2, ↓dEnum, ↓dZip, ↓dSeqI, view_c_non, view_c_bl, view_c_int, view_c_str, view_c_tup, view_c_lst, view_c_scr, view_c_dct, view_c_ins, ↓startW, ↓wp, ↓wps, ↓dInKD, ↓dNotInKD, ↓dIxKD, ↓dIn, ↓dNotIn, ↓dDg, List.getElem?_cons_zero, List.getElem?_cons_succ, List.set_cons_zero, List.set_cons_succ, List.map_cons, List.map_nil, List.length_cons, List.length_nil, List.replicate_succ, List.replicate_zero, List.nil_append, List.cons_append, Bool.not_true, Bool.not_false, if_true, wkey_int, wkey_str, atI_0, atI_1, atI_2, atI_3, up_same, if_false, Bool.false_eq_true, Bool.true_eq_false, tru_non, isLT_non, isi_int_non, isi_bool_non, isi_str_non, isi_tup_non, isi_lst_non, tru_bl, isLT_bl, isi_int_bl, isi_bool_bl, isi_str_bl, isi_tup_bl, isi_lst_bl, tru_int, isLT_int, isi_int_int, isi_bool_int, isi_str_int, isi_tup_int, isi_lst_int, tru_str, isLT_str, isi_int_str, isi_bool_str, isi_str_str, isi_tup_str, isi_lst_str, tru_tup, isLT_tup, isi_int_tup, isi_bool_tup, isi_str_tup, isi_tup_tup, isi_lst_tup, tru_lst, isLT_lst, isi_int_lst, isi_bool_lst, isi_str_lst, isi_tup_lst, isi_lst_lst, isL_lst, seqW_lst, seqW_tup, seqW_str, seqW_scr, sq2_lst, sq2_tup, inW_sign])
      simp only [d1, d3, hskat]
      refine ⟨b, sk, L, n, rfl, Bg.up ok, hskT, by omega, by omega, by omega, fun v hv g s ok => ?_⟩
      rw [up_up]
      refine ⟨by decide, ?_, ?_, h _ _ ⟨g, s, Tk.put k hy4 (by omega) hv hk, ok, rfl⟩⟩
      · rw [List.length_take]; omega
      · rw [List.length_append, List.length_take, List.length_drop]; show _ + 1 + _ ≤ _; omega
    rintro bt _ ⟨g, s, hbt, ok, rfl⟩
    (((try unfold dNext); dsimp only; refine seq_go ?_))
    refine setN_go (fun w S1 => ∃ g s, Tk (2 * L + 2) (n + 1) w ∧ BagOk g s ∧ S1 = up S b (bagO g s)) (fun Q h => ?_) ?_
    · (simp only [↓dFgt, ↓dVar, ↓dC, ↓dOp, ↓dUn, ↓dI, ↓dI0, ↓dSub, ↓dMul, ↓dDiv, ↓dMod, ↓dPow, ↓dAdd, ↓dNeg, ↓dEq, ↓dNe, ↓dLt, ↓dLe, ↓dGt, ↓dGe, ↓dIsN, ↓dNotN, ↓dTru, ↓dTest, ↓dChain, ↓dAnd, ↓dOr, ↓dNot, ↓dAndV, ↓dOrV, ↓dNotV, ↓dIf, ↓dNil, ↓dCons, ↓dTup, ↓dLst, ↓dLstM, ↓dCB, ↓dLen, ↓dAbs, ↓dMax2, ↓dMin2, ↓dAll, ↓dAny, ↓dListOf, ↓dListOfM, ↓dTupOf, ↓dNext, ↓dSeq, ↓dDrop, ↓dRet, ↓dRetN, ↓dIfS, ↓dBrk, ↓dCnt, ↓dSet, ↓dAsgT, ↓dPar2, ↓tbind, ↓tbinds, ↓Om.set, ↓dCall, ↓dIx, ↓dNo, ↓dPart, ↓dSl, ↓dSlr, ↓dBM, ↓dApp, ↓dExt, ↓dSetIx, ↓dIs, ↓dMinS, ↓dMaxS, ↓dJoin, ↓dFrz, ↓dPut, ↓dFld, ↓dSetF, ↓dInt, ↓dIsLT, ↓dRng1, ↓dRng2, ↓dEnum, ↓dZip, ↓dSeqI, view_c_non, view_c_bl, view_c_int, view_c_str, view_c_tup, view_c_lst, view_c_scr, view_c_dct, view_c_ins, ↓startW, ↓wp, ↓wps, ↓dInKD, ↓dNotInKD, ↓dIxKD, ↓dIn, ↓dNotIn, ↓dDg, List.getElem?_cons_zero, List.getElem?_cons_succ, List.set_cons_zero, List.set_cons_succ, List.map_cons, List.map_nil, List.length_cons, List.length_nil, List.replicate_succ, List.replicate_zero, List.nil_append, List.cons_append, Bool.not_true, Bool.not_false, if_true, wkey_int, wkey_str, atI_0, atI_1, atI_2, atI_3, up_same, if_false, Bool.false_eq_true, Bool.true_eq_false, tru_non, isLT_non, isi_int_non, isi_bool_non, isi_str_non, isi_tup_non, isi_lst_non, tru_bl, isLT_bl, isi_int_bl, isi_bool_bl, isi_str_bl, isi_tup_bl, isi_lst_bl, tru_int, isLT_int, isi_int_int, isi_bool_int, isi_str_int, isi_tup_int, isi_lst_int, tru_str, isLT_str, isi_int_str, isi_bool_str, isi_str_str, isi_tup_str, isi_lst_str, tru_tup, isLT_tup, isi_int_tup, isi_bool_tup, isi_str_tup, isi_tup_tup, isi_lst_tup, tru_lst, isLT_lst, isi_int_lst, isi_bool_lst, isi_str_lst, isi_tup_lst, isi_lst_lst, isL_lst, seqW_lst, seqW_tup, seqW_str, seqW_scr, sq2_lst, sq2_tup, inW_sign])
      refine ⟨?_, by decide, ?_⟩
      · omega
      refine ⟨b, 4, rfl, Bg.up ok, by decide, by decide, fun r r0 r1 g s ok => ?_⟩
      rw [up_up]
      obtain ⟨w, hw, hat⟩ := atI_pick (xs := [bt, bt, W.lst ks, .tup (ks ++ ks)]) r0 r1
      simp only [hat]
      refine h _ _ ⟨g, s, ?_, ok, rfl⟩
      simp only [List.mem_cons, List.not_mem_nil, or_false] at hw
      rcases hw with rfl | rfl | rfl | rfl
      · exact Tk.mono (by omega) (Nat.le_refl _) hbt
      · exact Tk.mono (by omega) (Nat.le_refl _) hbt
      · exact .lst (by omega) fun x h => Tk.mono (by omega) (Nat.le_refl _) (hy4.2 x h)
      · exact .tup (by rw [List.length_append]; omega) (Tk.all_app (fun x h => Tk.mono (by omega) (Nat.le_refl _) (hy4.2 x h)) (fun x h => Tk.mono (by omega) (Nat.le_refl _) (hy4.2 x h)))
    rintro bt2 _ ⟨g, s, hbt2, ok, rfl⟩
    have e3 : ∀ u : W, cut [y1, y2, y3, u] none (some 3) = [y1, y2, y3] := fun u => cut_take (i := 3) (by simp)
    (((try unfold dNext); dsimp only))
    refine ret_go ?_
    (simp only [↓dFgt, ↓dVar, ↓dC, ↓dOp, ↓dUn, ↓dI, ↓dI0, ↓dSub, ↓dMul, ↓dDiv, ↓dMod, ↓dPow, ↓dAdd, ↓dNeg, ↓dEq, ↓dNe, ↓dLt, ↓dLe, ↓dGt, ↓dGe, ↓dIsN, ↓dNotN, ↓dTru, ↓dTest, ↓dChain, ↓dAnd, ↓dOr, ↓dNot, ↓dAndV, ↓dOrV, ↓dNotV, ↓dIf, ↓dNil, ↓dCons, ↓dTup, ↓dLst, ↓dLstM, ↓dCB, ↓dLen, ↓dAbs, ↓dMax2, ↓dMin2, ↓dAll, ↓dAny, ↓dListOf, ↓dListOfM, ↓dTupOf, ↓dNext, ↓dSeq, ↓dDrop, ↓dRet, ↓dRetN, ↓dIfS, ↓dBrk, ↓dCnt, ↓dSet, ↓dAsgT, ↓dPar2, ↓tbind, ↓tbinds, ↓Om.set, ↓dCall, ↓dIx, ↓dNo, ↓dPart, ↓dSl, ↓dSlr, ↓dBM, ↓dApp, ↓dExt, ↓dSetIx, ↓dIs, ↓dMinS, ↓dMaxS, ↓dJoin, ↓dFrz, ↓dPut, ↓dFld, ↓dSetF, ↓dInt, ↓dIsLT, ↓dRng1, ↓dRng2, ↓dEnum, ↓dZip, ↓dSeqI, view_c_non, view_c_bl, view_c_int, view_c_str, view_c_tup, view_c_lst, view_c_scr, view_c_dct, view_c_ins, ↓startW, ↓wp, ↓wps, ↓dInKD, ↓dNotInKD, ↓dIxKD, ↓dIn, ↓dNotIn, ↓dDg, List.getElem?_cons_zero, List.getElem?_cons_succ, List.set_cons_zero, List.set_cons_succ, List.map_cons, List.map_nil, List.length_cons, List.length_nil, List.replicate_succ, List.replicate_zero, List.nil_append, List.cons_append, Bool.not_true, Bool.not_false, if_true, wkey_int, wkey_str, atI_0, atI_1, atI_2, atI_3, up_same, if_false, Bool.false_eq_true, Bool.true_eq_false, tru_non, isLT_non, isi_int_non, isi_bool_non, isi_str_non, isi_tup_non, isi_lst_non, tru_bl, isLT_bl, isi_int_bl, isi_bool_bl, isi_str_bl, isi_tup_bl, isi_lst_bl, tru_int, isLT_int, isi_int_int, isi_bool_int, isi_str_int, isi_tup_int, isi_lst_int, tru_str, isLT_str, isi_int_str, isi_bool_str, isi_str_str, isi_tup_str, isi_lst_str, tru_tup, isLT_tup, isi_int_tup, isi_bool_tup, isi_str_tup, isi_tup_tup, isi_lst_tup, tru_lst, isLT_lst, isi_int_lst, isi_bool_lst, isi_str_lst, isi_tup_lst, isi_lst_lst, isL_lst, seqW_lst, seqW_tup, seqW_str, seqW_scr, sq2_lst, sq2_tup, inW_sign])
    simp only [c1, c3, hyat]
    (simp only [↓dFgt, ↓dVar, ↓dC, ↓dOp, ↓dUn, ↓dI, ↓dI0, ↓dSub, ↓dMul, ↓dDiv, ↓dMod, ↓dPow, ↓dAdd, ↓dNeg, ↓dEq, ↓dNe, ↓dLt, ↓dLe, ↓dGt, ↓dGe, ↓dIsN, ↓dNotN, ↓dTru, ↓dTest, ↓dChain, ↓dAnd, ↓dOr, ↓dNot, ↓dAndV, ↓dOrV, ↓dNotV, ↓dIf, ↓dNil, ↓dCons, ↓dTup, ↓dLst, ↓dLstM, ↓dCB, ↓dLen, ↓dAbs, ↓dMax2, ↓dMin2, ↓dAll, ↓dAny, ↓dListOf, ↓dListOfM, ↓dTupOf, ↓dNext, ↓dSeq, ↓dDrop, ↓dRet, ↓dRetN, ↓dIfS, ↓dBrk, ↓dCnt, ↓dSet, ↓dAsgT, ↓dPar2, ↓tbind, ↓tbinds, ↓Om.set, ↓dCall, ↓dIx, ↓dNo, ↓dPart, ↓dSl, ↓dSlr, ↓dBM, ↓dApp, ↓dExt, ↓dSetIx, ↓dIs, ↓dMinS, ↓dMaxS, ↓dJoin, ↓dFrz, ↓dPut, ↓dFld, ↓dSetF, ↓dInt, ↓dIsLT, ↓dRng1, ↓dRng2, ↓dEnum, ↓dZip, ↓dSeqI, view_c_non, view_c_bl, view_c_int, view_c_str, view_c_tup, view_c_lst, view_c_scr, view_c_dct, view_c_ins, ↓startW, ↓wp, ↓wps, ↓dInKD, ↓dNotInKD, ↓dIxKD, ↓dIn, ↓dNotIn, ↓dDg, List.getElem?_cons_zero, List.getElem?_cons_succ, List.set_cons_zero, List.set_cons_succ, List.map_cons, List.map_nil, List.length_cons, List.length_nil, List.replicate_succ, List.replicate_zero, List.nil_append, List.cons_append, Bool.not_true, Bool.not_false, if_true, wkey_int, wkey_str, atI_0, atI_1, atI_2, atI_3, up_same, if_false, Bool.false_eq_true, Bool.true_eq_false, tru_non, isLT_non, isi_int_non, isi_bool_non, isi_str_non, isi_tup_non, isi_lst_non, tru_bl, isLT_bl, isi_int_bl, isi_bool_bl, isi_str_bl, isi_tup_bl, isi_lst_bl, tru_int, isLT_int, isi_int_int, isi_bool_int, isi_str_int, isi_tup_int, isi_lst_int, tru_str, isLT_str, isi_int_str, isi_bool_str, isi_str_str, isi_tup_str, isi_lst_str, tru_tup, isLT_tup, isi_int_tup, isi_bool_tup, isi_str_tup, isi_tup_tup, isi_lst_tup, tru_lst, isLT_lst, isi_int_lst, isi_bool_lst, isi_str_lst, isi_tup_lst, isi_lst_lst, isL_lst, seqW_lst, seqW_tup, seqW_str, seqW_scr, sq2_lst, sq2_tup, inW_sign])
    simp only [e3]
    refine ⟨by decide, by show 4 ≤ 1000000; decide, by decide, l1, l2 _, frzQ.mk (q _ (Tk.put a hx (by omega) (.tup (by show 4 ≤ _; omega) fun v hv => ?_) ha) g s ok)⟩
    have hv : v = y1 ∨ v = y2 ∨ v = y3 ∨ v = bt2 := by simpa using hv
    rcases hv with rfl | rfl | rfl | rfl
    · exact Tk.mono (by omega) (Nat.le_refl _) (hyT.2 _ (by simp))
    · exact Tk.mono (by omega) (Nat.le_refl _) (hyT.2 _ (by simp))
    · exact Tk.mono (by omega) (Nat.le_refl _) (hyT.2 _ (by simp))
    · exact hbt2
  (((try unfold dNext); dsimp only))
  refine ret_go ?_
  (simp only [↓dFgt, ↓dVar, ↓dC, ↓dOp, ↓dUn, ↓dI, ↓dI0, ↓dSub, ↓dMul, ↓dDiv, ↓dMod, ↓dPow, ↓dAdd, ↓dNeg, ↓dEq, ↓dNe, ↓dLt, ↓dLe, ↓dGt, ↓dGe, ↓dIsN, ↓dNotN, ↓dTru, ↓dTest, ↓dChain, ↓dAnd, ↓dOr, ↓dNot, ↓dAndV, ↓dOrV, ↓dNotV, ↓dIf, ↓dNil, ↓dCons, ↓dTup, ↓dLst, ↓dLstM, ↓dCB, ↓dLen, ↓dAbs, ↓dMax2, ↓dMin2, ↓dAll, ↓dAny, ↓dListOf, ↓dListOfM, ↓dTupOf, ↓dNext, ↓dSeq, ↓dDrop, ↓dRet, ↓dRetN, ↓dIfS, ↓dBrk, ↓dCnt, ↓dSet, ↓dAsgT, ↓dPar2, ↓tbind, ↓tbinds, ↓Om.set, ↓dCall, ↓dIx, ↓dNo, ↓dPart, ↓dSl, ↓dSlr, ↓dBM, ↓dApp, ↓dExt, ↓dSetIx, ↓dIs, ↓dMinS, ↓dMaxS, ↓dJoin, ↓dFrz, ↓dPut, ↓dFld, ↓dSetF, ↓dInt, ↓dIsLT, ↓dRng1, ↓dRng2, ↓dEnum, ↓dZip, ↓dSeqI, view_c_non, view_c_bl, view_c_int, view_c_str, view_c_tup, view_c_lst, view_c_scr, view_c_dct, view_c_ins, ↓startW, ↓wp, ↓wps, ↓dInKD, ↓dNotInKD, ↓dIxKD, ↓dIn, ↓dNotIn, ↓dDg, List.getElem?_cons_zero, List.getElem?_cons_succ, List.set_cons_zero, List.set_cons_succ, List.map_cons, List.map_nil, List.length_cons, List.length_nil, List.replicate_succ, List.replicate_zero, List.nil_append, List.cons_append, Bool.not_true, Bool.not_false, if_true, wkey_int, wkey_str, atI_0, atI_1, atI_2, atI_3, up_same, if_false, Bool.false_eq_true, Bool.true_eq_false, tru_non, isLT_non, isi_int_non, isi_bool_non, isi_str_non, isi_tup_non, isi_lst_non, tru_bl, isLT_bl, isi_int_bl, isi_bool_bl, isi_str_bl, isi_tup_bl, isi_lst_bl, tru_int, isLT_int, isi_int_int, isi_bool_int, isi_str_int, isi_tup_int, isi_lst_int, tru_str, isLT_str, isi_int_str, isi_bool_str, isi_str_str, isi_tup_str, isi_lst_str, tru_tup, isLT_tup, isi_int_tup, isi_bool_tup, isi_str_tup, isi_tup_tup, isi_lst_tup, tru_lst, isLT_lst, isi_int_lst, isi_bool_lst, isi_str_lst, isi_tup_lst, isi_lst_lst, isL_lst, seqW_lst, seqW_tup, seqW_str, seqW_scr, sq2_lst, sq2_tup, inW_sign])
  simp only [c1, c3, hyat]
  refine ⟨b, _, L, n + 2, rfl, Bg.up ok, hyT, by omega, by omega, by omega, fun v hv g s ok => ?_⟩
  rw [up_up]
  exact ⟨by decide, l1, l2 _, frzQ.mk (q _ (Tk.put a hx (by omega) (Tk.mono (by omega) (Nat.le_refl _) hv) ha) g s ok)⟩
section
variable {P : Program} {w : World} {K : PySem.W.Frag} {mg : Str → Option Value} {base : Heap} {c_Ground : Addr}
theorem ok_law_bent {f : Addr} {fd : FuncData} (F : Fun K "_law_bent" "_law_bent" s_law_bent f fd) (T : Txt K w mg c_Ground) (C_law_take : CalD P w K mg base 1 "_law_take" sp_law_take) (C_law_any : CalD P w K mg base 2 "_law_any" sp_law_any) (C_law_bent_row : CalD P w K mg base 3 "_law_bent_row" sp_law_bent_row) : FnOk P w K mg base CX0 4 f fd ["_law_bag_here", "_law_rows"] (uSp K (sp_law_bent)) :=
  Fun.okF F sc_law_bent (td_law_bent) (fun cdv A outer s H E hr =>
    (dss_cons (ds_par2 sc_law_bent.nd (da_cons (de_call C_law_take hr (da_cons (dv 0) (da_cons de_int da_nil))) (da_cons (de_call C_law_take hr (da_cons (dv 0) (da_cons (de_callB cd_max2 T.z_max (da_cons de_int (da_cons (de_callB cd_len T.z_len (da_cons (dv 1) da_nil)) da_nil))) da_nil))) da_nil)) (i := 2) (j := 3))
    (dss_cons (ds_if (PW.pt (dw_or (dt_cmp (oc_eq hr) (dv 2) de_int) (dw_or1 (dt_cmp (oc_eq hr) (dv 1) (de_tup da_nil))))) (dss_one (ds_ret (de_ix (de_lst (da_cons (de_callTy cd_list T.z_list (da_cons (dv 1) da_nil)) (da_cons (de_call C_law_any hr (da_cons (dv 0) da_nil)) (da_cons (de_op oa_add (dv 1) (de_tup (da_cons (de_call C_law_any hr (da_cons (dv 0) da_nil)) da_nil))) da_nil)))) (de_call C_law_take hr (da_cons (dv 0) (da_cons de_int da_nil)))))) dss_nil)
    (dss_cons (ds_if (dt_cmp (oc_eq hr) (dv 2) de_int) (dss_one (ds_ret (de_op oa_add (de_op oa_add (de_sl (dv 1) do_none (do_some (dv 3))) (de_tup (da_cons (de_ix (dv 1) (dv 3)) da_nil))) (de_sl (dv 1) (do_some (dv 3)) do_none)))) dss_nil)
    (dss_cons (ds_if (dt_cmp (oc_eq hr) (dv 2) de_int) (dss_one (ds_ret (de_op oa_add (de_op oa_add (de_sl (dv 1) do_none (do_some (dv 3))) (de_tup (da_cons (de_op oa_add (de_sl (de_ix (dv 1) (de_op oa_sub (dv 3) de_int)) do_none (do_some de_int)) (de_sl (de_ix (dv 1) (dv 3)) (do_some de_int) do_none)) da_nil))) (de_sl (dv 1) (do_some (de_op oa_add (dv 3) de_int)) do_none)))) dss_nil)
    (dss_cons (ds_if (dt_cmp (oc_eq hr) (dv 2) de_int) (dss_one (ds_ret (de_op oa_add (de_sl (dv 1) do_none (do_some (dv 3))) (de_sl (dv 1) (do_some (de_op oa_add (dv 3) de_int)) do_none)))) dss_nil)
    (dss_cons (ds_if (PW.pt (dw_and (dt_cmp (oc_eq hr) (dv 2) de_int) (dw_and (dt_tru (de_isi .tup (de_ix (de_ix (dv 1) (dv 3)) de_int) T.z_isinstance T.z_tuple)) (dw_and1 (dt_cmp (oc_ne hr) (de_ix (de_ix (dv 1) (dv 3)) de_int) (de_tup da_nil)))))) (dss_cons (ds_par2 sc_law_bent.nd (da_cons (de_ix (de_ix (dv 1) (dv 3)) de_int) (da_cons (de_call C_law_take hr (da_cons (dv 0) (da_cons (de_callB cd_len T.z_len (da_cons (de_ix (de_ix (dv 1) (dv 3)) de_int) da_nil)) da_nil))) da_nil)) (i := 4) (j := 5))
      (dss_cons (ds_set (i := 6) sc_law_bent.nd (de_op oa_add (de_op oa_add (de_sl (dv 4) do_none (do_some (dv 5))) (de_tup (da_cons (de_call C_law_bent_row hr (da_cons (dv 0) (da_cons (de_ix (dv 4) (dv 5)) da_nil))) da_nil))) (de_sl (dv 4) (do_some (de_op oa_add (dv 5) de_int)) do_none)))
      (dss_cons (ds_set (i := 6) sc_law_bent.nd (de_ix (de_lst (da_cons (dv 6) (da_cons (dv 6) (da_cons (de_callTy cd_list T.z_list (da_cons (dv 4) da_nil)) (da_cons (de_op oa_add (dv 4) (dv 4)) da_nil))))) (de_call C_law_take hr (da_cons (dv 0) (da_cons de_int da_nil)))))
      (dss_one (ds_ret (de_op oa_add (de_op oa_add (de_sl (dv 1) do_none (do_some (dv 3))) (de_tup (da_cons (de_op oa_add (de_sl (de_ix (dv 1) (dv 3)) do_none (do_some de_int)) (de_tup (da_cons (dv 6) da_nil))) da_nil))) (de_sl (dv 1) (do_some (de_op oa_add (dv 3) de_int)) do_none))))))) dss_nil)
    (dss_one (ds_ret (de_op oa_add (de_op oa_add (de_sl (dv 1) do_none (do_some (dv 3))) (de_tup (da_cons (de_call C_law_bent_row hr (da_cons (dv 0) (da_cons (de_ix (dv 1) (dv 3)) da_nil))) da_nil))) (de_sl (dv 1) (do_some (de_op oa_add (dv 3) de_int)) do_none))))))))))) (fun ws S Q E h => len_law_bent h) (hd_law_bent)
end
end DL

set_option Elab.async false
set_option linter.all false
set_option maxRecDepth 100000
set_option maxHeartbeats 4000000
namespace DL
open PySem PySem.Spec PyProof.Rows L2
/-! ### _law_is_name -/
abbrev s_law_is_name : Stmt := topS 52
abbrev N_law_is_name : List Str := ["_law_given", "_law_sign"]
theorem sc_law_is_name : FnScope N_law_is_name ["_law_given"] (defScope s_law_is_name) := ⟨rfl, rfl, rfl, by decide +kernel, rfl, by decide +kernel, by decide +kernel⟩
theorem st_law_is_name {x0 : W} : startW N_law_is_name [x0] = [some x0, none] := rfl
def td_law_is_name : DS' :=
    (dSeq (dIfS (dOr (dNot (dTru (dUn (dIs .str) (dVar 0)))) (dNot (dTest (dChain dLe dLe (dC (.int 1)) (dCB dLen (dCons (dVar 0) dNil)) (dC (.int 8)))))) (dRet (dC (.bl false))) dNext)
    (dRet (dCB dAll (dCons (dLc (dSeqI (dVar 0)) (.nm 1) dYes (dOp dIn (dVar 1) (dC (.str "abcdefghijklmnopqrstuvwxyz"))) [1]) dNil))))
def sp_law_is_name : DSp := fun ws S Q _ => ∃ x, ws = [x] ∧ Pl x = true ∧ Q (.bl (isName x)) S
theorem len_law_is_name {ws S Q E} (h : sp_law_is_name ws S Q E) : ws.length = 1 := by obtain ⟨x, rfl, _⟩ := h; rfl
theorem hd_law_is_name (ws S Q E) (h : sp_law_is_name ws S Q E) : td_law_is_name { nx := fun _ S' => frzQ Q .non S', rt := frzQ Q } ⟨startW N_law_is_name ws, XF⟩ S := by
  obtain ⟨x, rfl, d, q⟩ := h
  have q := frzQ.mk q
  cases x <;> first | cases d | skip
  all_goals simp only [st_law_is_name, td_law_is_name, isName] at q ⊢
  all_goals (simp only [↓dFgt, ↓dVar, ↓dC, ↓dOp, ↓dUn, ↓dI, ↓dI0, ↓dSub, ↓dMul, ↓dDiv, ↓dMod, ↓dPow, ↓dAdd, ↓dNeg, ↓dEq, ↓dNe, ↓dLt, ↓dLe, ↓dGt, ↓dGe, ↓dIsN, ↓dNotN, ↓dTru, ↓dTest, ↓dChain, ↓dAnd, ↓dOr, ↓dNot, ↓dAndV, ↓dOrV, ↓dNotV, ↓dIf, ↓dNil, ↓dCons, ↓dTup, ↓dLst, ↓dLstM, ↓dCB, ↓dLen, ↓dAbs, ↓dMax2, ↓dMin2, ↓dAll, ↓dAny, ↓dListOf, ↓dListOfM, ↓dTupOf, ↓dNext, ↓dSeq, ↓dDrop, ↓dRet, ↓dRetN, ↓dIfS, ↓dBrk, ↓dCnt, ↓dSet, ↓dAsgT, ↓dPar2, ↓tbind, ↓tbinds, ↓Om.set, ↓dCall, ↓dIx, ↓dNo, ↓dPart, ↓dSl, ↓dSlr, ↓dBM, ↓dApp, ↓dExt, ↓dSetIx, ↓dIs, ↓dMinS, ↓dMaxS, ↓dJoin, ↓dFrz, ↓dPut, ↓dFld, ↓dSetF, ↓dInt, ↓dIsLT, ↓dRng1, ↓dRng2, ↓dEnum, ↓dZip, ↓dSeqI, view_c_non, view_c_bl, view_c_int, view_c_str, view_c_tup, view_c_lst, view_c_scr, view_c_dct, view_c_ins, ↓startW, ↓wp, ↓wps, ↓dInKD, ↓dNotInKD, ↓dIxKD, ↓dIn, ↓dNotIn, ↓dDg, List.getElem?_cons_zero, List.getElem?_cons_succ, List.set_cons_zero, List.set_cons_succ, List.map_cons, List.map_nil, List.length_cons, List.length_nil, List.replicate_succ, List.replicate_zero, List.nil_append, List.cons_append, Bool.not_true, Bool.not_false, if_true, wkey_int, wkey_str, atI_0, atI_1, atI_2, atI_3, up_same, if_false, Bool.false_eq_true, Bool.true_eq_false, tru_non, isLT_non, isi_int_non, isi_bool_non, isi_str_non, isi_tup_non, isi_lst_non, tru_bl, isLT_bl, isi_int_bl, isi_bool_bl, isi_str_bl, isi_tup_bl, isi_lst_bl, tru_int, isLT_int, isi_int_int, isi_bool_int, isi_str_int, isi_tup_int, isi_lst_int, tru_str, isLT_str, isi_int_str, isi_bool_str, isi_str_str, isi_tup_str, isi_lst_str, tru_tup, isLT_tup, isi_int_tup, isi_bool_tup, isi_str_tup, isi_tup_tup, isi_lst_tup, tru_lst, isLT_lst, isi_int_lst, isi_bool_lst, isi_str_lst, isi_tup_lst, isi_lst_lst, isL_lst, seqW_lst, seqW_tup, seqW_str, seqW_scr, sq2_lst, sq2_tup, inW_sign])
  all_goals try exact q
  rename_i x _
  by_cases c1 : 1 ≤ x.length
  · have e1 : decide ((1 : Int) ≤ (x.length : Int)) = true := decide_eq_true (by omega)
    have e1' : decide (1 ≤ x.length) = true := by simpa using c1
    rw [e1'] at q
    rw [e1]
    by_cases c2 : x.length ≤ 8
    · have e2 : decide ((x.length : Int) ≤ 8) = true := decide_eq_true (by omega)
      have e2' : decide (x.length ≤ 8) = true := decide_eq_true c2
      rw [e2'] at q
      simp only [e2]
      (simp only [↓dFgt, ↓dVar, ↓dC, ↓dOp, ↓dUn, ↓dI, ↓dI0, ↓dSub, ↓dMul, ↓dDiv, ↓dMod, ↓dPow, ↓dAdd, ↓dNeg, ↓dEq, ↓dNe, ↓dLt, ↓dLe, ↓dGt, ↓dGe, ↓dIsN, ↓dNotN, ↓dTru, ↓dTest, ↓dChain, ↓dAnd, ↓dOr, ↓dNot, ↓dAndV, ↓dOrV, ↓dNotV, ↓dIf, ↓dNil, ↓dCons, ↓dTup, ↓dLst, ↓dLstM, ↓dCB, ↓dLen, ↓dAbs, ↓dMax2, ↓dMin2, ↓dAll, ↓dAny, ↓dListOf, ↓dListOfM, ↓dTupOf, ↓dNext, ↓dSeq, ↓dDrop, ↓dRet, ↓dRetN, ↓dIfS, ↓dBrk, ↓dCnt, ↓dSet, ↓dAsgT, ↓dPar2, ↓tbind, ↓tbinds, ↓Om.set, ↓dCall, ↓dIx, ↓dNo, ↓dPart, ↓dSl, ↓dSlr, ↓dBM, ↓dApp, ↓dExt, ↓dSetIx, ↓dIs, ↓dMinS, ↓dMaxS, ↓dJoin, ↓dFrz, ↓dPut, ↓dFld, ↓dSetF, ↓dInt, ↓dIsLT, ↓dRng1, ↓dRng2, ↓dEnum, ↓dZip, ↓dSeqI, view_c_non, view_c_bl, view_c_int, view_c_str, view_c_tup, view_c_lst, view_c_scr, view_c_dct, view_c_ins, ↓startW, ↓wp, ↓wps, ↓dInKD, ↓dNotInKD, ↓dIxKD, ↓dIn, ↓dNotIn, ↓dDg, List.getElem?_cons_zero, List.getElem?_cons_succ, List.set_cons_zero, List.set_cons_succ, List.map_cons, List.map_nil, List.length_cons, List.length_nil, List.replicate_succ, List.replicate_zero, List.nil_append, List.cons_append, Bool.not_true, Bool.not_false, if_true, wkey_int, wkey_str, atI_0, atI_1, atI_2, atI_3, up_same, if_false, Bool.false_eq_true, Bool.true_eq_false, tru_non, isLT_non, isi_int_non, isi_bool_non, isi_str_non, isi_tup_non, isi_lst_non, tru_bl, isLT_bl, isi_int_bl, isi_bool_bl, isi_str_bl, isi_tup_bl, isi_lst_bl, tru_int, isLT_int, isi_int_int, isi_bool_int, isi_str_int, isi_tup_int, isi_lst_int, tru_str, isLT_str, isi_int_str, isi_bool_str, isi_str_str, isi_tup_str, isi_lst_str, tru_tup, isLT_tup, isi_int_tup, isi_bool_tup, isi_str_tup, isi_tup_tup, isi_lst_tup, tru_lst, isLT_lst, isi_int_lst, isi_bool_lst, isi_str_lst, isi_tup_lst, isi_lst_lst, isL_lst, seqW_lst, seqW_tup, seqW_str, seqW_scr, sq2_lst, sq2_tup, inW_sign])
      refine lcMs (w := .str x) (fun _ h => h) rfl (fun w => .bl (sgn w)) ?_ (fun p acc hp => rfl) (fun w hw => ?_) ?_
      · rw [List.length_map, Array.length_toList]; exact Nat.le_trans c2 (by decide)
      · obtain ⟨c, _, rfl⟩ := List.mem_map.mp hw
        refine ⟨_, rfl, fun p acc hp Qe q => ?_⟩
        (simp only [↓dFgt, ↓dVar, ↓dC, ↓dOp, ↓dUn, ↓dI, ↓dI0, ↓dSub, ↓dMul, ↓dDiv, ↓dMod, ↓dPow, ↓dAdd, ↓dNeg, ↓dEq, ↓dNe, ↓dLt, ↓dLe, ↓dGt, ↓dGe, ↓dIsN, ↓dNotN, ↓dTru, ↓dTest, ↓dChain, ↓dAnd, ↓dOr, ↓dNot, ↓dAndV, ↓dOrV, ↓dNotV, ↓dIf, ↓dNil, ↓dCons, ↓dTup, ↓dLst, ↓dLstM, ↓dCB, ↓dLen, ↓dAbs, ↓dMax2, ↓dMin2, ↓dAll, ↓dAny, ↓dListOf, ↓dListOfM, ↓dTupOf, ↓dNext, ↓dSeq, ↓dDrop, ↓dRet, ↓dRetN, ↓dIfS, ↓dBrk, ↓dCnt, ↓dSet, ↓dAsgT, ↓dPar2, ↓tbind, ↓tbinds, ↓Om.set, ↓dCall, ↓dIx, ↓dNo, ↓dPart, ↓dSl, ↓dSlr, ↓dBM, ↓dApp, ↓dExt, ↓dSetIx, ↓dIs, ↓dMinS, ↓dMaxS, ↓dJoin, ↓dFrz, ↓dPut, ↓dFld, ↓dSetF, ↓dInt, ↓dIsLT, ↓dRng1, ↓dRng2, ↓dEnum, ↓dZip, ↓dSeqI, view_c_non, view_c_bl, view_c_int, view_c_str, view_c_tup, view_c_lst, view_c_scr, view_c_dct, view_c_ins, ↓startW, ↓wp, ↓wps, ↓dInKD, ↓dNotInKD, ↓dIxKD, ↓dIn, ↓dNotIn, ↓dDg, List.getElem?_cons_zero, List.getElem?_cons_succ, List.set_cons_zero, List.set_cons_succ, List.map_cons, List.map_nil, List.length_cons, List.length_nil, List.replicate_succ, List.replicate_zero, List.nil_append, List.cons_append, Bool.not_true, Bool.not_false, if_true, wkey_int, wkey_str, atI_0, atI_1, atI_2, atI_3, up_same, if_false, Bool.false_eq_true, Bool.true_eq_false, tru_non, isLT_non, isi_int_non, isi_bool_non, isi_str_non, isi_tup_non, isi_lst_non, tru_bl, isLT_bl, isi_int_bl, isi_bool_bl, isi_str_bl, isi_tup_bl, isi_lst_bl, tru_int, isLT_int, isi_int_int, isi_bool_int, isi_str_int, isi_tup_int, isi_lst_int, tru_str, isLT_str, isi_int_str, isi_bool_str, isi_str_str, isi_tup_str, isi_lst_str, tru_tup, isLT_tup, isi_int_tup, isi_bool_tup, isi_str_tup, isi_tup_tup, isi_lst_tup, tru_lst, isLT_lst, isi_int_lst, isi_bool_lst, isi_str_lst, isi_tup_lst, isi_lst_lst, isL_lst, seqW_lst, seqW_tup, seqW_str, seqW_scr, sq2_lst, sq2_tup, inW_sign])
        rw [az_iff]
        exact q
      · (simp only [↓dFgt, ↓dVar, ↓dC, ↓dOp, ↓dUn, ↓dI, ↓dI0, ↓dSub, ↓dMul, ↓dDiv, ↓dMod, ↓dPow, ↓dAdd, ↓dNeg, ↓dEq, ↓dNe, ↓dLt, ↓dLe, ↓dGt, ↓dGe, ↓dIsN, ↓dNotN, ↓dTru, ↓dTest, ↓dChain, ↓dAnd, ↓dOr, ↓dNot, ↓dAndV, ↓dOrV, ↓dNotV, ↓dIf, ↓dNil, ↓dCons, ↓dTup, ↓dLst, ↓dLstM, ↓dCB, ↓dLen, ↓dAbs, ↓dMax2, ↓dMin2, ↓dAll, ↓dAny, ↓dListOf, ↓dListOfM, ↓dTupOf, ↓dNext, ↓dSeq, ↓dDrop, ↓dRet, ↓dRetN, ↓dIfS, ↓dBrk, ↓dCnt, ↓dSet, ↓dAsgT, ↓dPar2, ↓tbind, ↓tbinds, ↓Om.set, ↓dCall, ↓dIx, ↓dNo, ↓dPart, ↓dSl, ↓dSlr, ↓dBM, ↓dApp, ↓dExt, ↓dSetIx, ↓dIs, ↓dMinS, ↓dMaxS, ↓dJoin, ↓dFrz, ↓dPut, ↓dFld, ↓dSetF, ↓dInt, ↓dIsLT, ↓dRng1, ↓dRng2, ↓dEnum, ↓dZip, ↓dSeqI, view_c_non, view_c_bl, view_c_int, view_c_str, view_c_tup, view_c_lst, view_c_scr, view_c_dct, view_c_ins, ↓startW, ↓wp, ↓wps, ↓dInKD, ↓dNotInKD, ↓dIxKD, ↓dIn, ↓dNotIn, ↓dDg, List.getElem?_cons_zero, List.getElem?_cons_succ, List.set_cons_zero, List.set_cons_succ, List.map_cons, List.map_nil, List.length_cons, List.length_nil, List.replicate_succ, List.replicate_zero, List.nil_append, List.cons_append, Bool.not_true, Bool.not_false, if_true, wkey_int, wkey_str, atI_0, atI_1, atI_2, atI_3, up_same, if_false, Bool.false_eq_true, Bool.true_eq_false, tru_non, isLT_non, isi_int_non, isi_bool_non, isi_str_non, isi_tup_non, isi_lst_non, tru_bl, isLT_bl, isi_int_bl, isi_bool_bl, isi_str_bl, isi_tup_bl, isi_lst_bl, tru_int, isLT_int, isi_int_int, isi_bool_int, isi_str_int, isi_tup_int, isi_lst_int, tru_str, isLT_str, isi_int_str, isi_bool_str, isi_str_str, isi_tup_str, isi_lst_str, tru_tup, isLT_tup, isi_int_tup, isi_bool_tup, isi_str_tup, isi_tup_tup, isi_lst_tup, tru_lst, isLT_lst, isi_int_lst, isi_bool_lst, isi_str_lst, isi_tup_lst, isi_lst_lst, isL_lst, seqW_lst, seqW_tup, seqW_str, seqW_scr, sq2_lst, sq2_tup, inW_sign])
        have e3 : (x.cps.toList.map fun c => W.str ⟨#[c]⟩).map (fun w => W.bl (sgn w)) = (x.cps.toList.map az).map W.bl := by rw [List.map_map, List.map_map]; rfl
        rw [e3, bls_map]
        have e4 : (x.cps.toList.map az).all id = x.cps.toList.all az := by rw [List.all_map]; rfl
        rw [Bool.true_and, Bool.true_and] at q
        show frzQ Q (.bl ((x.cps.toList.map az).all id)) S
        rw [e4]
        exact q
    · have e2 : decide ((x.length : Int) ≤ 8) = false := decide_eq_false (by omega)
      have e2' : decide (x.length ≤ 8) = false := decide_eq_false c2
      rw [e2'] at q
      simp only [e2]
      exact q
  · have e1 : decide ((1 : Int) ≤ (x.length : Int)) = false := decide_eq_false (by omega)
    have e1' : decide (1 ≤ x.length) = false := decide_eq_false c1
    rw [e1'] at q
    rw [e1]
    exact q
section
variable {P : Program} {w : World} {K : PySem.W.Frag} {mg : Str → Option Value} {base : Heap} {c_Ground : Addr}
theorem ok_law_is_name {f : Addr} {fd : FuncData} (F : Fun K "_law_is_name" "_law_is_name" s_law_is_name f fd) (T : Txt K w mg c_Ground) : FnOk P w K mg base CX0 1 f fd ["_law_given"] (uSp K (sp_law_is_name)) :=
  Fun.okF F sc_law_is_name (td_law_is_name) (fun cdv A outer s H E hr =>
    (dss_cons (ds_if (PW.pt (dw_or (dt_not (dt_tru (de_isi .str (dv 0) T.z_isinstance T.z_str))) (dw_or1 (dt_not (dt_chain oc_le oc_le de_int (de_callB cd_len T.z_len (da_cons (dv 0) da_nil)) de_int))))) (dss_one (ds_ret de_bl)) dss_nil)
    (dss_one (ds_ret (de_callB cd_all T.z_all (da_cons (de_lc (own := [("_law_sign", 1)]) sc_law_is_name.nd (di_seq (dv 0)) (blkOk_by (own := [("_law_sign", 1)]) (N := N_law_is_name) (sc := defScope s_law_is_name) (by decide +kernel)) (fun _ _ _ _ _ => (dg_nm (i := 1) sc_law_is_name.nd)) (fun _ _ _ _ _ => dts_nil) (fun _ _ _ _ _ => (de_cmp (oc_in hr) (dv 1) de_str))) da_nil)))))) (fun ws S Q E h => len_law_is_name h) (hd_law_is_name)
end
/-! ### _law_between -/
abbrev s_law_between : Stmt := topS 53
abbrev N_law_between : List Str := ["_law_given", "_law_low", "_law_high"]
theorem sc_law_between : FnScope N_law_between ["_law_given", "_law_low", "_law_high"] (defScope s_law_between) := ⟨rfl, rfl, rfl, by decide +kernel, rfl, by decide +kernel, by decide +kernel⟩
theorem st_law_between {x0 x1 x2 : W} : startW N_law_between [x0, x1, x2] = [some x0, some x1, some x2] := rfl
def td_law_between : DS' :=
    (dRet (dAndV (dUn (dIs .int) (dVar 0)) (dAndV (dNotV (dUn (dIs .bool) (dVar 0))) (dChain dLe dLe (dVar 1) (dVar 0) (dVar 2)))))
def sp_law_between : DSp := fun ws S Q _ => ∃ x lo hi, ws = [x, .int lo, .int hi] ∧ Pl x = true ∧ Q (.bl (within lo hi x)) S
theorem len_law_between {ws S Q E} (h : sp_law_between ws S Q E) : ws.length = 3 := by obtain ⟨x, lo, hi, rfl, _⟩ := h; rfl
theorem hd_law_between (ws S Q E) (h : sp_law_between ws S Q E) : td_law_between { nx := fun _ S' => frzQ Q .non S', rt := frzQ Q } ⟨startW N_law_between ws, XF⟩ S := by
  obtain ⟨x, lo, hi, rfl, d, q⟩ := h
  replace q := frzQ.mk q
  cases x <;> first | cases d | skip
  all_goals simp only [st_law_between, td_law_between, within] at q ⊢
  all_goals (simp only [↓dFgt, ↓dVar, ↓dC, ↓dOp, ↓dUn, ↓dI, ↓dI0, ↓dSub, ↓dMul, ↓dDiv, ↓dMod, ↓dPow, ↓dAdd, ↓dNeg, ↓dEq, ↓dNe, ↓dLt, ↓dLe, ↓dGt, ↓dGe, ↓dIsN, ↓dNotN, ↓dTru, ↓dTest, ↓dChain, ↓dAnd, ↓dOr, ↓dNot, ↓dAndV, ↓dOrV, ↓dNotV, ↓dIf, ↓dNil, ↓dCons, ↓dTup, ↓dLst, ↓dLstM, ↓dCB, ↓dLen, ↓dAbs, ↓dMax2, ↓dMin2, ↓dAll, ↓dAny, ↓dListOf, ↓dListOfM, ↓dTupOf, ↓dNext, ↓dSeq, ↓dDrop, ↓dRet, ↓dRetN, ↓dIfS, ↓dBrk, ↓dCnt, ↓dSet, ↓dAsgT, ↓dPar2, ↓tbind, ↓tbinds, ↓Om.set, ↓dCall, ↓dIx, ↓dNo, ↓dPart, ↓dSl, ↓dSlr, ↓dBM, ↓dApp, ↓dExt, ↓dSetIx, ↓dIs, ↓dMinS, ↓dMaxS, ↓dJoin, ↓dFrz, ↓dPut, ↓dFld, ↓dSetF, ↓dInt, ↓dIsLT, ↓dRng1, ↓dRng2, ↓dEnum, ↓dZip, ↓dSeqI, view_c_non, view_c_bl, view_c_int, view_c_str, view_c_tup, view_c_lst, view_c_scr, view_c_dct, view_c_ins, ↓startW, ↓wp, ↓wps, ↓dInKD, ↓dNotInKD, ↓dIxKD, ↓dIn, ↓dNotIn, ↓dDg, List.getElem?_cons_zero, List.getElem?_cons_succ, List.set_cons_zero, List.set_cons_succ, List.map_cons, List.map_nil, List.length_cons, List.length_nil, List.replicate_succ, List.replicate_zero, List.nil_append, List.cons_append, Bool.not_true, Bool.not_false, if_true, wkey_int, wkey_str, atI_0, atI_1, atI_2, atI_3, up_same, if_false, Bool.false_eq_true, Bool.true_eq_false, tru_non, isLT_non, isi_int_non, isi_bool_non, isi_str_non, isi_tup_non, isi_lst_non, tru_bl, isLT_bl, isi_int_bl, isi_bool_bl, isi_str_bl, isi_tup_bl, isi_lst_bl, tru_int, isLT_int, isi_int_int, isi_bool_int, isi_str_int, isi_tup_int, isi_lst_int, tru_str, isLT_str, isi_int_str, isi_bool_str, isi_str_str, isi_tup_str, isi_lst_str, tru_tup, isLT_tup, isi_int_tup, isi_bool_tup, isi_str_tup, isi_tup_tup, isi_lst_tup, tru_lst, isLT_lst, isi_int_lst, isi_bool_lst, isi_str_lst, isi_tup_lst, isi_lst_lst, isL_lst, seqW_lst, seqW_tup, seqW_str, seqW_scr, sq2_lst, sq2_tup, inW_sign])
  all_goals try exact q
  rename_i i
  cases c : decide (lo ≤ i) <;> rw [c] at q <;> exact q
section
variable {P : Program} {w : World} {K : PySem.W.Frag} {mg : Str → Option Value} {base : Heap} {c_Ground : Addr}
theorem ok_law_between {f : Addr} {fd : FuncData} (F : Fun K "_law_between" "_law_between" s_law_between f fd) (T : Txt K w mg c_Ground) : FnOk P w K mg base CX0 1 f fd ["_law_given", "_law_low", "_law_high"] (uSp K (sp_law_between)) :=
  Fun.okF F sc_law_between (td_law_between) (fun cdv A outer s H E hr =>
    (dss_one (ds_ret (de_and (de_isi .int (dv 0) T.z_isinstance T.z_int) (de_and (de_not (de_isi .bool (dv 0) T.z_isinstance T.z_bool)) (de_one (de_chain oc_le oc_le (dv 1) (dv 0) (dv 2)))))))) (fun ws S Q E h => len_law_between h) (hd_law_between)
end
/-! ### _law_is_in -/
abbrev s_law_is_in : Stmt := topS 54
abbrev N_law_is_in : List Str := ["_law_given", "_law_texts"]
theorem sc_law_is_in : FnScope N_law_is_in ["_law_given", "_law_texts"] (defScope s_law_is_in) := ⟨rfl, rfl, rfl, by decide +kernel, rfl, by decide +kernel, by decide +kernel⟩
theorem st_law_is_in {x0 x1 : W} : startW N_law_is_in [x0, x1] = [some x0, some x1] := rfl
def td_law_is_in : DS' :=
    (dRet (dAndV (dUn (dIs .str) (dVar 0)) (dOp dIn (dVar 0) (dCB dListOf (dCons (dVar 1) dNil)))))
def sp_law_is_in : DSp := fun ws S Q _ => ∃ x ss t, ws = [x, t] ∧ (t = .lst (ss.map W.str) ∨ t = .tup (ss.map W.str)) ∧ Pl x = true ∧ Q (.bl (isIn ss x)) S
theorem len_law_is_in {ws S Q E} (h : sp_law_is_in ws S Q E) : ws.length = 2 := by obtain ⟨x, ss, t, rfl, _⟩ := h; rfl
theorem hd_law_is_in (ws S Q E) (h : sp_law_is_in ws S Q E) : td_law_is_in { nx := fun _ S' => frzQ Q .non S', rt := frzQ Q } ⟨startW N_law_is_in ws, XF⟩ S := by
  obtain ⟨x, ss, t, rfl, ht, hp, q⟩ := h
  replace q := frzQ.mk q
  simp only [st_law_is_in, td_law_is_in]
  refine ret_go ?_
  cases x with
  | str n =>
    rcases ht with rfl | rfl
    · (simp only [↓dFgt, ↓dVar, ↓dC, ↓dOp, ↓dUn, ↓dI, ↓dI0, ↓dSub, ↓dMul, ↓dDiv, ↓dMod, ↓dPow, ↓dAdd, ↓dNeg, ↓dEq, ↓dNe, ↓dLt, ↓dLe, ↓dGt, ↓dGe, ↓dIsN, ↓dNotN, ↓dTru, ↓dTest, ↓dChain, ↓dAnd, ↓dOr, ↓dNot, ↓dAndV, ↓dOrV, ↓dNotV, ↓dIf, ↓dNil, ↓dCons, ↓dTup, ↓dLst, ↓dLstM, ↓dCB, ↓dLen, ↓dAbs, ↓dMax2, ↓dMin2, ↓dAll, ↓dAny, ↓dListOf, ↓dListOfM, ↓dTupOf, ↓dNext, ↓dSeq, ↓dDrop, ↓dRet, ↓dRetN, ↓dIfS, ↓dBrk, ↓dCnt, ↓dSet, ↓dAsgT, ↓dPar2, ↓tbind, ↓tbinds, ↓Om.set, ↓dCall, ↓dIx, ↓dNo, ↓dPart, ↓dSl, ↓dSlr, ↓dBM, ↓dApp, ↓dExt, ↓dSetIx, ↓dIs, ↓dMinS, ↓dMaxS, ↓dJoin, ↓dFrz, ↓dPut, ↓dFld, ↓dSetF, ↓dInt, ↓dIsLT, ↓dRng1, ↓dRng2, ↓dEnum, ↓dZip, ↓dSeqI, view_c_non, view_c_bl, view_c_int, view_c_str, view_c_tup, view_c_lst, view_c_scr, view_c_dct, view_c_ins, ↓startW, ↓wp, ↓wps, ↓dInKD, ↓dNotInKD, ↓dIxKD, ↓dIn, ↓dNotIn, ↓dDg, List.getElem?_cons_zero, List.getElem?_cons_succ, List.set_cons_zero, List.set_cons_succ, List.map_cons, List.map_nil, List.length_cons, List.length_nil, List.replicate_succ, List.replicate_zero, List.nil_append, List.cons_append, Bool.not_true, Bool.not_false, if_true, wkey_int, wkey_str, atI_0, atI_1, atI_2, atI_3, up_same, if_false, Bool.false_eq_true, Bool.true_eq_false, tru_non, isLT_non, isi_int_non, isi_bool_non, isi_str_non, isi_tup_non, isi_lst_non, tru_bl, isLT_bl, isi_int_bl, isi_bool_bl, isi_str_bl, isi_tup_bl, isi_lst_bl, tru_int, isLT_int, isi_int_int, isi_bool_int, isi_str_int, isi_tup_int, isi_lst_int, tru_str, isLT_str, isi_int_str, isi_bool_str, isi_str_str, isi_tup_str, isi_lst_str, tru_tup, isLT_tup, isi_int_tup, isi_bool_tup, isi_str_tup, isi_tup_tup, isi_lst_tup, tru_lst, isLT_lst, isi_int_lst, isi_bool_lst, isi_str_lst, isi_tup_lst, isi_lst_lst, isL_lst, seqW_lst, seqW_tup, seqW_str, seqW_scr, sq2_lst, sq2_tup, inW_sign])
      simp only [inW_lst (okD_str (x := n)) (okD_strs ss), weq_isIn (x := .str n) rfl]
      exact q
    · (simp only [↓dFgt, ↓dVar, ↓dC, ↓dOp, ↓dUn, ↓dI, ↓dI0, ↓dSub, ↓dMul, ↓dDiv, ↓dMod, ↓dPow, ↓dAdd, ↓dNeg, ↓dEq, ↓dNe, ↓dLt, ↓dLe, ↓dGt, ↓dGe, ↓dIsN, ↓dNotN, ↓dTru, ↓dTest, ↓dChain, ↓dAnd, ↓dOr, ↓dNot, ↓dAndV, ↓dOrV, ↓dNotV, ↓dIf, ↓dNil, ↓dCons, ↓dTup, ↓dLst, ↓dLstM, ↓dCB, ↓dLen, ↓dAbs, ↓dMax2, ↓dMin2, ↓dAll, ↓dAny, ↓dListOf, ↓dListOfM, ↓dTupOf, ↓dNext, ↓dSeq, ↓dDrop, ↓dRet, ↓dRetN, ↓dIfS, ↓dBrk, ↓dCnt, ↓dSet, ↓dAsgT, ↓dPar2, ↓tbind, ↓tbinds, ↓Om.set, ↓dCall, ↓dIx, ↓dNo, ↓dPart, ↓dSl, ↓dSlr, ↓dBM, ↓dApp, ↓dExt, ↓dSetIx, ↓dIs, ↓dMinS, ↓dMaxS, ↓dJoin, ↓dFrz, ↓dPut, ↓dFld, ↓dSetF, ↓dInt, ↓dIsLT, ↓dRng1, ↓dRng2, ↓dEnum, ↓dZip, ↓dSeqI, view_c_non, view_c_bl, view_c_int, view_c_str, view_c_tup, view_c_lst, view_c_scr, view_c_dct, view_c_ins, ↓startW, ↓wp, ↓wps, ↓dInKD, ↓dNotInKD, ↓dIxKD, ↓dIn, ↓dNotIn, ↓dDg, List.getElem?_cons_zero, List.getElem?_cons_succ, List.set_cons_zero, List.set_cons_succ, List.map_cons, List.map_nil, List.length_cons, List.length_nil, List.replicate_succ, List.replicate_zero, List.nil_append, List.cons_append, Bool.not_true, Bool.not_false, if_true, wkey_int, wkey_str, atI_0, atI_1, atI_2, atI_3, up_same, if_false, Bool.false_eq_true, Bool.true_eq_false, tru_non, isLT_non, isi_int_non, isi_bool_non, isi_str_non, isi_tup_non, isi_lst_non, tru_bl, isLT_bl, isi_int_bl, isi_bool_bl, isi_str_bl, isi_tup_bl, isi_lst_bl, tru_int, isLT_int, isi_int_int, isi_bool_int, isi_str_int, isi_tup_int, isi_lst_int, tru_str, isLT_str, isi_int_str, isi_bool_str, isi_str_str, isi_tup_str, isi_lst_str, tru_tup, isLT_tup, isi_int_tup, isi_bool_tup, isi_str_tup, isi_tup_tup, isi_lst_tup, tru_lst, isLT_lst, isi_int_lst, isi_bool_lst, isi_str_lst, isi_tup_lst, isi_lst_lst, isL_lst, seqW_lst, seqW_tup, seqW_str, seqW_scr, sq2_lst, sq2_tup, inW_sign])
      simp only [inW_lst (okD_str (x := n)) (okD_strs ss), weq_isIn (x := .str n) rfl]
      exact q
  | _ => first | ((simp only [↓dFgt, ↓dVar, ↓dC, ↓dOp, ↓dUn, ↓dI, ↓dI0, ↓dSub, ↓dMul, ↓dDiv, ↓dMod, ↓dPow, ↓dAdd, ↓dNeg, ↓dEq, ↓dNe, ↓dLt, ↓dLe, ↓dGt, ↓dGe, ↓dIsN, ↓dNotN, ↓dTru, ↓dTest, ↓dChain, ↓dAnd, ↓dOr, ↓dNot, ↓dAndV, ↓dOrV, ↓dNotV, ↓dIf, ↓dNil, ↓dCons, ↓dTup, ↓dLst, ↓dLstM, ↓dCB, ↓dLen, ↓dAbs, ↓dMax2, ↓dMin2, ↓dAll, ↓dAny, ↓dListOf, ↓dListOfM, ↓dTupOf, ↓dNext, ↓dSeq, ↓dDrop, ↓dRet, ↓dRetN, ↓dIfS, ↓dBrk, ↓dCnt, ↓dSet, ↓dAsgT, ↓dPar2, ↓tbind, ↓tbinds, ↓Om.set, ↓dCall, ↓dIx, ↓dNo, ↓dPart, ↓dSl, ↓dSlr, ↓dBM, ↓dApp, ↓dExt, ↓dSetIx, ↓dIs, ↓dMinS, ↓dMaxS, ↓dJoin, ↓dFrz, ↓dPut, ↓dFld, ↓dSetF, ↓dInt, ↓dIsLT, ↓dRng1, ↓dRng2, ↓dEnum, ↓dZip, ↓dSeqI, view_c_non, view_c_bl, view_c_int, view_c_str, view_c_tup, view_c_lst, view_c_scr, view_c_dct, view_c_ins, ↓startW, ↓wp, ↓wps, ↓dInKD, ↓dNotInKD, ↓dIxKD, ↓dIn, ↓dNotIn, ↓dDg, List.getElem?_cons_zero, List.getElem?_cons_succ, List.set_cons_zero, List.set_cons_succ, List.map_cons, List.map_nil, List.length_cons, List.length_nil, List.replicate_succ, List.replicate_zero, List.nil_append, List.cons_append, Bool.not_true, Bool.not_false, if_true, wkey_int, wkey_str, atI_0, atI_1, atI_2, atI_3, up_same, if_false, Bool.false_eq_true, Bool.true_eq_false, tru_non, isLT_non, isi_int_non, isi_bool_non, isi_str_non, isi_tup_non, isi_lst_non, tru_bl, isLT_bl, isi_int_bl, isi_bool_bl, isi_str_bl, isi_tup_bl, isi_lst_bl, tru_int, isLT_int, isi_int_int, isi_bool_int, isi_str_int, isi_tup_int, isi_lst_int, tru_str, isLT_str, isi_int_str, isi_bool_str, isi_str_str, isi_tup_str, isi_lst_str, tru_tup, isLT_tup, isi_int_tup, isi_bool_tup, isi_str_tup, isi_tup_tup, isi_lst_tup, tru_lst, isLT_lst, isi_int_lst, isi_bool_lst, isi_str_lst, isi_tup_lst, isi_lst_lst, isL_lst, seqW_lst, seqW_tup, seqW_str, seqW_scr, sq2_lst, sq2_tup, inW_sign]); exact q) | cases hp
section
variable {P : Program} {w : World} {K : PySem.W.Frag} {mg : Str → Option Value} {base : Heap} {c_Ground : Addr}
theorem ok_law_is_in {f : Addr} {fd : FuncData} (F : Fun K "_law_is_in" "_law_is_in" s_law_is_in f fd) (T : Txt K w mg c_Ground) : FnOk P w K mg base CX0 1 f fd ["_law_given", "_law_texts"] (uSp K (sp_law_is_in)) :=
  Fun.okF F sc_law_is_in (td_law_is_in) (fun cdv A outer s H E hr =>
    (dss_one (ds_ret (de_and (de_isi .str (dv 0) T.z_isinstance T.z_str) (de_one (de_cmp (oc_in hr) (dv 0) (de_callTy cd_list T.z_list (da_cons (dv 1) da_nil)))))))) (fun ws S Q E h => len_law_is_in h) (hd_law_is_in)
end
/-! ### _law_unlike -/
abbrev s_law_unlike : Stmt := topS 55
abbrev N_law_unlike : List Str := ["_law_rows", "_law_k", "_law_row"]
theorem sc_law_unlike : FnScope N_law_unlike ["_law_rows"] (defScope s_law_unlike) := ⟨rfl, rfl, rfl, by decide +kernel, rfl, by decide +kernel, by decide +kernel⟩
theorem st_law_unlike {x0 : W} : startW N_law_unlike [x0] = [some x0, none, none] := rfl
def td_law_unlike : DS' :=
    (dRet (dCB dAll (dCons (dLc (dRng1 (dCons (dCB dLen (dCons (dVar 0) dNil)) dNil)) (.nm 1) dYes (dOp dNotIn (dOp dIx (dOp dIx (dVar 0) (dVar 1)) (dC (.int 0))) (dLc (dSeqI (dSl (dVar 0) dNo (dPart (dVar 1)))) (.nm 2) dYes (dOp dIx (dVar 2) (dC (.int 0))) [2])) [1]) dNil)))
def sp_law_unlike : DSp := fun ws S Q _ => ∃ xs, ws = [.tup xs] ∧ (∀ x ∈ xs, fstOk x = true) ∧ xs.length ≤ 900 ∧ Q (.bl (decide ((xs.map fstS).Nodup))) S
theorem len_law_unlike {ws S Q E} (h : sp_law_unlike ws S Q E) : ws.length = 1 := by obtain ⟨xs, rfl, _⟩ := h; rfl
theorem hd_law_unlike (ws S Q E) (h : sp_law_unlike ws S Q E) : td_law_unlike { nx := fun _ S' => frzQ Q .non S', rt := frzQ Q } ⟨startW N_law_unlike ws, XF⟩ S := by
  obtain ⟨xs, rfl, hx, hl, q⟩ := h
  replace q := frzQ.mk q
  simp only [st_law_unlike, td_law_unlike]
  refine ret_go ?_
  (simp only [↓dFgt, ↓dVar, ↓dC, ↓dOp, ↓dUn, ↓dI, ↓dI0, ↓dSub, ↓dMul, ↓dDiv, ↓dMod, ↓dPow, ↓dAdd, ↓dNeg, ↓dEq, ↓dNe, ↓dLt, ↓dLe, ↓dGt, ↓dGe, ↓dIsN, ↓dNotN, ↓dTru, ↓dTest, ↓dChain, ↓dAnd, ↓dOr, ↓dNot, ↓dAndV, ↓dOrV, ↓dNotV, ↓dIf, ↓dNil, ↓dCons, ↓dTup, ↓dLst, ↓dLstM, ↓dCB, ↓dLen, ↓dAbs, ↓dMax2, ↓dMin2, ↓dAll, ↓dAny, ↓dListOf, ↓dListOfM, ↓dTupOf, ↓dNext, ↓dSeq, ↓dDrop, ↓dRet, ↓dRetN, ↓dIfS, ↓dBrk, ↓dCnt, ↓dSet, ↓dAsgT, ↓dPar2, ↓tbind, ↓tbinds, ↓Om.set, ↓dCall, ↓dIx, ↓dNo, ↓dPart, ↓dSl, ↓dSlr, ↓dBM, ↓dApp, ↓dExt, ↓dSetIx, ↓dIs, ↓dMinS, ↓dMaxS, ↓dJoin, ↓dFrz, ↓dPut, ↓dFld, ↓dSetF, ↓dInt, ↓dIsLT, ↓dRng1, ↓dRng2, ↓dEnum, ↓dZip, ↓dSeqI, view_c_non, view_c_bl, view_c_int, view_c_str, view_c_tup, view_c_lst, view_c_scr, view_c_dct, view_c_ins, ↓startW, ↓wp, ↓wps, ↓dInKD, ↓dNotInKD, ↓dIxKD, ↓dIn, ↓dNotIn, ↓dDg, List.getElem?_cons_zero, List.getElem?_cons_succ, List.set_cons_zero, List.set_cons_succ, List.map_cons, List.map_nil, List.length_cons, List.length_nil, List.replicate_succ, List.replicate_zero, List.nil_append, List.cons_append, Bool.not_true, Bool.not_false, if_true, wkey_int, wkey_str, atI_0, atI_1, atI_2, atI_3, up_same, if_false, Bool.false_eq_true, Bool.true_eq_false, tru_non, isLT_non, isi_int_non, isi_bool_non, isi_str_non, isi_tup_non, isi_lst_non, tru_bl, isLT_bl, isi_int_bl, isi_bool_bl, isi_str_bl, isi_tup_bl, isi_lst_bl, tru_int, isLT_int, isi_int_int, isi_bool_int, isi_str_int, isi_tup_int, isi_lst_int, tru_str, isLT_str, isi_int_str, isi_bool_str, isi_str_str, isi_tup_str, isi_lst_str, tru_tup, isLT_tup, isi_int_tup, isi_bool_tup, isi_str_tup, isi_tup_tup, isi_lst_tup, tru_lst, isLT_lst, isi_int_lst, isi_bool_lst, isi_str_lst, isi_tup_lst, isi_lst_lst, isL_lst, seqW_lst, seqW_tup, seqW_str, seqW_scr, sq2_lst, sq2_tup, inW_sign])
  refine lcMr (n := (xs.length : Nat)) (fun Q' h => by (simp only [↓dFgt, ↓dVar, ↓dC, ↓dOp, ↓dUn, ↓dI, ↓dI0, ↓dSub, ↓dMul, ↓dDiv, ↓dMod, ↓dPow, ↓dAdd, ↓dNeg, ↓dEq, ↓dNe, ↓dLt, ↓dLe, ↓dGt, ↓dGe, ↓dIsN, ↓dNotN, ↓dTru, ↓dTest, ↓dChain, ↓dAnd, ↓dOr, ↓dNot, ↓dAndV, ↓dOrV, ↓dNotV, ↓dIf, ↓dNil, ↓dCons, ↓dTup, ↓dLst, ↓dLstM, ↓dCB, ↓dLen, ↓dAbs, ↓dMax2, ↓dMin2, ↓dAll, ↓dAny, ↓dListOf, ↓dListOfM, ↓dTupOf, ↓dNext, ↓dSeq, ↓dDrop, ↓dRet, ↓dRetN, ↓dIfS, ↓dBrk, ↓dCnt, ↓dSet, ↓dAsgT, ↓dPar2, ↓tbind, ↓tbinds, ↓Om.set, ↓dCall, ↓dIx, ↓dNo, ↓dPart, ↓dSl, ↓dSlr, ↓dBM, ↓dApp, ↓dExt, ↓dSetIx, ↓dIs, ↓dMinS, ↓dMaxS, ↓dJoin, ↓dFrz, ↓dPut, ↓dFld, ↓dSetF, ↓dInt, ↓dIsLT, ↓dRng1, ↓dRng2, ↓dEnum, ↓dZip, ↓dSeqI, view_c_non, view_c_bl, view_c_int, view_c_str, view_c_tup, view_c_lst, view_c_scr, view_c_dct, view_c_ins, ↓startW, ↓wp, ↓wps, ↓dInKD, ↓dNotInKD, ↓dIxKD, ↓dIn, ↓dNotIn, ↓dDg, List.getElem?_cons_zero, List.getElem?_cons_succ, List.set_cons_zero, List.set_cons_succ, List.map_cons, List.map_nil, List.length_cons, List.length_nil, List.replicate_succ, List.replicate_zero, List.nil_append, List.cons_append, Bool.not_true, Bool.not_false, if_true, wkey_int, wkey_str, atI_0, atI_1, atI_2, atI_3, up_same, if_false, Bool.false_eq_true, Bool.true_eq_false, tru_non, isLT_non, isi_int_non, isi_bool_non, isi_str_non, isi_tup_non, isi_lst_non, tru_bl, isLT_bl, isi_int_bl, isi_bool_bl, isi_str_bl, isi_tup_bl, isi_lst_bl, tru_int, isLT_int, isi_int_int, isi_bool_int, isi_str_int, isi_tup_int, isi_lst_int, tru_str, isLT_str, isi_int_str, isi_bool_str, isi_str_str, isi_tup_str, isi_lst_str, tru_tup, isLT_tup, isi_int_tup, isi_bool_tup, isi_str_tup, isi_tup_tup, isi_lst_tup, tru_lst, isLT_lst, isi_int_lst, isi_bool_lst, isi_str_lst, isi_tup_lst, isi_lst_lst, isL_lst, seqW_lst, seqW_tup, seqW_str, seqW_scr, sq2_lst, sq2_tup, inW_sign]); exact h) (by omega) (by omega) (fun k => .bl (match (xs.map fstS)[k]? with | some x => !decide (x ∈ (xs.map fstS).take k) | none => true)) (fun k hk => ⟨_, rfl, fun p acc hp Qe h => ?_⟩) ?_
  · have hk : k < xs.length := by omega
    obtain ⟨r, e⟩ := fstOk_inv (hx _ (List.getElem_mem hk))
    have hat : L2.atI xs (k : Int) = some (.tup (.str (fstS xs[k]) :: r)) := by rw [atI_n hk, List.getElem?_eq_getElem hk, ← e]
    have c1 : cut xs none (some (k : Int)) = xs.take k := cut_take (by omega)
    have e2 : (xs.map fstS)[k]? = some (fstS xs[k]) := by rw [List.getElem?_map, List.getElem?_eq_getElem hk]; rfl
    simp only [e2] at h
    (simp only [↓dFgt, ↓dVar, ↓dC, ↓dOp, ↓dUn, ↓dI, ↓dI0, ↓dSub, ↓dMul, ↓dDiv, ↓dMod, ↓dPow, ↓dAdd, ↓dNeg, ↓dEq, ↓dNe, ↓dLt, ↓dLe, ↓dGt, ↓dGe, ↓dIsN, ↓dNotN, ↓dTru, ↓dTest, ↓dChain, ↓dAnd, ↓dOr, ↓dNot, ↓dAndV, ↓dOrV, ↓dNotV, ↓dIf, ↓dNil, ↓dCons, ↓dTup, ↓dLst, ↓dLstM, ↓dCB, ↓dLen, ↓dAbs, ↓dMax2, ↓dMin2, ↓dAll, ↓dAny, ↓dListOf, ↓dListOfM, ↓dTupOf, ↓dNext, ↓dSeq, ↓dDrop, ↓dRet, ↓dRetN, ↓dIfS, ↓dBrk, ↓dCnt, ↓dSet, ↓dAsgT, ↓dPar2, ↓tbind, ↓tbinds, ↓Om.set, ↓dCall, ↓dIx, ↓dNo, ↓dPart, ↓dSl, ↓dSlr, ↓dBM, ↓dApp, ↓dExt, ↓dSetIx, ↓dIs, ↓dMinS, ↓dMaxS, ↓dJoin, ↓dFrz, ↓dPut, ↓dFld, ↓dSetF, ↓dInt, ↓dIsLT, ↓dRng1, ↓dRng2, ↓dEnum, ↓dZip, ↓dSeqI, view_c_non, view_c_bl, view_c_int, view_c_str, view_c_tup, view_c_lst, view_c_scr, view_c_dct, view_c_ins, ↓startW, ↓wp, ↓wps, ↓dInKD, ↓dNotInKD, ↓dIxKD, ↓dIn, ↓dNotIn, ↓dDg, List.getElem?_cons_zero, List.getElem?_cons_succ, List.set_cons_zero, List.set_cons_succ, List.map_cons, List.map_nil, List.length_cons, List.length_nil, List.replicate_succ, List.replicate_zero, List.nil_append, List.cons_append, Bool.not_true, Bool.not_false, if_true, wkey_int, wkey_str, atI_0, atI_1, atI_2, atI_3, up_same, if_false, Bool.false_eq_true, Bool.true_eq_false, tru_non, isLT_non, isi_int_non, isi_bool_non, isi_str_non, isi_tup_non, isi_lst_non, tru_bl, isLT_bl, isi_int_bl, isi_bool_bl, isi_str_bl, isi_tup_bl, isi_lst_bl, tru_int, isLT_int, isi_int_int, isi_bool_int, isi_str_int, isi_tup_int, isi_lst_int, tru_str, isLT_str, isi_int_str, isi_bool_str, isi_str_str, isi_tup_str, isi_lst_str, tru_tup, isLT_tup, isi_int_tup, isi_bool_tup, isi_str_tup, isi_tup_tup, isi_lst_tup, tru_lst, isLT_lst, isi_int_lst, isi_bool_lst, isi_str_lst, isi_tup_lst, isi_lst_lst, isL_lst, seqW_lst, seqW_tup, seqW_str, seqW_scr, sq2_lst, sq2_tup, inW_sign])
    simp only [hat]
    (simp only [↓dFgt, ↓dVar, ↓dC, ↓dOp, ↓dUn, ↓dI, ↓dI0, ↓dSub, ↓dMul, ↓dDiv, ↓dMod, ↓dPow, ↓dAdd, ↓dNeg, ↓dEq, ↓dNe, ↓dLt, ↓dLe, ↓dGt, ↓dGe, ↓dIsN, ↓dNotN, ↓dTru, ↓dTest, ↓dChain, ↓dAnd, ↓dOr, ↓dNot, ↓dAndV, ↓dOrV, ↓dNotV, ↓dIf, ↓dNil, ↓dCons, ↓dTup, ↓dLst, ↓dLstM, ↓dCB, ↓dLen, ↓dAbs, ↓dMax2, ↓dMin2, ↓dAll, ↓dAny, ↓dListOf, ↓dListOfM, ↓dTupOf, ↓dNext, ↓dSeq, ↓dDrop, ↓dRet, ↓dRetN, ↓dIfS, ↓dBrk, ↓dCnt, ↓dSet, ↓dAsgT, ↓dPar2, ↓tbind, ↓tbinds, ↓Om.set, ↓dCall, ↓dIx, ↓dNo, ↓dPart, ↓dSl, ↓dSlr, ↓dBM, ↓dApp, ↓dExt, ↓dSetIx, ↓dIs, ↓dMinS, ↓dMaxS, ↓dJoin, ↓dFrz, ↓dPut, ↓dFld, ↓dSetF, ↓dInt, ↓dIsLT, ↓dRng1, ↓dRng2, ↓dEnum, ↓dZip, ↓dSeqI, view_c_non, view_c_bl, view_c_int, view_c_str, view_c_tup, view_c_lst, view_c_scr, view_c_dct, view_c_ins, ↓startW, ↓wp, ↓wps, ↓dInKD, ↓dNotInKD, ↓dIxKD, ↓dIn, ↓dNotIn, ↓dDg, List.getElem?_cons_zero, List.getElem?_cons_succ, List.set_cons_zero, List.set_cons_succ, List.map_cons, List.map_nil, List.length_cons, List.length_nil, List.replicate_succ, List.replicate_zero, List.nil_append, List.cons_append, Bool.not_true, Bool.not_false, if_true, wkey_int, wkey_str, atI_0, atI_1, atI_2, atI_3, up_same, if_false, Bool.false_eq_true, Bool.true_eq_false, tru_non, isLT_non, isi_int_non, isi_bool_non, isi_str_non, isi_tup_non, isi_lst_non, tru_bl, isLT_bl, isi_int_bl, isi_bool_bl, isi_str_bl, isi_tup_bl, isi_lst_bl, tru_int, isLT_int, isi_int_int, isi_bool_int, isi_str_int, isi_tup_int, isi_lst_int, tru_str, isLT_str, isi_int_str, isi_bool_str, isi_str_str, isi_tup_str, isi_lst_str, tru_tup, isLT_tup, isi_int_tup, isi_bool_tup, isi_str_tup, isi_tup_tup, isi_lst_tup, tru_lst, isLT_lst, isi_int_lst, isi_bool_lst, isi_str_lst, isi_tup_lst, isi_lst_lst, isL_lst, seqW_lst, seqW_tup, seqW_str, seqW_scr, sq2_lst, sq2_tup, inW_sign])
    refine lcMs (w := .tup (xs.take k)) (xs := xs.take k) (fun Q' h => by (simp only [↓dFgt, ↓dVar, ↓dC, ↓dOp, ↓dUn, ↓dI, ↓dI0, ↓dSub, ↓dMul, ↓dDiv, ↓dMod, ↓dPow, ↓dAdd, ↓dNeg, ↓dEq, ↓dNe, ↓dLt, ↓dLe, ↓dGt, ↓dGe, ↓dIsN, ↓dNotN, ↓dTru, ↓dTest, ↓dChain, ↓dAnd, ↓dOr, ↓dNot, ↓dAndV, ↓dOrV, ↓dNotV, ↓dIf, ↓dNil, ↓dCons, ↓dTup, ↓dLst, ↓dLstM, ↓dCB, ↓dLen, ↓dAbs, ↓dMax2, ↓dMin2, ↓dAll, ↓dAny, ↓dListOf, ↓dListOfM, ↓dTupOf, ↓dNext, ↓dSeq, ↓dDrop, ↓dRet, ↓dRetN, ↓dIfS, ↓dBrk, ↓dCnt, ↓dSet, ↓dAsgT, ↓dPar2, ↓tbind, ↓tbinds, ↓Om.set, ↓dCall, ↓dIx, ↓dNo, ↓dPart, ↓dSl, ↓dSlr, ↓dBM, ↓dApp, ↓dExt, ↓dSetIx, ↓dIs, ↓dMinS, ↓dMaxS, ↓dJoin, ↓dFrz, ↓dPut, ↓dFld, ↓dSetF, ↓dInt, ↓dIsLT, ↓dRng1, ↓dRng2, ↓dEnum, ↓dZip, ↓dSeqI, view_c_non, view_c_bl, view_c_int, view_c_str, view_c_tup, view_c_lst, view_c_scr, view_c_dct, view_c_ins, ↓startW, ↓wp, ↓wps, ↓dInKD, ↓dNotInKD, ↓dIxKD, ↓dIn, ↓dNotIn, ↓dDg, List.getElem?_cons_zero, List.getElem?_cons_succ, List.set_cons_zero, List.set_cons_succ, List.map_cons, List.map_nil, List.length_cons, List.length_nil, List.replicate_succ, List.replicate_zero, List.nil_append, List.cons_append, Bool.not_true, Bool.not_false, if_true, wkey_int, wkey_str, atI_0, atI_1, atI_2, atI_3, up_same, if_false, Bool.false_eq_true, Bool.true_eq_false, tru_non, isLT_non, isi_int_non, isi_bool_non, isi_str_non, isi_tup_non, isi_lst_non, tru_bl, isLT_bl, isi_int_bl, isi_bool_bl, isi_str_bl, isi_tup_bl, isi_lst_bl, tru_int, isLT_int, isi_int_int, isi_bool_int, isi_str_int, isi_tup_int, isi_lst_int, tru_str, isLT_str, isi_int_str, isi_bool_str, isi_str_str, isi_tup_str, isi_lst_str, tru_tup, isLT_tup, isi_int_tup, isi_bool_tup, isi_str_tup, isi_tup_tup, isi_lst_tup, tru_lst, isLT_lst, isi_int_lst, isi_bool_lst, isi_str_lst, isi_tup_lst, isi_lst_lst, isL_lst, seqW_lst, seqW_tup, seqW_str, seqW_scr, sq2_lst, sq2_tup, inW_sign]); simp only [c1]; exact h) rfl (fun w => .str (fstS w)) (by rw [List.length_take]; omega) (fun _ _ _ => rfl) (fun w hw => ?_) ?_
    · obtain ⟨r, e⟩ := fstOk_inv (hx w (List.mem_of_mem_take hw))
      refine ⟨_, rfl, fun p acc hp Qe h => ?_⟩
      generalize fstS w = n at e h
      subst e
      (simp only [↓dFgt, ↓dVar, ↓dC, ↓dOp, ↓dUn, ↓dI, ↓dI0, ↓dSub, ↓dMul, ↓dDiv, ↓dMod, ↓dPow, ↓dAdd, ↓dNeg, ↓dEq, ↓dNe, ↓dLt, ↓dLe, ↓dGt, ↓dGe, ↓dIsN, ↓dNotN, ↓dTru, ↓dTest, ↓dChain, ↓dAnd, ↓dOr, ↓dNot, ↓dAndV, ↓dOrV, ↓dNotV, ↓dIf, ↓dNil, ↓dCons, ↓dTup, ↓dLst, ↓dLstM, ↓dCB, ↓dLen, ↓dAbs, ↓dMax2, ↓dMin2, ↓dAll, ↓dAny, ↓dListOf, ↓dListOfM, ↓dTupOf, ↓dNext, ↓dSeq, ↓dDrop, ↓dRet, ↓dRetN, ↓dIfS, ↓dBrk, ↓dCnt, ↓dSet, ↓dAsgT, ↓dPar2, ↓tbind, ↓tbinds, ↓Om.set, ↓dCall, ↓dIx, ↓dNo, ↓dPart, ↓dSl, ↓dSlr, ↓dBM, ↓dApp, ↓dExt, ↓dSetIx, ↓dIs, ↓dMinS, ↓dMaxS, ↓dJoin, ↓dFrz, ↓dPut, ↓dFld, ↓dSetF, ↓dInt, ↓dIsLT, ↓dRng1, ↓dRng2, ↓dEnum, ↓dZip, ↓dSeqI, view_c_non, view_c_bl, view_c_int, view_c_str, view_c_tup, view_c_lst, view_c_scr, view_c_dct, view_c_ins, ↓startW, ↓wp, ↓wps, ↓dInKD, ↓dNotInKD, ↓dIxKD, ↓dIn, ↓dNotIn, ↓dDg, List.getElem?_cons_zero, List.getElem?_cons_succ, List.set_cons_zero, List.set_cons_succ, List.map_cons, List.map_nil, List.length_cons, List.length_nil, List.replicate_succ, List.replicate_zero, List.nil_append, List.cons_append, Bool.not_true, Bool.not_false, if_true, wkey_int, wkey_str, atI_0, atI_1, atI_2, atI_3, up_same, if_false, Bool.false_eq_true, Bool.true_eq_false, tru_non, isLT_non, isi_int_non, isi_bool_non, isi_str_non, isi_tup_non, isi_lst_non, tru_bl, isLT_bl, isi_int_bl, isi_bool_bl, isi_str_bl, isi_tup_bl, isi_lst_bl, tru_int, isLT_int, isi_int_int, isi_bool_int, isi_str_int, isi_tup_int, isi_lst_int, tru_str, isLT_str, isi_int_str, isi_bool_str, isi_str_str, isi_tup_str, isi_lst_str, tru_tup, isLT_tup, isi_int_tup, isi_bool_tup, isi_str_tup, isi_tup_tup, isi_lst_tup, tru_lst, isLT_lst, isi_int_lst, isi_bool_lst, isi_str_lst, isi_tup_lst, isi_lst_lst, isL_lst, seqW_lst, seqW_tup, seqW_str, seqW_scr, sq2_lst, sq2_tup, inW_sign])
      exact h
    · have e3 : (xs.take k).map (fun w => W.str (fstS w)) = ((xs.map fstS).take k).map W.str := by rw [← List.map_take, List.map_map]; rfl
      rw [e3]
      simp only [inW_lst (okD_str (x := fstS xs[k])) (okD_strs _), weq_isIn (x := .str (fstS xs[k])) rfl]
      exact h
  · (simp only [↓dFgt, ↓dVar, ↓dC, ↓dOp, ↓dUn, ↓dI, ↓dI0, ↓dSub, ↓dMul, ↓dDiv, ↓dMod, ↓dPow, ↓dAdd, ↓dNeg, ↓dEq, ↓dNe, ↓dLt, ↓dLe, ↓dGt, ↓dGe, ↓dIsN, ↓dNotN, ↓dTru, ↓dTest, ↓dChain, ↓dAnd, ↓dOr, ↓dNot, ↓dAndV, ↓dOrV, ↓dNotV, ↓dIf, ↓dNil, ↓dCons, ↓dTup, ↓dLst, ↓dLstM, ↓dCB, ↓dLen, ↓dAbs, ↓dMax2, ↓dMin2, ↓dAll, ↓dAny, ↓dListOf, ↓dListOfM, ↓dTupOf, ↓dNext, ↓dSeq, ↓dDrop, ↓dRet, ↓dRetN, ↓dIfS, ↓dBrk, ↓dCnt, ↓dSet, ↓dAsgT, ↓dPar2, ↓tbind, ↓tbinds, ↓Om.set, ↓dCall, ↓dIx, ↓dNo, ↓dPart, ↓dSl, ↓dSlr, ↓dBM, ↓dApp, ↓dExt, ↓dSetIx, ↓dIs, ↓dMinS, ↓dMaxS, ↓dJoin, ↓dFrz, ↓dPut, ↓dFld, ↓dSetF, ↓dInt, ↓dIsLT, ↓dRng1, ↓dRng2, ↓dEnum, ↓dZip, ↓dSeqI, view_c_non, view_c_bl, view_c_int, view_c_str, view_c_tup, view_c_lst, view_c_scr, view_c_dct, view_c_ins, ↓startW, ↓wp, ↓wps, ↓dInKD, ↓dNotInKD, ↓dIxKD, ↓dIn, ↓dNotIn, ↓dDg, List.getElem?_cons_zero, List.getElem?_cons_succ, List.set_cons_zero, List.set_cons_succ, List.map_cons, List.map_nil, List.length_cons, List.length_nil, List.replicate_succ, List.replicate_zero, List.nil_append, List.cons_append, Bool.not_true, Bool.not_false, if_true, wkey_int, wkey_str, atI_0, atI_1, atI_2, atI_3, up_same, if_false, Bool.false_eq_true, Bool.true_eq_false, tru_non, isLT_non, isi_int_non, isi_bool_non, isi_str_non, isi_tup_non, isi_lst_non, tru_bl, isLT_bl, isi_int_bl, isi_bool_bl, isi_str_bl, isi_tup_bl, isi_lst_bl, tru_int, isLT_int, isi_int_int, isi_bool_int, isi_str_int, isi_tup_int, isi_lst_int, tru_str, isLT_str, isi_int_str, isi_bool_str, isi_str_str, isi_tup_str, isi_lst_str, tru_tup, isLT_tup, isi_int_tup, isi_bool_tup, isi_str_tup, isi_tup_tup, isi_lst_tup, tru_lst, isLT_lst, isi_int_lst, isi_bool_lst, isi_str_lst, isi_tup_lst, isi_lst_lst, isL_lst, seqW_lst, seqW_tup, seqW_str, seqW_scr, sq2_lst, sq2_tup, inW_sign])
    rw [all_blsN]
    (simp only [↓dFgt, ↓dVar, ↓dC, ↓dOp, ↓dUn, ↓dI, ↓dI0, ↓dSub, ↓dMul, ↓dDiv, ↓dMod, ↓dPow, ↓dAdd, ↓dNeg, ↓dEq, ↓dNe, ↓dLt, ↓dLe, ↓dGt, ↓dGe, ↓dIsN, ↓dNotN, ↓dTru, ↓dTest, ↓dChain, ↓dAnd, ↓dOr, ↓dNot, ↓dAndV, ↓dOrV, ↓dNotV, ↓dIf, ↓dNil, ↓dCons, ↓dTup, ↓dLst, ↓dLstM, ↓dCB, ↓dLen, ↓dAbs, ↓dMax2, ↓dMin2, ↓dAll, ↓dAny, ↓dListOf, ↓dListOfM, ↓dTupOf, ↓dNext, ↓dSeq, ↓dDrop, ↓dRet, ↓dRetN, ↓dIfS, ↓dBrk, ↓dCnt, ↓dSet, ↓dAsgT, ↓dPar2, ↓tbind, ↓tbinds, ↓Om.set, ↓dCall, ↓dIx, ↓dNo, ↓dPart, ↓dSl, ↓dSlr, ↓dBM, ↓dApp, ↓dExt, ↓dSetIx, ↓dIs, ↓dMinS, ↓dMaxS, ↓dJoin, ↓dFrz, ↓dPut, ↓dFld, ↓dSetF, ↓dInt, ↓dIsLT, ↓dRng1, ↓dRng2, ↓dEnum, ↓dZip, ↓dSeqI, view_c_non, view_c_bl, view_c_int, view_c_str, view_c_tup, view_c_lst, view_c_scr, view_c_dct, view_c_ins, ↓startW, ↓wp, ↓wps, ↓dInKD, ↓dNotInKD, ↓dIxKD, ↓dIn, ↓dNotIn, ↓dDg, List.getElem?_cons_zero, List.getElem?_cons_succ, List.set_cons_zero, List.set_cons_succ, List.map_cons, List.map_nil, List.length_cons, List.length_nil, List.replicate_succ, List.replicate_zero, List.nil_append, List.cons_append, Bool.not_true, Bool.not_false, if_true, wkey_int, wkey_str, atI_0, atI_1, atI_2, atI_3, up_same, if_false, Bool.false_eq_true, Bool.true_eq_false, tru_non, isLT_non, isi_int_non, isi_bool_non, isi_str_non, isi_tup_non, isi_lst_non, tru_bl, isLT_bl, isi_int_bl, isi_bool_bl, isi_str_bl, isi_tup_bl, isi_lst_bl, tru_int, isLT_int, isi_int_int, isi_bool_int, isi_str_int, isi_tup_int, isi_lst_int, tru_str, isLT_str, isi_int_str, isi_bool_str, isi_str_str, isi_tup_str, isi_lst_str, tru_tup, isLT_tup, isi_int_tup, isi_bool_tup, isi_str_tup, isi_tup_tup, isi_lst_tup, tru_lst, isLT_lst, isi_int_lst, isi_bool_lst, isi_str_lst, isi_tup_lst, isi_lst_lst, isL_lst, seqW_lst, seqW_tup, seqW_str, seqW_scr, sq2_lst, sq2_tup, inW_sign])
    have e := nodup_take_iff (xs.map fstS)
    rw [List.length_map] at e
    have e2 : ((List.range ((xs.length : Nat) : Int).toNat).map fun k => (match (xs.map fstS)[k]? with | some x => !decide (x ∈ (xs.map fstS).take k) | none => true)).all id = decide (xs.map fstS).Nodup := by
      rw [← e, List.all_map]; rfl
    rw [e2]
    exact q
section
variable {P : Program} {w : World} {K : PySem.W.Frag} {mg : Str → Option Value} {base : Heap} {c_Ground : Addr}
theorem ok_law_unlike {f : Addr} {fd : FuncData} (F : Fun K "_law_unlike" "_law_unlike" s_law_unlike f fd) (T : Txt K w mg c_Ground) : FnOk P w K mg base CX0 1 f fd ["_law_rows"] (uSp K (sp_law_unlike)) :=
  Fun.okF F sc_law_unlike (td_law_unlike) (fun cdv A outer s H E hr =>
    (dss_one (ds_ret (de_callB cd_all T.z_all (da_cons (de_lc (own := [("_law_k", 1)]) sc_law_unlike.nd (di_range1 T.z_range (da_cons (de_callB cd_len T.z_len (da_cons (dv 0) da_nil)) da_nil)) (blkOk_by (own := [("_law_k", 1)]) (N := N_law_unlike) (sc := defScope s_law_unlike) (by decide +kernel)) (fun _ _ _ _ _ => (dg_nm (i := 1) sc_law_unlike.nd)) (fun _ _ _ _ _ => dts_nil) (fun _ _ _ _ _ => (de_cmp (oc_notin hr) (de_ix (de_ix (dv 0) (dv 1)) de_int) (de_lc (own := [("_law_row", 2)]) sc_law_unlike.nd (di_seq (de_sl (dv 0) do_none (do_some (dv 1)))) (blkOk_by (own := [("_law_row", 2)]) (N := N_law_unlike) (sc := { kind := .function, names := [(".0", .local), ("_law_k", .local), ("_law_rows", .cell)], isGenerator := false, isCoroutine := false }) (by decide +kernel)) (fun _ _ _ _ _ => (dg_nm (i := 2) sc_law_unlike.nd)) (fun _ _ _ _ _ => dts_nil) (fun _ _ _ _ _ => (de_ix (dv 2) de_int)))))) da_nil))))) (fun ws S Q E h => len_law_unlike h) (hd_law_unlike)
end
def lenN (k : Int) : W → Bool
  | .tup ys => decide ((ys.length : Int) = k)
  | _ => false
theorem lenN_inv {k : Int} {x : W} (h : lenN k x = true) : ∃ ys, x = .tup ys ∧ (ys.length : Int) = k := by
  cases x <;> first | cases h | skip
  exact ⟨_, rfl, of_decide_eq_true h⟩
def len4 : W → Bool := lenN 4
theorem len4_inv {x : W} (h : len4 x = true) : ∃ a b c d, x = .tup [a, b, c, d] := by
  obtain ⟨ys, rfl, hl⟩ := lenN_inv h
  obtain ⟨a, b, c, d, rfl⟩ := tup4 (ys := ys) (by omega)
  exact ⟨a, b, c, d, rfl⟩
/-! ### _law_is_skill -/
abbrev s_law_is_skill : Stmt := topS 56
abbrev N_law_is_skill : List Str := ["_law_given"]
theorem sc_law_is_skill : FnScope N_law_is_skill ["_law_given"] (defScope s_law_is_skill) := ⟨rfl, rfl, rfl, by decide +kernel, rfl, by decide +kernel, by decide +kernel⟩
theorem st_law_is_skill {x0 : W} : startW N_law_is_skill [x0] = [some x0] := rfl
def td_law_is_skill : DS' :=
    (dSeq (dIfS (dOr (dNot (dTru (dUn (dIs .tup) (dVar 0)))) (dTest (dOp dNe (dCB dLen (dCons (dVar 0) dNil)) (dC (.int 2))))) (dRet (dC (.bl false))) dNext)
    (dRet (dAndV (dCall sp_law_is_in (dCons (dOp dIx (dVar 0) (dC (.int 0))) (dCons (dLst (dCons (dC (.str "drive")) (dCons (dC (.str "lead")) (dCons (dC (.str "wear")) dNil)))) dNil))) (dCall sp_law_between (dCons (dOp dIx (dVar 0) (dC (.int 1))) (dCons (dC (.int 0)) (dCons (dC (.int 9)) dNil)))))))
def sp_law_is_skill : DSp := fun ws S Q _ => ∃ x, ws = [x] ∧ Thg x ∧ Q (.bl (skillB x)) S
theorem len_law_is_skill {ws S Q E} (h : sp_law_is_skill ws S Q E) : ws.length = 1 := by obtain ⟨x, rfl, _⟩ := h; rfl
theorem hd_law_is_skill (ws S Q E) (h : sp_law_is_skill ws S Q E) : td_law_is_skill { nx := fun _ S' => frzQ Q .non S', rt := frzQ Q } ⟨startW N_law_is_skill ws, XF⟩ S := by
  obtain ⟨x, rfl, hx, q⟩ := h
  replace q := frzQ.mk q
  simp only [st_law_is_skill, td_law_is_skill]
  refine seq_go ?_
  refine if_b (!lenN 2 x) (fun Q h => ?_) (fun e => ?_) (fun e => ?_)
  · obtain ⟨hp, _, _⟩ := hx
    cases x with
    | tup ys =>
      (simp only [↓dFgt, ↓dVar, ↓dC, ↓dOp, ↓dUn, ↓dI, ↓dI0, ↓dSub, ↓dMul, ↓dDiv, ↓dMod, ↓dPow, ↓dAdd, ↓dNeg, ↓dEq, ↓dNe, ↓dLt, ↓dLe, ↓dGt, ↓dGe, ↓dIsN, ↓dNotN, ↓dTru, ↓dTest, ↓dChain, ↓dAnd, ↓dOr, ↓dNot, ↓dAndV, ↓dOrV, ↓dNotV, ↓dIf, ↓dNil, ↓dCons, ↓dTup, ↓dLst, ↓dLstM, ↓dCB, ↓dLen, ↓dAbs, ↓dMax2, ↓dMin2, ↓dAll, ↓dAny, ↓dListOf, ↓dListOfM, ↓dTupOf, ↓dNext, ↓dSeq, ↓dDrop, ↓dRet, ↓dRetN, ↓dIfS, ↓dBrk, ↓dCnt, ↓dSet, ↓dAsgT, ↓dPar2, ↓tbind, ↓tbinds, ↓Om.set, ↓dCall, ↓dIx, ↓dNo, ↓dPart, ↓dSl, ↓dSlr, ↓dBM, ↓dApp, ↓dExt, ↓dSetIx, ↓dIs, ↓dMinS, ↓dMaxS, ↓dJoin, ↓dFrz, ↓dPut, ↓dFld, ↓dSetF, ↓dInt, ↓dIsLT, ↓dRng1, ↓dRng2, ↓dEnum, ↓dZip, ↓dSeqI, view_c_non, view_c_bl, view_c_int, view_c_str, view_c_tup, view_c_lst, view_c_scr, view_c_dct, view_c_ins, ↓startW, ↓wp, ↓wps, ↓dInKD, ↓dNotInKD, ↓dIxKD, ↓dIn, ↓dNotIn, ↓dDg, List.getElem?_cons_zero, List.getElem?_cons_succ, List.set_cons_zero, List.set_cons_succ, List.map_cons, List.map_nil, List.length_cons, List.length_nil, List.replicate_succ, List.replicate_zero, List.nil_append, List.cons_append, Bool.not_true, Bool.not_false, if_true, wkey_int, wkey_str, atI_0, atI_1, atI_2, atI_3, up_same, if_false, Bool.false_eq_true, Bool.true_eq_false, tru_non, isLT_non, isi_int_non, isi_bool_non, isi_str_non, isi_tup_non, isi_lst_non, tru_bl, isLT_bl, isi_int_bl, isi_bool_bl, isi_str_bl, isi_tup_bl, isi_lst_bl, tru_int, isLT_int, isi_int_int, isi_bool_int, isi_str_int, isi_tup_int, isi_lst_int, tru_str, isLT_str, isi_int_str, isi_bool_str, isi_str_str, isi_tup_str, isi_lst_str, tru_tup, isLT_tup, isi_int_tup, isi_bool_tup, isi_str_tup, isi_tup_tup, isi_lst_tup, tru_lst, isLT_lst, isi_int_lst, isi_bool_lst, isi_str_lst, isi_tup_lst, isi_lst_lst, isL_lst, seqW_lst, seqW_tup, seqW_str, seqW_scr, sq2_lst, sq2_tup, inW_sign])
      refine ⟨rfl, rfl, ?_⟩
      simp only [weq_int]
      exact h
    | _ => first | ((simp only [↓dFgt, ↓dVar, ↓dC, ↓dOp, ↓dUn, ↓dI, ↓dI0, ↓dSub, ↓dMul, ↓dDiv, ↓dMod, ↓dPow, ↓dAdd, ↓dNeg, ↓dEq, ↓dNe, ↓dLt, ↓dLe, ↓dGt, ↓dGe, ↓dIsN, ↓dNotN, ↓dTru, ↓dTest, ↓dChain, ↓dAnd, ↓dOr, ↓dNot, ↓dAndV, ↓dOrV, ↓dNotV, ↓dIf, ↓dNil, ↓dCons, ↓dTup, ↓dLst, ↓dLstM, ↓dCB, ↓dLen, ↓dAbs, ↓dMax2, ↓dMin2, ↓dAll, ↓dAny, ↓dListOf, ↓dListOfM, ↓dTupOf, ↓dNext, ↓dSeq, ↓dDrop, ↓dRet, ↓dRetN, ↓dIfS, ↓dBrk, ↓dCnt, ↓dSet, ↓dAsgT, ↓dPar2, ↓tbind, ↓tbinds, ↓Om.set, ↓dCall, ↓dIx, ↓dNo, ↓dPart, ↓dSl, ↓dSlr, ↓dBM, ↓dApp, ↓dExt, ↓dSetIx, ↓dIs, ↓dMinS, ↓dMaxS, ↓dJoin, ↓dFrz, ↓dPut, ↓dFld, ↓dSetF, ↓dInt, ↓dIsLT, ↓dRng1, ↓dRng2, ↓dEnum, ↓dZip, ↓dSeqI, view_c_non, view_c_bl, view_c_int, view_c_str, view_c_tup, view_c_lst, view_c_scr, view_c_dct, view_c_ins, ↓startW, ↓wp, ↓wps, ↓dInKD, ↓dNotInKD, ↓dIxKD, ↓dIn, ↓dNotIn, ↓dDg, List.getElem?_cons_zero, List.getElem?_cons_succ, List.set_cons_zero, List.set_cons_succ, List.map_cons, List.map_nil, List.length_cons, List.length_nil, List.replicate_succ, List.replicate_zero, List.nil_append, List.cons_append, Bool.not_true, Bool.not_false, if_true, wkey_int, wkey_str, atI_0, atI_1, atI_2, atI_3, up_same, if_false, Bool.false_eq_true, Bool.true_eq_false, tru_non, isLT_non, isi_int_non, isi_bool_non, isi_str_non, isi_tup_non, isi_lst_non, tru_bl, isLT_bl, isi_int_bl, isi_bool_bl, isi_str_bl, isi_tup_bl, isi_lst_bl, tru_int, isLT_int, isi_int_int, isi_bool_int, isi_str_int, isi_tup_int, isi_lst_int, tru_str, isLT_str, isi_int_str, isi_bool_str, isi_str_str, isi_tup_str, isi_lst_str, tru_tup, isLT_tup, isi_int_tup, isi_bool_tup, isi_str_tup, isi_tup_tup, isi_lst_tup, tru_lst, isLT_lst, isi_int_lst, isi_bool_lst, isi_str_lst, isi_tup_lst, isi_lst_lst, isL_lst, seqW_lst, seqW_tup, seqW_str, seqW_scr, sq2_lst, sq2_tup, inW_sign]); exact h) | cases hp
  · refine ret_go ?_
    have e2 : skillB x = false := by
      unfold skillB
      split
      · cases e
      · rfl
    rw [e2] at q
    exact q
  obtain ⟨ys, rfl, hl⟩ := lenN_inv (k := 2) (by simpa using e)
  obtain ⟨a, b, rfl⟩ := tup2 (ys := ys) (by omega)
  have hi := hx.i _ rfl
  have ha := hi a (by simp)
  have hb := hi b (by simp)
  simp only [skillB] at q
  (((try unfold dNext); dsimp only))
  refine ret_go ?_
  (simp only [↓dFgt, ↓dVar, ↓dC, ↓dOp, ↓dUn, ↓dI, ↓dI0, ↓dSub, ↓dMul, ↓dDiv, ↓dMod, ↓dPow, ↓dAdd, ↓dNeg, ↓dEq, ↓dNe, ↓dLt, ↓dLe, ↓dGt, ↓dGe, ↓dIsN, ↓dNotN, ↓dTru, ↓dTest, ↓dChain, ↓dAnd, ↓dOr, ↓dNot, ↓dAndV, ↓dOrV, ↓dNotV, ↓dIf, ↓dNil, ↓dCons, ↓dTup, ↓dLst, ↓dLstM, ↓dCB, ↓dLen, ↓dAbs, ↓dMax2, ↓dMin2, ↓dAll, ↓dAny, ↓dListOf, ↓dListOfM, ↓dTupOf, ↓dNext, ↓dSeq, ↓dDrop, ↓dRet, ↓dRetN, ↓dIfS, ↓dBrk, ↓dCnt, ↓dSet, ↓dAsgT, ↓dPar2, ↓tbind, ↓tbinds, ↓Om.set, ↓dCall, ↓dIx, ↓dNo, ↓dPart, ↓dSl, ↓dSlr, ↓dBM, ↓dApp, ↓dExt, ↓dSetIx, ↓dIs, ↓dMinS, ↓dMaxS, ↓dJoin, ↓dFrz, ↓dPut, ↓dFld, ↓dSetF, ↓dInt, ↓dIsLT, ↓dRng1, ↓dRng2, ↓dEnum, ↓dZip, ↓dSeqI, view_c_non, view_c_bl, view_c_int, view_c_str, view_c_tup, view_c_lst, view_c_scr, view_c_dct, view_c_ins, ↓startW, ↓wp, ↓wps, ↓dInKD, ↓dNotInKD, ↓dIxKD, ↓dIn, ↓dNotIn, ↓dDg, List.getElem?_cons_zero, List.getElem?_cons_succ, List.set_cons_zero, List.set_cons_succ, List.map_cons, List.map_nil, List.length_cons, List.length_nil, List.replicate_succ, List.replicate_zero, List.nil_append, List.cons_append, Bool.not_true, Bool.not_false, if_true, wkey_int, wkey_str, atI_0, atI_1, atI_2, atI_3, up_same, if_false, Bool.false_eq_true, Bool.true_eq_false, tru_non, isLT_non, isi_int_non, isi_bool_non, isi_str_non, isi_tup_non, isi_lst_non, tru_bl, isLT_bl, isi_int_bl, isi_bool_bl, isi_str_bl, isi_tup_bl, isi_lst_bl, tru_int, isLT_int, isi_int_int, isi_bool_int, isi_str_int, isi_tup_int, isi_lst_int, tru_str, isLT_str, isi_int_str, isi_bool_str, isi_str_str, isi_tup_str, isi_lst_str, tru_tup, isLT_tup, isi_int_tup, isi_bool_tup, isi_str_tup, isi_tup_tup, isi_lst_tup, tru_lst, isLT_lst, isi_int_lst, isi_bool_lst, isi_str_lst, isi_tup_lst, isi_lst_lst, isL_lst, seqW_lst, seqW_tup, seqW_str, seqW_scr, sq2_lst, sq2_tup, inW_sign])
  refine ⟨by decide, a, skillsL, _, rfl, .inl rfl, ha.1, ?_⟩
  cases c3 : isIn skillsL a with
  | false => rw [c3] at q; exact q
  | true =>
    rw [c3] at q
    (simp only [↓dFgt, ↓dVar, ↓dC, ↓dOp, ↓dUn, ↓dI, ↓dI0, ↓dSub, ↓dMul, ↓dDiv, ↓dMod, ↓dPow, ↓dAdd, ↓dNeg, ↓dEq, ↓dNe, ↓dLt, ↓dLe, ↓dGt, ↓dGe, ↓dIsN, ↓dNotN, ↓dTru, ↓dTest, ↓dChain, ↓dAnd, ↓dOr, ↓dNot, ↓dAndV, ↓dOrV, ↓dNotV, ↓dIf, ↓dNil, ↓dCons, ↓dTup, ↓dLst, ↓dLstM, ↓dCB, ↓dLen, ↓dAbs, ↓dMax2, ↓dMin2, ↓dAll, ↓dAny, ↓dListOf, ↓dListOfM, ↓dTupOf, ↓dNext, ↓dSeq, ↓dDrop, ↓dRet, ↓dRetN, ↓dIfS, ↓dBrk, ↓dCnt, ↓dSet, ↓dAsgT, ↓dPar2, ↓tbind, ↓tbinds, ↓Om.set, ↓dCall, ↓dIx, ↓dNo, ↓dPart, ↓dSl, ↓dSlr, ↓dBM, ↓dApp, ↓dExt, ↓dSetIx, ↓dIs, ↓dMinS, ↓dMaxS, ↓dJoin, ↓dFrz, ↓dPut, ↓dFld, ↓dSetF, ↓dInt, ↓dIsLT, ↓dRng1, ↓dRng2, ↓dEnum, ↓dZip, ↓dSeqI, view_c_non, view_c_bl, view_c_int, view_c_str, view_c_tup, view_c_lst, view_c_scr, view_c_dct, view_c_ins, ↓startW, ↓wp, ↓wps, ↓dInKD, ↓dNotInKD, ↓dIxKD, ↓dIn, ↓dNotIn, ↓dDg, List.getElem?_cons_zero, List.getElem?_cons_succ, List.set_cons_zero, List.set_cons_succ, List.map_cons, List.map_nil, List.length_cons, List.length_nil, List.replicate_succ, List.replicate_zero, List.nil_append, List.cons_append, Bool.not_true, Bool.not_false, if_true, wkey_int, wkey_str, atI_0, atI_1, atI_2, atI_3, up_same, if_false, Bool.false_eq_true, Bool.true_eq_false, tru_non, isLT_non, isi_int_non, isi_bool_non, isi_str_non, isi_tup_non, isi_lst_non, tru_bl, isLT_bl, isi_int_bl, isi_bool_bl, isi_str_bl, isi_tup_bl, isi_lst_bl, tru_int, isLT_int, isi_int_int, isi_bool_int, isi_str_int, isi_tup_int, isi_lst_int, tru_str, isLT_str, isi_int_str, isi_bool_str, isi_str_str, isi_tup_str, isi_lst_str, tru_tup, isLT_tup, isi_int_tup, isi_bool_tup, isi_str_tup, isi_tup_tup, isi_lst_tup, tru_lst, isLT_lst, isi_int_lst, isi_bool_lst, isi_str_lst, isi_tup_lst, isi_lst_lst, isL_lst, seqW_lst, seqW_tup, seqW_str, seqW_scr, sq2_lst, sq2_tup, inW_sign])
    exact ⟨b, 0, 9, rfl, hb.1, q⟩
section
variable {P : Program} {w : World} {K : PySem.W.Frag} {mg : Str → Option Value} {base : Heap} {c_Ground : Addr}
theorem ok_law_is_skill {f : Addr} {fd : FuncData} (F : Fun K "_law_is_skill" "_law_is_skill" s_law_is_skill f fd) (T : Txt K w mg c_Ground) (C_law_is_in : CalD P w K mg base 1 "_law_is_in" sp_law_is_in) (C_law_between : CalD P w K mg base 1 "_law_between" sp_law_between) : FnOk P w K mg base CX0 2 f fd ["_law_given"] (uSp K (sp_law_is_skill)) :=
  Fun.okF F sc_law_is_skill (td_law_is_skill) (fun cdv A outer s H E hr =>
    (dss_cons (ds_if (PW.pt (dw_or (dt_not (dt_tru (de_isi .tup (dv 0) T.z_isinstance T.z_tuple))) (dw_or1 (dt_cmp (oc_ne hr) (de_callB cd_len T.z_len (da_cons (dv 0) da_nil)) de_int)))) (dss_one (ds_ret de_bl)) dss_nil)
    (dss_one (ds_ret (de_and (de_call C_law_is_in hr (da_cons (de_ix (dv 0) de_int) (da_cons (de_lst (da_cons de_str (da_cons de_str (da_cons de_str da_nil)))) da_nil))) (de_one (de_call C_law_between hr (da_cons (de_ix (dv 0) de_int) (da_cons de_int (da_cons de_int da_nil)))))))))) (fun ws S Q E h => len_law_is_skill h) (hd_law_is_skill)
end
/-! ### _law_is_hand -/
abbrev s_law_is_hand : Stmt := topS 57
abbrev N_law_is_hand : List Str := ["_law_stations", "_law_given", "_law_one"]
theorem sc_law_is_hand : FnScope N_law_is_hand ["_law_stations", "_law_given"] (defScope s_law_is_hand) := ⟨rfl, rfl, rfl, by decide +kernel, rfl, by decide +kernel, by decide +kernel⟩
theorem st_law_is_hand {x0 x1 : W} : startW N_law_is_hand [x0, x1] = [some x0, some x1, none] := rfl
def td_law_is_hand : DS' :=
    (dSeq (dIfS (dOr (dNot (dTru (dUn (dIs .tup) (dVar 1)))) (dOr (dTest (dOp dNe (dCB dLen (dCons (dVar 1) dNil)) (dC (.int 4)))) (dNot (dTru (dCall sp_law_is_name (dCons (dOp dIx (dVar 1) (dC (.int 0))) dNil)))))) (dRet (dC (.bl false))) dNext)
    (dSeq (dIfS (dOr (dNot (dTru (dCall sp_law_is_in (dCons (dOp dIx (dVar 1) (dC (.int 1))) (dCons (dVar 0) dNil))))) (dNot (dTru (dCall sp_law_between (dCons (dOp dIx (dVar 1) (dC (.int 2))) (dCons (dC (.int 0)) (dCons (dC (.int 3)) dNil))))))) (dRet (dC (.bl false))) dNext)
    (dRet (dAndV (dUn (dIs .tup) (dOp dIx (dVar 1) (dC (.int 3)))) (dAndV (dOp dLe (dCB dLen (dCons (dOp dIx (dVar 1) (dC (.int 3))) dNil)) (dC (.int 5))) (dCB dAll (dCons (dLc (dSeqI (dOp dIx (dVar 1) (dC (.int 3)))) (.nm 2) dYes (dCall sp_law_is_skill (dCons (dVar 2) dNil)) [2]) dNil)))))))
def sp_law_is_hand : DSp := fun ws S Q _ => ∃ ss x L, ws = [stationsW ss, x] ∧ Tk L 10 x ∧ Q (.bl (handB ss x)) S
theorem len_law_is_hand {ws S Q E} (h : sp_law_is_hand ws S Q E) : ws.length = 2 := by obtain ⟨ss, x, L, rfl, _⟩ := h; rfl
def nm4 : W → Bool
  | .tup [a, _, _, _] => isName a
  | _ => false
theorem nm4_inv {x : W} (h : nm4 x = true) : ∃ a b c d, x = .tup [a, b, c, d] ∧ isName a = true := by
  unfold nm4 at h
  split at h
  · exact ⟨_, _, _, _, rfl, h⟩
  · cases h
theorem nm4_no {ss : List Str} {x : W} (h : nm4 x = false) : handB ss x = false := by
  unfold handB
  split
  · rename_i a b c d
    have : isName a = false := h
    rw [this]; rfl
  · rfl
theorem hd_law_is_hand (ws S Q E) (h : sp_law_is_hand ws S Q E) : td_law_is_hand { nx := fun _ S' => frzQ Q .non S', rt := frzQ Q } ⟨startW N_law_is_hand ws, XF⟩ S := by
  obtain ⟨ss, x, L, rfl, hx, q⟩ := h
  replace q := frzQ.mk q
  simp only [st_law_is_hand, td_law_is_hand]
  refine seq_go ?_
  refine if_b (!nm4 x) (fun Q h => ?_) (fun e => ?_) (fun e => ?_)
  · have hp := hx.p
    cases x with
    | tup ys =>
      (simp only [↓dFgt, ↓dVar, ↓dC, ↓dOp, ↓dUn, ↓dI, ↓dI0, ↓dSub, ↓dMul, ↓dDiv, ↓dMod, ↓dPow, ↓dAdd, ↓dNeg, ↓dEq, ↓dNe, ↓dLt, ↓dLe, ↓dGt, ↓dGe, ↓dIsN, ↓dNotN, ↓dTru, ↓dTest, ↓dChain, ↓dAnd, ↓dOr, ↓dNot, ↓dAndV, ↓dOrV, ↓dNotV, ↓dIf, ↓dNil, ↓dCons, ↓dTup, ↓dLst, ↓dLstM, ↓dCB, ↓dLen, ↓dAbs, ↓dMax2, ↓dMin2, ↓dAll, ↓dAny, ↓dListOf, ↓dListOfM, ↓dTupOf, ↓dNext, ↓dSeq, ↓dDrop, ↓dRet, ↓dRetN, ↓dIfS, ↓dBrk, ↓dCnt, ↓dSet, ↓dAsgT, ↓dPar2, ↓tbind, ↓tbinds, ↓Om.set, ↓dCall, ↓dIx, ↓dNo, ↓dPart, ↓dSl, ↓dSlr, ↓dBM, ↓dApp, ↓dExt, ↓dSetIx, ↓dIs, ↓dMinS, ↓dMaxS, ↓dJoin, ↓dFrz, ↓dPut, ↓dFld, ↓dSetF, ↓dInt, ↓dIsLT, ↓dRng1, ↓dRng2, ↓dEnum, ↓dZip, ↓dSeqI, view_c_non, view_c_bl, view_c_int, view_c_str, view_c_tup, view_c_lst, view_c_scr, view_c_dct, view_c_ins, ↓startW, ↓wp, ↓wps, ↓dInKD, ↓dNotInKD, ↓dIxKD, ↓dIn, ↓dNotIn, ↓dDg, List.getElem?_cons_zero, List.getElem?_cons_succ, List.set_cons_zero, List.set_cons_succ, List.map_cons, List.map_nil, List.length_cons, List.length_nil, List.replicate_succ, List.replicate_zero, List.nil_append, List.cons_append, Bool.not_true, Bool.not_false, if_true, wkey_int, wkey_str, atI_0, atI_1, atI_2, atI_3, up_same, if_false, Bool.false_eq_true, Bool.true_eq_false, tru_non, isLT_non, isi_int_non, isi_bool_non, isi_str_non, isi_tup_non, isi_lst_non, tru_bl, isLT_bl, isi_int_bl, isi_bool_bl, isi_str_bl, isi_tup_bl, isi_lst_bl, tru_int, isLT_int, isi_int_int, isi_bool_int, isi_str_int, isi_tup_int, isi_lst_int, tru_str, isLT_str, isi_int_str, isi_bool_str, isi_str_str, isi_tup_str, isi_lst_str, tru_tup, isLT_tup, isi_int_tup, isi_bool_tup, isi_str_tup, isi_tup_tup, isi_lst_tup, tru_lst, isLT_lst, isi_int_lst, isi_bool_lst, isi_str_lst, isi_tup_lst, isi_lst_lst, isL_lst, seqW_lst, seqW_tup, seqW_str, seqW_scr, sq2_lst, sq2_tup, inW_sign])
      refine ⟨rfl, rfl, ?_⟩
      simp only [weq_int]
      refine bl_cases (fun c => ?_) (fun c => ?_)
      · have hl : ys.length ≠ 4 := fun e => by rw [e] at c; cases c
        have e2 : nm4 (.tup ys) = false := by
          unfold nm4
          split
          · rename_i e3; cases e3; exact absurd rfl hl
          · rfl
        rw [e2] at h
        exact h
      · have hl : ys.length = 4 := by
          have := of_decide_eq_true (by simpa using c)
          omega
        obtain ⟨a, b, cc, d, rfl⟩ := tup4 hl
        (simp only [↓dFgt, ↓dVar, ↓dC, ↓dOp, ↓dUn, ↓dI, ↓dI0, ↓dSub, ↓dMul, ↓dDiv, ↓dMod, ↓dPow, ↓dAdd, ↓dNeg, ↓dEq, ↓dNe, ↓dLt, ↓dLe, ↓dGt, ↓dGe, ↓dIsN, ↓dNotN, ↓dTru, ↓dTest, ↓dChain, ↓dAnd, ↓dOr, ↓dNot, ↓dAndV, ↓dOrV, ↓dNotV, ↓dIf, ↓dNil, ↓dCons, ↓dTup, ↓dLst, ↓dLstM, ↓dCB, ↓dLen, ↓dAbs, ↓dMax2, ↓dMin2, ↓dAll, ↓dAny, ↓dListOf, ↓dListOfM, ↓dTupOf, ↓dNext, ↓dSeq, ↓dDrop, ↓dRet, ↓dRetN, ↓dIfS, ↓dBrk, ↓dCnt, ↓dSet, ↓dAsgT, ↓dPar2, ↓tbind, ↓tbinds, ↓Om.set, ↓dCall, ↓dIx, ↓dNo, ↓dPart, ↓dSl, ↓dSlr, ↓dBM, ↓dApp, ↓dExt, ↓dSetIx, ↓dIs, ↓dMinS, ↓dMaxS, ↓dJoin, ↓dFrz, ↓dPut, ↓dFld, ↓dSetF, ↓dInt, ↓dIsLT, ↓dRng1, ↓dRng2, ↓dEnum, ↓dZip, ↓dSeqI, view_c_non, view_c_bl, view_c_int, view_c_str, view_c_tup, view_c_lst, view_c_scr, view_c_dct, view_c_ins, ↓startW, ↓wp, ↓wps, ↓dInKD, ↓dNotInKD, ↓dIxKD, ↓dIn, ↓dNotIn, ↓dDg, List.getElem?_cons_zero, List.getElem?_cons_succ, List.set_cons_zero, List.set_cons_succ, List.map_cons, List.map_nil, List.length_cons, List.length_nil, List.replicate_succ, List.replicate_zero, List.nil_append, List.cons_append, Bool.not_true, Bool.not_false, if_true, wkey_int, wkey_str, atI_0, atI_1, atI_2, atI_3, up_same, if_false, Bool.false_eq_true, Bool.true_eq_false, tru_non, isLT_non, isi_int_non, isi_bool_non, isi_str_non, isi_tup_non, isi_lst_non, tru_bl, isLT_bl, isi_int_bl, isi_bool_bl, isi_str_bl, isi_tup_bl, isi_lst_bl, tru_int, isLT_int, isi_int_int, isi_bool_int, isi_str_int, isi_tup_int, isi_lst_int, tru_str, isLT_str, isi_int_str, isi_bool_str, isi_str_str, isi_tup_str, isi_lst_str, tru_tup, isLT_tup, isi_int_tup, isi_bool_tup, isi_str_tup, isi_tup_tup, isi_lst_tup, tru_lst, isLT_lst, isi_int_lst, isi_bool_lst, isi_str_lst, isi_tup_lst, isi_lst_lst, isL_lst, seqW_lst, seqW_tup, seqW_str, seqW_scr, sq2_lst, sq2_tup, inW_sign])
        have ha : Tk L 9 a := hx.2 a (by simp)
        exact ⟨a, rfl, ha.p, h⟩
    | _ => first | ((simp only [↓dFgt, ↓dVar, ↓dC, ↓dOp, ↓dUn, ↓dI, ↓dI0, ↓dSub, ↓dMul, ↓dDiv, ↓dMod, ↓dPow, ↓dAdd, ↓dNeg, ↓dEq, ↓dNe, ↓dLt, ↓dLe, ↓dGt, ↓dGe, ↓dIsN, ↓dNotN, ↓dTru, ↓dTest, ↓dChain, ↓dAnd, ↓dOr, ↓dNot, ↓dAndV, ↓dOrV, ↓dNotV, ↓dIf, ↓dNil, ↓dCons, ↓dTup, ↓dLst, ↓dLstM, ↓dCB, ↓dLen, ↓dAbs, ↓dMax2, ↓dMin2, ↓dAll, ↓dAny, ↓dListOf, ↓dListOfM, ↓dTupOf, ↓dNext, ↓dSeq, ↓dDrop, ↓dRet, ↓dRetN, ↓dIfS, ↓dBrk, ↓dCnt, ↓dSet, ↓dAsgT, ↓dPar2, ↓tbind, ↓tbinds, ↓Om.set, ↓dCall, ↓dIx, ↓dNo, ↓dPart, ↓dSl, ↓dSlr, ↓dBM, ↓dApp, ↓dExt, ↓dSetIx, ↓dIs, ↓dMinS, ↓dMaxS, ↓dJoin, ↓dFrz, ↓dPut, ↓dFld, ↓dSetF, ↓dInt, ↓dIsLT, ↓dRng1, ↓dRng2, ↓dEnum, ↓dZip, ↓dSeqI, view_c_non, view_c_bl, view_c_int, view_c_str, view_c_tup, view_c_lst, view_c_scr, view_c_dct, view_c_ins, ↓startW, ↓wp, ↓wps, ↓dInKD, ↓dNotInKD, ↓dIxKD, ↓dIn, ↓dNotIn, ↓dDg, List.getElem?_cons_zero, List.getElem?_cons_succ, List.set_cons_zero, List.set_cons_succ, List.map_cons, List.map_nil, List.length_cons, List.length_nil, List.replicate_succ, List.replicate_zero, List.nil_append, List.cons_append, Bool.not_true, Bool.not_false, if_true, wkey_int, wkey_str, atI_0, atI_1, atI_2, atI_3, up_same, if_false, Bool.false_eq_true, Bool.true_eq_false, tru_non, isLT_non, isi_int_non, isi_bool_non, isi_str_non, isi_tup_non, isi_lst_non, tru_bl, isLT_bl, isi_int_bl, isi_bool_bl, isi_str_bl, isi_tup_bl, isi_lst_bl, tru_int, isLT_int, isi_int_int, isi_bool_int, isi_str_int, isi_tup_int, isi_lst_int, tru_str, isLT_str, isi_int_str, isi_bool_str, isi_str_str, isi_tup_str, isi_lst_str, tru_tup, isLT_tup, isi_int_tup, isi_bool_tup, isi_str_tup, isi_tup_tup, isi_lst_tup, tru_lst, isLT_lst, isi_int_lst, isi_bool_lst, isi_str_lst, isi_tup_lst, isi_lst_lst, isL_lst, seqW_lst, seqW_tup, seqW_str, seqW_scr, sq2_lst, sq2_tup, inW_sign]); exact h) | cases hp
  · refine ret_go ?_
    rw [nm4_no (by simpa using e)] at q
    exact q
  obtain ⟨a, b, c, d, rfl, hn⟩ := nm4_inv (by simpa using e)
  clear e
  have hb : Tk L 9 b := hx.2 b (by simp)
  have hc : Tk L 9 c := hx.2 c (by simp)
  have hd : Tk L 9 d := hx.2 d (by simp)
  simp only [handB, hn, Bool.true_and] at q
  (((try unfold dNext); dsimp only; refine seq_go ?_))
  refine if_b (!isIn ss b || !within 0 3 c) (fun Q h => or_b (a := !isIn ss b) (b := !within 0 3 c) (fun Q h => ?_) (fun _ Q h => ?_) h) (fun e => ?_) (fun e => ?_)
  · (simp only [↓dFgt, ↓dVar, ↓dC, ↓dOp, ↓dUn, ↓dI, ↓dI0, ↓dSub, ↓dMul, ↓dDiv, ↓dMod, ↓dPow, ↓dAdd, ↓dNeg, ↓dEq, ↓dNe, ↓dLt, ↓dLe, ↓dGt, ↓dGe, ↓dIsN, ↓dNotN, ↓dTru, ↓dTest, ↓dChain, ↓dAnd, ↓dOr, ↓dNot, ↓dAndV, ↓dOrV, ↓dNotV, ↓dIf, ↓dNil, ↓dCons, ↓dTup, ↓dLst, ↓dLstM, ↓dCB, ↓dLen, ↓dAbs, ↓dMax2, ↓dMin2, ↓dAll, ↓dAny, ↓dListOf, ↓dListOfM, ↓dTupOf, ↓dNext, ↓dSeq, ↓dDrop, ↓dRet, ↓dRetN, ↓dIfS, ↓dBrk, ↓dCnt, ↓dSet, ↓dAsgT, ↓dPar2, ↓tbind, ↓tbinds, ↓Om.set, ↓dCall, ↓dIx, ↓dNo, ↓dPart, ↓dSl, ↓dSlr, ↓dBM, ↓dApp, ↓dExt, ↓dSetIx, ↓dIs, ↓dMinS, ↓dMaxS, ↓dJoin, ↓dFrz, ↓dPut, ↓dFld, ↓dSetF, ↓dInt, ↓dIsLT, ↓dRng1, ↓dRng2, ↓dEnum, ↓dZip, ↓dSeqI, view_c_non, view_c_bl, view_c_int, view_c_str, view_c_tup, view_c_lst, view_c_scr, view_c_dct, view_c_ins, ↓startW, ↓wp, ↓wps, ↓dInKD, ↓dNotInKD, ↓dIxKD, ↓dIn, ↓dNotIn, ↓dDg, List.getElem?_cons_zero, List.getElem?_cons_succ, List.set_cons_zero, List.set_cons_succ, List.map_cons, List.map_nil, List.length_cons, List.length_nil, List.replicate_succ, List.replicate_zero, List.nil_append, List.cons_append, Bool.not_true, Bool.not_false, if_true, wkey_int, wkey_str, atI_0, atI_1, atI_2, atI_3, up_same, if_false, Bool.false_eq_true, Bool.true_eq_false, tru_non, isLT_non, isi_int_non, isi_bool_non, isi_str_non, isi_tup_non, isi_lst_non, tru_bl, isLT_bl, isi_int_bl, isi_bool_bl, isi_str_bl, isi_tup_bl, isi_lst_bl, tru_int, isLT_int, isi_int_int, isi_bool_int, isi_str_int, isi_tup_int, isi_lst_int, tru_str, isLT_str, isi_int_str, isi_bool_str, isi_str_str, isi_tup_str, isi_lst_str, tru_tup, isLT_tup, isi_int_tup, isi_bool_tup, isi_str_tup, isi_tup_tup, isi_lst_tup, tru_lst, isLT_lst, isi_int_lst, isi_bool_lst, isi_str_lst, isi_tup_lst, isi_lst_lst, isL_lst, seqW_lst, seqW_tup, seqW_str, seqW_scr, sq2_lst, sq2_tup, inW_sign])
    exact ⟨b, ss, _, rfl, .inr rfl, hb.p, h⟩
  · (simp only [↓dFgt, ↓dVar, ↓dC, ↓dOp, ↓dUn, ↓dI, ↓dI0, ↓dSub, ↓dMul, ↓dDiv, ↓dMod, ↓dPow, ↓dAdd, ↓dNeg, ↓dEq, ↓dNe, ↓dLt, ↓dLe, ↓dGt, ↓dGe, ↓dIsN, ↓dNotN, ↓dTru, ↓dTest, ↓dChain, ↓dAnd, ↓dOr, ↓dNot, ↓dAndV, ↓dOrV, ↓dNotV, ↓dIf, ↓dNil, ↓dCons, ↓dTup, ↓dLst, ↓dLstM, ↓dCB, ↓dLen, ↓dAbs, ↓dMax2, ↓dMin2, ↓dAll, ↓dAny, ↓dListOf, ↓dListOfM, ↓dTupOf, ↓dNext, ↓dSeq, ↓dDrop, ↓dRet, ↓dRetN, ↓dIfS, ↓dBrk, ↓dCnt, ↓dSet, ↓dAsgT, ↓dPar2, ↓tbind, ↓tbinds, ↓Om.set, ↓dCall, ↓dIx, ↓dNo, ↓dPart, ↓dSl, ↓dSlr, ↓dBM, ↓dApp, ↓dExt, ↓dSetIx, ↓dIs, ↓dMinS, ↓dMaxS, ↓dJoin, ↓dFrz, ↓dPut, ↓dFld, ↓dSetF, ↓dInt, ↓dIsLT, ↓dRng1, ↓dRng2, ↓dEnum, ↓dZip, ↓dSeqI, view_c_non, view_c_bl, view_c_int, view_c_str, view_c_tup, view_c_lst, view_c_scr, view_c_dct, view_c_ins, ↓startW, ↓wp, ↓wps, ↓dInKD, ↓dNotInKD, ↓dIxKD, ↓dIn, ↓dNotIn, ↓dDg, List.getElem?_cons_zero, List.getElem?_cons_succ, List.set_cons_zero, List.set_cons_succ, List.map_cons, List.map_nil, List.length_cons, List.length_nil, List.replicate_succ, List.replicate_zero, List.nil_append, List.cons_append, Bool.not_true, Bool.not_false, if_true, wkey_int, wkey_str, atI_0, atI_1, atI_2, atI_3, up_same, if_false, Bool.false_eq_true, Bool.true_eq_false, tru_non, isLT_non, isi_int_non, isi_bool_non, isi_str_non, isi_tup_non, isi_lst_non, tru_bl, isLT_bl, isi_int_bl, isi_bool_bl, isi_str_bl, isi_tup_bl, isi_lst_bl, tru_int, isLT_int, isi_int_int, isi_bool_int, isi_str_int, isi_tup_int, isi_lst_int, tru_str, isLT_str, isi_int_str, isi_bool_str, isi_str_str, isi_tup_str, isi_lst_str, tru_tup, isLT_tup, isi_int_tup, isi_bool_tup, isi_str_tup, isi_tup_tup, isi_lst_tup, tru_lst, isLT_lst, isi_int_lst, isi_bool_lst, isi_str_lst, isi_tup_lst, isi_lst_lst, isL_lst, seqW_lst, seqW_tup, seqW_str, seqW_scr, sq2_lst, sq2_tup, inW_sign])
    exact ⟨c, 0, 3, rfl, hc.p, h⟩
  · have e2 : (isIn ss b && (within 0 3 c && skillsB d)) = false := by
      cases h1 : isIn ss b with
      | false => rfl
      | true =>
        rw [h1] at e
        cases h2 : within 0 3 c with
        | false => rfl
        | true => rw [h2] at e; cases e
    rw [e2] at q
    exact q
  rw [Bool.or_eq_false_iff, Bool.not_eq_false', Bool.not_eq_false'] at e
  rw [e.1, e.2] at q
  simp only [Bool.true_and] at q
  (((try unfold dNext); dsimp only))
  refine ret_go ?_
  cases d with
  | tup ys =>
    (simp only [↓dFgt, ↓dVar, ↓dC, ↓dOp, ↓dUn, ↓dI, ↓dI0, ↓dSub, ↓dMul, ↓dDiv, ↓dMod, ↓dPow, ↓dAdd, ↓dNeg, ↓dEq, ↓dNe, ↓dLt, ↓dLe, ↓dGt, ↓dGe, ↓dIsN, ↓dNotN, ↓dTru, ↓dTest, ↓dChain, ↓dAnd, ↓dOr, ↓dNot, ↓dAndV, ↓dOrV, ↓dNotV, ↓dIf, ↓dNil, ↓dCons, ↓dTup, ↓dLst, ↓dLstM, ↓dCB, ↓dLen, ↓dAbs, ↓dMax2, ↓dMin2, ↓dAll, ↓dAny, ↓dListOf, ↓dListOfM, ↓dTupOf, ↓dNext, ↓dSeq, ↓dDrop, ↓dRet, ↓dRetN, ↓dIfS, ↓dBrk, ↓dCnt, ↓dSet, ↓dAsgT, ↓dPar2, ↓tbind, ↓tbinds, ↓Om.set, ↓dCall, ↓dIx, ↓dNo, ↓dPart, ↓dSl, ↓dSlr, ↓dBM, ↓dApp, ↓dExt, ↓dSetIx, ↓dIs, ↓dMinS, ↓dMaxS, ↓dJoin, ↓dFrz, ↓dPut, ↓dFld, ↓dSetF, ↓dInt, ↓dIsLT, ↓dRng1, ↓dRng2, ↓dEnum, ↓dZip, ↓dSeqI, view_c_non, view_c_bl, view_c_int, view_c_str, view_c_tup, view_c_lst, view_c_scr, view_c_dct, view_c_ins, ↓startW, ↓wp, ↓wps, ↓dInKD, ↓dNotInKD, ↓dIxKD, ↓dIn, ↓dNotIn, ↓dDg, List.getElem?_cons_zero, List.getElem?_cons_succ, List.set_cons_zero, List.set_cons_succ, List.map_cons, List.map_nil, List.length_cons, List.length_nil, List.replicate_succ, List.replicate_zero, List.nil_append, List.cons_append, Bool.not_true, Bool.not_false, if_true, wkey_int, wkey_str, atI_0, atI_1, atI_2, atI_3, up_same, if_false, Bool.false_eq_true, Bool.true_eq_false, tru_non, isLT_non, isi_int_non, isi_bool_non, isi_str_non, isi_tup_non, isi_lst_non, tru_bl, isLT_bl, isi_int_bl, isi_bool_bl, isi_str_bl, isi_tup_bl, isi_lst_bl, tru_int, isLT_int, isi_int_int, isi_bool_int, isi_str_int, isi_tup_int, isi_lst_int, tru_str, isLT_str, isi_int_str, isi_bool_str, isi_str_str, isi_tup_str, isi_lst_str, tru_tup, isLT_tup, isi_int_tup, isi_bool_tup, isi_str_tup, isi_tup_tup, isi_lst_tup, tru_lst, isLT_lst, isi_int_lst, isi_bool_lst, isi_str_lst, isi_tup_lst, isi_lst_lst, isL_lst, seqW_lst, seqW_tup, seqW_str, seqW_scr, sq2_lst, sq2_tup, inW_sign])
    simp only [skillsB] at q
    cases c5 : decide ((ys.length : Int) ≤ 5) with
    | false =>
      have : decide (ys.length ≤ 5) = false := decide_eq_false (fun h => by have := of_decide_eq_false c5; omega)
      rw [this] at q
      exact q
    | true =>
      have hl : ys.length ≤ 5 := by have := of_decide_eq_true c5; omega
      rw [decide_eq_true hl] at q
      (simp only [↓dFgt, ↓dVar, ↓dC, ↓dOp, ↓dUn, ↓dI, ↓dI0, ↓dSub, ↓dMul, ↓dDiv, ↓dMod, ↓dPow, ↓dAdd, ↓dNeg, ↓dEq, ↓dNe, ↓dLt, ↓dLe, ↓dGt, ↓dGe, ↓dIsN, ↓dNotN, ↓dTru, ↓dTest, ↓dChain, ↓dAnd, ↓dOr, ↓dNot, ↓dAndV, ↓dOrV, ↓dNotV, ↓dIf, ↓dNil, ↓dCons, ↓dTup, ↓dLst, ↓dLstM, ↓dCB, ↓dLen, ↓dAbs, ↓dMax2, ↓dMin2, ↓dAll, ↓dAny, ↓dListOf, ↓dListOfM, ↓dTupOf, ↓dNext, ↓dSeq, ↓dDrop, ↓dRet, ↓dRetN, ↓dIfS, ↓dBrk, ↓dCnt, ↓dSet, ↓dAsgT, ↓dPar2, ↓tbind, ↓tbinds, ↓Om.set, ↓dCall, ↓dIx, ↓dNo, ↓dPart, ↓dSl, ↓dSlr, ↓dBM, ↓dApp, ↓dExt, ↓dSetIx, ↓dIs, ↓dMinS, ↓dMaxS, ↓dJoin, ↓dFrz, ↓dPut, ↓dFld, ↓dSetF, ↓dInt, ↓dIsLT, ↓dRng1, ↓dRng2, ↓dEnum, ↓dZip, ↓dSeqI, view_c_non, view_c_bl, view_c_int, view_c_str, view_c_tup, view_c_lst, view_c_scr, view_c_dct, view_c_ins, ↓startW, ↓wp, ↓wps, ↓dInKD, ↓dNotInKD, ↓dIxKD, ↓dIn, ↓dNotIn, ↓dDg, List.getElem?_cons_zero, List.getElem?_cons_succ, List.set_cons_zero, List.set_cons_succ, List.map_cons, List.map_nil, List.length_cons, List.length_nil, List.replicate_succ, List.replicate_zero, List.nil_append, List.cons_append, Bool.not_true, Bool.not_false, if_true, wkey_int, wkey_str, atI_0, atI_1, atI_2, atI_3, up_same, if_false, Bool.false_eq_true, Bool.true_eq_false, tru_non, isLT_non, isi_int_non, isi_bool_non, isi_str_non, isi_tup_non, isi_lst_non, tru_bl, isLT_bl, isi_int_bl, isi_bool_bl, isi_str_bl, isi_tup_bl, isi_lst_bl, tru_int, isLT_int, isi_int_int, isi_bool_int, isi_str_int, isi_tup_int, isi_lst_int, tru_str, isLT_str, isi_int_str, isi_bool_str, isi_str_str, isi_tup_str, isi_lst_str, tru_tup, isLT_tup, isi_int_tup, isi_bool_tup, isi_str_tup, isi_tup_tup, isi_lst_tup, tru_lst, isLT_lst, isi_int_lst, isi_bool_lst, isi_str_lst, isi_tup_lst, isi_lst_lst, isL_lst, seqW_lst, seqW_tup, seqW_str, seqW_scr, sq2_lst, sq2_tup, inW_sign])
      refine lcMs (w := .tup ys) (xs := ys) (fun Q h => by (simp only [↓dFgt, ↓dVar, ↓dC, ↓dOp, ↓dUn, ↓dI, ↓dI0, ↓dSub, ↓dMul, ↓dDiv, ↓dMod, ↓dPow, ↓dAdd, ↓dNeg, ↓dEq, ↓dNe, ↓dLt, ↓dLe, ↓dGt, ↓dGe, ↓dIsN, ↓dNotN, ↓dTru, ↓dTest, ↓dChain, ↓dAnd, ↓dOr, ↓dNot, ↓dAndV, ↓dOrV, ↓dNotV, ↓dIf, ↓dNil, ↓dCons, ↓dTup, ↓dLst, ↓dLstM, ↓dCB, ↓dLen, ↓dAbs, ↓dMax2, ↓dMin2, ↓dAll, ↓dAny, ↓dListOf, ↓dListOfM, ↓dTupOf, ↓dNext, ↓dSeq, ↓dDrop, ↓dRet, ↓dRetN, ↓dIfS, ↓dBrk, ↓dCnt, ↓dSet, ↓dAsgT, ↓dPar2, ↓tbind, ↓tbinds, ↓Om.set, ↓dCall, ↓dIx, ↓dNo, ↓dPart, ↓dSl, ↓dSlr, ↓dBM, ↓dApp, ↓dExt, ↓dSetIx, ↓dIs, ↓dMinS, ↓dMaxS, ↓dJoin, ↓dFrz, ↓dPut, ↓dFld, ↓dSetF, ↓dInt, ↓dIsLT, ↓dRng1, ↓dRng2, ↓dEnum, ↓dZip, ↓dSeqI, view_c_non, view_c_bl, view_c_int, view_c_str, view_c_tup, view_c_lst, view_c_scr, view_c_dct, view_c_ins, ↓startW, ↓wp, ↓wps, ↓dInKD, ↓dNotInKD, ↓dIxKD, ↓dIn, ↓dNotIn, ↓dDg, List.getElem?_cons_zero, List.getElem?_cons_succ, List.set_cons_zero, List.set_cons_succ, List.map_cons, List.map_nil, List.length_cons, List.length_nil, List.replicate_succ, List.replicate_zero, List.nil_append, List.cons_append, Bool.not_true, Bool.not_false, if_true, wkey_int, wkey_str, atI_0, atI_1, atI_2, atI_3, up_same, if_false, Bool.false_eq_true, Bool.true_eq_false, tru_non, isLT_non, isi_int_non, isi_bool_non, isi_str_non, isi_tup_non, isi_lst_non, tru_bl, isLT_bl, isi_int_bl, isi_bool_bl, isi_str_bl, isi_tup_bl, isi_lst_bl, tru_int, isLT_int, isi_int_int, isi_bool_int, isi_str_int, isi_tup_int, isi_lst_int, tru_str, isLT_str, isi_int_str, isi_bool_str, isi_str_str, isi_tup_str, isi_lst_str, tru_tup, isLT_tup, isi_int_tup, isi_bool_tup, isi_str_tup, isi_tup_tup, isi_lst_tup, tru_lst, isLT_lst, isi_int_lst, isi_bool_lst, isi_str_lst, isi_tup_lst, isi_lst_lst, isL_lst, seqW_lst, seqW_tup, seqW_str, seqW_scr, sq2_lst, sq2_tup, inW_sign]); exact h) rfl (fun w => .bl (skillB w)) (by omega) (fun _ _ _ => rfl) (fun w hw => ⟨_, rfl, fun p acc hp Qe h => ?_⟩) ?_
      · (simp only [↓dFgt, ↓dVar, ↓dC, ↓dOp, ↓dUn, ↓dI, ↓dI0, ↓dSub, ↓dMul, ↓dDiv, ↓dMod, ↓dPow, ↓dAdd, ↓dNeg, ↓dEq, ↓dNe, ↓dLt, ↓dLe, ↓dGt, ↓dGe, ↓dIsN, ↓dNotN, ↓dTru, ↓dTest, ↓dChain, ↓dAnd, ↓dOr, ↓dNot, ↓dAndV, ↓dOrV, ↓dNotV, ↓dIf, ↓dNil, ↓dCons, ↓dTup, ↓dLst, ↓dLstM, ↓dCB, ↓dLen, ↓dAbs, ↓dMax2, ↓dMin2, ↓dAll, ↓dAny, ↓dListOf, ↓dListOfM, ↓dTupOf, ↓dNext, ↓dSeq, ↓dDrop, ↓dRet, ↓dRetN, ↓dIfS, ↓dBrk, ↓dCnt, ↓dSet, ↓dAsgT, ↓dPar2, ↓tbind, ↓tbinds, ↓Om.set, ↓dCall, ↓dIx, ↓dNo, ↓dPart, ↓dSl, ↓dSlr, ↓dBM, ↓dApp, ↓dExt, ↓dSetIx, ↓dIs, ↓dMinS, ↓dMaxS, ↓dJoin, ↓dFrz, ↓dPut, ↓dFld, ↓dSetF, ↓dInt, ↓dIsLT, ↓dRng1, ↓dRng2, ↓dEnum, ↓dZip, ↓dSeqI, view_c_non, view_c_bl, view_c_int, view_c_str, view_c_tup, view_c_lst, view_c_scr, view_c_dct, view_c_ins, ↓startW, ↓wp, ↓wps, ↓dInKD, ↓dNotInKD, ↓dIxKD, ↓dIn, ↓dNotIn, ↓dDg, List.getElem?_cons_zero, List.getElem?_cons_succ, List.set_cons_zero, List.set_cons_succ, List.map_cons, List.map_nil, List.length_cons, List.length_nil, List.replicate_succ, List.replicate_zero, List.nil_append, List.cons_append, Bool.not_true, Bool.not_false, if_true, wkey_int, wkey_str, atI_0, atI_1, atI_2, atI_3, up_same, if_false, Bool.false_eq_true, Bool.true_eq_false, tru_non, isLT_non, isi_int_non, isi_bool_non, isi_str_non, isi_tup_non, isi_lst_non, tru_bl, isLT_bl, isi_int_bl, isi_bool_bl, isi_str_bl, isi_tup_bl, isi_lst_bl, tru_int, isLT_int, isi_int_int, isi_bool_int, isi_str_int, isi_tup_int, isi_lst_int, tru_str, isLT_str, isi_int_str, isi_bool_str, isi_str_str, isi_tup_str, isi_lst_str, tru_tup, isLT_tup, isi_int_tup, isi_bool_tup, isi_str_tup, isi_tup_tup, isi_lst_tup, tru_lst, isLT_lst, isi_int_lst, isi_bool_lst, isi_str_lst, isi_tup_lst, isi_lst_lst, isL_lst, seqW_lst, seqW_tup, seqW_str, seqW_scr, sq2_lst, sq2_tup, inW_sign])
        exact ⟨w, rfl, (hd.2 w hw).thg (by decide), h⟩
      (simp only [↓dFgt, ↓dVar, ↓dC, ↓dOp, ↓dUn, ↓dI, ↓dI0, ↓dSub, ↓dMul, ↓dDiv, ↓dMod, ↓dPow, ↓dAdd, ↓dNeg, ↓dEq, ↓dNe, ↓dLt, ↓dLe, ↓dGt, ↓dGe, ↓dIsN, ↓dNotN, ↓dTru, ↓dTest, ↓dChain, ↓dAnd, ↓dOr, ↓dNot, ↓dAndV, ↓dOrV, ↓dNotV, ↓dIf, ↓dNil, ↓dCons, ↓dTup, ↓dLst, ↓dLstM, ↓dCB, ↓dLen, ↓dAbs, ↓dMax2, ↓dMin2, ↓dAll, ↓dAny, ↓dListOf, ↓dListOfM, ↓dTupOf, ↓dNext, ↓dSeq, ↓dDrop, ↓dRet, ↓dRetN, ↓dIfS, ↓dBrk, ↓dCnt, ↓dSet, ↓dAsgT, ↓dPar2, ↓tbind, ↓tbinds, ↓Om.set, ↓dCall, ↓dIx, ↓dNo, ↓dPart, ↓dSl, ↓dSlr, ↓dBM, ↓dApp, ↓dExt, ↓dSetIx, ↓dIs, ↓dMinS, ↓dMaxS, ↓dJoin, ↓dFrz, ↓dPut, ↓dFld, ↓dSetF, ↓dInt, ↓dIsLT, ↓dRng1, ↓dRng2, ↓dEnum, ↓dZip, ↓dSeqI, view_c_non, view_c_bl, view_c_int, view_c_str, view_c_tup, view_c_lst, view_c_scr, view_c_dct, view_c_ins, ↓startW, ↓wp, ↓wps, ↓dInKD, ↓dNotInKD, ↓dIxKD, ↓dIn, ↓dNotIn, ↓dDg, List.getElem?_cons_zero, List.getElem?_cons_succ, List.set_cons_zero, List.set_cons_succ, List.map_cons, List.map_nil, List.length_cons, List.length_nil, List.replicate_succ, List.replicate_zero, List.nil_append, List.cons_append, Bool.not_true, Bool.not_false, if_true, wkey_int, wkey_str, atI_0, atI_1, atI_2, atI_3, up_same, if_false, Bool.false_eq_true, Bool.true_eq_false, tru_non, isLT_non, isi_int_non, isi_bool_non, isi_str_non, isi_tup_non, isi_lst_non, tru_bl, isLT_bl, isi_int_bl, isi_bool_bl, isi_str_bl, isi_tup_bl, isi_lst_bl, tru_int, isLT_int, isi_int_int, isi_bool_int, isi_str_int, isi_tup_int, isi_lst_int, tru_str, isLT_str, isi_int_str, isi_bool_str, isi_str_str, isi_tup_str, isi_lst_str, tru_tup, isLT_tup, isi_int_tup, isi_bool_tup, isi_str_tup, isi_tup_tup, isi_lst_tup, tru_lst, isLT_lst, isi_int_lst, isi_bool_lst, isi_str_lst, isi_tup_lst, isi_lst_lst, isL_lst, seqW_lst, seqW_tup, seqW_str, seqW_scr, sq2_lst, sq2_tup, inW_sign])
      rw [all_bls]
      (simp only [↓dFgt, ↓dVar, ↓dC, ↓dOp, ↓dUn, ↓dI, ↓dI0, ↓dSub, ↓dMul, ↓dDiv, ↓dMod, ↓dPow, ↓dAdd, ↓dNeg, ↓dEq, ↓dNe, ↓dLt, ↓dLe, ↓dGt, ↓dGe, ↓dIsN, ↓dNotN, ↓dTru, ↓dTest, ↓dChain, ↓dAnd, ↓dOr, ↓dNot, ↓dAndV, ↓dOrV, ↓dNotV, ↓dIf, ↓dNil, ↓dCons, ↓dTup, ↓dLst, ↓dLstM, ↓dCB, ↓dLen, ↓dAbs, ↓dMax2, ↓dMin2, ↓dAll, ↓dAny, ↓dListOf, ↓dListOfM, ↓dTupOf, ↓dNext, ↓dSeq, ↓dDrop, ↓dRet, ↓dRetN, ↓dIfS, ↓dBrk, ↓dCnt, ↓dSet, ↓dAsgT, ↓dPar2, ↓tbind, ↓tbinds, ↓Om.set, ↓dCall, ↓dIx, ↓dNo, ↓dPart, ↓dSl, ↓dSlr, ↓dBM, ↓dApp, ↓dExt, ↓dSetIx, ↓dIs, ↓dMinS, ↓dMaxS, ↓dJoin, ↓dFrz, ↓dPut, ↓dFld, ↓dSetF, ↓dInt, ↓dIsLT, ↓dRng1, ↓dRng2, ↓dEnum, ↓dZip, ↓dSeqI, view_c_non, view_c_bl, view_c_int, view_c_str, view_c_tup, view_c_lst, view_c_scr, view_c_dct, view_c_ins, ↓startW, ↓wp, ↓wps, ↓dInKD, ↓dNotInKD, ↓dIxKD, ↓dIn, ↓dNotIn, ↓dDg, List.getElem?_cons_zero, List.getElem?_cons_succ, List.set_cons_zero, List.set_cons_succ, List.map_cons, List.map_nil, List.length_cons, List.length_nil, List.replicate_succ, List.replicate_zero, List.nil_append, List.cons_append, Bool.not_true, Bool.not_false, if_true, wkey_int, wkey_str, atI_0, atI_1, atI_2, atI_3, up_same, if_false, Bool.false_eq_true, Bool.true_eq_false, tru_non, isLT_non, isi_int_non, isi_bool_non, isi_str_non, isi_tup_non, isi_lst_non, tru_bl, isLT_bl, isi_int_bl, isi_bool_bl, isi_str_bl, isi_tup_bl, isi_lst_bl, tru_int, isLT_int, isi_int_int, isi_bool_int, isi_str_int, isi_tup_int, isi_lst_int, tru_str, isLT_str, isi_int_str, isi_bool_str, isi_str_str, isi_tup_str, isi_lst_str, tru_tup, isLT_tup, isi_int_tup, isi_bool_tup, isi_str_tup, isi_tup_tup, isi_lst_tup, tru_lst, isLT_lst, isi_int_lst, isi_bool_lst, isi_str_lst, isi_tup_lst, isi_lst_lst, isL_lst, seqW_lst, seqW_tup, seqW_str, seqW_scr, sq2_lst, sq2_tup, inW_sign])
      have e : (ys.map skillB).all id = ys.all skillB := by rw [List.all_map]; rfl
      rw [e]
      exact q
  | _ => first | ((simp only [↓dFgt, ↓dVar, ↓dC, ↓dOp, ↓dUn, ↓dI, ↓dI0, ↓dSub, ↓dMul, ↓dDiv, ↓dMod, ↓dPow, ↓dAdd, ↓dNeg, ↓dEq, ↓dNe, ↓dLt, ↓dLe, ↓dGt, ↓dGe, ↓dIsN, ↓dNotN, ↓dTru, ↓dTest, ↓dChain, ↓dAnd, ↓dOr, ↓dNot, ↓dAndV, ↓dOrV, ↓dNotV, ↓dIf, ↓dNil, ↓dCons, ↓dTup, ↓dLst, ↓dLstM, ↓dCB, ↓dLen, ↓dAbs, ↓dMax2, ↓dMin2, ↓dAll, ↓dAny, ↓dListOf, ↓dListOfM, ↓dTupOf, ↓dNext, ↓dSeq, ↓dDrop, ↓dRet, ↓dRetN, ↓dIfS, ↓dBrk, ↓dCnt, ↓dSet, ↓dAsgT, ↓dPar2, ↓tbind, ↓tbinds, ↓Om.set, ↓dCall, ↓dIx, ↓dNo, ↓dPart, ↓dSl, ↓dSlr, ↓dBM, ↓dApp, ↓dExt, ↓dSetIx, ↓dIs, ↓dMinS, ↓dMaxS, ↓dJoin, ↓dFrz, ↓dPut, ↓dFld, ↓dSetF, ↓dInt, ↓dIsLT, ↓dRng1, ↓dRng2, ↓dEnum, ↓dZip, ↓dSeqI, view_c_non, view_c_bl, view_c_int, view_c_str, view_c_tup, view_c_lst, view_c_scr, view_c_dct, view_c_ins, ↓startW, ↓wp, ↓wps, ↓dInKD, ↓dNotInKD, ↓dIxKD, ↓dIn, ↓dNotIn, ↓dDg, List.getElem?_cons_zero, List.getElem?_cons_succ, List.set_cons_zero, List.set_cons_succ, List.map_cons, List.map_nil, List.length_cons, List.length_nil, List.replicate_succ, List.replicate_zero, List.nil_append, List.cons_append, Bool.not_true, Bool.not_false, if_true, wkey_int, wkey_str, atI_0, atI_1, atI_2, atI_3, up_same, if_false, Bool.false_eq_true, Bool.true_eq_false, tru_non, isLT_non, isi_int_non, isi_bool_non, isi_str_non, isi_tup_non, isi_lst_non, tru_bl, isLT_bl, isi_int_bl, isi_bool_bl, isi_str_bl, isi_tup_bl, isi_lst_bl, tru_int, isLT_int, isi_int_int, isi_bool_int, isi_str_int, isi_tup_int, isi_lst_int, tru_str, isLT_str, isi_int_str, isi_bool_str, isi_str_str, isi_tup_str, isi_lst_str, tru_tup, isLT_tup, isi_int_tup, isi_bool_tup, isi_str_tup, isi_tup_tup, isi_lst_tup, tru_lst, isLT_lst, isi_int_lst, isi_bool_lst, isi_str_lst, isi_tup_lst, isi_lst_lst, isL_lst, seqW_lst, seqW_tup, seqW_str, seqW_scr, sq2_lst, sq2_tup, inW_sign]); exact q) | (have hp := hd.p; cases hp)
section
variable {P : Program} {w : World} {K : PySem.W.Frag} {mg : Str → Option Value} {base : Heap} {c_Ground : Addr}
theorem ok_law_is_hand {f : Addr} {fd : FuncData} (F : Fun K "_law_is_hand" "_law_is_hand" s_law_is_hand f fd) (T : Txt K w mg c_Ground) (C_law_is_name : CalD P w K mg base 1 "_law_is_name" sp_law_is_name) (C_law_is_in : CalD P w K mg base 1 "_law_is_in" sp_law_is_in) (C_law_between : CalD P w K mg base 1 "_law_between" sp_law_between) (C_law_is_skill : CalD P w K mg base 2 "_law_is_skill" sp_law_is_skill) : FnOk P w K mg base CX0 3 f fd ["_law_stations", "_law_given"] (uSp K (sp_law_is_hand)) :=
  Fun.okF F sc_law_is_hand (td_law_is_hand) (fun cdv A outer s H E hr =>
    (dss_cons (ds_if (PW.pt (dw_or (dt_not (dt_tru (de_isi .tup (dv 1) T.z_isinstance T.z_tuple))) (dw_or (dt_cmp (oc_ne hr) (de_callB cd_len T.z_len (da_cons (dv 1) da_nil)) de_int) (dw_or1 (dt_not (dt_tru (de_call C_law_is_name hr (da_cons (de_ix (dv 1) de_int) da_nil)))))))) (dss_one (ds_ret de_bl)) dss_nil)
    (dss_cons (ds_if (PW.pt (dw_or (dt_not (dt_tru (de_call C_law_is_in hr (da_cons (de_ix (dv 1) de_int) (da_cons (dv 0) da_nil))))) (dw_or1 (dt_not (dt_tru (de_call C_law_between hr (da_cons (de_ix (dv 1) de_int) (da_cons de_int (da_cons de_int da_nil))))))))) (dss_one (ds_ret de_bl)) dss_nil)
    (dss_one (ds_ret (de_and (de_isi .tup (de_ix (dv 1) de_int) T.z_isinstance T.z_tuple) (de_and (de_cmp oc_le (de_callB cd_len T.z_len (da_cons (de_ix (dv 1) de_int) da_nil)) de_int) (de_one (de_callB cd_all T.z_all (da_cons (de_lc (own := [("_law_one", 2)]) sc_law_is_hand.nd (di_seq (de_ix (dv 1) de_int)) (blkOk_by (own := [("_law_one", 2)]) (N := N_law_is_hand) (sc := defScope s_law_is_hand) (by decide +kernel)) (fun _ _ _ _ _ => (dg_nm (i := 2) sc_law_is_hand.nd)) (fun _ _ _ _ _ => dts_nil) (fun _ _ _ _ _ => (de_call C_law_is_skill hr (da_cons (dv 2) da_nil)))) da_nil)))))))))) (fun ws S Q E h => len_law_is_hand h) (hd_law_is_hand)
end
/-! ### _law_due -/
abbrev s_law_due : Stmt := topS 58
abbrev N_law_due : List Str := ["_law_stations", "_law_given", "_law_one"]
theorem sc_law_due : FnScope N_law_due ["_law_stations", "_law_given"] (defScope s_law_due) := ⟨rfl, rfl, rfl, by decide +kernel, rfl, by decide +kernel, by decide +kernel⟩
theorem st_law_due {x0 x1 : W} : startW N_law_due [x0, x1] = [some x0, some x1, none] := rfl
def td_law_due : DS' :=
    (dSeq (dIfS (dOr (dNot (dTru (dUn (dIs .tup) (dVar 1)))) (dTest (dOp dGt (dCB dLen (dCons (dVar 1) dNil)) (dC (.int 60))))) (dRet (dC (.bl false))) dNext)
    (dRet (dAndV (dCB dAll (dCons (dLc (dSeqI (dVar 1)) (.nm 2) dYes (dCall sp_law_is_hand (dCons (dVar 0) (dCons (dVar 2) dNil))) [2]) dNil)) (dCall sp_law_unlike (dCons (dVar 1) dNil)))))
def sp_law_due : DSp := fun ws S Q _ => ∃ ss x L, ws = [stationsW ss, x] ∧ Tk L 11 x ∧ Q (.bl (handsB ss x)) S
theorem len_law_due {ws S Q E} (h : sp_law_due ws S Q E) : ws.length = 2 := by obtain ⟨ss, x, L, rfl, _⟩ := h; rfl
def le60 : W → Bool
  | .tup ys => !decide (60 < (ys.length : Int))
  | _ => false
theorem hd_law_due (ws S Q E) (h : sp_law_due ws S Q E) : td_law_due { nx := fun _ S' => frzQ Q .non S', rt := frzQ Q } ⟨startW N_law_due ws, XF⟩ S := by
  obtain ⟨ss, x, L, rfl, hx, q⟩ := h
  replace q := frzQ.mk q
  simp only [st_law_due, td_law_due]
  refine seq_go ?_
  refine if_b (!le60 x) (fun Q h => ?_) (fun e => ?_) (fun e => ?_)
  · have hp := hx.p
    cases x with
    | tup ys =>
      simp only [le60, Bool.not_not] at h
      (simp only [↓dFgt, ↓dVar, ↓dC, ↓dOp, ↓dUn, ↓dI, ↓dI0, ↓dSub, ↓dMul, ↓dDiv, ↓dMod, ↓dPow, ↓dAdd, ↓dNeg, ↓dEq, ↓dNe, ↓dLt, ↓dLe, ↓dGt, ↓dGe, ↓dIsN, ↓dNotN, ↓dTru, ↓dTest, ↓dChain, ↓dAnd, ↓dOr, ↓dNot, ↓dAndV, ↓dOrV, ↓dNotV, ↓dIf, ↓dNil, ↓dCons, ↓dTup, ↓dLst, ↓dLstM, ↓dCB, ↓dLen, ↓dAbs, ↓dMax2, ↓dMin2, ↓dAll, ↓dAny, ↓dListOf, ↓dListOfM, ↓dTupOf, ↓dNext, ↓dSeq, ↓dDrop, ↓dRet, ↓dRetN, ↓dIfS, ↓dBrk, ↓dCnt, ↓dSet, ↓dAsgT, ↓dPar2, ↓tbind, ↓tbinds, ↓Om.set, ↓dCall, ↓dIx, ↓dNo, ↓dPart, ↓dSl, ↓dSlr, ↓dBM, ↓dApp, ↓dExt, ↓dSetIx, ↓dIs, ↓dMinS, ↓dMaxS, ↓dJoin, ↓dFrz, ↓dPut, ↓dFld, ↓dSetF, ↓dInt, ↓dIsLT, ↓dRng1, ↓dRng2, ↓dEnum, ↓dZip, ↓dSeqI, view_c_non, view_c_bl, view_c_int, view_c_str, view_c_tup, view_c_lst, view_c_scr, view_c_dct, view_c_ins, ↓startW, ↓wp, ↓wps, ↓dInKD, ↓dNotInKD, ↓dIxKD, ↓dIn, ↓dNotIn, ↓dDg, List.getElem?_cons_zero, List.getElem?_cons_succ, List.set_cons_zero, List.set_cons_succ, List.map_cons, List.map_nil, List.length_cons, List.length_nil, List.replicate_succ, List.replicate_zero, List.nil_append, List.cons_append, Bool.not_true, Bool.not_false, if_true, wkey_int, wkey_str, atI_0, atI_1, atI_2, atI_3, up_same, if_false, Bool.false_eq_true, Bool.true_eq_false, tru_non, isLT_non, isi_int_non, isi_bool_non, isi_str_non, isi_tup_non, isi_lst_non, tru_bl, isLT_bl, isi_int_bl, isi_bool_bl, isi_str_bl, isi_tup_bl, isi_lst_bl, tru_int, isLT_int, isi_int_int, isi_bool_int, isi_str_int, isi_tup_int, isi_lst_int, tru_str, isLT_str, isi_int_str, isi_bool_str, isi_str_str, isi_tup_str, isi_lst_str, tru_tup, isLT_tup, isi_int_tup, isi_bool_tup, isi_str_tup, isi_tup_tup, isi_lst_tup, tru_lst, isLT_lst, isi_int_lst, isi_bool_lst, isi_str_lst, isi_tup_lst, isi_lst_lst, isL_lst, seqW_lst, seqW_tup, seqW_str, seqW_scr, sq2_lst, sq2_tup, inW_sign])
      exact h
    | _ => first | ((simp only [↓dFgt, ↓dVar, ↓dC, ↓dOp, ↓dUn, ↓dI, ↓dI0, ↓dSub, ↓dMul, ↓dDiv, ↓dMod, ↓dPow, ↓dAdd, ↓dNeg, ↓dEq, ↓dNe, ↓dLt, ↓dLe, ↓dGt, ↓dGe, ↓dIsN, ↓dNotN, ↓dTru, ↓dTest, ↓dChain, ↓dAnd, ↓dOr, ↓dNot, ↓dAndV, ↓dOrV, ↓dNotV, ↓dIf, ↓dNil, ↓dCons, ↓dTup, ↓dLst, ↓dLstM, ↓dCB, ↓dLen, ↓dAbs, ↓dMax2, ↓dMin2, ↓dAll, ↓dAny, ↓dListOf, ↓dListOfM, ↓dTupOf, ↓dNext, ↓dSeq, ↓dDrop, ↓dRet, ↓dRetN, ↓dIfS, ↓dBrk, ↓dCnt, ↓dSet, ↓dAsgT, ↓dPar2, ↓tbind, ↓tbinds, ↓Om.set, ↓dCall, ↓dIx, ↓dNo, ↓dPart, ↓dSl, ↓dSlr, ↓dBM, ↓dApp, ↓dExt, ↓dSetIx, ↓dIs, ↓dMinS, ↓dMaxS, ↓dJoin, ↓dFrz, ↓dPut, ↓dFld, ↓dSetF, ↓dInt, ↓dIsLT, ↓dRng1, ↓dRng2, ↓dEnum, ↓dZip, ↓dSeqI, view_c_non, view_c_bl, view_c_int, view_c_str, view_c_tup, view_c_lst, view_c_scr, view_c_dct, view_c_ins, ↓startW, ↓wp, ↓wps, ↓dInKD, ↓dNotInKD, ↓dIxKD, ↓dIn, ↓dNotIn, ↓dDg, List.getElem?_cons_zero, List.getElem?_cons_succ, List.set_cons_zero, List.set_cons_succ, List.map_cons, List.map_nil, List.length_cons, List.length_nil, List.replicate_succ, List.replicate_zero, List.nil_append, List.cons_append, Bool.not_true, Bool.not_false, if_true, wkey_int, wkey_str, atI_0, atI_1, atI_2, atI_3, up_same, if_false, Bool.false_eq_true, Bool.true_eq_false, tru_non, isLT_non, isi_int_non, isi_bool_non, isi_str_non, isi_tup_non, isi_lst_non, tru_bl, isLT_bl, isi_int_bl, isi_bool_bl, isi_str_bl, isi_tup_bl, isi_lst_bl, tru_int, isLT_int, isi_int_int, isi_bool_int, isi_str_int, isi_tup_int, isi_lst_int, tru_str, isLT_str, isi_int_str, isi_bool_str, isi_str_str, isi_tup_str, isi_lst_str, tru_tup, isLT_tup, isi_int_tup, isi_bool_tup, isi_str_tup, isi_tup_tup, isi_lst_tup, tru_lst, isLT_lst, isi_int_lst, isi_bool_lst, isi_str_lst, isi_tup_lst, isi_lst_lst, isL_lst, seqW_lst, seqW_tup, seqW_str, seqW_scr, sq2_lst, sq2_tup, inW_sign]); exact h) | cases hp
  · refine ret_go ?_
    have e2 : handsB ss x = false := by
      cases x <;> first | rfl | skip
      rename_i ys
      simp only [le60, Bool.not_not, decide_eq_true_eq] at e
      simp only [handsB]
      rw [decide_eq_false (by omega)]; rfl
    rw [e2] at q
    exact q
  obtain ⟨ys, rfl, hl⟩ : ∃ ys, x = .tup ys ∧ ys.length ≤ 60 := by
    cases x <;> first | cases e | skip
    rename_i ys
    simp only [le60, Bool.not_not, decide_eq_false_iff_not] at e
    exact ⟨ys, rfl, by omega⟩
  (((try unfold dNext); dsimp only))
  refine ret_go ?_
  (simp only [↓dFgt, ↓dVar, ↓dC, ↓dOp, ↓dUn, ↓dI, ↓dI0, ↓dSub, ↓dMul, ↓dDiv, ↓dMod, ↓dPow, ↓dAdd, ↓dNeg, ↓dEq, ↓dNe, ↓dLt, ↓dLe, ↓dGt, ↓dGe, ↓dIsN, ↓dNotN, ↓dTru, ↓dTest, ↓dChain, ↓dAnd, ↓dOr, ↓dNot, ↓dAndV, ↓dOrV, ↓dNotV, ↓dIf, ↓dNil, ↓dCons, ↓dTup, ↓dLst, ↓dLstM, ↓dCB, ↓dLen, ↓dAbs, ↓dMax2, ↓dMin2, ↓dAll, ↓dAny, ↓dListOf, ↓dListOfM, ↓dTupOf, ↓dNext, ↓dSeq, ↓dDrop, ↓dRet, ↓dRetN, ↓dIfS, ↓dBrk, ↓dCnt, ↓dSet, ↓dAsgT, ↓dPar2, ↓tbind, ↓tbinds, ↓Om.set, ↓dCall, ↓dIx, ↓dNo, ↓dPart, ↓dSl, ↓dSlr, ↓dBM, ↓dApp, ↓dExt, ↓dSetIx, ↓dIs, ↓dMinS, ↓dMaxS, ↓dJoin, ↓dFrz, ↓dPut, ↓dFld, ↓dSetF, ↓dInt, ↓dIsLT, ↓dRng1, ↓dRng2, ↓dEnum, ↓dZip, ↓dSeqI, view_c_non, view_c_bl, view_c_int, view_c_str, view_c_tup, view_c_lst, view_c_scr, view_c_dct, view_c_ins, ↓startW, ↓wp, ↓wps, ↓dInKD, ↓dNotInKD, ↓dIxKD, ↓dIn, ↓dNotIn, ↓dDg, List.getElem?_cons_zero, List.getElem?_cons_succ, List.set_cons_zero, List.set_cons_succ, List.map_cons, List.map_nil, List.length_cons, List.length_nil, List.replicate_succ, List.replicate_zero, List.nil_append, List.cons_append, Bool.not_true, Bool.not_false, if_true, wkey_int, wkey_str, atI_0, atI_1, atI_2, atI_3, up_same, if_false, Bool.false_eq_true, Bool.true_eq_false, tru_non, isLT_non, isi_int_non, isi_bool_non, isi_str_non, isi_tup_non, isi_lst_non, tru_bl, isLT_bl, isi_int_bl, isi_bool_bl, isi_str_bl, isi_tup_bl, isi_lst_bl, tru_int, isLT_int, isi_int_int, isi_bool_int, isi_str_int, isi_tup_int, isi_lst_int, tru_str, isLT_str, isi_int_str, isi_bool_str, isi_str_str, isi_tup_str, isi_lst_str, tru_tup, isLT_tup, isi_int_tup, isi_bool_tup, isi_str_tup, isi_tup_tup, isi_lst_tup, tru_lst, isLT_lst, isi_int_lst, isi_bool_lst, isi_str_lst, isi_tup_lst, isi_lst_lst, isL_lst, seqW_lst, seqW_tup, seqW_str, seqW_scr, sq2_lst, sq2_tup, inW_sign])
  refine lcMs (w := .tup ys) (xs := ys) (fun _ h => h) rfl (fun w => .bl (handB ss w)) (by omega) (fun _ _ _ => rfl) (fun w hw => ⟨_, rfl, fun p acc hp Qe h => ?_⟩) ?_
  · (simp only [↓dFgt, ↓dVar, ↓dC, ↓dOp, ↓dUn, ↓dI, ↓dI0, ↓dSub, ↓dMul, ↓dDiv, ↓dMod, ↓dPow, ↓dAdd, ↓dNeg, ↓dEq, ↓dNe, ↓dLt, ↓dLe, ↓dGt, ↓dGe, ↓dIsN, ↓dNotN, ↓dTru, ↓dTest, ↓dChain, ↓dAnd, ↓dOr, ↓dNot, ↓dAndV, ↓dOrV, ↓dNotV, ↓dIf, ↓dNil, ↓dCons, ↓dTup, ↓dLst, ↓dLstM, ↓dCB, ↓dLen, ↓dAbs, ↓dMax2, ↓dMin2, ↓dAll, ↓dAny, ↓dListOf, ↓dListOfM, ↓dTupOf, ↓dNext, ↓dSeq, ↓dDrop, ↓dRet, ↓dRetN, ↓dIfS, ↓dBrk, ↓dCnt, ↓dSet, ↓dAsgT, ↓dPar2, ↓tbind, ↓tbinds, ↓Om.set, ↓dCall, ↓dIx, ↓dNo, ↓dPart, ↓dSl, ↓dSlr, ↓dBM, ↓dApp, ↓dExt, ↓dSetIx, ↓dIs, ↓dMinS, ↓dMaxS, ↓dJoin, ↓dFrz, ↓dPut, ↓dFld, ↓dSetF, ↓dInt, ↓dIsLT, ↓dRng1, ↓dRng2, ↓dEnum, ↓dZip, ↓dSeqI, view_c_non, view_c_bl, view_c_int, view_c_str, view_c_tup, view_c_lst, view_c_scr, view_c_dct, view_c_ins, ↓startW, ↓wp, ↓wps, ↓dInKD, ↓dNotInKD, ↓dIxKD, ↓dIn, ↓dNotIn, ↓dDg, List.getElem?_cons_zero, List.getElem?_cons_succ, List.set_cons_zero, List.set_cons_succ, List.map_cons, List.map_nil, List.length_cons, List.length_nil, List.replicate_succ, List.replicate_zero, List.nil_append, List.cons_append, Bool.not_true, Bool.not_false, if_true, wkey_int, wkey_str, atI_0, atI_1, atI_2, atI_3, up_same, if_false, Bool.false_eq_true, Bool.true_eq_false, tru_non, isLT_non, isi_int_non, isi_bool_non, isi_str_non, isi_tup_non, isi_lst_non, tru_bl, isLT_bl, isi_int_bl, isi_bool_bl, isi_str_bl, isi_tup_bl, isi_lst_bl, tru_int, isLT_int, isi_int_int, isi_bool_int, isi_str_int, isi_tup_int, isi_lst_int, tru_str, isLT_str, isi_int_str, isi_bool_str, isi_str_str, isi_tup_str, isi_lst_str, tru_tup, isLT_tup, isi_int_tup, isi_bool_tup, isi_str_tup, isi_tup_tup, isi_lst_tup, tru_lst, isLT_lst, isi_int_lst, isi_bool_lst, isi_str_lst, isi_tup_lst, isi_lst_lst, isL_lst, seqW_lst, seqW_tup, seqW_str, seqW_scr, sq2_lst, sq2_tup, inW_sign])
    exact ⟨ss, w, L, rfl, hx.2 w hw, h⟩
  (simp only [↓dFgt, ↓dVar, ↓dC, ↓dOp, ↓dUn, ↓dI, ↓dI0, ↓dSub, ↓dMul, ↓dDiv, ↓dMod, ↓dPow, ↓dAdd, ↓dNeg, ↓dEq, ↓dNe, ↓dLt, ↓dLe, ↓dGt, ↓dGe, ↓dIsN, ↓dNotN, ↓dTru, ↓dTest, ↓dChain, ↓dAnd, ↓dOr, ↓dNot, ↓dAndV, ↓dOrV, ↓dNotV, ↓dIf, ↓dNil, ↓dCons, ↓dTup, ↓dLst, ↓dLstM, ↓dCB, ↓dLen, ↓dAbs, ↓dMax2, ↓dMin2, ↓dAll, ↓dAny, ↓dListOf, ↓dListOfM, ↓dTupOf, ↓dNext, ↓dSeq, ↓dDrop, ↓dRet, ↓dRetN, ↓dIfS, ↓dBrk, ↓dCnt, ↓dSet, ↓dAsgT, ↓dPar2, ↓tbind, ↓tbinds, ↓Om.set, ↓dCall, ↓dIx, ↓dNo, ↓dPart, ↓dSl, ↓dSlr, ↓dBM, ↓dApp, ↓dExt, ↓dSetIx, ↓dIs, ↓dMinS, ↓dMaxS, ↓dJoin, ↓dFrz, ↓dPut, ↓dFld, ↓dSetF, ↓dInt, ↓dIsLT, ↓dRng1, ↓dRng2, ↓dEnum, ↓dZip, ↓dSeqI, view_c_non, view_c_bl, view_c_int, view_c_str, view_c_tup, view_c_lst, view_c_scr, view_c_dct, view_c_ins, ↓startW, ↓wp, ↓wps, ↓dInKD, ↓dNotInKD, ↓dIxKD, ↓dIn, ↓dNotIn, ↓dDg, List.getElem?_cons_zero, List.getElem?_cons_succ, List.set_cons_zero, List.set_cons_succ, List.map_cons, List.map_nil, List.length_cons, List.length_nil, List.replicate_succ, List.replicate_zero, List.nil_append, List.cons_append, Bool.not_true, Bool.not_false, if_true, wkey_int, wkey_str, atI_0, atI_1, atI_2, atI_3, up_same, if_false, Bool.false_eq_true, Bool.true_eq_false, tru_non, isLT_non, isi_int_non, isi_bool_non, isi_str_non, isi_tup_non, isi_lst_non, tru_bl, isLT_bl, isi_int_bl, isi_bool_bl, isi_str_bl, isi_tup_bl, isi_lst_bl, tru_int, isLT_int, isi_int_int, isi_bool_int, isi_str_int, isi_tup_int, isi_lst_int, tru_str, isLT_str, isi_int_str, isi_bool_str, isi_str_str, isi_tup_str, isi_lst_str, tru_tup, isLT_tup, isi_int_tup, isi_bool_tup, isi_str_tup, isi_tup_tup, isi_lst_tup, tru_lst, isLT_lst, isi_int_lst, isi_bool_lst, isi_str_lst, isi_tup_lst, isi_lst_lst, isL_lst, seqW_lst, seqW_tup, seqW_str, seqW_scr, sq2_lst, sq2_tup, inW_sign])
  rw [all_bls]
  (simp only [↓dFgt, ↓dVar, ↓dC, ↓dOp, ↓dUn, ↓dI, ↓dI0, ↓dSub, ↓dMul, ↓dDiv, ↓dMod, ↓dPow, ↓dAdd, ↓dNeg, ↓dEq, ↓dNe, ↓dLt, ↓dLe, ↓dGt, ↓dGe, ↓dIsN, ↓dNotN, ↓dTru, ↓dTest, ↓dChain, ↓dAnd, ↓dOr, ↓dNot, ↓dAndV, ↓dOrV, ↓dNotV, ↓dIf, ↓dNil, ↓dCons, ↓dTup, ↓dLst, ↓dLstM, ↓dCB, ↓dLen, ↓dAbs, ↓dMax2, ↓dMin2, ↓dAll, ↓dAny, ↓dListOf, ↓dListOfM, ↓dTupOf, ↓dNext, ↓dSeq, ↓dDrop, ↓dRet, ↓dRetN, ↓dIfS, ↓dBrk, ↓dCnt, ↓dSet, ↓dAsgT, ↓dPar2, ↓tbind, ↓tbinds, ↓Om.set, ↓dCall, ↓dIx, ↓dNo, ↓dPart, ↓dSl, ↓dSlr, ↓dBM, ↓dApp, ↓dExt, ↓dSetIx, ↓dIs, ↓dMinS, ↓dMaxS, ↓dJoin, ↓dFrz, ↓dPut, ↓dFld, ↓dSetF, ↓dInt, ↓dIsLT, ↓dRng1, ↓dRng2, ↓dEnum, ↓dZip, ↓dSeqI, view_c_non, view_c_bl, view_c_int, view_c_str, view_c_tup, view_c_lst, view_c_scr, view_c_dct, view_c_ins, ↓startW, ↓wp, ↓wps, ↓dInKD, ↓dNotInKD, ↓dIxKD, ↓dIn, ↓dNotIn, ↓dDg, List.getElem?_cons_zero, List.getElem?_cons_succ, List.set_cons_zero, List.set_cons_succ, List.map_cons, List.map_nil, List.length_cons, List.length_nil, List.replicate_succ, List.replicate_zero, List.nil_append, List.cons_append, Bool.not_true, Bool.not_false, if_true, wkey_int, wkey_str, atI_0, atI_1, atI_2, atI_3, up_same, if_false, Bool.false_eq_true, Bool.true_eq_false, tru_non, isLT_non, isi_int_non, isi_bool_non, isi_str_non, isi_tup_non, isi_lst_non, tru_bl, isLT_bl, isi_int_bl, isi_bool_bl, isi_str_bl, isi_tup_bl, isi_lst_bl, tru_int, isLT_int, isi_int_int, isi_bool_int, isi_str_int, isi_tup_int, isi_lst_int, tru_str, isLT_str, isi_int_str, isi_bool_str, isi_str_str, isi_tup_str, isi_lst_str, tru_tup, isLT_tup, isi_int_tup, isi_bool_tup, isi_str_tup, isi_tup_tup, isi_lst_tup, tru_lst, isLT_lst, isi_int_lst, isi_bool_lst, isi_str_lst, isi_tup_lst, isi_lst_lst, isL_lst, seqW_lst, seqW_tup, seqW_str, seqW_scr, sq2_lst, sq2_tup, inW_sign])
  simp only [handsB, decide_eq_true hl, Bool.true_and] at q
  have e : (ys.map (handB ss)).all id = ys.all (handB ss) := by rw [List.all_map]; rfl
  rw [e]
  cases c2 : ys.all (handB ss) with
  | false => rw [c2] at q; exact q
  | true =>
    rw [c2] at q
    (simp only [↓dFgt, ↓dVar, ↓dC, ↓dOp, ↓dUn, ↓dI, ↓dI0, ↓dSub, ↓dMul, ↓dDiv, ↓dMod, ↓dPow, ↓dAdd, ↓dNeg, ↓dEq, ↓dNe, ↓dLt, ↓dLe, ↓dGt, ↓dGe, ↓dIsN, ↓dNotN, ↓dTru, ↓dTest, ↓dChain, ↓dAnd, ↓dOr, ↓dNot, ↓dAndV, ↓dOrV, ↓dNotV, ↓dIf, ↓dNil, ↓dCons, ↓dTup, ↓dLst, ↓dLstM, ↓dCB, ↓dLen, ↓dAbs, ↓dMax2, ↓dMin2, ↓dAll, ↓dAny, ↓dListOf, ↓dListOfM, ↓dTupOf, ↓dNext, ↓dSeq, ↓dDrop, ↓dRet, ↓dRetN, ↓dIfS, ↓dBrk, ↓dCnt, ↓dSet, ↓dAsgT, ↓dPar2, ↓tbind, ↓tbinds, ↓Om.set, ↓dCall, ↓dIx, ↓dNo, ↓dPart, ↓dSl, ↓dSlr, ↓dBM, ↓dApp, ↓dExt, ↓dSetIx, ↓dIs, ↓dMinS, ↓dMaxS, ↓dJoin, ↓dFrz, ↓dPut, ↓dFld, ↓dSetF, ↓dInt, ↓dIsLT, ↓dRng1, ↓dRng2, ↓dEnum, ↓dZip, ↓dSeqI, view_c_non, view_c_bl, view_c_int, view_c_str, view_c_tup, view_c_lst, view_c_scr, view_c_dct, view_c_ins, ↓startW, ↓wp, ↓wps, ↓dInKD, ↓dNotInKD, ↓dIxKD, ↓dIn, ↓dNotIn, ↓dDg, List.getElem?_cons_zero, List.getElem?_cons_succ, List.set_cons_zero, List.set_cons_succ, List.map_cons, List.map_nil, List.length_cons, List.length_nil, List.replicate_succ, List.replicate_zero, List.nil_append, List.cons_append, Bool.not_true, Bool.not_false, if_true, wkey_int, wkey_str, atI_0, atI_1, atI_2, atI_3, up_same, if_false, Bool.false_eq_true, Bool.true_eq_false, tru_non, isLT_non, isi_int_non, isi_bool_non, isi_str_non, isi_tup_non, isi_lst_non, tru_bl, isLT_bl, isi_int_bl, isi_bool_bl, isi_str_bl, isi_tup_bl, isi_lst_bl, tru_int, isLT_int, isi_int_int, isi_bool_int, isi_str_int, isi_tup_int, isi_lst_int, tru_str, isLT_str, isi_int_str, isi_bool_str, isi_str_str, isi_tup_str, isi_lst_str, tru_tup, isLT_tup, isi_int_tup, isi_bool_tup, isi_str_tup, isi_tup_tup, isi_lst_tup, tru_lst, isLT_lst, isi_int_lst, isi_bool_lst, isi_str_lst, isi_tup_lst, isi_lst_lst, isL_lst, seqW_lst, seqW_tup, seqW_str, seqW_scr, sq2_lst, sq2_tup, inW_sign])
    exact ⟨ys, rfl, fun x hx => handB_fst (List.all_eq_true.mp c2 x hx), by omega, q⟩
section
variable {P : Program} {w : World} {K : PySem.W.Frag} {mg : Str → Option Value} {base : Heap} {c_Ground : Addr}
theorem ok_law_due {f : Addr} {fd : FuncData} (F : Fun K "_law_due" "_law_due" s_law_due f fd) (T : Txt K w mg c_Ground) (C_law_unlike : CalD P w K mg base 1 "_law_unlike" sp_law_unlike) (C_law_is_hand : CalD P w K mg base 3 "_law_is_hand" sp_law_is_hand) : FnOk P w K mg base CX0 4 f fd ["_law_stations", "_law_given"] (uSp K (sp_law_due)) :=
  Fun.okF F sc_law_due (td_law_due) (fun cdv A outer s H E hr =>
    (dss_cons (ds_if (PW.pt (dw_or (dt_not (dt_tru (de_isi .tup (dv 1) T.z_isinstance T.z_tuple))) (dw_or1 (dt_cmp oc_gt (de_callB cd_len T.z_len (da_cons (dv 1) da_nil)) de_int)))) (dss_one (ds_ret de_bl)) dss_nil)
    (dss_one (ds_ret (de_and (de_callB cd_all T.z_all (da_cons (de_lc (own := [("_law_one", 2)]) sc_law_due.nd (di_seq (dv 1)) (blkOk_by (own := [("_law_one", 2)]) (N := N_law_due) (sc := defScope s_law_due) (by decide +kernel)) (fun _ _ _ _ _ => (dg_nm (i := 2) sc_law_due.nd)) (fun _ _ _ _ _ => dts_nil) (fun _ _ _ _ _ => (de_call C_law_is_hand hr (da_cons (dv 0) (da_cons (dv 2) da_nil))))) da_nil)) (de_one (de_call C_law_unlike hr (da_cons (dv 1) da_nil)))))))) (fun ws S Q E h => len_law_due h) (hd_law_due)
end
/-! ### _law_many -/
abbrev s_law_many : Stmt := topS 59
abbrev N_law_many : List Str := ["_law_stations", "_law_many_here", "_law_letters", "_law_k"]
theorem sc_law_many : FnScope N_law_many ["_law_stations", "_law_many_here"] (defScope s_law_many) := ⟨rfl, rfl, rfl, by decide +kernel, rfl, by decide +kernel, by decide +kernel⟩
theorem st_law_many {x0 x1 : W} : startW N_law_many [x0, x1] = [some x0, some x1, none, none] := rfl
def td_law_many : DS' :=
    (dSeq (dSet 2 (dC (.str "abcdefghijklmnopqrstuvwxyz")))
    (dRet (dCB dTupOf (dCons (dLc (dRng1 (dCons (dVar 1) dNil)) (.nm 3) dYes (dTup (dCons (dOp dAdd (dOp dAdd (dC (.str "h")) (dOp dIx (dVar 2) (dOp dMod (dVar 3) (dC (.int 26))))) (dOp dIx (dVar 2) (dOp dDiv (dVar 3) (dC (.int 26))))) (dCons (dOp dIx (dVar 0) (dC (.int 0))) (dCons (dOp dMod (dVar 3) (dC (.int 4))) (dCons (dTup dNil) dNil))))) [3]) dNil))))
def sp_law_many : DSp := fun ws S Q _ => ∃ (ss : List Str) (n : Int), ws = [stationsW ss, .int n] ∧ 1 ≤ ss.length ∧ 0 ≤ n ∧ n ≤ 61 ∧ ∀ xs, Tk 61 3 (.tup xs) → Q (.tup xs) S
theorem len_law_many {ws S Q E} (h : sp_law_many ws S Q E) : ws.length = 2 := by obtain ⟨ss, x, rfl, _⟩ := h; rfl
theorem hd_law_many (ws S Q E) (h : sp_law_many ws S Q E) : td_law_many { nx := fun _ S' => frzQ Q .non S', rt := frzQ Q } ⟨startW N_law_many ws, XF⟩ S := by
  obtain ⟨ss, n, rfl, s1, n0, n26, q⟩ := h
  simp only [st_law_many, td_law_many]
  refine seq_go (set_go (.str letters) S (fun _ h => h) ?_)
  (((try unfold dNext); dsimp only))
  refine ret_go ?_
  obtain ⟨st, hst⟩ : ∃ st, L2.atI (ss.map W.str) 0 = some (.str st) := by
    cases ss with
    | nil => simp at s1
    | cons a _ => exact ⟨a, atI_0⟩
  (simp only [↓dFgt, ↓dVar, ↓dC, ↓dOp, ↓dUn, ↓dI, ↓dI0, ↓dSub, ↓dMul, ↓dDiv, ↓dMod, ↓dPow, ↓dAdd, ↓dNeg, ↓dEq, ↓dNe, ↓dLt, ↓dLe, ↓dGt, ↓dGe, ↓dIsN, ↓dNotN, ↓dTru, ↓dTest, ↓dChain, ↓dAnd, ↓dOr, ↓dNot, ↓dAndV, ↓dOrV, ↓dNotV, ↓dIf, ↓dNil, ↓dCons, ↓dTup, ↓dLst, ↓dLstM, ↓dCB, ↓dLen, ↓dAbs, ↓dMax2, ↓dMin2, ↓dAll, ↓dAny, ↓dListOf, ↓dListOfM, ↓dTupOf, ↓dNext, ↓dSeq, ↓dDrop, ↓dRet, ↓dRetN, ↓dIfS, ↓dBrk, ↓dCnt, ↓dSet, ↓dAsgT, ↓dPar2, ↓tbind, ↓tbinds, ↓Om.set, ↓dCall, ↓dIx, ↓dNo, ↓dPart, ↓dSl, ↓dSlr, ↓dBM, ↓dApp, ↓dExt, ↓dSetIx, ↓dIs, ↓dMinS, ↓dMaxS, ↓dJoin, ↓dFrz, ↓dPut, ↓dFld, ↓dSetF, ↓dInt, ↓dIsLT, ↓dRng1, ↓dRng2, ↓dEnum, ↓dZip, ↓dSeqI, view_c_non, view_c_bl, view_c_int, view_c_str, view_c_tup, view_c_lst, view_c_scr, view_c_dct, view_c_ins, ↓startW, ↓wp, ↓wps, ↓dInKD, ↓dNotInKD, ↓dIxKD, ↓dIn, ↓dNotIn, ↓dDg, List.getElem?_cons_zero, List.getElem?_cons_succ, List.set_cons_zero, List.set_cons_succ, List.map_cons, List.map_nil, List.length_cons, List.length_nil, List.replicate_succ, List.replicate_zero, List.nil_append, List.cons_append, Bool.not_true, Bool.not_false, if_true, wkey_int, wkey_str, atI_0, atI_1, atI_2, atI_3, up_same, if_false, Bool.false_eq_true, Bool.true_eq_false, tru_non, isLT_non, isi_int_non, isi_bool_non, isi_str_non, isi_tup_non, isi_lst_non, tru_bl, isLT_bl, isi_int_bl, isi_bool_bl, isi_str_bl, isi_tup_bl, isi_lst_bl, tru_int, isLT_int, isi_int_int, isi_bool_int, isi_str_int, isi_tup_int, isi_lst_int, tru_str, isLT_str, isi_int_str, isi_bool_str, isi_str_str, isi_tup_str, isi_lst_str, tru_tup, isLT_tup, isi_int_tup, isi_bool_tup, isi_str_tup, isi_tup_tup, isi_lst_tup, tru_lst, isLT_lst, isi_int_lst, isi_bool_lst, isi_str_lst, isi_tup_lst, isi_lst_lst, isL_lst, seqW_lst, seqW_tup, seqW_str, seqW_scr, sq2_lst, sq2_tup, inW_sign])
  refine lcMr (n := n) (fun _ h => h) n0 (by omega) (fun k => .tup [.str (Str.ofString "h" ++ (⟨#[97 + ((k : Int) % 26).toNat]⟩ : Str) ++ (⟨#[97 + ((k : Int) / 26).toNat]⟩ : Str)), .str st, .int ((k : Int) % 4), .tup []]) (fun k hk => ⟨_, rfl, fun p acc hp Qe h => ?_⟩) ?_
  · have e : L2.atI (Str.ofString "abcdefghijklmnopqrstuvwxyz").cps.toList ((k : Int) % 26) = some (97 + ((k : Int) % 26).toNat) := letter_at (by omega) (by omega)
    have e2 : L2.atI (Str.ofString "abcdefghijklmnopqrstuvwxyz").cps.toList ((k : Int) / 26) = some (97 + ((k : Int) / 26).toNat) := letter_at (by omega) (by omega)
    (simp only [↓dFgt, ↓dVar, ↓dC, ↓dOp, ↓dUn, ↓dI, ↓dI0, ↓dSub, ↓dMul, ↓dDiv, ↓dMod, ↓dPow, ↓dAdd, ↓dNeg, ↓dEq, ↓dNe, ↓dLt, ↓dLe, ↓dGt, ↓dGe, ↓dIsN, ↓dNotN, ↓dTru, ↓dTest, ↓dChain, ↓dAnd, ↓dOr, ↓dNot, ↓dAndV, ↓dOrV, ↓dNotV, ↓dIf, ↓dNil, ↓dCons, ↓dTup, ↓dLst, ↓dLstM, ↓dCB, ↓dLen, ↓dAbs, ↓dMax2, ↓dMin2, ↓dAll, ↓dAny, ↓dListOf, ↓dListOfM, ↓dTupOf, ↓dNext, ↓dSeq, ↓dDrop, ↓dRet, ↓dRetN, ↓dIfS, ↓dBrk, ↓dCnt, ↓dSet, ↓dAsgT, ↓dPar2, ↓tbind, ↓tbinds, ↓Om.set, ↓dCall, ↓dIx, ↓dNo, ↓dPart, ↓dSl, ↓dSlr, ↓dBM, ↓dApp, ↓dExt, ↓dSetIx, ↓dIs, ↓dMinS, ↓dMaxS, ↓dJoin, ↓dFrz, ↓dPut, ↓dFld, ↓dSetF, ↓dInt, ↓dIsLT, ↓dRng1, ↓dRng2, ↓dEnum, ↓dZip, ↓dSeqI, view_c_non, view_c_bl, view_c_int, view_c_str, view_c_tup, view_c_lst, view_c_scr, view_c_dct, view_c_ins, ↓startW, ↓wp, ↓wps, ↓dInKD, ↓dNotInKD, ↓dIxKD, ↓dIn, ↓dNotIn, ↓dDg, List.getElem?_cons_zero, List.getElem?_cons_succ, List.set_cons_zero, List.set_cons_succ, List.map_cons, List.map_nil, List.length_cons, List.length_nil, List.replicate_succ, List.replicate_zero, List.nil_append, List.cons_append, Bool.not_true, Bool.not_false, if_true, wkey_int, wkey_str, atI_0, atI_1, atI_2, atI_3, up_same, if_false, Bool.false_eq_true, Bool.true_eq_false, tru_non, isLT_non, isi_int_non, isi_bool_non, isi_str_non, isi_tup_non, isi_lst_non, tru_bl, isLT_bl, isi_int_bl, isi_bool_bl, isi_str_bl, isi_tup_bl, isi_lst_bl, tru_int, isLT_int, isi_int_int, isi_bool_int, isi_str_int, isi_tup_int, isi_lst_int, tru_str, isLT_str, isi_int_str, isi_bool_str, isi_str_str, isi_tup_str, isi_lst_str, tru_tup, isLT_tup, isi_int_tup, isi_bool_tup, isi_str_tup, isi_tup_tup, isi_lst_tup, tru_lst, isLT_lst, isi_int_lst, isi_bool_lst, isi_str_lst, isi_tup_lst, isi_lst_lst, isL_lst, seqW_lst, seqW_tup, seqW_str, seqW_scr, sq2_lst, sq2_tup, inW_sign])
    refine ⟨by decide, ?_⟩
    simp only [e]
    refine ⟨by show 1 + 1 ≤ 1000000; decide, ⟨by decide, by omega⟩, ?_⟩
    simp only [e2, hst]
    refine ⟨?_, by decide, by decide, by decide, h⟩
    rw [str_app]
    show 1 + 1 + 1 ≤ 1000000
    decide
  · (simp only [↓dFgt, ↓dVar, ↓dC, ↓dOp, ↓dUn, ↓dI, ↓dI0, ↓dSub, ↓dMul, ↓dDiv, ↓dMod, ↓dPow, ↓dAdd, ↓dNeg, ↓dEq, ↓dNe, ↓dLt, ↓dLe, ↓dGt, ↓dGe, ↓dIsN, ↓dNotN, ↓dTru, ↓dTest, ↓dChain, ↓dAnd, ↓dOr, ↓dNot, ↓dAndV, ↓dOrV, ↓dNotV, ↓dIf, ↓dNil, ↓dCons, ↓dTup, ↓dLst, ↓dLstM, ↓dCB, ↓dLen, ↓dAbs, ↓dMax2, ↓dMin2, ↓dAll, ↓dAny, ↓dListOf, ↓dListOfM, ↓dTupOf, ↓dNext, ↓dSeq, ↓dDrop, ↓dRet, ↓dRetN, ↓dIfS, ↓dBrk, ↓dCnt, ↓dSet, ↓dAsgT, ↓dPar2, ↓tbind, ↓tbinds, ↓Om.set, ↓dCall, ↓dIx, ↓dNo, ↓dPart, ↓dSl, ↓dSlr, ↓dBM, ↓dApp, ↓dExt, ↓dSetIx, ↓dIs, ↓dMinS, ↓dMaxS, ↓dJoin, ↓dFrz, ↓dPut, ↓dFld, ↓dSetF, ↓dInt, ↓dIsLT, ↓dRng1, ↓dRng2, ↓dEnum, ↓dZip, ↓dSeqI, view_c_non, view_c_bl, view_c_int, view_c_str, view_c_tup, view_c_lst, view_c_scr, view_c_dct, view_c_ins, ↓startW, ↓wp, ↓wps, ↓dInKD, ↓dNotInKD, ↓dIxKD, ↓dIn, ↓dNotIn, ↓dDg, List.getElem?_cons_zero, List.getElem?_cons_succ, List.set_cons_zero, List.set_cons_succ, List.map_cons, List.map_nil, List.length_cons, List.length_nil, List.replicate_succ, List.replicate_zero, List.nil_append, List.cons_append, Bool.not_true, Bool.not_false, if_true, wkey_int, wkey_str, atI_0, atI_1, atI_2, atI_3, up_same, if_false, Bool.false_eq_true, Bool.true_eq_false, tru_non, isLT_non, isi_int_non, isi_bool_non, isi_str_non, isi_tup_non, isi_lst_non, tru_bl, isLT_bl, isi_int_bl, isi_bool_bl, isi_str_bl, isi_tup_bl, isi_lst_bl, tru_int, isLT_int, isi_int_int, isi_bool_int, isi_str_int, isi_tup_int, isi_lst_int, tru_str, isLT_str, isi_int_str, isi_bool_str, isi_str_str, isi_tup_str, isi_lst_str, tru_tup, isLT_tup, isi_int_tup, isi_bool_tup, isi_str_tup, isi_tup_tup, isi_lst_tup, tru_lst, isLT_lst, isi_int_lst, isi_bool_lst, isi_str_lst, isi_tup_lst, isi_lst_lst, isL_lst, seqW_lst, seqW_tup, seqW_str, seqW_scr, sq2_lst, sq2_tup, inW_sign])
    refine frzQ.mk (q _ (.tup ?_ fun x hx => ?_))
    · rw [List.length_map, List.length_range]; omega
    · obtain ⟨k, _, rfl⟩ := List.mem_map.mp hx
      refine .tup (by show 4 ≤ 61; decide) fun y hy => ?_
      simp only [List.mem_cons, List.not_mem_nil, or_false] at hy
      rcases hy with rfl | rfl | rfl | rfl
      · exact trivial
      · exact trivial
      · exact trivial
      · exact ⟨by decide, fun y hy => absurd hy List.not_mem_nil⟩
section
variable {P : Program} {w : World} {K : PySem.W.Frag} {mg : Str → Option Value} {base : Heap} {c_Ground : Addr}
theorem ok_law_many {f : Addr} {fd : FuncData} (F : Fun K "_law_many" "_law_many" s_law_many f fd) (T : Txt K w mg c_Ground) : FnOk P w K mg base CX0 1 f fd ["_law_stations", "_law_many_here"] (uSp K (sp_law_many)) :=
  Fun.okF F sc_law_many (td_law_many) (fun cdv A outer s H E hr =>
    (dss_cons (ds_set (i := 2) sc_law_many.nd de_str)
    (dss_one (ds_ret (de_callTy cd_tuple T.z_tuple (da_cons (de_lc (own := [("_law_k", 3)]) sc_law_many.nd (di_range1 T.z_range (da_cons (dv 1) da_nil)) (blkOk_by (own := [("_law_k", 3)]) (N := N_law_many) (sc := defScope s_law_many) (by decide +kernel)) (fun _ _ _ _ _ => (dg_nm (i := 3) sc_law_many.nd)) (fun _ _ _ _ _ => dts_nil) (fun _ _ _ _ _ => (de_tup (da_cons (de_op oa_add (de_op oa_add de_str (de_ix (dv 2) (de_op oa_mod (dv 3) de_int))) (de_ix (dv 2) (de_op oa_div (dv 3) de_int))) (da_cons (de_ix (dv 0) de_int) (da_cons (de_op oa_mod (dv 3) de_int) (da_cons (de_tup da_nil) da_nil))))))) da_nil)))))) (fun ws S Q E h => len_law_many h) (hd_law_many)
end
end DL

set_option Elab.async false
set_option linter.all false
set_option maxRecDepth 100000
set_option maxHeartbeats 4000000
namespace DL
open PySem PySem.Spec PyProof.Rows L2
def bentB : W → Bool
  | .tup ys => ys.all len4
  | _ => false
theorem bentB_inv {x : W} (h : bentB x = true) : ∃ ys, x = .tup ys ∧ ∀ y ∈ ys, R4 y := by
  cases x <;> first | cases h | skip
  rename_i ys
  exact ⟨ys, rfl, fun y hy => len4_inv (List.all_eq_true.mp h y hy)⟩
theorem g_places {S : Sto} {C : Addr} {ps rs ss} : fget S C "places" (gW C ps rs ss) = some (placesW ps) := fget_ins.trans rfl
theorem HR.tk {x : W} (h : HR x) : Tk 60 9 x := by
  obtain ⟨a, st, m, sk, rfl, hl, hs⟩ := h
  refine .tup (by show 4 ≤ 60; decide) fun y hy => ?_
  simp only [List.mem_cons, List.not_mem_nil, or_false] at hy
  rcases hy with rfl | rfl | rfl | rfl
  · exact trivial
  · exact trivial
  · exact trivial
  · refine .tup (by omega) fun y hy => ?_
    obtain ⟨k, d, rfl⟩ := hs y hy
    refine .tup (by show 2 ≤ 60; decide) fun z hz => ?_
    simp only [List.mem_cons, List.not_mem_nil, or_false] at hz
    rcases hz with rfl | rfl <;> exact trivial
theorem HR.r4 {x : W} (h : HR x) : R4 x := by
  obtain ⟨a, st, m, sk, rfl, _⟩ := h
  exact ⟨_, _, _, _, rfl⟩
theorem hand_tk (n : Str) : Tk 60 10 (.tup [.tup [.str "hand", .str n, .int 1, .tup [.tup [.str "drive", .int 1]]]]) := by
  refine .tup (by show 1 ≤ 60; decide) fun y hy => ?_
  rw [List.mem_singleton.mp hy]
  refine .tup (by show 4 ≤ 60; decide) fun y hy => ?_
  simp only [List.mem_cons, List.not_mem_nil, or_false] at hy
  rcases hy with rfl | rfl | rfl | rfl
  · exact trivial
  · exact trivial
  · exact trivial
  · refine .tup (by show 1 ≤ 60; decide) fun y hy => ?_
    rw [List.mem_singleton.mp hy]
    refine .tup (by show 2 ≤ 60; decide) fun z hz => ?_
    simp only [List.mem_cons, List.not_mem_nil, or_false] at hz
    rcases hz with rfl | rfl <;> exact trivial
/-! ### law -/
abbrev s_law : Stmt := topS 60
abbrev N_law : List Str := ["_law_script", "_law_k", "_law_bag_here", "_law_field", "_law_folk", "_law_things", "_law_places", "_law_bent_here", "_law_given", "_law_due_here", "_law_told", "_law_turn", "_law_place", "_law_risk", "_law_one"]
theorem sc_law : FnScope N_law ["_law_script"] (defScope s_law) := ⟨rfl, rfl, rfl, by decide +kernel, rfl, by decide +kernel, by decide +kernel⟩
theorem st_law {x0 : W} : startW N_law [x0] = [some x0, none, none, none, none, none, none, none, none, none, none, none, none, none, none] := rfl
def td_law (c_Ground : Addr) : DS' :=
    (dSeq (dFor (dRng1 (dCons (dCB dMax2 (dCons (dC (.int 3)) (dCons (dCB dMin2 (dCons (dC (.int 6)) (dCons (dCB dLen (dCons (dVar 0) dNil)) dNil))) dNil))) dNil)) (.nm 1)
      (dSeq (dSet 2 (dCall sp_law_bag (dCons (dVar 0) (dCons (dVar 1) dNil))))
      (dSeq (dSet 3 (dCall (sp_law_ground c_Ground) (dCons (dVar 2) (dCons (dC (.int 12)) dNil))))
      (dSeq (dSet 4 (dCall sp_law_hands (dCons (dVar 2) (dCons (dFld c_Ground "stations" (dVar 3)) (dCons (dOp dIx (dTup (dCons (dC (.int 60)) (dCons (dC (.int 8)) dNil))) (dCall sp_law_take (dCons (dVar 2) (dCons (dC (.int 2)) dNil)))) dNil)))))
      (dSeq (dSet 5 (dLstM (dCons (dVar 4) (dCons (dTup dNil) (dCons (dCall sp_law_many (dCons (dFld c_Ground "stations" (dVar 3)) (dCons (dOp dAdd (dC (.int 60)) (dCall sp_law_take (dCons (dVar 2) (dCons (dC (.int 2)) dNil)))) dNil))) dNil)))))
      (dSeq (dSet 5 (dOp dAddM (dVar 5) (dLc (dRng1 (dCons (dC (.int 6)) dNil)) (.nm 11) dYes (dCall sp_law_bent (dCons (dVar 2) (dCons (dVar 4) dNil))) [11])))
      (dSeq (dSet 6 (dLc (dSeqI (dFld c_Ground "places" (dVar 3))) (.tp ((.nm 12) :: ((.nm 13) :: []))) dYes (dVar 12) [12, 13]))
      (dSeq (dDrop (dBM dApp (dVar 5) (dCons (dTup (dCons (dTup (dCons (dC (.str "hand")) (dCons (dOp dIx (dVar 6) (dCall sp_law_take (dCons (dVar 2) (dCons (dCB dLen (dCons (dVar 6) dNil)) dNil)))) (dCons (dC (.int 1)) (dCons (dTup (dCons (dTup (dCons (dC (.str "drive")) (dCons (dC (.int 1)) dNil))) dNil)) dNil))))) dNil)) dNil)))
      (dSeq (dSet 7 (dOp dIx (dVar 5) (dC (.int 3))))
      (dSeq (dIfS (dAnd (dTru (dUn (dIs .tup) (dVar 7))) (dTru (dCB dAll (dCons (dLc (dSeqI (dVar 7)) (.nm 14) dYes (dAndV (dUn (dIs .tup) (dVar 14)) (dOp dEq (dCB dLen (dCons (dVar 14) dNil)) (dC (.int 4)))) [14]) dNil)))) (dDrop (dBM dApp (dVar 5) (dCons (dCall sp_law_bent (dCons (dVar 2) (dCons (dVar 7) dNil))) dNil))) dNext)
      (dFor (dSeqI (dVar 5)) (.nm 8)
        (dSeq (dSet 9 (dCall sp_law_due (dCons (dFld c_Ground "stations" (dVar 3)) (dCons (dVar 8) dNil))))
        (dFor (dSeqI (dLst (dCons (dCall (sp_are_hands c_Ground) (dCons (dVar 3) (dCons (dVar 8) dNil))) (dCons (dCallN 0 2 [1, 0] (sp_are_hands c_Ground) dNil (dCons (dVar 8) (dCons (dVar 3) dNil))) dNil)))) (.nm 10)
          (dIfS (dOr (dNot (dTru (dUn (dIs .bool) (dVar 10)))) (dTest (dOp dNe (dVar 10) (dVar 9)))) (dRet (dC (.bl false))) dNext))))))))))))))
    (dRet (dC (.bl true))))
def sp_law (_ : Addr) : DSp := fun ws S Q _ => ∃ ns : List Int, ws = [.scr ns] ∧ ns.length ≤ 63 ∧ Q (.bl true) S
theorem len_law {c ws S Q E} (h : sp_law c ws S Q E) : ws.length = 1 := by obtain ⟨ns, rfl, _⟩ := h; rfl
theorem hd_law (c_Ground) (ws S Q E) (h : sp_law c_Ground ws S Q E) : td_law c_Ground { nx := fun _ S' => frzQ Q .non S', rt := frzQ Q } ⟨startW N_law ws, XF⟩ S := by
  obtain ⟨ns, rfl, hns, q⟩ := h
  simp only [st_law, td_law]
  refine seq_go ?_
  refine forRN (fun n S1 => (3 ≤ n ∧ n ≤ 6) ∧ S1 = S) (fun Q' h => ?_) ?_
  · (simp only [↓dFgt, ↓dVar, ↓dC, ↓dOp, ↓dUn, ↓dI, ↓dI0, ↓dSub, ↓dMul, ↓dDiv, ↓dMod, ↓dPow, ↓dAdd, ↓dNeg, ↓dEq, ↓dNe, ↓dLt, ↓dLe, ↓dGt, ↓dGe, ↓dIsN, ↓dNotN, ↓dTru, ↓dTest, ↓dChain, ↓dAnd, ↓dOr, ↓dNot, ↓dAndV, ↓dOrV, ↓dNotV, ↓dIf, ↓dNil, ↓dCons, ↓dTup, ↓dLst, ↓dLstM, ↓dCB, ↓dLen, ↓dAbs, ↓dMax2, ↓dMin2, ↓dAll, ↓dAny, ↓dListOf, ↓dListOfM, ↓dTupOf, ↓dNext, ↓dSeq, ↓dDrop, ↓dRet, ↓dRetN, ↓dIfS, ↓dBrk, ↓dCnt, ↓dSet, ↓dAsgT, ↓dPar2, ↓tbind, ↓tbinds, ↓Om.set, ↓dCall, ↓dIx, ↓dNo, ↓dPart, ↓dSl, ↓dSlr, ↓dBM, ↓dApp, ↓dExt, ↓dSetIx, ↓dIs, ↓dMinS, ↓dMaxS, ↓dJoin, ↓dFrz, ↓dPut, ↓dFld, ↓dSetF, ↓dInt, ↓dIsLT, ↓dRng1, ↓dRng2, ↓dEnum, ↓dZip, ↓dSeqI, view_c_non, view_c_bl, view_c_int, view_c_str, view_c_tup, view_c_lst, view_c_scr, view_c_dct, view_c_ins, ↓startW, ↓wp, ↓wps, ↓dInKD, ↓dNotInKD, ↓dIxKD, ↓dIn, ↓dNotIn, ↓dDg, List.getElem?_cons_zero, List.getElem?_cons_succ, List.set_cons_zero, List.set_cons_succ, List.map_cons, List.map_nil, List.length_cons, List.length_nil, List.replicate_succ, List.replicate_zero, List.nil_append, List.cons_append, Bool.not_true, Bool.not_false, if_true, wkey_int, wkey_str, atI_0, atI_1, atI_2, atI_3, up_same, if_false, Bool.false_eq_true, Bool.true_eq_false, tru_non, isLT_non, isi_int_non, isi_bool_non, isi_str_non, isi_tup_non, isi_lst_non, tru_bl, isLT_bl, isi_int_bl, isi_bool_bl, isi_str_bl, isi_tup_bl, isi_lst_bl, tru_int, isLT_int, isi_int_int, isi_bool_int, isi_str_int, isi_tup_int, isi_lst_int, tru_str, isLT_str, isi_int_str, isi_bool_str, isi_str_str, isi_tup_str, isi_lst_str, tru_tup, isLT_tup, isi_int_tup, isi_bool_tup, isi_str_tup, isi_tup_tup, isi_lst_tup, tru_lst, isLT_lst, isi_int_lst, isi_bool_lst, isi_str_lst, isi_tup_lst, isi_lst_lst, isL_lst, seqW_lst, seqW_tup, seqW_str, seqW_scr, sq2_lst, sq2_tup, inW_sign])
    refine h _ _ ⟨?_, rfl⟩
    constructor <;> (repeat' split) <;> omega
  rintro n S1 ⟨⟨n1, n2⟩, rfl⟩
  refine ⟨⟨by omega, by omega⟩, fun i ω' S' => (∃ y1 y2 y3 y4 y5 y6 y7 y8 y9 y10 y11 y12 y13 y14, ω' = ⟨[some (.scr ns), y1, y2, y3, y4, y5, y6, y7, y8, y9, y10, y11, y12, y13, y14], XF⟩) ∧ Drp S' S1, ⟨⟨_, _, _, _, _, _, _, _, _, _, _, _, _, _, rfl⟩, Drp.refl⟩, ?_, ?_⟩
  · rintro i ω' S' hi ⟨⟨y1, y2, y3, y4, y5, y6, y7, y8, y9, y10, y11, y12, y13, y14, rfl⟩, hdr⟩
    refine ⟨_, rfl, ?_⟩
    refine seq_go ?_
    refine setN_go (fun w S1 => ∃ b g s, w = .ref b ∧ S' b = none ∧ BagOk g s ∧ S1 = up S' b (bagO g s)) (fun Q h => ?_) ?_
    · (simp only [↓dFgt, ↓dVar, ↓dC, ↓dOp, ↓dUn, ↓dI, ↓dI0, ↓dSub, ↓dMul, ↓dDiv, ↓dMod, ↓dPow, ↓dAdd, ↓dNeg, ↓dEq, ↓dNe, ↓dLt, ↓dLe, ↓dGt, ↓dGe, ↓dIsN, ↓dNotN, ↓dTru, ↓dTest, ↓dChain, ↓dAnd, ↓dOr, ↓dNot, ↓dAndV, ↓dOrV, ↓dNotV, ↓dIf, ↓dNil, ↓dCons, ↓dTup, ↓dLst, ↓dLstM, ↓dCB, ↓dLen, ↓dAbs, ↓dMax2, ↓dMin2, ↓dAll, ↓dAny, ↓dListOf, ↓dListOfM, ↓dTupOf, ↓dNext, ↓dSeq, ↓dDrop, ↓dRet, ↓dRetN, ↓dIfS, ↓dBrk, ↓dCnt, ↓dSet, ↓dAsgT, ↓dPar2, ↓tbind, ↓tbinds, ↓Om.set, ↓dCall, ↓dIx, ↓dNo, ↓dPart, ↓dSl, ↓dSlr, ↓dBM, ↓dApp, ↓dExt, ↓dSetIx, ↓dIs, ↓dMinS, ↓dMaxS, ↓dJoin, ↓dFrz, ↓dPut, ↓dFld, ↓dSetF, ↓dInt, ↓dIsLT, ↓dRng1, ↓dRng2, ↓dEnum, ↓dZip, ↓dSeqI, view_c_non, view_c_bl, view_c_int, view_c_str, view_c_tup, view_c_lst, view_c_scr, view_c_dct, view_c_ins, ↓startW, ↓wp, ↓wps, ↓dInKD, ↓dNotInKD, ↓dIxKD, ↓dIn, ↓dNotIn, ↓dDg, List.getElem?_cons_zero, List.getElem?_cons_succ, List.set_cons_zero, List.set_cons_succ, List.map_cons, List.map_nil, List.length_cons, List.length_nil, List.replicate_succ, List.replicate_zero, List.nil_append, List.cons_append, Bool.not_true, Bool.not_false, if_true, wkey_int, wkey_str, atI_0, atI_1, atI_2, atI_3, up_same, if_false, Bool.false_eq_true, Bool.true_eq_false, tru_non, isLT_non, isi_int_non, isi_bool_non, isi_str_non, isi_tup_non, isi_lst_non, tru_bl, isLT_bl, isi_int_bl, isi_bool_bl, isi_str_bl, isi_tup_bl, isi_lst_bl, tru_int, isLT_int, isi_int_int, isi_bool_int, isi_str_int, isi_tup_int, isi_lst_int, tru_str, isLT_str, isi_int_str, isi_bool_str, isi_str_str, isi_tup_str, isi_lst_str, tru_tup, isLT_tup, isi_int_tup, isi_bool_tup, isi_str_tup, isi_tup_tup, isi_lst_tup, tru_lst, isLT_lst, isi_int_lst, isi_bool_lst, isi_str_lst, isi_tup_lst, isi_lst_lst, isL_lst, seqW_lst, seqW_tup, seqW_str, seqW_scr, sq2_lst, sq2_tup, inW_sign])
      exact ⟨ns, _, rfl, by omega, by omega, fun p hp g s ok => h _ _ ⟨p, g, s, rfl, hp, ok, rfl⟩⟩
    rintro _ _ ⟨b, g, s, rfl, hbS, ok, rfl⟩
    (((try unfold dNext); dsimp only; refine seq_go ?_))
    refine setN_go (fun w S1 => ∃ ps ss g s, w = gW c_Ground ps [] ss ∧ 1 ≤ ss.length ∧ ss.length ≤ 12 ∧ PsOk ps ∧ BagOk g s ∧ S1 = up S' b (bagO g s)) (fun Q h => ?_) ?_
    · (simp only [↓dFgt, ↓dVar, ↓dC, ↓dOp, ↓dUn, ↓dI, ↓dI0, ↓dSub, ↓dMul, ↓dDiv, ↓dMod, ↓dPow, ↓dAdd, ↓dNeg, ↓dEq, ↓dNe, ↓dLt, ↓dLe, ↓dGt, ↓dGe, ↓dIsN, ↓dNotN, ↓dTru, ↓dTest, ↓dChain, ↓dAnd, ↓dOr, ↓dNot, ↓dAndV, ↓dOrV, ↓dNotV, ↓dIf, ↓dNil, ↓dCons, ↓dTup, ↓dLst, ↓dLstM, ↓dCB, ↓dLen, ↓dAbs, ↓dMax2, ↓dMin2, ↓dAll, ↓dAny, ↓dListOf, ↓dListOfM, ↓dTupOf, ↓dNext, ↓dSeq, ↓dDrop, ↓dRet, ↓dRetN, ↓dIfS, ↓dBrk, ↓dCnt, ↓dSet, ↓dAsgT, ↓dPar2, ↓tbind, ↓tbinds, ↓Om.set, ↓dCall, ↓dIx, ↓dNo, ↓dPart, ↓dSl, ↓dSlr, ↓dBM, ↓dApp, ↓dExt, ↓dSetIx, ↓dIs, ↓dMinS, ↓dMaxS, ↓dJoin, ↓dFrz, ↓dPut, ↓dFld, ↓dSetF, ↓dInt, ↓dIsLT, ↓dRng1, ↓dRng2, ↓dEnum, ↓dZip, ↓dSeqI, view_c_non, view_c_bl, view_c_int, view_c_str, view_c_tup, view_c_lst, view_c_scr, view_c_dct, view_c_ins, ↓startW, ↓wp, ↓wps, ↓dInKD, ↓dNotInKD, ↓dIxKD, ↓dIn, ↓dNotIn, ↓dDg, List.getElem?_cons_zero, List.getElem?_cons_succ, List.set_cons_zero, List.set_cons_succ, List.map_cons, List.map_nil, List.length_cons, List.length_nil, List.replicate_succ, List.replicate_zero, List.nil_append, List.cons_append, Bool.not_true, Bool.not_false, if_true, wkey_int, wkey_str, atI_0, atI_1, atI_2, atI_3, up_same, if_false, Bool.false_eq_true, Bool.true_eq_false, tru_non, isLT_non, isi_int_non, isi_bool_non, isi_str_non, isi_tup_non, isi_lst_non, tru_bl, isLT_bl, isi_int_bl, isi_bool_bl, isi_str_bl, isi_tup_bl, isi_lst_bl, tru_int, isLT_int, isi_int_int, isi_bool_int, isi_str_int, isi_tup_int, isi_lst_int, tru_str, isLT_str, isi_int_str, isi_bool_str, isi_str_str, isi_tup_str, isi_lst_str, tru_tup, isLT_tup, isi_int_tup, isi_bool_tup, isi_str_tup, isi_tup_tup, isi_lst_tup, tru_lst, isLT_lst, isi_int_lst, isi_bool_lst, isi_str_lst, isi_tup_lst, isi_lst_lst, isL_lst, seqW_lst, seqW_tup, seqW_str, seqW_scr, sq2_lst, sq2_tup, inW_sign])
      refine ⟨b, 12, rfl, Bg.up ok, by decide, by decide, fun ps ss hp hs s1 s12 g s ok => ?_⟩
      rw [up_up]
      exact h _ _ ⟨ps, ss, g, s, rfl, s1, hs.hi, hp, ok, rfl⟩
    rintro _ _ ⟨ps, ss, g, s, rfl, s1, s12, hps, ok, rfl⟩
    (((try unfold dNext); dsimp only; refine seq_go ?_))
    refine setN_go (fun w S1 => ∃ xs g s, w = .tup xs ∧ Tk 60 10 w ∧ (∀ x ∈ xs, R4 x) ∧ BagOk g s ∧ S1 = up S' b (bagO g s)) (fun Q h => ?_) ?_
    · (simp only [↓dFgt, ↓dVar, ↓dC, ↓dOp, ↓dUn, ↓dI, ↓dI0, ↓dSub, ↓dMul, ↓dDiv, ↓dMod, ↓dPow, ↓dAdd, ↓dNeg, ↓dEq, ↓dNe, ↓dLt, ↓dLe, ↓dGt, ↓dGe, ↓dIsN, ↓dNotN, ↓dTru, ↓dTest, ↓dChain, ↓dAnd, ↓dOr, ↓dNot, ↓dAndV, ↓dOrV, ↓dNotV, ↓dIf, ↓dNil, ↓dCons, ↓dTup, ↓dLst, ↓dLstM, ↓dCB, ↓dLen, ↓dAbs, ↓dMax2, ↓dMin2, ↓dAll, ↓dAny, ↓dListOf, ↓dListOfM, ↓dTupOf, ↓dNext, ↓dSeq, ↓dDrop, ↓dRet, ↓dRetN, ↓dIfS, ↓dBrk, ↓dCnt, ↓dSet, ↓dAsgT, ↓dPar2, ↓tbind, ↓tbinds, ↓Om.set, ↓dCall, ↓dIx, ↓dNo, ↓dPart, ↓dSl, ↓dSlr, ↓dBM, ↓dApp, ↓dExt, ↓dSetIx, ↓dIs, ↓dMinS, ↓dMaxS, ↓dJoin, ↓dFrz, ↓dPut, ↓dFld, ↓dSetF, ↓dInt, ↓dIsLT, ↓dRng1, ↓dRng2, ↓dEnum, ↓dZip, ↓dSeqI, view_c_non, view_c_bl, view_c_int, view_c_str, view_c_tup, view_c_lst, view_c_scr, view_c_dct, view_c_ins, ↓startW, ↓wp, ↓wps, ↓dInKD, ↓dNotInKD, ↓dIxKD, ↓dIn, ↓dNotIn, ↓dDg, List.getElem?_cons_zero, List.getElem?_cons_succ, List.set_cons_zero, List.set_cons_succ, List.map_cons, List.map_nil, List.length_cons, List.length_nil, List.replicate_succ, List.replicate_zero, List.nil_append, List.cons_append, Bool.not_true, Bool.not_false, if_true, wkey_int, wkey_str, atI_0, atI_1, atI_2, atI_3, up_same, if_false, Bool.false_eq_true, Bool.true_eq_false, tru_non, isLT_non, isi_int_non, isi_bool_non, isi_str_non, isi_tup_non, isi_lst_non, tru_bl, isLT_bl, isi_int_bl, isi_bool_bl, isi_str_bl, isi_tup_bl, isi_lst_bl, tru_int, isLT_int, isi_int_int, isi_bool_int, isi_str_int, isi_tup_int, isi_lst_int, tru_str, isLT_str, isi_int_str, isi_bool_str, isi_str_str, isi_tup_str, isi_lst_str, tru_tup, isLT_tup, isi_int_tup, isi_bool_tup, isi_str_tup, isi_tup_tup, isi_lst_tup, tru_lst, isLT_lst, isi_int_lst, isi_bool_lst, isi_str_lst, isi_tup_lst, isi_lst_lst, isL_lst, seqW_lst, seqW_tup, seqW_str, seqW_scr, sq2_lst, sq2_tup, inW_sign])
      simp only [g_stations]
      refine ⟨by decide, b, 2, rfl, Bg.up ok, by decide, by decide, fun r r0 r1 g s ok => ?_⟩
      rw [up_up]
      obtain ⟨w, hw, hat⟩ := atI_pick (xs := [W.int 60, .int 8]) r0 r1
      have hm : ∃ m : Int, w = .int m ∧ 0 ≤ m ∧ m ≤ 60 := by
        simp only [List.mem_cons, List.not_mem_nil, or_false] at hw
        rcases hw with rfl | rfl <;> exact ⟨_, rfl, by decide, by decide⟩
      obtain ⟨m, rfl, m0, m60⟩ := hm
      simp only [hat]
      refine ⟨b, ss, m, rfl, Bg.up ok, s1, s12, m0, m60, fun xs hl hx g s ok => ?_⟩
      rw [up_up]
      exact h _ _ ⟨xs, g, s, rfl, .tup (by omega) fun x hm => (hx x hm).tk, fun x hm => (hx x hm).r4, ok, rfl⟩
    rintro _ _ ⟨cars, g, s, rfl, hcT, hc4, ok, rfl⟩
    (((try unfold dNext); dsimp only; refine seq_go ?_))
    refine setN_go (fun w S1 => ∃ p xs g s, w = .ref p ∧ S' p = none ∧ p ≠ b ∧ xs.length = 3 ∧ (∀ x ∈ xs, Tk 61 10 x) ∧ BagOk g s ∧ S1 = up (up S' p (.lst xs)) b (bagO g s)) (fun Q h => ?_) ?_
    · (simp only [↓dFgt, ↓dVar, ↓dC, ↓dOp, ↓dUn, ↓dI, ↓dI0, ↓dSub, ↓dMul, ↓dDiv, ↓dMod, ↓dPow, ↓dAdd, ↓dNeg, ↓dEq, ↓dNe, ↓dLt, ↓dLe, ↓dGt, ↓dGe, ↓dIsN, ↓dNotN, ↓dTru, ↓dTest, ↓dChain, ↓dAnd, ↓dOr, ↓dNot, ↓dAndV, ↓dOrV, ↓dNotV, ↓dIf, ↓dNil, ↓dCons, ↓dTup, ↓dLst, ↓dLstM, ↓dCB, ↓dLen, ↓dAbs, ↓dMax2, ↓dMin2, ↓dAll, ↓dAny, ↓dListOf, ↓dListOfM, ↓dTupOf, ↓dNext, ↓dSeq, ↓dDrop, ↓dRet, ↓dRetN, ↓dIfS, ↓dBrk, ↓dCnt, ↓dSet, ↓dAsgT, ↓dPar2, ↓tbind, ↓tbinds, ↓Om.set, ↓dCall, ↓dIx, ↓dNo, ↓dPart, ↓dSl, ↓dSlr, ↓dBM, ↓dApp, ↓dExt, ↓dSetIx, ↓dIs, ↓dMinS, ↓dMaxS, ↓dJoin, ↓dFrz, ↓dPut, ↓dFld, ↓dSetF, ↓dInt, ↓dIsLT, ↓dRng1, ↓dRng2, ↓dEnum, ↓dZip, ↓dSeqI, view_c_non, view_c_bl, view_c_int, view_c_str, view_c_tup, view_c_lst, view_c_scr, view_c_dct, view_c_ins, ↓startW, ↓wp, ↓wps, ↓dInKD, ↓dNotInKD, ↓dIxKD, ↓dIn, ↓dNotIn, ↓dDg, List.getElem?_cons_zero, List.getElem?_cons_succ, List.set_cons_zero, List.set_cons_succ, List.map_cons, List.map_nil, List.length_cons, List.length_nil, List.replicate_succ, List.replicate_zero, List.nil_append, List.cons_append, Bool.not_true, Bool.not_false, if_true, wkey_int, wkey_str, atI_0, atI_1, atI_2, atI_3, up_same, if_false, Bool.false_eq_true, Bool.true_eq_false, tru_non, isLT_non, isi_int_non, isi_bool_non, isi_str_non, isi_tup_non, isi_lst_non, tru_bl, isLT_bl, isi_int_bl, isi_bool_bl, isi_str_bl, isi_tup_bl, isi_lst_bl, tru_int, isLT_int, isi_int_int, isi_bool_int, isi_str_int, isi_tup_int, isi_lst_int, tru_str, isLT_str, isi_int_str, isi_bool_str, isi_str_str, isi_tup_str, isi_lst_str, tru_tup, isLT_tup, isi_int_tup, isi_bool_tup, isi_str_tup, isi_tup_tup, isi_lst_tup, tru_lst, isLT_lst, isi_int_lst, isi_bool_lst, isi_str_lst, isi_tup_lst, isi_lst_lst, isL_lst, seqW_lst, seqW_tup, seqW_str, seqW_scr, sq2_lst, sq2_tup, inW_sign])
      simp only [g_stations]
      refine ⟨by decide, b, 2, rfl, Bg.up ok, by decide, by decide, fun r r0 r1 g s ok => ?_⟩
      rw [up_up]
      refine ⟨ss, 60 + r, rfl, s1, by omega, by omega, fun xs hx => ?_⟩
      refine ⟨by decide, fun p hp => ?_⟩
      have hpb : p ≠ b := fun e => by subst e; rw [up_same] at hp; cases hp
      refine h _ _ ⟨p, [.tup cars, .tup [], .tup xs], g, s, rfl, by rw [up_ne hpb] at hp; exact hp, hpb, rfl, fun x hm => ?_, ok, up_comm (Ne.symm hpb)⟩
      simp only [List.mem_cons, List.not_mem_nil, or_false] at hm
      rcases hm with rfl | rfl | rfl
      · exact Tk.mono (by decide) (Nat.le_refl _) hcT
      · exact .tup (by decide) fun y hy => absurd hy List.not_mem_nil
      · exact Tk.mono (by decide) (by decide) hx
    rintro _ _ ⟨p, th, g, s, rfl, hpS, hpb, thl, hth, ok, rfl⟩
    have hSp : ∀ g s : Int, up (up S' p (.lst th)) b (bagO g s) p = some (.lst th) := fun g s => by rw [up_ne hpb, up_same]
    (((try unfold dNext); dsimp only; refine seq_go ?_))
    refine setN_go (fun w S1 => ∃ p2 xs g s, w = .ref p2 ∧ S' p2 = none ∧ p2 ≠ b ∧ p2 ≠ p ∧ 3 < xs.length ∧ xs.length ≤ 10 ∧ (∀ x ∈ xs, Tk 122 10 x) ∧ BagOk g s ∧ S1 = up (up (up S' p (.lst th)) p2 (.lst xs)) b (bagO g s)) (fun Q h => ?_) ?_
    · refine op_go (var_go rfl ?_)
      refine lcBr (b := b) (n := 6) (fun _ h => h) (by decide) (by decide) (Bg.up ok) (fun _ v => Tk 122 10 v) (fun j hj => ⟨_, rfl, fun S2 hB Qe hv => ?_⟩) (fun vs hl hG g' s' ok' => ?_)
      · (simp only [↓dFgt, ↓dVar, ↓dC, ↓dOp, ↓dUn, ↓dI, ↓dI0, ↓dSub, ↓dMul, ↓dDiv, ↓dMod, ↓dPow, ↓dAdd, ↓dNeg, ↓dEq, ↓dNe, ↓dLt, ↓dLe, ↓dGt, ↓dGe, ↓dIsN, ↓dNotN, ↓dTru, ↓dTest, ↓dChain, ↓dAnd, ↓dOr, ↓dNot, ↓dAndV, ↓dOrV, ↓dNotV, ↓dIf, ↓dNil, ↓dCons, ↓dTup, ↓dLst, ↓dLstM, ↓dCB, ↓dLen, ↓dAbs, ↓dMax2, ↓dMin2, ↓dAll, ↓dAny, ↓dListOf, ↓dListOfM, ↓dTupOf, ↓dNext, ↓dSeq, ↓dDrop, ↓dRet, ↓dRetN, ↓dIfS, ↓dBrk, ↓dCnt, ↓dSet, ↓dAsgT, ↓dPar2, ↓tbind, ↓tbinds, ↓Om.set, ↓dCall, ↓dIx, ↓dNo, ↓dPart, ↓dSl, ↓dSlr, ↓dBM, ↓dApp, ↓dExt, ↓dSetIx, ↓dIs, ↓dMinS, ↓dMaxS, ↓dJoin, ↓dFrz, ↓dPut, ↓dFld, ↓dSetF, ↓dInt, ↓dIsLT, ↓dRng1, ↓dRng2, ↓dEnum, ↓dZip, ↓dSeqI, view_c_non, view_c_bl, view_c_int, view_c_str, view_c_tup, view_c_lst, view_c_scr, view_c_dct, view_c_ins, ↓startW, ↓wp, ↓wps, ↓dInKD, ↓dNotInKD, ↓dIxKD, ↓dIn, ↓dNotIn, ↓dDg, List.getElem?_cons_zero, List.getElem?_cons_succ, List.set_cons_zero, List.set_cons_succ, List.map_cons, List.map_nil, List.length_cons, List.length_nil, List.replicate_succ, List.replicate_zero, List.nil_append, List.cons_append, Bool.not_true, Bool.not_false, if_true, wkey_int, wkey_str, atI_0, atI_1, atI_2, atI_3, up_same, if_false, Bool.false_eq_true, Bool.true_eq_false, tru_non, isLT_non, isi_int_non, isi_bool_non, isi_str_non, isi_tup_non, isi_lst_non, tru_bl, isLT_bl, isi_int_bl, isi_bool_bl, isi_str_bl, isi_tup_bl, isi_lst_bl, tru_int, isLT_int, isi_int_int, isi_bool_int, isi_str_int, isi_tup_int, isi_lst_int, tru_str, isLT_str, isi_int_str, isi_bool_str, isi_str_str, isi_tup_str, isi_lst_str, tru_tup, isLT_tup, isi_int_tup, isi_bool_tup, isi_str_tup, isi_tup_tup, isi_lst_tup, tru_lst, isLT_lst, isi_int_lst, isi_bool_lst, isi_str_lst, isi_tup_lst, isi_lst_lst, isL_lst, seqW_lst, seqW_tup, seqW_str, seqW_scr, sq2_lst, sq2_tup, inW_sign])
        exact ⟨b, cars, 60, 10, rfl, hB, hcT, hc4, by decide, by decide, by decide, by decide, fun y hy => hv y (Tk.mono (by decide) (Nat.le_refl _) hy)⟩
      · rw [up_up]
        have hl : vs.length = 6 := hl
        simp only [dAddM, view_ref (hSp g' s'), view_c_lst]
        refine ⟨by omega, fun p2 hp2 => ?_⟩
        have h2b : p2 ≠ b := fun e => by subst e; rw [up_same] at hp2; cases hp2
        have h2p : p2 ≠ p := fun e => by subst e; rw [up_ne h2b, up_same] at hp2; cases hp2
        refine h _ _ ⟨p2, th ++ vs, g', s', rfl, by rw [up_ne h2b, up_ne h2p] at hp2; exact hp2, h2b, h2p, by rw [List.length_append]; omega, by rw [List.length_append]; omega, fun x hm => ?_, ok', up_comm (Ne.symm h2b)⟩
        rcases List.mem_append.mp hm with hm | hm
        · exact Tk.mono (by decide) (Nat.le_refl _) (hth x hm)
        · obtain ⟨j, hj⟩ := List.getElem?_of_mem hm
          exact hG j x hj
    rintro _ _ ⟨p2, xs, g, s, rfl, hp2S, h2b, h2p, xl, xl2, hxs, ok, rfl⟩
    have hS2 : ∀ (l : List W) (g s : Int), up (up (up S' p (.lst th)) p2 (.lst l)) b (bagO g s) p2 = some (.lst l) := fun l g s => by rw [up_ne h2b, up_same]
    (((try unfold dNext); dsimp only; refine seq_go ?_))
    obtain ⟨pls, hpls⟩ : ∃ pls, pls = W.lst (ps.map fun p => W.str p.1) := ⟨_, rfl⟩
    refine set_go pls (up (up (up S' p (.lst th)) p2 (.lst xs)) b (bagO g s)) (fun Q h => ?_) ?_
    · refine lcMs (w := placesW ps) (xs := ps.map fun p => placeW p.1 p.2) (fun Q' h => by (simp only [↓dFgt, ↓dVar, ↓dC, ↓dOp, ↓dUn, ↓dI, ↓dI0, ↓dSub, ↓dMul, ↓dDiv, ↓dMod, ↓dPow, ↓dAdd, ↓dNeg, ↓dEq, ↓dNe, ↓dLt, ↓dLe, ↓dGt, ↓dGe, ↓dIsN, ↓dNotN, ↓dTru, ↓dTest, ↓dChain, ↓dAnd, ↓dOr, ↓dNot, ↓dAndV, ↓dOrV, ↓dNotV, ↓dIf, ↓dNil, ↓dCons, ↓dTup, ↓dLst, ↓dLstM, ↓dCB, ↓dLen, ↓dAbs, ↓dMax2, ↓dMin2, ↓dAll, ↓dAny, ↓dListOf, ↓dListOfM, ↓dTupOf, ↓dNext, ↓dSeq, ↓dDrop, ↓dRet, ↓dRetN, ↓dIfS, ↓dBrk, ↓dCnt, ↓dSet, ↓dAsgT, ↓dPar2, ↓tbind, ↓tbinds, ↓Om.set, ↓dCall, ↓dIx, ↓dNo, ↓dPart, ↓dSl, ↓dSlr, ↓dBM, ↓dApp, ↓dExt, ↓dSetIx, ↓dIs, ↓dMinS, ↓dMaxS, ↓dJoin, ↓dFrz, ↓dPut, ↓dFld, ↓dSetF, ↓dInt, ↓dIsLT, ↓dRng1, ↓dRng2, ↓dEnum, ↓dZip, ↓dSeqI, view_c_non, view_c_bl, view_c_int, view_c_str, view_c_tup, view_c_lst, view_c_scr, view_c_dct, view_c_ins, ↓startW, ↓wp, ↓wps, ↓dInKD, ↓dNotInKD, ↓dIxKD, ↓dIn, ↓dNotIn, ↓dDg, List.getElem?_cons_zero, List.getElem?_cons_succ, List.set_cons_zero, List.set_cons_succ, List.map_cons, List.map_nil, List.length_cons, List.length_nil, List.replicate_succ, List.replicate_zero, List.nil_append, List.cons_append, Bool.not_true, Bool.not_false, if_true, wkey_int, wkey_str, atI_0, atI_1, atI_2, atI_3, up_same, if_false, Bool.false_eq_true, Bool.true_eq_false, tru_non, isLT_non, isi_int_non, isi_bool_non, isi_str_non, isi_tup_non, isi_lst_non, tru_bl, isLT_bl, isi_int_bl, isi_bool_bl, isi_str_bl, isi_tup_bl, isi_lst_bl, tru_int, isLT_int, isi_int_int, isi_bool_int, isi_str_int, isi_tup_int, isi_lst_int, tru_str, isLT_str, isi_int_str, isi_bool_str, isi_str_str, isi_tup_str, isi_lst_str, tru_tup, isLT_tup, isi_int_tup, isi_bool_tup, isi_str_tup, isi_tup_tup, isi_lst_tup, tru_lst, isLT_lst, isi_int_lst, isi_bool_lst, isi_str_lst, isi_tup_lst, isi_lst_lst, isL_lst, seqW_lst, seqW_tup, seqW_str, seqW_scr, sq2_lst, sq2_tup, inW_sign]); simp only [g_places]; exact h) rfl (fun w => match w with | .tup (a :: _) => a | _ => .non) (by rw [List.length_map]; have := hps.hi; omega) (fun _ _ _ => rfl) (fun w hw => ?_) ?_
      · obtain ⟨p, _, rfl⟩ := List.mem_map.mp hw
        exact ⟨_, rfl, fun p' acc hp' Qe h => h⟩
      rw [List.map_map]
      subst hpls
      exact h
    (((try unfold dNext); dsimp only; refine seq_go ?_))
    refine stN_go (fun ω' S2 => ω' = ⟨[some (.scr ns), some (.int (i : Nat)), some (.ref b), some (gW c_Ground ps [] ss), some (.tup cars), some (.ref p2), some pls, y7, y8, y9, y10, y11, y12, y13, y14], XF⟩ ∧ ∃ xs g s, BagOk g s ∧ (∀ z ∈ xs, Tk 122 10 z) ∧ 3 < xs.length ∧ xs.length ≤ 11 ∧ S2 = up (up (up S' p (.lst th)) p2 (.lst xs)) b (bagO g s)) (fun D' h => ?_) ?_
    · refine drop_go (bm_go (var_go rfl ⟨isL_ref (hS2 _ _ _), ?_⟩))
      subst hpls
      (simp only [↓dFgt, ↓dVar, ↓dC, ↓dOp, ↓dUn, ↓dI, ↓dI0, ↓dSub, ↓dMul, ↓dDiv, ↓dMod, ↓dPow, ↓dAdd, ↓dNeg, ↓dEq, ↓dNe, ↓dLt, ↓dLe, ↓dGt, ↓dGe, ↓dIsN, ↓dNotN, ↓dTru, ↓dTest, ↓dChain, ↓dAnd, ↓dOr, ↓dNot, ↓dAndV, ↓dOrV, ↓dNotV, ↓dIf, ↓dNil, ↓dCons, ↓dTup, ↓dLst, ↓dLstM, ↓dCB, ↓dLen, ↓dAbs, ↓dMax2, ↓dMin2, ↓dAll, ↓dAny, ↓dListOf, ↓dListOfM, ↓dTupOf, ↓dNext, ↓dSeq, ↓dDrop, ↓dRet, ↓dRetN, ↓dIfS, ↓dBrk, ↓dCnt, ↓dSet, ↓dAsgT, ↓dPar2, ↓tbind, ↓tbinds, ↓Om.set, ↓dCall, ↓dIx, ↓dNo, ↓dPart, ↓dSl, ↓dSlr, ↓dBM, ↓dApp, ↓dExt, ↓dSetIx, ↓dIs, ↓dMinS, ↓dMaxS, ↓dJoin, ↓dFrz, ↓dPut, ↓dFld, ↓dSetF, ↓dInt, ↓dIsLT, ↓dRng1, ↓dRng2, ↓dEnum, ↓dZip, ↓dSeqI, view_c_non, view_c_bl, view_c_int, view_c_str, view_c_tup, view_c_lst, view_c_scr, view_c_dct, view_c_ins, ↓startW, ↓wp, ↓wps, ↓dInKD, ↓dNotInKD, ↓dIxKD, ↓dIn, ↓dNotIn, ↓dDg, List.getElem?_cons_zero, List.getElem?_cons_succ, List.set_cons_zero, List.set_cons_succ, List.map_cons, List.map_nil, List.length_cons, List.length_nil, List.replicate_succ, List.replicate_zero, List.nil_append, List.cons_append, Bool.not_true, Bool.not_false, if_true, wkey_int, wkey_str, atI_0, atI_1, atI_2, atI_3, up_same, if_false, Bool.false_eq_true, Bool.true_eq_false, tru_non, isLT_non, isi_int_non, isi_bool_non, isi_str_non, isi_tup_non, isi_lst_non, tru_bl, isLT_bl, isi_int_bl, isi_bool_bl, isi_str_bl, isi_tup_bl, isi_lst_bl, tru_int, isLT_int, isi_int_int, isi_bool_int, isi_str_int, isi_tup_int, isi_lst_int, tru_str, isLT_str, isi_int_str, isi_bool_str, isi_str_str, isi_tup_str, isi_lst_str, tru_tup, isLT_tup, isi_int_tup, isi_bool_tup, isi_str_tup, isi_tup_tup, isi_lst_tup, tru_lst, isLT_lst, isi_int_lst, isi_bool_lst, isi_str_lst, isi_tup_lst, isi_lst_lst, isL_lst, seqW_lst, seqW_tup, seqW_str, seqW_scr, sq2_lst, sq2_tup, inW_sign])
      have hp1 := hps.lo
      have hp2 := hps.hi
      refine ⟨b, _, rfl, Bg.up ok, by rw [List.length_map]; omega, by rw [List.length_map]; omega, fun r r0 r1 g s ok => ?_⟩
      rw [up_up]
      obtain ⟨w, hw, hat⟩ := atI_pick (xs := ps.map fun p => W.str p.1) r0 r1
      obtain ⟨pl, _, rfl⟩ := List.mem_map.mp hw
      simp only [hat, hS2]
      refine ⟨by decide, by decide, by decide, by decide, by omega, h _ _ ⟨rfl, xs ++ [.tup [.tup [.str "hand", .str pl.1, .int 1, .tup [.tup [.str "drive", .int 1]]]]], g, s, ok, fun z hz => ?_, by rw [List.length_append]; omega, by rw [List.length_append]; show _ + 1 ≤ _; omega, ?_⟩⟩
      · rcases List.mem_append.mp hz with hz | hz
        · exact hxs z hz
        · rw [List.mem_singleton.mp hz]; exact Tk.mono (by decide) (Nat.le_refl _) (hand_tk _)
      · rw [← up_comm h2b, up_up]
    clear hxs xl xl2 xs
    rintro _ _ ⟨rfl, xs, g, s, ok, hxs, xl, xl2, rfl⟩
    obtain ⟨x3, hx3m, hx3⟩ : ∃ x, x ∈ xs ∧ L2.atI xs 3 = some x := atI_nat (a := 3) xl
    have hx3T := hxs x3 hx3m
    (((try unfold dNext); dsimp only; refine seq_go ?_))
    refine set_go x3 (up (up (up S' p (.lst th)) p2 (.lst xs)) b (bagO g s)) (fun Q h => ?_) ?_
    · (simp only [↓dFgt, ↓dVar, ↓dC, ↓dOp, ↓dUn, ↓dI, ↓dI0, ↓dSub, ↓dMul, ↓dDiv, ↓dMod, ↓dPow, ↓dAdd, ↓dNeg, ↓dEq, ↓dNe, ↓dLt, ↓dLe, ↓dGt, ↓dGe, ↓dIsN, ↓dNotN, ↓dTru, ↓dTest, ↓dChain, ↓dAnd, ↓dOr, ↓dNot, ↓dAndV, ↓dOrV, ↓dNotV, ↓dIf, ↓dNil, ↓dCons, ↓dTup, ↓dLst, ↓dLstM, ↓dCB, ↓dLen, ↓dAbs, ↓dMax2, ↓dMin2, ↓dAll, ↓dAny, ↓dListOf, ↓dListOfM, ↓dTupOf, ↓dNext, ↓dSeq, ↓dDrop, ↓dRet, ↓dRetN, ↓dIfS, ↓dBrk, ↓dCnt, ↓dSet, ↓dAsgT, ↓dPar2, ↓tbind, ↓tbinds, ↓Om.set, ↓dCall, ↓dIx, ↓dNo, ↓dPart, ↓dSl, ↓dSlr, ↓dBM, ↓dApp, ↓dExt, ↓dSetIx, ↓dIs, ↓dMinS, ↓dMaxS, ↓dJoin, ↓dFrz, ↓dPut, ↓dFld, ↓dSetF, ↓dInt, ↓dIsLT, ↓dRng1, ↓dRng2, ↓dEnum, ↓dZip, ↓dSeqI, view_c_non, view_c_bl, view_c_int, view_c_str, view_c_tup, view_c_lst, view_c_scr, view_c_dct, view_c_ins, ↓startW, ↓wp, ↓wps, ↓dInKD, ↓dNotInKD, ↓dIxKD, ↓dIn, ↓dNotIn, ↓dDg, List.getElem?_cons_zero, List.getElem?_cons_succ, List.set_cons_zero, List.set_cons_succ, List.map_cons, List.map_nil, List.length_cons, List.length_nil, List.replicate_succ, List.replicate_zero, List.nil_append, List.cons_append, Bool.not_true, Bool.not_false, if_true, wkey_int, wkey_str, atI_0, atI_1, atI_2, atI_3, up_same, if_false, Bool.false_eq_true, Bool.true_eq_false, tru_non, isLT_non, isi_int_non, isi_bool_non, isi_str_non, isi_tup_non, isi_lst_non, tru_bl, isLT_bl, isi_int_bl, isi_bool_bl, isi_str_bl, isi_tup_bl, isi_lst_bl, tru_int, isLT_int, isi_int_int, isi_bool_int, isi_str_int, isi_tup_int, isi_lst_int, tru_str, isLT_str, isi_int_str, isi_bool_str, isi_str_str, isi_tup_str, isi_lst_str, tru_tup, isLT_tup, isi_int_tup, isi_bool_tup, isi_str_tup, isi_tup_tup, isi_lst_tup, tru_lst, isLT_lst, isi_int_lst, isi_bool_lst, isi_str_lst, isi_tup_lst, isi_lst_lst, isL_lst, seqW_lst, seqW_tup, seqW_str, seqW_scr, sq2_lst, sq2_tup, inW_sign])
      simp only [view_ref (hS2 _ _ _), hx3]
      exact h
    (((try unfold dNext); dsimp only; refine seq_go ?_))
    refine stN_go (fun ω' S2 => ω' = ⟨[some (.scr ns), some (.int (i : Nat)), some (.ref b), some (gW c_Ground ps [] ss), some (.tup cars), some (.ref p2), some pls, some x3, y8, y9, y10, y11, y12, y13, y14], XF⟩ ∧ ∃ zs g s, BagOk g s ∧ (∀ z ∈ zs, Tk 246 10 z) ∧ zs.length ≤ 12 ∧ S2 = up (up (up S' p (.lst th)) p2 (.lst zs)) b (bagO g s)) (fun D' h => ?_) ?_
    · refine if_b (bentB x3) (fun Q h => ?_) (fun e => ?_) (fun e => ?_)
      · have hp := hx3T.p
        cases x3 with
        | tup ys =>
          (simp only [↓dFgt, ↓dVar, ↓dC, ↓dOp, ↓dUn, ↓dI, ↓dI0, ↓dSub, ↓dMul, ↓dDiv, ↓dMod, ↓dPow, ↓dAdd, ↓dNeg, ↓dEq, ↓dNe, ↓dLt, ↓dLe, ↓dGt, ↓dGe, ↓dIsN, ↓dNotN, ↓dTru, ↓dTest, ↓dChain, ↓dAnd, ↓dOr, ↓dNot, ↓dAndV, ↓dOrV, ↓dNotV, ↓dIf, ↓dNil, ↓dCons, ↓dTup, ↓dLst, ↓dLstM, ↓dCB, ↓dLen, ↓dAbs, ↓dMax2, ↓dMin2, ↓dAll, ↓dAny, ↓dListOf, ↓dListOfM, ↓dTupOf, ↓dNext, ↓dSeq, ↓dDrop, ↓dRet, ↓dRetN, ↓dIfS, ↓dBrk, ↓dCnt, ↓dSet, ↓dAsgT, ↓dPar2, ↓tbind, ↓tbinds, ↓Om.set, ↓dCall, ↓dIx, ↓dNo, ↓dPart, ↓dSl, ↓dSlr, ↓dBM, ↓dApp, ↓dExt, ↓dSetIx, ↓dIs, ↓dMinS, ↓dMaxS, ↓dJoin, ↓dFrz, ↓dPut, ↓dFld, ↓dSetF, ↓dInt, ↓dIsLT, ↓dRng1, ↓dRng2, ↓dEnum, ↓dZip, ↓dSeqI, view_c_non, view_c_bl, view_c_int, view_c_str, view_c_tup, view_c_lst, view_c_scr, view_c_dct, view_c_ins, ↓startW, ↓wp, ↓wps, ↓dInKD, ↓dNotInKD, ↓dIxKD, ↓dIn, ↓dNotIn, ↓dDg, List.getElem?_cons_zero, List.getElem?_cons_succ, List.set_cons_zero, List.set_cons_succ, List.map_cons, List.map_nil, List.length_cons, List.length_nil, List.replicate_succ, List.replicate_zero, List.nil_append, List.cons_append, Bool.not_true, Bool.not_false, if_true, wkey_int, wkey_str, atI_0, atI_1, atI_2, atI_3, up_same, if_false, Bool.false_eq_true, Bool.true_eq_false, tru_non, isLT_non, isi_int_non, isi_bool_non, isi_str_non, isi_tup_non, isi_lst_non, tru_bl, isLT_bl, isi_int_bl, isi_bool_bl, isi_str_bl, isi_tup_bl, isi_lst_bl, tru_int, isLT_int, isi_int_int, isi_bool_int, isi_str_int, isi_tup_int, isi_lst_int, tru_str, isLT_str, isi_int_str, isi_bool_str, isi_str_str, isi_tup_str, isi_lst_str, tru_tup, isLT_tup, isi_int_tup, isi_bool_tup, isi_str_tup, isi_tup_tup, isi_lst_tup, tru_lst, isLT_lst, isi_int_lst, isi_bool_lst, isi_str_lst, isi_tup_lst, isi_lst_lst, isL_lst, seqW_lst, seqW_tup, seqW_str, seqW_scr, sq2_lst, sq2_tup, inW_sign])
          refine lcMs (w := .tup ys) (xs := ys) (fun _ h => h) rfl (fun w => .bl (len4 w)) (by have := hx3T.1; omega) (fun _ _ _ => rfl) (fun w hw => ⟨_, rfl, fun p acc hp Qe h => ?_⟩) ?_
          · have hp := (hx3T.2 w hw).p
            cases w with
            | tup zs =>
              (simp only [↓dFgt, ↓dVar, ↓dC, ↓dOp, ↓dUn, ↓dI, ↓dI0, ↓dSub, ↓dMul, ↓dDiv, ↓dMod, ↓dPow, ↓dAdd, ↓dNeg, ↓dEq, ↓dNe, ↓dLt, ↓dLe, ↓dGt, ↓dGe, ↓dIsN, ↓dNotN, ↓dTru, ↓dTest, ↓dChain, ↓dAnd, ↓dOr, ↓dNot, ↓dAndV, ↓dOrV, ↓dNotV, ↓dIf, ↓dNil, ↓dCons, ↓dTup, ↓dLst, ↓dLstM, ↓dCB, ↓dLen, ↓dAbs, ↓dMax2, ↓dMin2, ↓dAll, ↓dAny, ↓dListOf, ↓dListOfM, ↓dTupOf, ↓dNext, ↓dSeq, ↓dDrop, ↓dRet, ↓dRetN, ↓dIfS, ↓dBrk, ↓dCnt, ↓dSet, ↓dAsgT, ↓dPar2, ↓tbind, ↓tbinds, ↓Om.set, ↓dCall, ↓dIx, ↓dNo, ↓dPart, ↓dSl, ↓dSlr, ↓dBM, ↓dApp, ↓dExt, ↓dSetIx, ↓dIs, ↓dMinS, ↓dMaxS, ↓dJoin, ↓dFrz, ↓dPut, ↓dFld, ↓dSetF, ↓dInt, ↓dIsLT, ↓dRng1, ↓dRng2, ↓dEnum, ↓dZip, ↓dSeqI, view_c_non, view_c_bl, view_c_int, view_c_str, view_c_tup, view_c_lst, view_c_scr, view_c_dct, view_c_ins, ↓startW, ↓wp, ↓wps, ↓dInKD, ↓dNotInKD, ↓dIxKD, ↓dIn, ↓dNotIn, ↓dDg, List.getElem?_cons_zero, List.getElem?_cons_succ, List.set_cons_zero, List.set_cons_succ, List.map_cons, List.map_nil, List.length_cons, List.length_nil, List.replicate_succ, List.replicate_zero, List.nil_append, List.cons_append, Bool.not_true, Bool.not_false, if_true, wkey_int, wkey_str, atI_0, atI_1, atI_2, atI_3, up_same, if_false, Bool.false_eq_true, Bool.true_eq_false, tru_non, isLT_non, isi_int_non, isi_bool_non, isi_str_non, isi_tup_non, isi_lst_non, tru_bl, isLT_bl, isi_int_bl, isi_bool_bl, isi_str_bl, isi_tup_bl, isi_lst_bl, tru_int, isLT_int, isi_int_int, isi_bool_int, isi_str_int, isi_tup_int, isi_lst_int, tru_str, isLT_str, isi_int_str, isi_bool_str, isi_str_str, isi_tup_str, isi_lst_str, tru_tup, isLT_tup, isi_int_tup, isi_bool_tup, isi_str_tup, isi_tup_tup, isi_lst_tup, tru_lst, isLT_lst, isi_int_lst, isi_bool_lst, isi_str_lst, isi_tup_lst, isi_lst_lst, isL_lst, seqW_lst, seqW_tup, seqW_str, seqW_scr, sq2_lst, sq2_tup, inW_sign])
              refine ⟨rfl, rfl, ?_⟩
              simp only [weq_int]
              exact h
            | _ => first | ((simp only [↓dFgt, ↓dVar, ↓dC, ↓dOp, ↓dUn, ↓dI, ↓dI0, ↓dSub, ↓dMul, ↓dDiv, ↓dMod, ↓dPow, ↓dAdd, ↓dNeg, ↓dEq, ↓dNe, ↓dLt, ↓dLe, ↓dGt, ↓dGe, ↓dIsN, ↓dNotN, ↓dTru, ↓dTest, ↓dChain, ↓dAnd, ↓dOr, ↓dNot, ↓dAndV, ↓dOrV, ↓dNotV, ↓dIf, ↓dNil, ↓dCons, ↓dTup, ↓dLst, ↓dLstM, ↓dCB, ↓dLen, ↓dAbs, ↓dMax2, ↓dMin2, ↓dAll, ↓dAny, ↓dListOf, ↓dListOfM, ↓dTupOf, ↓dNext, ↓dSeq, ↓dDrop, ↓dRet, ↓dRetN, ↓dIfS, ↓dBrk, ↓dCnt, ↓dSet, ↓dAsgT, ↓dPar2, ↓tbind, ↓tbinds, ↓Om.set, ↓dCall, ↓dIx, ↓dNo, ↓dPart, ↓dSl, ↓dSlr, ↓dBM, ↓dApp, ↓dExt, ↓dSetIx, ↓dIs, ↓dMinS, ↓dMaxS, ↓dJoin, ↓dFrz, ↓dPut, ↓dFld, ↓dSetF, ↓dInt, ↓dIsLT, ↓dRng1, ↓dRng2, ↓dEnum, ↓dZip, ↓dSeqI, view_c_non, view_c_bl, view_c_int, view_c_str, view_c_tup, view_c_lst, view_c_scr, view_c_dct, view_c_ins, ↓startW, ↓wp, ↓wps, ↓dInKD, ↓dNotInKD, ↓dIxKD, ↓dIn, ↓dNotIn, ↓dDg, List.getElem?_cons_zero, List.getElem?_cons_succ, List.set_cons_zero, List.set_cons_succ, List.map_cons, List.map_nil, List.length_cons, List.length_nil, List.replicate_succ, List.replicate_zero, List.nil_append, List.cons_append, Bool.not_true, Bool.not_false, if_true, wkey_int, wkey_str, atI_0, atI_1, atI_2, atI_3, up_same, if_false, Bool.false_eq_true, Bool.true_eq_false, tru_non, isLT_non, isi_int_non, isi_bool_non, isi_str_non, isi_tup_non, isi_lst_non, tru_bl, isLT_bl, isi_int_bl, isi_bool_bl, isi_str_bl, isi_tup_bl, isi_lst_bl, tru_int, isLT_int, isi_int_int, isi_bool_int, isi_str_int, isi_tup_int, isi_lst_int, tru_str, isLT_str, isi_int_str, isi_bool_str, isi_str_str, isi_tup_str, isi_lst_str, tru_tup, isLT_tup, isi_int_tup, isi_bool_tup, isi_str_tup, isi_tup_tup, isi_lst_tup, tru_lst, isLT_lst, isi_int_lst, isi_bool_lst, isi_str_lst, isi_tup_lst, isi_lst_lst, isL_lst, seqW_lst, seqW_tup, seqW_str, seqW_scr, sq2_lst, sq2_tup, inW_sign]); exact h) | cases hp
          (simp only [↓dFgt, ↓dVar, ↓dC, ↓dOp, ↓dUn, ↓dI, ↓dI0, ↓dSub, ↓dMul, ↓dDiv, ↓dMod, ↓dPow, ↓dAdd, ↓dNeg, ↓dEq, ↓dNe, ↓dLt, ↓dLe, ↓dGt, ↓dGe, ↓dIsN, ↓dNotN, ↓dTru, ↓dTest, ↓dChain, ↓dAnd, ↓dOr, ↓dNot, ↓dAndV, ↓dOrV, ↓dNotV, ↓dIf, ↓dNil, ↓dCons, ↓dTup, ↓dLst, ↓dLstM, ↓dCB, ↓dLen, ↓dAbs, ↓dMax2, ↓dMin2, ↓dAll, ↓dAny, ↓dListOf, ↓dListOfM, ↓dTupOf, ↓dNext, ↓dSeq, ↓dDrop, ↓dRet, ↓dRetN, ↓dIfS, ↓dBrk, ↓dCnt, ↓dSet, ↓dAsgT, ↓dPar2, ↓tbind, ↓tbinds, ↓Om.set, ↓dCall, ↓dIx, ↓dNo, ↓dPart, ↓dSl, ↓dSlr, ↓dBM, ↓dApp, ↓dExt, ↓dSetIx, ↓dIs, ↓dMinS, ↓dMaxS, ↓dJoin, ↓dFrz, ↓dPut, ↓dFld, ↓dSetF, ↓dInt, ↓dIsLT, ↓dRng1, ↓dRng2, ↓dEnum, ↓dZip, ↓dSeqI, view_c_non, view_c_bl, view_c_int, view_c_str, view_c_tup, view_c_lst, view_c_scr, view_c_dct, view_c_ins, ↓startW, ↓wp, ↓wps, ↓dInKD, ↓dNotInKD, ↓dIxKD, ↓dIn, ↓dNotIn, ↓dDg, List.getElem?_cons_zero, List.getElem?_cons_succ, List.set_cons_zero, List.set_cons_succ, List.map_cons, List.map_nil, List.length_cons, List.length_nil, List.replicate_succ, List.replicate_zero, List.nil_append, List.cons_append, Bool.not_true, Bool.not_false, if_true, wkey_int, wkey_str, atI_0, atI_1, atI_2, atI_3, up_same, if_false, Bool.false_eq_true, Bool.true_eq_false, tru_non, isLT_non, isi_int_non, isi_bool_non, isi_str_non, isi_tup_non, isi_lst_non, tru_bl, isLT_bl, isi_int_bl, isi_bool_bl, isi_str_bl, isi_tup_bl, isi_lst_bl, tru_int, isLT_int, isi_int_int, isi_bool_int, isi_str_int, isi_tup_int, isi_lst_int, tru_str, isLT_str, isi_int_str, isi_bool_str, isi_str_str, isi_tup_str, isi_lst_str, tru_tup, isLT_tup, isi_int_tup, isi_bool_tup, isi_str_tup, isi_tup_tup, isi_lst_tup, tru_lst, isLT_lst, isi_int_lst, isi_bool_lst, isi_str_lst, isi_tup_lst, isi_lst_lst, isL_lst, seqW_lst, seqW_tup, seqW_str, seqW_scr, sq2_lst, sq2_tup, inW_sign])
          rw [all_bls]
          (simp only [↓dFgt, ↓dVar, ↓dC, ↓dOp, ↓dUn, ↓dI, ↓dI0, ↓dSub, ↓dMul, ↓dDiv, ↓dMod, ↓dPow, ↓dAdd, ↓dNeg, ↓dEq, ↓dNe, ↓dLt, ↓dLe, ↓dGt, ↓dGe, ↓dIsN, ↓dNotN, ↓dTru, ↓dTest, ↓dChain, ↓dAnd, ↓dOr, ↓dNot, ↓dAndV, ↓dOrV, ↓dNotV, ↓dIf, ↓dNil, ↓dCons, ↓dTup, ↓dLst, ↓dLstM, ↓dCB, ↓dLen, ↓dAbs, ↓dMax2, ↓dMin2, ↓dAll, ↓dAny, ↓dListOf, ↓dListOfM, ↓dTupOf, ↓dNext, ↓dSeq, ↓dDrop, ↓dRet, ↓dRetN, ↓dIfS, ↓dBrk, ↓dCnt, ↓dSet, ↓dAsgT, ↓dPar2, ↓tbind, ↓tbinds, ↓Om.set, ↓dCall, ↓dIx, ↓dNo, ↓dPart, ↓dSl, ↓dSlr, ↓dBM, ↓dApp, ↓dExt, ↓dSetIx, ↓dIs, ↓dMinS, ↓dMaxS, ↓dJoin, ↓dFrz, ↓dPut, ↓dFld, ↓dSetF, ↓dInt, ↓dIsLT, ↓dRng1, ↓dRng2, ↓dEnum, ↓dZip, ↓dSeqI, view_c_non, view_c_bl, view_c_int, view_c_str, view_c_tup, view_c_lst, view_c_scr, view_c_dct, view_c_ins, ↓startW, ↓wp, ↓wps, ↓dInKD, ↓dNotInKD, ↓dIxKD, ↓dIn, ↓dNotIn, ↓dDg, List.getElem?_cons_zero, List.getElem?_cons_succ, List.set_cons_zero, List.set_cons_succ, List.map_cons, List.map_nil, List.length_cons, List.length_nil, List.replicate_succ, List.replicate_zero, List.nil_append, List.cons_append, Bool.not_true, Bool.not_false, if_true, wkey_int, wkey_str, atI_0, atI_1, atI_2, atI_3, up_same, if_false, Bool.false_eq_true, Bool.true_eq_false, tru_non, isLT_non, isi_int_non, isi_bool_non, isi_str_non, isi_tup_non, isi_lst_non, tru_bl, isLT_bl, isi_int_bl, isi_bool_bl, isi_str_bl, isi_tup_bl, isi_lst_bl, tru_int, isLT_int, isi_int_int, isi_bool_int, isi_str_int, isi_tup_int, isi_lst_int, tru_str, isLT_str, isi_int_str, isi_bool_str, isi_str_str, isi_tup_str, isi_lst_str, tru_tup, isLT_tup, isi_int_tup, isi_bool_tup, isi_str_tup, isi_tup_tup, isi_lst_tup, tru_lst, isLT_lst, isi_int_lst, isi_bool_lst, isi_str_lst, isi_tup_lst, isi_lst_lst, isL_lst, seqW_lst, seqW_tup, seqW_str, seqW_scr, sq2_lst, sq2_tup, inW_sign])
          have e : (ys.map len4).all id = ys.all len4 := by rw [List.all_map]; rfl
          rw [e]
          exact h
        | _ => first | ((simp only [↓dFgt, ↓dVar, ↓dC, ↓dOp, ↓dUn, ↓dI, ↓dI0, ↓dSub, ↓dMul, ↓dDiv, ↓dMod, ↓dPow, ↓dAdd, ↓dNeg, ↓dEq, ↓dNe, ↓dLt, ↓dLe, ↓dGt, ↓dGe, ↓dIsN, ↓dNotN, ↓dTru, ↓dTest, ↓dChain, ↓dAnd, ↓dOr, ↓dNot, ↓dAndV, ↓dOrV, ↓dNotV, ↓dIf, ↓dNil, ↓dCons, ↓dTup, ↓dLst, ↓dLstM, ↓dCB, ↓dLen, ↓dAbs, ↓dMax2, ↓dMin2, ↓dAll, ↓dAny, ↓dListOf, ↓dListOfM, ↓dTupOf, ↓dNext, ↓dSeq, ↓dDrop, ↓dRet, ↓dRetN, ↓dIfS, ↓dBrk, ↓dCnt, ↓dSet, ↓dAsgT, ↓dPar2, ↓tbind, ↓tbinds, ↓Om.set, ↓dCall, ↓dIx, ↓dNo, ↓dPart, ↓dSl, ↓dSlr, ↓dBM, ↓dApp, ↓dExt, ↓dSetIx, ↓dIs, ↓dMinS, ↓dMaxS, ↓dJoin, ↓dFrz, ↓dPut, ↓dFld, ↓dSetF, ↓dInt, ↓dIsLT, ↓dRng1, ↓dRng2, ↓dEnum, ↓dZip, ↓dSeqI, view_c_non, view_c_bl, view_c_int, view_c_str, view_c_tup, view_c_lst, view_c_scr, view_c_dct, view_c_ins, ↓startW, ↓wp, ↓wps, ↓dInKD, ↓dNotInKD, ↓dIxKD, ↓dIn, ↓dNotIn, ↓dDg, List.getElem?_cons_zero, List.getElem?_cons_succ, List.set_cons_zero, List.set_cons_succ, List.map_cons, List.map_nil, List.length_cons, List.length_nil, List.replicate_succ, List.replicate_zero, List.nil_append, List.cons_append, Bool.not_true, Bool.not_false, if_true, wkey_int, wkey_str, atI_0, atI_1, atI_2, atI_3, up_same, if_false, Bool.false_eq_true, Bool.true_eq_false, tru_non, isLT_non, isi_int_non, isi_bool_non, isi_str_non, isi_tup_non, isi_lst_non, tru_bl, isLT_bl, isi_int_bl, isi_bool_bl, isi_str_bl, isi_tup_bl, isi_lst_bl, tru_int, isLT_int, isi_int_int, isi_bool_int, isi_str_int, isi_tup_int, isi_lst_int, tru_str, isLT_str, isi_int_str, isi_bool_str, isi_str_str, isi_tup_str, isi_lst_str, tru_tup, isLT_tup, isi_int_tup, isi_bool_tup, isi_str_tup, isi_tup_tup, isi_lst_tup, tru_lst, isLT_lst, isi_int_lst, isi_bool_lst, isi_str_lst, isi_tup_lst, isi_lst_lst, isL_lst, seqW_lst, seqW_tup, seqW_str, seqW_scr, sq2_lst, sq2_tup, inW_sign]); exact h) | cases hp
      · obtain ⟨ys, rfl, hy4⟩ := bentB_inv e
        refine drop_go (bm_go (var_go rfl ⟨isL_ref (hS2 _ _ _), ?_⟩))
        (simp only [↓dFgt, ↓dVar, ↓dC, ↓dOp, ↓dUn, ↓dI, ↓dI0, ↓dSub, ↓dMul, ↓dDiv, ↓dMod, ↓dPow, ↓dAdd, ↓dNeg, ↓dEq, ↓dNe, ↓dLt, ↓dLe, ↓dGt, ↓dGe, ↓dIsN, ↓dNotN, ↓dTru, ↓dTest, ↓dChain, ↓dAnd, ↓dOr, ↓dNot, ↓dAndV, ↓dOrV, ↓dNotV, ↓dIf, ↓dNil, ↓dCons, ↓dTup, ↓dLst, ↓dLstM, ↓dCB, ↓dLen, ↓dAbs, ↓dMax2, ↓dMin2, ↓dAll, ↓dAny, ↓dListOf, ↓dListOfM, ↓dTupOf, ↓dNext, ↓dSeq, ↓dDrop, ↓dRet, ↓dRetN, ↓dIfS, ↓dBrk, ↓dCnt, ↓dSet, ↓dAsgT, ↓dPar2, ↓tbind, ↓tbinds, ↓Om.set, ↓dCall, ↓dIx, ↓dNo, ↓dPart, ↓dSl, ↓dSlr, ↓dBM, ↓dApp, ↓dExt, ↓dSetIx, ↓dIs, ↓dMinS, ↓dMaxS, ↓dJoin, ↓dFrz, ↓dPut, ↓dFld, ↓dSetF, ↓dInt, ↓dIsLT, ↓dRng1, ↓dRng2, ↓dEnum, ↓dZip, ↓dSeqI, view_c_non, view_c_bl, view_c_int, view_c_str, view_c_tup, view_c_lst, view_c_scr, view_c_dct, view_c_ins, ↓startW, ↓wp, ↓wps, ↓dInKD, ↓dNotInKD, ↓dIxKD, ↓dIn, ↓dNotIn, ↓dDg, List.getElem?_cons_zero, List.getElem?_cons_succ, List.set_cons_zero, List.set_cons_succ, List.map_cons, List.map_nil, List.length_cons, List.length_nil, List.replicate_succ, List.replicate_zero, List.nil_append, List.cons_append, Bool.not_true, Bool.not_false, if_true, wkey_int, wkey_str, atI_0, atI_1, atI_2, atI_3, up_same, if_false, Bool.false_eq_true, Bool.true_eq_false, tru_non, isLT_non, isi_int_non, isi_bool_non, isi_str_non, isi_tup_non, isi_lst_non, tru_bl, isLT_bl, isi_int_bl, isi_bool_bl, isi_str_bl, isi_tup_bl, isi_lst_bl, tru_int, isLT_int, isi_int_int, isi_bool_int, isi_str_int, isi_tup_int, isi_lst_int, tru_str, isLT_str, isi_int_str, isi_bool_str, isi_str_str, isi_tup_str, isi_lst_str, tru_tup, isLT_tup, isi_int_tup, isi_bool_tup, isi_str_tup, isi_tup_tup, isi_lst_tup, tru_lst, isLT_lst, isi_int_lst, isi_bool_lst, isi_str_lst, isi_tup_lst, isi_lst_lst, isL_lst, seqW_lst, seqW_tup, seqW_str, seqW_scr, sq2_lst, sq2_tup, inW_sign])
        refine ⟨b, ys, 122, 10, rfl, Bg.up ok, hx3T, hy4, by decide, by decide, by decide, by decide, fun y hy g s ok => ?_⟩
        rw [up_up]
        simp only [hS2]
        refine ⟨by omega, h _ _ ⟨rfl, xs ++ [y], g, s, ok, fun z hz => ?_, by rw [List.length_append]; show _ + 1 ≤ _; omega, ?_⟩⟩
        · rcases List.mem_append.mp hz with hz | hz
          · exact Tk.mono (by decide) (Nat.le_refl _) (hxs z hz)
          · rw [List.mem_singleton.mp hz]; exact hy
        · rw [← up_comm h2b, up_up]
      · exact h _ _ ⟨rfl, xs, g, s, ok, fun z hz => Tk.mono (by decide) (Nat.le_refl _) (hxs z hz), by omega, rfl⟩
    rintro _ _ ⟨rfl, zs, g, s, ok, hzs, zl, rfl⟩
    (((try unfold dNext); dsimp only))
    have hfin : Drp (up (up (up S' p (.lst th)) p2 (.lst zs)) b (bagO g s)) S1 := by
      refine Drp.new (Drp.new (Drp.new hdr hpS (fun _ e => nomatch e)) (by rw [up_ne h2p]; exact hp2S) (fun _ e => nomatch e)) (by rw [up_ne (Ne.symm h2b), up_ne (Ne.symm hpb)]; exact hbS) (fun _ e => nomatch e)
    refine forS (w := .ref p2) (xs := zs) (fun _ h => h) (seqW_ref (hS2 _ _ _)) (fun j ω' S2 => (∃ y8 y9 y10, ω' = ⟨[some (.scr ns), some (.int (i : Nat)), some (.ref b), some (gW c_Ground ps [] ss), some (.tup cars), some (.ref p2), some pls, some x3, y8, y9, y10, y11, y12, y13, y14], XF⟩) ∧ S2 = up (up (up S' p (.lst th)) p2 (.lst zs)) b (bagO g s)) ⟨⟨_, _, _, rfl⟩, rfl⟩ ?_ ?_ ?_
    · rintro j ω' S2 ⟨_, rfl⟩
      exact seqW_ref (hS2 _ _ _)
    · rintro j w ω' S2 hw ⟨⟨y8, y9, y10, rfl⟩, rfl⟩
      have hwT : Tk 246 11 w := Tk.mono (Nat.le_refl _) (by decide) (hzs w (List.mem_of_getElem? hw))
      refine ⟨_, rfl, ?_⟩
      refine seq_go ?_
      refine set_go (.bl (handsB ss w)) (up (up (up S' p (.lst th)) p2 (.lst zs)) b (bagO g s)) (fun Q h => ?_) ?_
      · (simp only [↓dFgt, ↓dVar, ↓dC, ↓dOp, ↓dUn, ↓dI, ↓dI0, ↓dSub, ↓dMul, ↓dDiv, ↓dMod, ↓dPow, ↓dAdd, ↓dNeg, ↓dEq, ↓dNe, ↓dLt, ↓dLe, ↓dGt, ↓dGe, ↓dIsN, ↓dNotN, ↓dTru, ↓dTest, ↓dChain, ↓dAnd, ↓dOr, ↓dNot, ↓dAndV, ↓dOrV, ↓dNotV, ↓dIf, ↓dNil, ↓dCons, ↓dTup, ↓dLst, ↓dLstM, ↓dCB, ↓dLen, ↓dAbs, ↓dMax2, ↓dMin2, ↓dAll, ↓dAny, ↓dListOf, ↓dListOfM, ↓dTupOf, ↓dNext, ↓dSeq, ↓dDrop, ↓dRet, ↓dRetN, ↓dIfS, ↓dBrk, ↓dCnt, ↓dSet, ↓dAsgT, ↓dPar2, ↓tbind, ↓tbinds, ↓Om.set, ↓dCall, ↓dIx, ↓dNo, ↓dPart, ↓dSl, ↓dSlr, ↓dBM, ↓dApp, ↓dExt, ↓dSetIx, ↓dIs, ↓dMinS, ↓dMaxS, ↓dJoin, ↓dFrz, ↓dPut, ↓dFld, ↓dSetF, ↓dInt, ↓dIsLT, ↓dRng1, ↓dRng2, ↓dEnum, ↓dZip, ↓dSeqI, view_c_non, view_c_bl, view_c_int, view_c_str, view_c_tup, view_c_lst, view_c_scr, view_c_dct, view_c_ins, ↓startW, ↓wp, ↓wps, ↓dInKD, ↓dNotInKD, ↓dIxKD, ↓dIn, ↓dNotIn, ↓dDg, List.getElem?_cons_zero, List.getElem?_cons_succ, List.set_cons_zero, List.set_cons_succ, List.map_cons, List.map_nil, List.length_cons, List.length_nil, List.replicate_succ, List.replicate_zero, List.nil_append, List.cons_append, Bool.not_true, Bool.not_false, if_true, wkey_int, wkey_str, atI_0, atI_1, atI_2, atI_3, up_same, if_false, Bool.false_eq_true, Bool.true_eq_false, tru_non, isLT_non, isi_int_non, isi_bool_non, isi_str_non, isi_tup_non, isi_lst_non, tru_bl, isLT_bl, isi_int_bl, isi_bool_bl, isi_str_bl, isi_tup_bl, isi_lst_bl, tru_int, isLT_int, isi_int_int, isi_bool_int, isi_str_int, isi_tup_int, isi_lst_int, tru_str, isLT_str, isi_int_str, isi_bool_str, isi_str_str, isi_tup_str, isi_lst_str, tru_tup, isLT_tup, isi_int_tup, isi_bool_tup, isi_str_tup, isi_tup_tup, isi_lst_tup, tru_lst, isLT_lst, isi_int_lst, isi_bool_lst, isi_str_lst, isi_tup_lst, isi_lst_lst, isL_lst, seqW_lst, seqW_tup, seqW_str, seqW_scr, sq2_lst, sq2_tup, inW_sign])
        simp only [g_stations]
        exact ⟨ss, w, 246, rfl, hwT, h⟩
      (((try unfold dNext); dsimp only))
      refine forS (w := .lst [.bl (handsB ss w), .bl (handsB ss w)]) (xs := [.bl (handsB ss w), .bl (handsB ss w)]) (fun Q h => ?_) rfl (fun t ω' S2 => (∃ y10, ω' = ⟨[some (.scr ns), some (.int (i : Nat)), some (.ref b), some (gW c_Ground ps [] ss), some (.tup cars), some (.ref p2), some pls, some x3, some w, some (.bl (handsB ss w)), y10, y11, y12, y13, y14], XF⟩) ∧ S2 = up (up (up S' p (.lst th)) p2 (.lst zs)) b (bagO g s)) ⟨⟨_, rfl⟩, rfl⟩ (fun _ _ _ _ => rfl) ?_ ?_
      · (simp only [↓dFgt, ↓dVar, ↓dC, ↓dOp, ↓dUn, ↓dI, ↓dI0, ↓dSub, ↓dMul, ↓dDiv, ↓dMod, ↓dPow, ↓dAdd, ↓dNeg, ↓dEq, ↓dNe, ↓dLt, ↓dLe, ↓dGt, ↓dGe, ↓dIsN, ↓dNotN, ↓dTru, ↓dTest, ↓dChain, ↓dAnd, ↓dOr, ↓dNot, ↓dAndV, ↓dOrV, ↓dNotV, ↓dIf, ↓dNil, ↓dCons, ↓dTup, ↓dLst, ↓dLstM, ↓dCB, ↓dLen, ↓dAbs, ↓dMax2, ↓dMin2, ↓dAll, ↓dAny, ↓dListOf, ↓dListOfM, ↓dTupOf, ↓dNext, ↓dSeq, ↓dDrop, ↓dRet, ↓dRetN, ↓dIfS, ↓dBrk, ↓dCnt, ↓dSet, ↓dAsgT, ↓dPar2, ↓tbind, ↓tbinds, ↓Om.set, ↓dCall, ↓dIx, ↓dNo, ↓dPart, ↓dSl, ↓dSlr, ↓dBM, ↓dApp, ↓dExt, ↓dSetIx, ↓dIs, ↓dMinS, ↓dMaxS, ↓dJoin, ↓dFrz, ↓dPut, ↓dFld, ↓dSetF, ↓dInt, ↓dIsLT, ↓dRng1, ↓dRng2, ↓dEnum, ↓dZip, ↓dSeqI, view_c_non, view_c_bl, view_c_int, view_c_str, view_c_tup, view_c_lst, view_c_scr, view_c_dct, view_c_ins, ↓startW, ↓wp, ↓wps, ↓dInKD, ↓dNotInKD, ↓dIxKD, ↓dIn, ↓dNotIn, ↓dDg, List.getElem?_cons_zero, List.getElem?_cons_succ, List.set_cons_zero, List.set_cons_succ, List.map_cons, List.map_nil, List.length_cons, List.length_nil, List.replicate_succ, List.replicate_zero, List.nil_append, List.cons_append, Bool.not_true, Bool.not_false, if_true, wkey_int, wkey_str, atI_0, atI_1, atI_2, atI_3, up_same, if_false, Bool.false_eq_true, Bool.true_eq_false, tru_non, isLT_non, isi_int_non, isi_bool_non, isi_str_non, isi_tup_non, isi_lst_non, tru_bl, isLT_bl, isi_int_bl, isi_bool_bl, isi_str_bl, isi_tup_bl, isi_lst_bl, tru_int, isLT_int, isi_int_int, isi_bool_int, isi_str_int, isi_tup_int, isi_lst_int, tru_str, isLT_str, isi_int_str, isi_bool_str, isi_str_str, isi_tup_str, isi_lst_str, tru_tup, isLT_tup, isi_int_tup, isi_bool_tup, isi_str_tup, isi_tup_tup, isi_lst_tup, tru_lst, isLT_lst, isi_int_lst, isi_bool_lst, isi_str_lst, isi_tup_lst, isi_lst_lst, isL_lst, seqW_lst, seqW_tup, seqW_str, seqW_scr, sq2_lst, sq2_tup, inW_sign])
        refine ⟨ps, [], ss, w, 246, rfl, hwT, ?_⟩
        simp only [dCallN]
        (simp only [↓dFgt, ↓dVar, ↓dC, ↓dOp, ↓dUn, ↓dI, ↓dI0, ↓dSub, ↓dMul, ↓dDiv, ↓dMod, ↓dPow, ↓dAdd, ↓dNeg, ↓dEq, ↓dNe, ↓dLt, ↓dLe, ↓dGt, ↓dGe, ↓dIsN, ↓dNotN, ↓dTru, ↓dTest, ↓dChain, ↓dAnd, ↓dOr, ↓dNot, ↓dAndV, ↓dOrV, ↓dNotV, ↓dIf, ↓dNil, ↓dCons, ↓dTup, ↓dLst, ↓dLstM, ↓dCB, ↓dLen, ↓dAbs, ↓dMax2, ↓dMin2, ↓dAll, ↓dAny, ↓dListOf, ↓dListOfM, ↓dTupOf, ↓dNext, ↓dSeq, ↓dDrop, ↓dRet, ↓dRetN, ↓dIfS, ↓dBrk, ↓dCnt, ↓dSet, ↓dAsgT, ↓dPar2, ↓tbind, ↓tbinds, ↓Om.set, ↓dCall, ↓dIx, ↓dNo, ↓dPart, ↓dSl, ↓dSlr, ↓dBM, ↓dApp, ↓dExt, ↓dSetIx, ↓dIs, ↓dMinS, ↓dMaxS, ↓dJoin, ↓dFrz, ↓dPut, ↓dFld, ↓dSetF, ↓dInt, ↓dIsLT, ↓dRng1, ↓dRng2, ↓dEnum, ↓dZip, ↓dSeqI, view_c_non, view_c_bl, view_c_int, view_c_str, view_c_tup, view_c_lst, view_c_scr, view_c_dct, view_c_ins, ↓startW, ↓wp, ↓wps, ↓dInKD, ↓dNotInKD, ↓dIxKD, ↓dIn, ↓dNotIn, ↓dDg, List.getElem?_cons_zero, List.getElem?_cons_succ, List.set_cons_zero, List.set_cons_succ, List.map_cons, List.map_nil, List.length_cons, List.length_nil, List.replicate_succ, List.replicate_zero, List.nil_append, List.cons_append, Bool.not_true, Bool.not_false, if_true, wkey_int, wkey_str, atI_0, atI_1, atI_2, atI_3, up_same, if_false, Bool.false_eq_true, Bool.true_eq_false, tru_non, isLT_non, isi_int_non, isi_bool_non, isi_str_non, isi_tup_non, isi_lst_non, tru_bl, isLT_bl, isi_int_bl, isi_bool_bl, isi_str_bl, isi_tup_bl, isi_lst_bl, tru_int, isLT_int, isi_int_int, isi_bool_int, isi_str_int, isi_tup_int, isi_lst_int, tru_str, isLT_str, isi_int_str, isi_bool_str, isi_str_str, isi_tup_str, isi_lst_str, tru_tup, isLT_tup, isi_int_tup, isi_bool_tup, isi_str_tup, isi_tup_tup, isi_lst_tup, tru_lst, isLT_lst, isi_int_lst, isi_bool_lst, isi_str_lst, isi_tup_lst, isi_lst_lst, isL_lst, seqW_lst, seqW_tup, seqW_str, seqW_scr, sq2_lst, sq2_tup, inW_sign])
        refine ⟨trivial, trivial, ps, [], ss, w, 246, rfl, hwT, ?_⟩
        exact ⟨by decide, h⟩
      · rintro t u ω' S2 hu ⟨⟨y10, rfl⟩, rfl⟩
        have hu2 : u = .bl (handsB ss w) := by
          have := List.mem_of_getElem? hu
          simpa using this
        subst hu2
        refine ⟨_, rfl, ?_⟩
        refine if_b false (fun Q h => ?_) (fun e => nomatch e) (fun _ => ⟨⟨_, rfl⟩, rfl⟩)
        (simp only [↓dFgt, ↓dVar, ↓dC, ↓dOp, ↓dUn, ↓dI, ↓dI0, ↓dSub, ↓dMul, ↓dDiv, ↓dMod, ↓dPow, ↓dAdd, ↓dNeg, ↓dEq, ↓dNe, ↓dLt, ↓dLe, ↓dGt, ↓dGe, ↓dIsN, ↓dNotN, ↓dTru, ↓dTest, ↓dChain, ↓dAnd, ↓dOr, ↓dNot, ↓dAndV, ↓dOrV, ↓dNotV, ↓dIf, ↓dNil, ↓dCons, ↓dTup, ↓dLst, ↓dLstM, ↓dCB, ↓dLen, ↓dAbs, ↓dMax2, ↓dMin2, ↓dAll, ↓dAny, ↓dListOf, ↓dListOfM, ↓dTupOf, ↓dNext, ↓dSeq, ↓dDrop, ↓dRet, ↓dRetN, ↓dIfS, ↓dBrk, ↓dCnt, ↓dSet, ↓dAsgT, ↓dPar2, ↓tbind, ↓tbinds, ↓Om.set, ↓dCall, ↓dIx, ↓dNo, ↓dPart, ↓dSl, ↓dSlr, ↓dBM, ↓dApp, ↓dExt, ↓dSetIx, ↓dIs, ↓dMinS, ↓dMaxS, ↓dJoin, ↓dFrz, ↓dPut, ↓dFld, ↓dSetF, ↓dInt, ↓dIsLT, ↓dRng1, ↓dRng2, ↓dEnum, ↓dZip, ↓dSeqI, view_c_non, view_c_bl, view_c_int, view_c_str, view_c_tup, view_c_lst, view_c_scr, view_c_dct, view_c_ins, ↓startW, ↓wp, ↓wps, ↓dInKD, ↓dNotInKD, ↓dIxKD, ↓dIn, ↓dNotIn, ↓dDg, List.getElem?_cons_zero, List.getElem?_cons_succ, List.set_cons_zero, List.set_cons_succ, List.map_cons, List.map_nil, List.length_cons, List.length_nil, List.replicate_succ, List.replicate_zero, List.nil_append, List.cons_append, Bool.not_true, Bool.not_false, if_true, wkey_int, wkey_str, atI_0, atI_1, atI_2, atI_3, up_same, if_false, Bool.false_eq_true, Bool.true_eq_false, tru_non, isLT_non, isi_int_non, isi_bool_non, isi_str_non, isi_tup_non, isi_lst_non, tru_bl, isLT_bl, isi_int_bl, isi_bool_bl, isi_str_bl, isi_tup_bl, isi_lst_bl, tru_int, isLT_int, isi_int_int, isi_bool_int, isi_str_int, isi_tup_int, isi_lst_int, tru_str, isLT_str, isi_int_str, isi_bool_str, isi_str_str, isi_tup_str, isi_lst_str, tru_tup, isLT_tup, isi_int_tup, isi_bool_tup, isi_str_tup, isi_tup_tup, isi_lst_tup, tru_lst, isLT_lst, isi_int_lst, isi_bool_lst, isi_str_lst, isi_tup_lst, isi_lst_lst, isL_lst, seqW_lst, seqW_tup, seqW_str, seqW_scr, sq2_lst, sq2_tup, inW_sign])
        refine ⟨rfl, rfl, ?_⟩
        simp only [weq_bl, decide_true]
        exact h
      · rintro ω' S2 ⟨⟨y10, rfl⟩, rfl⟩
        exact ⟨⟨_, _, _, rfl⟩, rfl⟩
    · rintro ω' S2 ⟨⟨y8, y9, y10, rfl⟩, rfl⟩
      exact ⟨⟨_, _, _, _, _, _, _, _, _, _, _, _, _, _, rfl⟩, hfin⟩
  · rintro ω' S' ⟨⟨y1, y2, y3, y4, y5, y6, y7, y8, y9, y10, y11, y12, y13, y14, rfl⟩, hdr⟩
    (((try unfold dNext); dsimp only))
    exact ret_go ⟨_, _, hdr _, q⟩
section
variable {P : Program} {w : World} {K : PySem.W.Frag} {mg : Str → Option Value} {base : Heap} {c_Ground : Addr}
theorem ok_law {f : Addr} {fd : FuncData} (F : Fun K "law" "law" s_law f fd) (T : Txt K w mg c_Ground) (C_law_bag : CalD P w K mg base 1 "_law_bag" sp_law_bag) (C_law_ground : CalD P w K mg base 7 "_law_ground" (sp_law_ground c_Ground)) (C_law_hands : CalD P w K mg base 2 "_law_hands" sp_law_hands) (C_law_many : CalD P w K mg base 1 "_law_many" sp_law_many) (C_law_due : CalD P w K mg base 4 "_law_due" sp_law_due) (C_law_take : CalD P w K mg base 1 "_law_take" sp_law_take) (C_law_bent : CalD P w K mg base 4 "_law_bent" sp_law_bent) (C_are_hands : CalD P w K mg base 6 "are_hands" (sp_are_hands c_Ground)) (K10_are_hands : KCal P w K mg base 6 "are_hands" 0 ["thing", "ground"] [1, 0] (sp_are_hands c_Ground)) : FnOk P w K mg base CX0 8 f fd ["_law_script"] (uSp K (sp_law c_Ground)) :=
  Fun.okF F sc_law (td_law c_Ground) (fun cdv A outer s H E hr =>
    (dss_cons (ds_for PassesOwn.never (di_range1 T.z_range (da_cons (de_callB cd_max2 T.z_max (da_cons de_int (da_cons (de_callB cd_min2 T.z_min (da_cons de_int (da_cons (de_callB cd_len T.z_len (da_cons (dv 0) da_nil)) da_nil))) da_nil))) da_nil)) (dg_nm (i := 1) sc_law.nd)
      (dss_cons (ds_set (i := 2) sc_law.nd (de_call C_law_bag hr (da_cons (dv 0) (da_cons (dv 1) da_nil))))
      (dss_cons (ds_set (i := 3) sc_law.nd (de_call C_law_ground hr (da_cons (dv 2) (da_cons de_int da_nil))))
      (dss_cons (ds_set (i := 4) sc_law.nd (de_call C_law_hands hr (da_cons (dv 2) (da_cons (de_fld T.cl_Ground T.n_Ground_stations (dv 3)) (da_cons (de_ix (de_tup (da_cons de_int (da_cons de_int da_nil))) (de_call C_law_take hr (da_cons (dv 2) (da_cons de_int da_nil)))) da_nil)))))
      (dss_cons (ds_set (i := 5) sc_law.nd (de_lstM (da_cons (dv 4) (da_cons (de_tup da_nil) (da_cons (de_call C_law_many hr (da_cons (de_fld T.cl_Ground T.n_Ground_stations (dv 3)) (da_cons (de_op oa_add de_int (de_call C_law_take hr (da_cons (dv 2) (da_cons de_int da_nil)))) da_nil))) da_nil)))))
      (dss_cons (ds_set (i := 5) sc_law.nd (de_op oa_addM (dv 5) (de_lc (own := [("_law_turn", 11)]) sc_law.nd (di_range1 T.z_range (da_cons de_int da_nil)) (blkOk_by (own := [("_law_turn", 11)]) (N := N_law) (sc := defScope s_law) (by decide +kernel)) (fun _ _ _ _ _ => (dg_nm (i := 11) sc_law.nd)) (fun _ _ _ _ _ => dts_nil) (fun _ _ _ _ _ => (de_call C_law_bent hr (da_cons (dv 2) (da_cons (dv 4) da_nil)))))))
      (dss_cons (ds_setLc (i := 6) (own := [("_law_place", 12), ("_law_risk", 13)]) sc_law.nd (di_seq (de_fld T.cl_Ground T.n_Ground_places (dv 3))) (blkOk_by (own := [("_law_place", 12), ("_law_risk", 13)]) (N := N_law) (sc := defScope s_law) (by decide +kernel)) (fun _ _ _ _ _ => (dg_tp (dgs_cons (dg_nm (i := 12) sc_law.nd) (dgs_cons (dg_nm (i := 13) sc_law.nd) dgs_nil)))) (fun _ _ _ _ _ => dts_nil) (fun _ _ _ _ _ => (dv 12)) (sw_true rfl rfl rfl (by decide +kernel)))
      (dss_cons (ds_expr (de_append (dv 5) (da_cons (de_tup (da_cons (de_tup (da_cons de_str (da_cons (de_ix (dv 6) (de_call C_law_take hr (da_cons (dv 2) (da_cons (de_callB cd_len T.z_len (da_cons (dv 6) da_nil)) da_nil)))) (da_cons de_int (da_cons (de_tup (da_cons (de_tup (da_cons de_str (da_cons de_int da_nil))) da_nil)) da_nil))))) da_nil)) da_nil)))
      (dss_cons (ds_set (i := 7) sc_law.nd (de_ix (dv 5) de_int))
      (dss_cons (ds_if (PW.pt (dw_and (dt_tru (de_isi .tup (dv 7) T.z_isinstance T.z_tuple)) (dw_and1 (dt_tru (de_callB cd_all T.z_all (da_cons (de_lc (own := [("_law_one", 14)]) sc_law.nd (di_seq (dv 7)) (blkOk_by (own := [("_law_one", 14)]) (N := N_law) (sc := defScope s_law) (by decide +kernel)) (fun _ _ _ _ _ => (dg_nm (i := 14) sc_law.nd)) (fun _ _ _ _ _ => dts_nil) (fun _ _ _ _ _ => (de_and (de_isi .tup (dv 14) T.z_isinstance T.z_tuple) (de_one (de_cmp (oc_eq hr) (de_callB cd_len T.z_len (da_cons (dv 14) da_nil)) de_int))))) da_nil)))))) (dss_one (ds_expr (de_append (dv 5) (da_cons (de_call C_law_bent hr (da_cons (dv 2) (da_cons (dv 7) da_nil))) da_nil)))) dss_nil)
      (dss_one (ds_for PassesOwn.never (di_seq (dv 5)) (dg_nm (i := 8) sc_law.nd)
        (dss_cons (ds_set (i := 9) sc_law.nd (de_call C_law_due hr (da_cons (de_fld T.cl_Ground T.n_Ground_stations (dv 3)) (da_cons (dv 8) da_nil))))
        (dss_one (ds_for PassesOwn.never (di_seq (de_lst (da_cons (de_call C_are_hands hr (da_cons (dv 3) (da_cons (dv 8) da_nil))) (da_cons (de_callN0 K10_are_hands hr (dk_cons (dv 8) (dk_cons (dv 3) dk_nil))) da_nil)))) (dg_nm (i := 10) sc_law.nd)
          (dss_one (ds_if (PW.pt (dw_or (dt_not (dt_tru (de_isi .bool (dv 10) T.z_isinstance T.z_bool))) (dw_or1 (dt_cmp (oc_ne hr) (dv 10) (dv 9))))) (dss_one (ds_ret de_bl)) dss_nil)))))))))))))))))
    (dss_one (ds_ret de_bl)))) (fun ws S Q E h => len_law h) (hd_law c_Ground)
end
end DL

set_option Elab.async false
set_option linter.all false
set_option maxRecDepth 100000
set_option maxHeartbeats 4000000
namespace DL
open PySem PySem.Spec PyProof.Rows L2
theorem isStr_key (z x : Str) (t : Tok) : Value.isStr (.str x t) z = decide (z = x) := by
  rw [PySem.W.isStr_of]
  show (x == z) = decide (z = x)
  by_cases h : x = z
  · subst h
    rw [decide_eq_true rfl]
    exact beq_self_eq_true x
  · rw [decide_eq_false (fun e => h e.symm)]
    exact beq_eq_false_iff_ne.mpr h
theorem kd_find {K : PySem.W.Frag} {ks : List (Value × Value)} {tab : List (Str × W)} (p : Paired (fun (kv : Value × Value) (q : Str × W) => (∃ t, kv.1 = .str q.1 t) ∧ ∃ v0, RelV v0 kv.2 ∧ ∀ S H, RW K S H q.2 v0) ks tab) :
    ∀ es : List DictEntry, es.map (fun e => (e.key, e.val)) = ks → es.any (·.refKey) = false ∧ ∀ z, (∀ wv, tab.lookup z = some wv → ∃ e, es.find? (·.key.isStr z) = some e ∧ ∃ v0, RelV v0 e.val ∧ ∀ S H, RW K S H wv v0) ∧ (tab.lookup z = none → es.find? (·.key.isStr z) = none) := by
  induction p with
  | nil =>
    intro es h
    cases es with
    | nil => exact ⟨rfl, fun z => ⟨fun wv h => (nomatch h), fun _ => rfl⟩⟩
    | cons e es => cases h
  | @cons kv q ks tab h t ih =>
    intro es he
    cases es with
    | nil => cases he
    | cons e es =>
      rw [List.map_cons, List.cons.injEq] at he
      obtain ⟨rfl, he⟩ := he
      obtain ⟨⟨tk, hk⟩, v0, hv, hw⟩ := h
      obtain ⟨h1, h2⟩ := ih es he
      simp only at hk hv
      refine ⟨?_, fun z => ?_⟩
      · rw [List.any_cons, h1, Bool.or_false]
        unfold DictEntry.refKey
        rw [hk]
      · obtain ⟨k, wv⟩ := q
        simp only at hk hw
        rw [List.lookup_cons]
        by_cases c : z = k
        · subst c
          have e1 : e.key.isStr z = true := by rw [hk, isStr_key]; exact decide_eq_true rfl
          rw [beq_self_eq_true, List.find?_cons_of_pos (p := fun x : DictEntry => x.key.isStr z) e1]
          exact ⟨fun wv' h => by cases h; exact ⟨e, rfl, v0, hv, hw⟩, fun h => nomatch h⟩
        · have e1 : ¬ e.key.isStr z = true := by rw [hk, isStr_key, decide_eq_false c]; exact Bool.false_ne_true
          rw [beq_eq_false_iff_ne.mpr c, List.find?_cons_of_neg (p := fun x : DictEntry => x.key.isStr z) e1]
          exact h2 z
theorem kd_mk {K : PySem.W.Frag} {w : World} {d : Addr} {es : Array DictEntry} {n : Nat} {ks : List (Value × Value)} {tab : List (Str × W)} (l : K.lookup d = some ⟨.type "dict", none, .dict es n, #[]⟩) (sd : (d == sysModules) = false) (kl : PySem.W.KeysLit w.params es.toList)
    (hk : es.toList.map (fun e => (e.key, e.val)) = ks) (p : Paired (fun (kv : Value × Value) (q : Str × W) => (∃ t, kv.1 = .str q.1 t) ∧ ∃ v0, RelV v0 kv.2 ∧ ∀ S H, RW K S H q.2 v0) ks tab) : KD K w d tab := by
  obtain ⟨h1, h2⟩ := kd_find p es.toList hk
  have ns : ∀ z, PySem.W.nsIn K d z = (match es.toList.find? (·.key.isStr z) with | some e => some (some e.val) | none => if es.toList.any (·.refKey) = true then none else some none) := fun z => by
    unfold PySem.W.nsIn
    rw [l]
    rfl
  refine ⟨⟨es, n, l, kl, sd⟩, fun z wv hz => ?_, fun z hz => ?_⟩
  · obtain ⟨e, he, v0, hv, hw⟩ := (h2 z).1 wv hz
    exact ⟨e.val, v0, by rw [ns, he], hv, hw⟩
  · rw [ns, (h2 z).2 hz]
    show (if es.toList.any (·.refKey) = true then none else some none) = some none
    rw [h1]
    rfl
theorem law_sp {K : PySem.W.Frag} {H : Hp} {a : Addr} {ns : List Int} {dsp : DSp} (on : L2.Only H) (hS : SqL K H a (ns.map V.int)) (h : dsp [.scr ns] (fun _ => none) (fun w _ => w = .bl true) X0) : uSp K dsp [.ref a] H (fun v _ => v = .bl true) fun _ _ _ => False := by
  refine ⟨[.scr ns], fun _ => none, fun w _ => w = .bl true, X0, fun _ _ z => (nomatch z), .cons (.scr ?_) .nil, h, (fun w S' v H' _ _ r e => by subst e; cases r; rfl), .zero⟩
  rcases hS with (h | ⟨o, h⟩) | h
  · rcases on a with z | ⟨o, xs, z⟩ <;> rw [z] at h <;> cases h
  · exact .inl ⟨o, h, rfl⟩
  · exact .inr h
theorem all_mk {l : PySem.W.OpenLaw} {w : World} {K : PySem.W.Frag} {h : Heap} {mg : Str → Option Value} {fa : Addr} (X : K.In h) (G : h.Ns mainGlobals mg) (hfa : mg "law" = some (.ref fa))
    {f_law_bag f_law_take f_law_names f_is_tuple_within f_check_size f_is_name f_is_whole f_is_whole_within f_is_place_with_risk f_checked_risks f_ends_of f_is_place_among f_is_road_among f_check_roads f_check_stations f_law_ground f_law_hands f_law_many f_law_unlike f_law_is_name f_law_is_in f_law_between f_law_is_skill f_law_is_hand f_law_due f_law_any f_law_bent_row f_law_bent f_have_unlike_names f_is_skill f_are_skills f_is_station_of f_is_hand f_are_hands f_law c_Ground f_Ground__init_ tt_SKILLS : Addr} {od_law_bag an_law_bag od_law_take an_law_take od_law_names an_law_names od_is_tuple_within an_is_tuple_within od_check_size an_check_size od_is_name an_is_name od_is_whole an_is_whole od_is_whole_within an_is_whole_within od_is_place_with_risk an_is_place_with_risk od_checked_risks an_checked_risks od_ends_of an_ends_of od_is_place_among an_is_place_among od_is_road_among an_is_road_among od_check_roads an_check_roads od_check_stations an_check_stations od_law_ground an_law_ground od_law_hands an_law_hands od_law_many an_law_many od_law_unlike an_law_unlike od_law_is_name an_law_is_name od_law_is_in an_law_is_in od_law_between an_law_between od_law_is_skill an_law_is_skill od_law_is_hand an_law_is_hand od_law_due an_law_due od_law_any an_law_any od_law_bent_row an_law_bent_row od_law_bent an_law_bent od_have_unlike_names an_have_unlike_names od_is_skill an_is_skill od_are_skills an_are_skills od_is_station_of an_is_station_of od_is_hand an_is_hand od_are_hands an_are_hands od_law an_law od_Ground__init_ an_Ground__init_ odt_SKILLS : Option Addr} {sl_law_bag sl_law_take sl_law_names sl_is_tuple_within sl_check_size sl_is_name sl_is_whole sl_is_whole_within sl_is_place_with_risk sl_checked_risks sl_ends_of sl_is_place_among sl_is_road_among sl_check_roads sl_check_stations sl_law_ground sl_law_hands sl_law_many sl_law_unlike sl_law_is_name sl_law_is_in sl_law_between sl_law_is_skill sl_law_is_hand sl_law_due sl_law_any sl_law_bent_row sl_law_bent sl_have_unlike_names sl_is_skill sl_are_skills sl_is_station_of sl_is_hand sl_are_hands sl_law sl_Ground__init_ slt_SKILLS : Array (Option Value)} {oc_law_bag kV_law_bag dc_law_bag pm_law_bag cd_law_bag ct_law_bag oc_law_take kV_law_take dc_law_take pm_law_take cd_law_take ct_law_take oc_law_names kV_law_names dc_law_names pm_law_names cd_law_names ct_law_names oc_is_tuple_within kV_is_tuple_within dc_is_tuple_within pm_is_tuple_within cd_is_tuple_within ct_is_tuple_within oc_check_size kV_check_size dc_check_size pm_check_size cd_check_size ct_check_size oc_is_name kV_is_name dc_is_name pm_is_name cd_is_name ct_is_name oc_is_whole kV_is_whole dc_is_whole pm_is_whole cd_is_whole ct_is_whole oc_is_whole_within kV_is_whole_within dc_is_whole_within pm_is_whole_within cd_is_whole_within ct_is_whole_within oc_is_place_with_risk kV_is_place_with_risk dc_is_place_with_risk pm_is_place_with_risk cd_is_place_with_risk ct_is_place_with_risk oc_checked_risks kV_checked_risks dc_checked_risks pm_checked_risks cd_checked_risks ct_checked_risks oc_ends_of kV_ends_of dc_ends_of pm_ends_of cd_ends_of ct_ends_of oc_is_place_among kV_is_place_among dc_is_place_among pm_is_place_among cd_is_place_among ct_is_place_among oc_is_road_among kV_is_road_among dc_is_road_among pm_is_road_among cd_is_road_among ct_is_road_among oc_check_roads kV_check_roads dc_check_roads pm_check_roads cd_check_roads ct_check_roads oc_check_stations kV_check_stations dc_check_stations pm_check_stations cd_check_stations ct_check_stations oc_law_ground kV_law_ground dc_law_ground pm_law_ground cd_law_ground ct_law_ground oc_law_hands kV_law_hands dc_law_hands pm_law_hands cd_law_hands ct_law_hands oc_law_many kV_law_many dc_law_many pm_law_many cd_law_many ct_law_many oc_law_unlike kV_law_unlike dc_law_unlike pm_law_unlike cd_law_unlike ct_law_unlike oc_law_is_name kV_law_is_name dc_law_is_name pm_law_is_name cd_law_is_name ct_law_is_name oc_law_is_in kV_law_is_in dc_law_is_in pm_law_is_in cd_law_is_in ct_law_is_in oc_law_between kV_law_between dc_law_between pm_law_between cd_law_between ct_law_between oc_law_is_skill kV_law_is_skill dc_law_is_skill pm_law_is_skill cd_law_is_skill ct_law_is_skill oc_law_is_hand kV_law_is_hand dc_law_is_hand pm_law_is_hand cd_law_is_hand ct_law_is_hand oc_law_due kV_law_due dc_law_due pm_law_due cd_law_due ct_law_due oc_law_any kV_law_any dc_law_any pm_law_any cd_law_any ct_law_any oc_law_bent_row kV_law_bent_row dc_law_bent_row pm_law_bent_row cd_law_bent_row ct_law_bent_row oc_law_bent kV_law_bent dc_law_bent pm_law_bent cd_law_bent ct_law_bent oc_have_unlike_names kV_have_unlike_names dc_have_unlike_names pm_have_unlike_names cd_have_unlike_names ct_have_unlike_names oc_is_skill kV_is_skill dc_is_skill pm_is_skill cd_is_skill ct_is_skill oc_are_skills kV_are_skills dc_are_skills pm_are_skills cd_are_skills ct_are_skills oc_is_station_of kV_is_station_of dc_is_station_of pm_is_station_of cd_is_station_of ct_is_station_of oc_is_hand kV_is_hand dc_is_hand pm_is_hand cd_is_hand ct_is_hand oc_are_hands kV_are_hands dc_are_hands pm_are_hands cd_are_hands ct_are_hands oc_law kV_law dc_law pm_law cd_law ct_law oc_Ground__init_ kV_Ground__init_ dc_Ground__init_ pm_Ground__init_ cd_Ground__init_ ct_Ground__init_ : Value} {tk0 tk1 tk2 tk3 tk4 tk5 tk6 tk7 tk8 tk9 tk10 tk11 tk12 tk13 tk14 : Tok} {nt_SKILLS : Nat}
    (a_law_bag : PySem.W.nsIn K mainGlobals "_law_bag" = some (some (.ref f_law_bag)))
    (l_law_bag : K.lookup f_law_bag = some ⟨oc_law_bag, od_law_bag, .func (PySem.W.fnOf "_law_bag" "_law_bag" (defArgs s_law_bag) (defBody s_law_bag) (defScope s_law_bag) .none kV_law_bag dc_law_bag pm_law_bag an_law_bag cd_law_bag ct_law_bag), sl_law_bag⟩)
    (c_law_bag : PySem.W.codeIn K cd_law_bag "_law_bag" = true)
    (k_law_bag : PySem.W.keepIn K (.ref f_law_bag) = true)
    (a_law_take : PySem.W.nsIn K mainGlobals "_law_take" = some (some (.ref f_law_take)))
    (l_law_take : K.lookup f_law_take = some ⟨oc_law_take, od_law_take, .func (PySem.W.fnOf "_law_take" "_law_take" (defArgs s_law_take) (defBody s_law_take) (defScope s_law_take) .none kV_law_take dc_law_take pm_law_take an_law_take cd_law_take ct_law_take), sl_law_take⟩)
    (c_law_take : PySem.W.codeIn K cd_law_take "_law_take" = true)
    (k_law_take : PySem.W.keepIn K (.ref f_law_take) = true)
    (a_law_names : PySem.W.nsIn K mainGlobals "_law_names" = some (some (.ref f_law_names)))
    (l_law_names : K.lookup f_law_names = some ⟨oc_law_names, od_law_names, .func (PySem.W.fnOf "_law_names" "_law_names" (defArgs s_law_names) (defBody s_law_names) (defScope s_law_names) .none kV_law_names dc_law_names pm_law_names an_law_names cd_law_names ct_law_names), sl_law_names⟩)
    (c_law_names : PySem.W.codeIn K cd_law_names "_law_names" = true)
    (k_law_names : PySem.W.keepIn K (.ref f_law_names) = true)
    (a_is_tuple_within : PySem.W.nsIn K mainGlobals "is_tuple_within" = some (some (.ref f_is_tuple_within)))
    (l_is_tuple_within : K.lookup f_is_tuple_within = some ⟨oc_is_tuple_within, od_is_tuple_within, .func (PySem.W.fnOf "is_tuple_within" "is_tuple_within" (defArgs s_is_tuple_within) (defBody s_is_tuple_within) (defScope s_is_tuple_within) .none kV_is_tuple_within dc_is_tuple_within pm_is_tuple_within an_is_tuple_within cd_is_tuple_within ct_is_tuple_within), sl_is_tuple_within⟩)
    (c_is_tuple_within : PySem.W.codeIn K cd_is_tuple_within "is_tuple_within" = true)
    (k_is_tuple_within : PySem.W.keepIn K (.ref f_is_tuple_within) = true)
    (a_check_size : PySem.W.nsIn K mainGlobals "check_size" = some (some (.ref f_check_size)))
    (l_check_size : K.lookup f_check_size = some ⟨oc_check_size, od_check_size, .func (PySem.W.fnOf "check_size" "check_size" (defArgs s_check_size) (defBody s_check_size) (defScope s_check_size) .none kV_check_size dc_check_size pm_check_size an_check_size cd_check_size ct_check_size), sl_check_size⟩)
    (c_check_size : PySem.W.codeIn K cd_check_size "check_size" = true)
    (k_check_size : PySem.W.keepIn K (.ref f_check_size) = true)
    (a_is_name : PySem.W.nsIn K mainGlobals "is_name" = some (some (.ref f_is_name)))
    (l_is_name : K.lookup f_is_name = some ⟨oc_is_name, od_is_name, .func (PySem.W.fnOf "is_name" "is_name" (defArgs s_is_name) (defBody s_is_name) (defScope s_is_name) .none kV_is_name dc_is_name pm_is_name an_is_name cd_is_name ct_is_name), sl_is_name⟩)
    (c_is_name : PySem.W.codeIn K cd_is_name "is_name" = true)
    (k_is_name : PySem.W.keepIn K (.ref f_is_name) = true)
    (a_is_whole : PySem.W.nsIn K mainGlobals "is_whole" = some (some (.ref f_is_whole)))
    (l_is_whole : K.lookup f_is_whole = some ⟨oc_is_whole, od_is_whole, .func (PySem.W.fnOf "is_whole" "is_whole" (defArgs s_is_whole) (defBody s_is_whole) (defScope s_is_whole) .none kV_is_whole dc_is_whole pm_is_whole an_is_whole cd_is_whole ct_is_whole), sl_is_whole⟩)
    (c_is_whole : PySem.W.codeIn K cd_is_whole "is_whole" = true)
    (k_is_whole : PySem.W.keepIn K (.ref f_is_whole) = true)
    (a_is_whole_within : PySem.W.nsIn K mainGlobals "is_whole_within" = some (some (.ref f_is_whole_within)))
    (l_is_whole_within : K.lookup f_is_whole_within = some ⟨oc_is_whole_within, od_is_whole_within, .func (PySem.W.fnOf "is_whole_within" "is_whole_within" (defArgs s_is_whole_within) (defBody s_is_whole_within) (defScope s_is_whole_within) .none kV_is_whole_within dc_is_whole_within pm_is_whole_within an_is_whole_within cd_is_whole_within ct_is_whole_within), sl_is_whole_within⟩)
    (c_is_whole_within : PySem.W.codeIn K cd_is_whole_within "is_whole_within" = true)
    (k_is_whole_within : PySem.W.keepIn K (.ref f_is_whole_within) = true)
    (a_is_place_with_risk : PySem.W.nsIn K mainGlobals "is_place_with_risk" = some (some (.ref f_is_place_with_risk)))
    (l_is_place_with_risk : K.lookup f_is_place_with_risk = some ⟨oc_is_place_with_risk, od_is_place_with_risk, .func (PySem.W.fnOf "is_place_with_risk" "is_place_with_risk" (defArgs s_is_place_with_risk) (defBody s_is_place_with_risk) (defScope s_is_place_with_risk) .none kV_is_place_with_risk dc_is_place_with_risk pm_is_place_with_risk an_is_place_with_risk cd_is_place_with_risk ct_is_place_with_risk), sl_is_place_with_risk⟩)
    (c_is_place_with_risk : PySem.W.codeIn K cd_is_place_with_risk "is_place_with_risk" = true)
    (k_is_place_with_risk : PySem.W.keepIn K (.ref f_is_place_with_risk) = true)
    (a_checked_risks : PySem.W.nsIn K mainGlobals "checked_risks" = some (some (.ref f_checked_risks)))
    (l_checked_risks : K.lookup f_checked_risks = some ⟨oc_checked_risks, od_checked_risks, .func (PySem.W.fnOf "checked_risks" "checked_risks" (defArgs s_checked_risks) (defBody s_checked_risks) (defScope s_checked_risks) .none kV_checked_risks dc_checked_risks pm_checked_risks an_checked_risks cd_checked_risks ct_checked_risks), sl_checked_risks⟩)
    (c_checked_risks : PySem.W.codeIn K cd_checked_risks "checked_risks" = true)
    (k_checked_risks : PySem.W.keepIn K (.ref f_checked_risks) = true)
    (a_ends_of : PySem.W.nsIn K mainGlobals "ends_of" = some (some (.ref f_ends_of)))
    (l_ends_of : K.lookup f_ends_of = some ⟨oc_ends_of, od_ends_of, .func (PySem.W.fnOf "ends_of" "ends_of" (defArgs s_ends_of) (defBody s_ends_of) (defScope s_ends_of) .none kV_ends_of dc_ends_of pm_ends_of an_ends_of cd_ends_of ct_ends_of), sl_ends_of⟩)
    (c_ends_of : PySem.W.codeIn K cd_ends_of "ends_of" = true)
    (k_ends_of : PySem.W.keepIn K (.ref f_ends_of) = true)
    (a_is_place_among : PySem.W.nsIn K mainGlobals "is_place_among" = some (some (.ref f_is_place_among)))
    (l_is_place_among : K.lookup f_is_place_among = some ⟨oc_is_place_among, od_is_place_among, .func (PySem.W.fnOf "is_place_among" "is_place_among" (defArgs s_is_place_among) (defBody s_is_place_among) (defScope s_is_place_among) .none kV_is_place_among dc_is_place_among pm_is_place_among an_is_place_among cd_is_place_among ct_is_place_among), sl_is_place_among⟩)
    (c_is_place_among : PySem.W.codeIn K cd_is_place_among "is_place_among" = true)
    (k_is_place_among : PySem.W.keepIn K (.ref f_is_place_among) = true)
    (a_is_road_among : PySem.W.nsIn K mainGlobals "is_road_among" = some (some (.ref f_is_road_among)))
    (l_is_road_among : K.lookup f_is_road_among = some ⟨oc_is_road_among, od_is_road_among, .func (PySem.W.fnOf "is_road_among" "is_road_among" (defArgs s_is_road_among) (defBody s_is_road_among) (defScope s_is_road_among) .none kV_is_road_among dc_is_road_among pm_is_road_among an_is_road_among cd_is_road_among ct_is_road_among), sl_is_road_among⟩)
    (c_is_road_among : PySem.W.codeIn K cd_is_road_among "is_road_among" = true)
    (k_is_road_among : PySem.W.keepIn K (.ref f_is_road_among) = true)
    (a_check_roads : PySem.W.nsIn K mainGlobals "check_roads" = some (some (.ref f_check_roads)))
    (l_check_roads : K.lookup f_check_roads = some ⟨oc_check_roads, od_check_roads, .func (PySem.W.fnOf "check_roads" "check_roads" (defArgs s_check_roads) (defBody s_check_roads) (defScope s_check_roads) .none kV_check_roads dc_check_roads pm_check_roads an_check_roads cd_check_roads ct_check_roads), sl_check_roads⟩)
    (c_check_roads : PySem.W.codeIn K cd_check_roads "check_roads" = true)
    (k_check_roads : PySem.W.keepIn K (.ref f_check_roads) = true)
    (a_check_stations : PySem.W.nsIn K mainGlobals "check_stations" = some (some (.ref f_check_stations)))
    (l_check_stations : K.lookup f_check_stations = some ⟨oc_check_stations, od_check_stations, .func (PySem.W.fnOf "check_stations" "check_stations" (defArgs s_check_stations) (defBody s_check_stations) (defScope s_check_stations) .none kV_check_stations dc_check_stations pm_check_stations an_check_stations cd_check_stations ct_check_stations), sl_check_stations⟩)
    (c_check_stations : PySem.W.codeIn K cd_check_stations "check_stations" = true)
    (k_check_stations : PySem.W.keepIn K (.ref f_check_stations) = true)
    (a_law_ground : PySem.W.nsIn K mainGlobals "_law_ground" = some (some (.ref f_law_ground)))
    (l_law_ground : K.lookup f_law_ground = some ⟨oc_law_ground, od_law_ground, .func (PySem.W.fnOf "_law_ground" "_law_ground" (defArgs s_law_ground) (defBody s_law_ground) (defScope s_law_ground) .none kV_law_ground dc_law_ground pm_law_ground an_law_ground cd_law_ground ct_law_ground), sl_law_ground⟩)
    (c_law_ground : PySem.W.codeIn K cd_law_ground "_law_ground" = true)
    (k_law_ground : PySem.W.keepIn K (.ref f_law_ground) = true)
    (a_law_hands : PySem.W.nsIn K mainGlobals "_law_hands" = some (some (.ref f_law_hands)))
    (l_law_hands : K.lookup f_law_hands = some ⟨oc_law_hands, od_law_hands, .func (PySem.W.fnOf "_law_hands" "_law_hands" (defArgs s_law_hands) (defBody s_law_hands) (defScope s_law_hands) .none kV_law_hands dc_law_hands pm_law_hands an_law_hands cd_law_hands ct_law_hands), sl_law_hands⟩)
    (c_law_hands : PySem.W.codeIn K cd_law_hands "_law_hands" = true)
    (k_law_hands : PySem.W.keepIn K (.ref f_law_hands) = true)
    (a_law_many : PySem.W.nsIn K mainGlobals "_law_many" = some (some (.ref f_law_many)))
    (l_law_many : K.lookup f_law_many = some ⟨oc_law_many, od_law_many, .func (PySem.W.fnOf "_law_many" "_law_many" (defArgs s_law_many) (defBody s_law_many) (defScope s_law_many) .none kV_law_many dc_law_many pm_law_many an_law_many cd_law_many ct_law_many), sl_law_many⟩)
    (c_law_many : PySem.W.codeIn K cd_law_many "_law_many" = true)
    (k_law_many : PySem.W.keepIn K (.ref f_law_many) = true)
    (a_law_unlike : PySem.W.nsIn K mainGlobals "_law_unlike" = some (some (.ref f_law_unlike)))
    (l_law_unlike : K.lookup f_law_unlike = some ⟨oc_law_unlike, od_law_unlike, .func (PySem.W.fnOf "_law_unlike" "_law_unlike" (defArgs s_law_unlike) (defBody s_law_unlike) (defScope s_law_unlike) .none kV_law_unlike dc_law_unlike pm_law_unlike an_law_unlike cd_law_unlike ct_law_unlike), sl_law_unlike⟩)
    (c_law_unlike : PySem.W.codeIn K cd_law_unlike "_law_unlike" = true)
    (k_law_unlike : PySem.W.keepIn K (.ref f_law_unlike) = true)
    (a_law_is_name : PySem.W.nsIn K mainGlobals "_law_is_name" = some (some (.ref f_law_is_name)))
    (l_law_is_name : K.lookup f_law_is_name = some ⟨oc_law_is_name, od_law_is_name, .func (PySem.W.fnOf "_law_is_name" "_law_is_name" (defArgs s_law_is_name) (defBody s_law_is_name) (defScope s_law_is_name) .none kV_law_is_name dc_law_is_name pm_law_is_name an_law_is_name cd_law_is_name ct_law_is_name), sl_law_is_name⟩)
    (c_law_is_name : PySem.W.codeIn K cd_law_is_name "_law_is_name" = true)
    (k_law_is_name : PySem.W.keepIn K (.ref f_law_is_name) = true)
    (a_law_is_in : PySem.W.nsIn K mainGlobals "_law_is_in" = some (some (.ref f_law_is_in)))
    (l_law_is_in : K.lookup f_law_is_in = some ⟨oc_law_is_in, od_law_is_in, .func (PySem.W.fnOf "_law_is_in" "_law_is_in" (defArgs s_law_is_in) (defBody s_law_is_in) (defScope s_law_is_in) .none kV_law_is_in dc_law_is_in pm_law_is_in an_law_is_in cd_law_is_in ct_law_is_in), sl_law_is_in⟩)
    (c_law_is_in : PySem.W.codeIn K cd_law_is_in "_law_is_in" = true)
    (k_law_is_in : PySem.W.keepIn K (.ref f_law_is_in) = true)
    (a_law_between : PySem.W.nsIn K mainGlobals "_law_between" = some (some (.ref f_law_between)))
    (l_law_between : K.lookup f_law_between = some ⟨oc_law_between, od_law_between, .func (PySem.W.fnOf "_law_between" "_law_between" (defArgs s_law_between) (defBody s_law_between) (defScope s_law_between) .none kV_law_between dc_law_between pm_law_between an_law_between cd_law_between ct_law_between), sl_law_between⟩)
    (c_law_between : PySem.W.codeIn K cd_law_between "_law_between" = true)
    (k_law_between : PySem.W.keepIn K (.ref f_law_between) = true)
    (a_law_is_skill : PySem.W.nsIn K mainGlobals "_law_is_skill" = some (some (.ref f_law_is_skill)))
    (l_law_is_skill : K.lookup f_law_is_skill = some ⟨oc_law_is_skill, od_law_is_skill, .func (PySem.W.fnOf "_law_is_skill" "_law_is_skill" (defArgs s_law_is_skill) (defBody s_law_is_skill) (defScope s_law_is_skill) .none kV_law_is_skill dc_law_is_skill pm_law_is_skill an_law_is_skill cd_law_is_skill ct_law_is_skill), sl_law_is_skill⟩)
    (c_law_is_skill : PySem.W.codeIn K cd_law_is_skill "_law_is_skill" = true)
    (k_law_is_skill : PySem.W.keepIn K (.ref f_law_is_skill) = true)
    (a_law_is_hand : PySem.W.nsIn K mainGlobals "_law_is_hand" = some (some (.ref f_law_is_hand)))
    (l_law_is_hand : K.lookup f_law_is_hand = some ⟨oc_law_is_hand, od_law_is_hand, .func (PySem.W.fnOf "_law_is_hand" "_law_is_hand" (defArgs s_law_is_hand) (defBody s_law_is_hand) (defScope s_law_is_hand) .none kV_law_is_hand dc_law_is_hand pm_law_is_hand an_law_is_hand cd_law_is_hand ct_law_is_hand), sl_law_is_hand⟩)
    (c_law_is_hand : PySem.W.codeIn K cd_law_is_hand "_law_is_hand" = true)
    (k_law_is_hand : PySem.W.keepIn K (.ref f_law_is_hand) = true)
    (a_law_due : PySem.W.nsIn K mainGlobals "_law_due" = some (some (.ref f_law_due)))
    (l_law_due : K.lookup f_law_due = some ⟨oc_law_due, od_law_due, .func (PySem.W.fnOf "_law_due" "_law_due" (defArgs s_law_due) (defBody s_law_due) (defScope s_law_due) .none kV_law_due dc_law_due pm_law_due an_law_due cd_law_due ct_law_due), sl_law_due⟩)
    (c_law_due : PySem.W.codeIn K cd_law_due "_law_due" = true)
    (k_law_due : PySem.W.keepIn K (.ref f_law_due) = true)
    (a_law_any : PySem.W.nsIn K mainGlobals "_law_any" = some (some (.ref f_law_any)))
    (l_law_any : K.lookup f_law_any = some ⟨oc_law_any, od_law_any, .func (PySem.W.fnOf "_law_any" "_law_any" (defArgs s_law_any) (defBody s_law_any) (defScope s_law_any) .none kV_law_any dc_law_any pm_law_any an_law_any cd_law_any ct_law_any), sl_law_any⟩)
    (c_law_any : PySem.W.codeIn K cd_law_any "_law_any" = true)
    (k_law_any : PySem.W.keepIn K (.ref f_law_any) = true)
    (a_law_bent_row : PySem.W.nsIn K mainGlobals "_law_bent_row" = some (some (.ref f_law_bent_row)))
    (l_law_bent_row : K.lookup f_law_bent_row = some ⟨oc_law_bent_row, od_law_bent_row, .func (PySem.W.fnOf "_law_bent_row" "_law_bent_row" (defArgs s_law_bent_row) (defBody s_law_bent_row) (defScope s_law_bent_row) .none kV_law_bent_row dc_law_bent_row pm_law_bent_row an_law_bent_row cd_law_bent_row ct_law_bent_row), sl_law_bent_row⟩)
    (c_law_bent_row : PySem.W.codeIn K cd_law_bent_row "_law_bent_row" = true)
    (k_law_bent_row : PySem.W.keepIn K (.ref f_law_bent_row) = true)
    (a_law_bent : PySem.W.nsIn K mainGlobals "_law_bent" = some (some (.ref f_law_bent)))
    (l_law_bent : K.lookup f_law_bent = some ⟨oc_law_bent, od_law_bent, .func (PySem.W.fnOf "_law_bent" "_law_bent" (defArgs s_law_bent) (defBody s_law_bent) (defScope s_law_bent) .none kV_law_bent dc_law_bent pm_law_bent an_law_bent cd_law_bent ct_law_bent), sl_law_bent⟩)
    (c_law_bent : PySem.W.codeIn K cd_law_bent "_law_bent" = true)
    (k_law_bent : PySem.W.keepIn K (.ref f_law_bent) = true)
    (a_have_unlike_names : PySem.W.nsIn K mainGlobals "have_unlike_names" = some (some (.ref f_have_unlike_names)))
    (l_have_unlike_names : K.lookup f_have_unlike_names = some ⟨oc_have_unlike_names, od_have_unlike_names, .func (PySem.W.fnOf "have_unlike_names" "have_unlike_names" (defArgs s_have_unlike_names) (defBody s_have_unlike_names) (defScope s_have_unlike_names) .none kV_have_unlike_names dc_have_unlike_names pm_have_unlike_names an_have_unlike_names cd_have_unlike_names ct_have_unlike_names), sl_have_unlike_names⟩)
    (c_have_unlike_names : PySem.W.codeIn K cd_have_unlike_names "have_unlike_names" = true)
    (k_have_unlike_names : PySem.W.keepIn K (.ref f_have_unlike_names) = true)
    (a_is_skill : PySem.W.nsIn K mainGlobals "is_skill" = some (some (.ref f_is_skill)))
    (l_is_skill : K.lookup f_is_skill = some ⟨oc_is_skill, od_is_skill, .func (PySem.W.fnOf "is_skill" "is_skill" (defArgs s_is_skill) (defBody s_is_skill) (defScope s_is_skill) .none kV_is_skill dc_is_skill pm_is_skill an_is_skill cd_is_skill ct_is_skill), sl_is_skill⟩)
    (c_is_skill : PySem.W.codeIn K cd_is_skill "is_skill" = true)
    (k_is_skill : PySem.W.keepIn K (.ref f_is_skill) = true)
    (a_are_skills : PySem.W.nsIn K mainGlobals "are_skills" = some (some (.ref f_are_skills)))
    (l_are_skills : K.lookup f_are_skills = some ⟨oc_are_skills, od_are_skills, .func (PySem.W.fnOf "are_skills" "are_skills" (defArgs s_are_skills) (defBody s_are_skills) (defScope s_are_skills) .none kV_are_skills dc_are_skills pm_are_skills an_are_skills cd_are_skills ct_are_skills), sl_are_skills⟩)
    (c_are_skills : PySem.W.codeIn K cd_are_skills "are_skills" = true)
    (k_are_skills : PySem.W.keepIn K (.ref f_are_skills) = true)
    (a_is_station_of : PySem.W.nsIn K mainGlobals "is_station_of" = some (some (.ref f_is_station_of)))
    (l_is_station_of : K.lookup f_is_station_of = some ⟨oc_is_station_of, od_is_station_of, .func (PySem.W.fnOf "is_station_of" "is_station_of" (defArgs s_is_station_of) (defBody s_is_station_of) (defScope s_is_station_of) .none kV_is_station_of dc_is_station_of pm_is_station_of an_is_station_of cd_is_station_of ct_is_station_of), sl_is_station_of⟩)
    (c_is_station_of : PySem.W.codeIn K cd_is_station_of "is_station_of" = true)
    (k_is_station_of : PySem.W.keepIn K (.ref f_is_station_of) = true)
    (a_is_hand : PySem.W.nsIn K mainGlobals "is_hand" = some (some (.ref f_is_hand)))
    (l_is_hand : K.lookup f_is_hand = some ⟨oc_is_hand, od_is_hand, .func (PySem.W.fnOf "is_hand" "is_hand" (defArgs s_is_hand) (defBody s_is_hand) (defScope s_is_hand) .none kV_is_hand dc_is_hand pm_is_hand an_is_hand cd_is_hand ct_is_hand), sl_is_hand⟩)
    (c_is_hand : PySem.W.codeIn K cd_is_hand "is_hand" = true)
    (k_is_hand : PySem.W.keepIn K (.ref f_is_hand) = true)
    (a_are_hands : PySem.W.nsIn K mainGlobals "are_hands" = some (some (.ref f_are_hands)))
    (l_are_hands : K.lookup f_are_hands = some ⟨oc_are_hands, od_are_hands, .func (PySem.W.fnOf "are_hands" "are_hands" (defArgs s_are_hands) (defBody s_are_hands) (defScope s_are_hands) .none kV_are_hands dc_are_hands pm_are_hands an_are_hands cd_are_hands ct_are_hands), sl_are_hands⟩)
    (c_are_hands : PySem.W.codeIn K cd_are_hands "are_hands" = true)
    (k_are_hands : PySem.W.keepIn K (.ref f_are_hands) = true)
    (a_law : PySem.W.nsIn K mainGlobals "law" = some (some (.ref f_law)))
    (l_law : K.lookup f_law = some ⟨oc_law, od_law, .func (PySem.W.fnOf "law" "law" (defArgs s_law) (defBody s_law) (defScope s_law) .none kV_law dc_law pm_law an_law cd_law ct_law), sl_law⟩)
    (c_law : PySem.W.codeIn K cd_law "law" = true)
    (k_law : PySem.W.keepIn K (.ref f_law) = true)
    (gC_Ground : PySem.W.nsIn K mainGlobals "Ground" = some (some (.ref c_Ground)))
    (pg_Ground : PySem.W.plainGet K c_Ground Str.empty = true)
    (hdC_Ground : PySem.W.hasDictIn K c_Ground = true)
    (po_Ground : PySem.W.plainOver K c_Ground = true)
    (sa_Ground : PySem.W.findIn K (.ref c_Ground) "__setattr__" = some (some (.builtin "object.__setattr__")))
    (na_Ground_risks : PySem.W.findIn K (.ref c_Ground) "risks" = some none)
    (na_Ground_places : PySem.W.findIn K (.ref c_Ground) "places" = some none)
    (na_Ground_roads : PySem.W.findIn K (.ref c_Ground) "roads" = some none)
    (na_Ground_stations : PySem.W.findIn K (.ref c_Ground) "stations" = some none)
    (na_Ground_sorted_places : PySem.W.findIn K (.ref c_Ground) "sorted_places" = some none)
    (na_Ground_sorted_roads : PySem.W.findIn K (.ref c_Ground) "sorted_roads" = some none)
    (na_Ground_sorted_stations : PySem.W.findIn K (.ref c_Ground) "sorted_stations" = some none)
    (mk_Ground : PySem.W.makesIn K c_Ground = true)
    (in_Ground : PySem.W.findIn K (.ref c_Ground) "__init__" = some (some (.ref f_Ground__init_)))
    (if_Ground : PySem.W.isFn K (.ref f_Ground__init_) = true)
    (kp_Ground : PySem.W.keepIn K (.ref c_Ground) = true)
    (l_Ground__init_ : K.lookup f_Ground__init_ = some ⟨oc_Ground__init_, od_Ground__init_, .func (PySem.W.fnOf "__init__" "Ground.__init__" (defArgs s_Ground__init_) (defBody s_Ground__init_) (defScope s_Ground__init_) .none kV_Ground__init_ dc_Ground__init_ pm_Ground__init_ an_Ground__init_ cd_Ground__init_ ct_Ground__init_), sl_Ground__init_⟩)
    (c_Ground__init_ : PySem.W.codeIn K cd_Ground__init_ "Ground.__init__" = true)
    (k_Ground__init_ : PySem.W.keepIn K (.ref f_Ground__init_) = true)
    (z_len : PySem.W.nsIn K mainGlobals "len" = some none)
    (z_abs : PySem.W.nsIn K mainGlobals "abs" = some none)
    (z_all : PySem.W.nsIn K mainGlobals "all" = some none)
    (z_any : PySem.W.nsIn K mainGlobals "any" = some none)
    (z_str : PySem.W.nsIn K mainGlobals "str" = some none)
    (z_int : PySem.W.nsIn K mainGlobals "int" = some none)
    (z_isinstance : PySem.W.nsIn K mainGlobals "isinstance" = some none)
    (z_range : PySem.W.nsIn K mainGlobals "range" = some none)
    (z_max : PySem.W.nsIn K mainGlobals "max" = some none)
    (z_min : PySem.W.nsIn K mainGlobals "min" = some none)
    (z_bool : PySem.W.nsIn K mainGlobals "bool" = some none)
    (z_list : PySem.W.nsIn K mainGlobals "list" = some none)
    (z_tuple : PySem.W.nsIn K mainGlobals "tuple" = some none)
    (z_zip : PySem.W.nsIn K mainGlobals "zip" = some none)
    (z_enumerate : PySem.W.nsIn K mainGlobals "enumerate" = some none)
    (z_sorted : PySem.W.nsIn K mainGlobals "sorted" = some none)
    (gc_LETTERS : PySem.W.nsIn K mainGlobals "LETTERS" = some (some (.str "abcdefghijklmnopqrstuvwxyz" tk0)))
    (gc_LONGEST_NAME : PySem.W.nsIn K mainGlobals "LONGEST_NAME" = some (some (.int 8 tk1)))
    (gc_MOST_PLACES : PySem.W.nsIn K mainGlobals "MOST_PLACES" = some (some (.int 40 tk2)))
    (gc_MOST_ROADS : PySem.W.nsIn K mainGlobals "MOST_ROADS" = some (some (.int 80 tk3)))
    (gc_MOST_STATIONS : PySem.W.nsIn K mainGlobals "MOST_STATIONS" = some (some (.int 12 tk4)))
    (gc_MOST_RISK : PySem.W.nsIn K mainGlobals "MOST_RISK" = some (some (.int 4 tk5)))
    (gc_MOST_MINUTES : PySem.W.nsIn K mainGlobals "MOST_MINUTES" = some (some (.int 60 tk6)))
    (gc_MOST_SLOW : PySem.W.nsIn K mainGlobals "MOST_SLOW" = some (some (.int 60 tk7)))
    (gc_SKILLS : PySem.W.nsIn K mainGlobals "SKILLS" = some (some (.ref tt_SKILLS)))
    (lt_SKILLS : K.lookup tt_SKILLS = some ⟨.type "tuple", odt_SKILLS, .seq #[.str "drive" tk8, .str "lead" tk9, .str "wear" tk10] nt_SKILLS, slt_SKILLS⟩)
    (gc_MOST_HANDS : PySem.W.nsIn K mainGlobals "MOST_HANDS" = some (some (.int 60 tk11)))
    (gc_LAST_SHIFT : PySem.W.nsIn K mainGlobals "LAST_SHIFT" = some (some (.int 3 tk12)))
    (gc_MOST_SKILLS : PySem.W.nsIn K mainGlobals "MOST_SKILLS" = some (some (.int 5 tk13)))
    (gc_LAST_SKILL_DAY : PySem.W.nsIn K mainGlobals "LAST_SKILL_DAY" = some (some (.int 9 tk14))) :
    ∃ fd : FuncData, (∀ (s : Shared) (v : Value), BindsTo s fd ⟨[v], []⟩ [("_law_script", v)]) ∧ ∀ base : Heap, K.In base → base.Ns mainGlobals mg → FnOk l.prog w K mg base CX0 8 fa fd ["_law_script"] (uSp K (sp_law 0)) := by
  have e := hfa.symm.trans (PySem.W.mg_of X G a_law)
  cases e
  have F_law_bag := fun_mk (st := s_law_bag) l_law_bag c_law_bag k_law_bag
  have b_law_bag := F_law_bag.binds (ps := ["_law_script", "_law_at"]) fun _ _ _ _ _ _ us hl => match us, hl with | [_, _], _ => rfl
  have g_law_bag := PySem.W.mg_of X G a_law_bag
  have F_law_take := fun_mk (st := s_law_take) l_law_take c_law_take k_law_take
  have b_law_take := F_law_take.binds (ps := ["_law_bag_here", "_law_many_here"]) fun _ _ _ _ _ _ us hl => match us, hl with | [_, _], _ => rfl
  have g_law_take := PySem.W.mg_of X G a_law_take
  have F_law_names := fun_mk (st := s_law_names) l_law_names c_law_names k_law_names
  have b_law_names := F_law_names.binds (ps := ["_law_bag_here", "_law_many_here"]) fun _ _ _ _ _ _ us hl => match us, hl with | [_, _], _ => rfl
  have g_law_names := PySem.W.mg_of X G a_law_names
  have F_is_tuple_within := fun_mk (st := s_is_tuple_within) l_is_tuple_within c_is_tuple_within k_is_tuple_within
  have b_is_tuple_within := F_is_tuple_within.binds (ps := ["thing", "least", "most"]) fun _ _ _ _ _ _ us hl => match us, hl with | [_, _, _], _ => rfl
  have g_is_tuple_within := PySem.W.mg_of X G a_is_tuple_within
  have F_check_size := fun_mk (st := s_check_size) l_check_size c_check_size k_check_size
  have b_check_size := F_check_size.binds (ps := ["part", "thing", "least", "most"]) fun _ _ _ _ _ _ us hl => match us, hl with | [_, _, _, _], _ => rfl
  have g_check_size := PySem.W.mg_of X G a_check_size
  have F_is_name := fun_mk (st := s_is_name) l_is_name c_is_name k_is_name
  have b_is_name := F_is_name.binds (ps := ["thing"]) fun _ _ _ _ _ _ us hl => match us, hl with | [_], _ => rfl
  have g_is_name := PySem.W.mg_of X G a_is_name
  have F_is_whole := fun_mk (st := s_is_whole) l_is_whole c_is_whole k_is_whole
  have b_is_whole := F_is_whole.binds (ps := ["thing"]) fun _ _ _ _ _ _ us hl => match us, hl with | [_], _ => rfl
  have g_is_whole := PySem.W.mg_of X G a_is_whole
  have F_is_whole_within := fun_mk (st := s_is_whole_within) l_is_whole_within c_is_whole_within k_is_whole_within
  have b_is_whole_within := F_is_whole_within.binds (ps := ["thing", "least", "most"]) fun _ _ _ _ _ _ us hl => match us, hl with | [_, _, _], _ => rfl
  have g_is_whole_within := PySem.W.mg_of X G a_is_whole_within
  have F_is_place_with_risk := fun_mk (st := s_is_place_with_risk) l_is_place_with_risk c_is_place_with_risk k_is_place_with_risk
  have b_is_place_with_risk := F_is_place_with_risk.binds (ps := ["thing"]) fun _ _ _ _ _ _ us hl => match us, hl with | [_], _ => rfl
  have g_is_place_with_risk := PySem.W.mg_of X G a_is_place_with_risk
  have F_checked_risks := fun_mk (st := s_checked_risks) l_checked_risks c_checked_risks k_checked_risks
  have b_checked_risks := F_checked_risks.binds (ps := ["places"]) fun _ _ _ _ _ _ us hl => match us, hl with | [_], _ => rfl
  have g_checked_risks := PySem.W.mg_of X G a_checked_risks
  have F_ends_of := fun_mk (st := s_ends_of) l_ends_of c_ends_of k_ends_of
  have b_ends_of := F_ends_of.binds (ps := ["road"]) fun _ _ _ _ _ _ us hl => match us, hl with | [_], _ => rfl
  have g_ends_of := PySem.W.mg_of X G a_ends_of
  have F_is_place_among := fun_mk (st := s_is_place_among) l_is_place_among c_is_place_among k_is_place_among
  have b_is_place_among := F_is_place_among.binds (ps := ["risks", "thing"]) fun _ _ _ _ _ _ us hl => match us, hl with | [_, _], _ => rfl
  have g_is_place_among := PySem.W.mg_of X G a_is_place_among
  have F_is_road_among := fun_mk (st := s_is_road_among) l_is_road_among c_is_road_among k_is_road_among
  have b_is_road_among := F_is_road_among.binds (ps := ["risks", "thing"]) fun _ _ _ _ _ _ us hl => match us, hl with | [_, _], _ => rfl
  have g_is_road_among := PySem.W.mg_of X G a_is_road_among
  have F_check_roads := fun_mk (st := s_check_roads) l_check_roads c_check_roads k_check_roads
  have b_check_roads := F_check_roads.binds (ps := ["roads", "risks"]) fun _ _ _ _ _ _ us hl => match us, hl with | [_, _], _ => rfl
  have g_check_roads := PySem.W.mg_of X G a_check_roads
  have F_check_stations := fun_mk (st := s_check_stations) l_check_stations c_check_stations k_check_stations
  have b_check_stations := F_check_stations.binds (ps := ["stations", "risks"]) fun _ _ _ _ _ _ us hl => match us, hl with | [_, _], _ => rfl
  have g_check_stations := PySem.W.mg_of X G a_check_stations
  have F_law_ground := fun_mk (st := s_law_ground) l_law_ground c_law_ground k_law_ground
  have b_law_ground := F_law_ground.binds (ps := ["_law_bag_here", "_law_most"]) fun _ _ _ _ _ _ us hl => match us, hl with | [_, _], _ => rfl
  have g_law_ground := PySem.W.mg_of X G a_law_ground
  have F_law_hands := fun_mk (st := s_law_hands) l_law_hands c_law_hands k_law_hands
  have b_law_hands := F_law_hands.binds (ps := ["_law_bag_here", "_law_stations", "_law_most"]) fun _ _ _ _ _ _ us hl => match us, hl with | [_, _, _], _ => rfl
  have g_law_hands := PySem.W.mg_of X G a_law_hands
  have F_law_many := fun_mk (st := s_law_many) l_law_many c_law_many k_law_many
  have b_law_many := F_law_many.binds (ps := ["_law_stations", "_law_many_here"]) fun _ _ _ _ _ _ us hl => match us, hl with | [_, _], _ => rfl
  have g_law_many := PySem.W.mg_of X G a_law_many
  have F_law_unlike := fun_mk (st := s_law_unlike) l_law_unlike c_law_unlike k_law_unlike
  have b_law_unlike := F_law_unlike.binds (ps := ["_law_rows"]) fun _ _ _ _ _ _ us hl => match us, hl with | [_], _ => rfl
  have g_law_unlike := PySem.W.mg_of X G a_law_unlike
  have F_law_is_name := fun_mk (st := s_law_is_name) l_law_is_name c_law_is_name k_law_is_name
  have b_law_is_name := F_law_is_name.binds (ps := ["_law_given"]) fun _ _ _ _ _ _ us hl => match us, hl with | [_], _ => rfl
  have g_law_is_name := PySem.W.mg_of X G a_law_is_name
  have F_law_is_in := fun_mk (st := s_law_is_in) l_law_is_in c_law_is_in k_law_is_in
  have b_law_is_in := F_law_is_in.binds (ps := ["_law_given", "_law_texts"]) fun _ _ _ _ _ _ us hl => match us, hl with | [_, _], _ => rfl
  have g_law_is_in := PySem.W.mg_of X G a_law_is_in
  have F_law_between := fun_mk (st := s_law_between) l_law_between c_law_between k_law_between
  have b_law_between := F_law_between.binds (ps := ["_law_given", "_law_low", "_law_high"]) fun _ _ _ _ _ _ us hl => match us, hl with | [_, _, _], _ => rfl
  have g_law_between := PySem.W.mg_of X G a_law_between
  have F_law_is_skill := fun_mk (st := s_law_is_skill) l_law_is_skill c_law_is_skill k_law_is_skill
  have b_law_is_skill := F_law_is_skill.binds (ps := ["_law_given"]) fun _ _ _ _ _ _ us hl => match us, hl with | [_], _ => rfl
  have g_law_is_skill := PySem.W.mg_of X G a_law_is_skill
  have F_law_is_hand := fun_mk (st := s_law_is_hand) l_law_is_hand c_law_is_hand k_law_is_hand
  have b_law_is_hand := F_law_is_hand.binds (ps := ["_law_stations", "_law_given"]) fun _ _ _ _ _ _ us hl => match us, hl with | [_, _], _ => rfl
  have g_law_is_hand := PySem.W.mg_of X G a_law_is_hand
  have F_law_due := fun_mk (st := s_law_due) l_law_due c_law_due k_law_due
  have b_law_due := F_law_due.binds (ps := ["_law_stations", "_law_given"]) fun _ _ _ _ _ _ us hl => match us, hl with | [_, _], _ => rfl
  have g_law_due := PySem.W.mg_of X G a_law_due
  have F_law_any := fun_mk (st := s_law_any) l_law_any c_law_any k_law_any
  have b_law_any := F_law_any.binds (ps := ["_law_bag_here"]) fun _ _ _ _ _ _ us hl => match us, hl with | [_], _ => rfl
  have g_law_any := PySem.W.mg_of X G a_law_any
  have F_law_bent_row := fun_mk (st := s_law_bent_row) l_law_bent_row c_law_bent_row k_law_bent_row
  have b_law_bent_row := F_law_bent_row.binds (ps := ["_law_bag_here", "_law_row"]) fun _ _ _ _ _ _ us hl => match us, hl with | [_, _], _ => rfl
  have g_law_bent_row := PySem.W.mg_of X G a_law_bent_row
  have F_law_bent := fun_mk (st := s_law_bent) l_law_bent c_law_bent k_law_bent
  have b_law_bent := F_law_bent.binds (ps := ["_law_bag_here", "_law_rows"]) fun _ _ _ _ _ _ us hl => match us, hl with | [_, _], _ => rfl
  have g_law_bent := PySem.W.mg_of X G a_law_bent
  have F_have_unlike_names := fun_mk (st := s_have_unlike_names) l_have_unlike_names c_have_unlike_names k_have_unlike_names
  have b_have_unlike_names := F_have_unlike_names.binds (ps := ["rows"]) fun _ _ _ _ _ _ us hl => match us, hl with | [_], _ => rfl
  have g_have_unlike_names := PySem.W.mg_of X G a_have_unlike_names
  have F_is_skill := fun_mk (st := s_is_skill) l_is_skill c_is_skill k_is_skill
  have b_is_skill := F_is_skill.binds (ps := ["thing"]) fun _ _ _ _ _ _ us hl => match us, hl with | [_], _ => rfl
  have g_is_skill := PySem.W.mg_of X G a_is_skill
  have F_are_skills := fun_mk (st := s_are_skills) l_are_skills c_are_skills k_are_skills
  have b_are_skills := F_are_skills.binds (ps := ["thing"]) fun _ _ _ _ _ _ us hl => match us, hl with | [_], _ => rfl
  have g_are_skills := PySem.W.mg_of X G a_are_skills
  have F_is_station_of := fun_mk (st := s_is_station_of) l_is_station_of c_is_station_of k_is_station_of
  have b_is_station_of := F_is_station_of.binds (ps := ["ground", "thing"]) fun _ _ _ _ _ _ us hl => match us, hl with | [_, _], _ => rfl
  have g_is_station_of := PySem.W.mg_of X G a_is_station_of
  have F_is_hand := fun_mk (st := s_is_hand) l_is_hand c_is_hand k_is_hand
  have b_is_hand := F_is_hand.binds (ps := ["ground", "thing"]) fun _ _ _ _ _ _ us hl => match us, hl with | [_, _], _ => rfl
  have g_is_hand := PySem.W.mg_of X G a_is_hand
  have F_are_hands := fun_mk (st := s_are_hands) l_are_hands c_are_hands k_are_hands
  have b_are_hands := F_are_hands.binds (ps := ["ground", "thing"]) fun _ _ _ _ _ _ us hl => match us, hl with | [_, _], _ => rfl
  have g_are_hands := PySem.W.mg_of X G a_are_hands
  have F_law := fun_mk (st := s_law) l_law c_law k_law
  have b_law := F_law.binds (ps := ["_law_script"]) fun _ _ _ _ _ _ us hl => match us, hl with | [_], _ => rfl
  have g_law := PySem.W.mg_of X G a_law
  have F_Ground__init_ := fun_mk (st := s_Ground__init_) l_Ground__init_ c_Ground__init_ k_Ground__init_
  have b_Ground__init_ := F_Ground__init_.binds (ps := ["self", "places", "roads", "stations"]) fun _ _ _ _ _ _ us hl => match us, hl with | [_, _, _, _], _ => rfl
  have M_Ground : Mk K c_Ground f_Ground__init_ := ⟨mk_Ground, in_Ground, if_Ground, kp_Ground⟩
  have G_Ground := PySem.W.mg_of X G gC_Ground
  have T : Txt K w mg c_Ground := { z_len := PySem.W.mg_none_of X G z_len, z_abs := PySem.W.mg_none_of X G z_abs, z_all := PySem.W.mg_none_of X G z_all, z_any := PySem.W.mg_none_of X G z_any, z_str := PySem.W.mg_none_of X G z_str, z_int := PySem.W.mg_none_of X G z_int, z_isinstance := PySem.W.mg_none_of X G z_isinstance, z_range := PySem.W.mg_none_of X G z_range, z_max := PySem.W.mg_none_of X G z_max, z_min := PySem.W.mg_none_of X G z_min, z_bool := PySem.W.mg_none_of X G z_bool, z_list := PySem.W.mg_none_of X G z_list, z_tuple := PySem.W.mg_none_of X G z_tuple, z_zip := PySem.W.mg_none_of X G z_zip, z_enumerate := PySem.W.mg_none_of X G z_enumerate, z_sorted := PySem.W.mg_none_of X G z_sorted, g_LETTERS := ⟨.str "abcdefghijklmnopqrstuvwxyz", _, PySem.W.mg_of X G gc_LETTERS, ⟨_, rfl⟩, fun _ _ => (.str _ (by decide +kernel))⟩, g_LONGEST_NAME := ⟨.int 8, _, PySem.W.mg_of X G gc_LONGEST_NAME, ⟨_, rfl⟩, fun _ _ => (.int _)⟩, g_MOST_PLACES := ⟨.int 40, _, PySem.W.mg_of X G gc_MOST_PLACES, ⟨_, rfl⟩, fun _ _ => (.int _)⟩, g_MOST_ROADS := ⟨.int 80, _, PySem.W.mg_of X G gc_MOST_ROADS, ⟨_, rfl⟩, fun _ _ => (.int _)⟩, g_MOST_STATIONS := ⟨.int 12, _, PySem.W.mg_of X G gc_MOST_STATIONS, ⟨_, rfl⟩, fun _ _ => (.int _)⟩, g_MOST_RISK := ⟨.int 4, _, PySem.W.mg_of X G gc_MOST_RISK, ⟨_, rfl⟩, fun _ _ => (.int _)⟩, g_MOST_MINUTES := ⟨.int 60, _, PySem.W.mg_of X G gc_MOST_MINUTES, ⟨_, rfl⟩, fun _ _ => (.int _)⟩, g_MOST_SLOW := ⟨.int 60, _, PySem.W.mg_of X G gc_MOST_SLOW, ⟨_, rfl⟩, fun _ _ => (.int _)⟩, g_SKILLS := ⟨.ref tt_SKILLS, .ref tt_SKILLS, PySem.W.mg_of X G gc_SKILLS, rfl, fun _ _ => .tupK (vs := [.str "drive", .str "lead", .str "wear"]) ⟨_, _, _, lt_SKILLS, rfl, rfl, (by show 3 ≤ sizeLine; decide), (.cons ⟨_, rfl⟩ (.cons ⟨_, rfl⟩ (.cons ⟨_, rfl⟩ .nil)))⟩ (.cons (.str _ (by decide +kernel)) (.cons (.str _ (by decide +kernel)) (.cons (.str _ (by decide +kernel)) .nil)))⟩, g_MOST_HANDS := ⟨.int 60, _, PySem.W.mg_of X G gc_MOST_HANDS, ⟨_, rfl⟩, fun _ _ => (.int _)⟩, g_LAST_SHIFT := ⟨.int 3, _, PySem.W.mg_of X G gc_LAST_SHIFT, ⟨_, rfl⟩, fun _ _ => (.int _)⟩, g_MOST_SKILLS := ⟨.int 5, _, PySem.W.mg_of X G gc_MOST_SKILLS, ⟨_, rfl⟩, fun _ _ => (.int _)⟩, g_LAST_SKILL_DAY := ⟨.int 9, _, PySem.W.mg_of X G gc_LAST_SKILL_DAY, ⟨_, rfl⟩, fun _ _ => (.int _)⟩, cl_Ground := ⟨pg_Ground, hdC_Ground, po_Ground, sa_Ground⟩, n_Ground_risks := na_Ground_risks, n_Ground_places := na_Ground_places, n_Ground_roads := na_Ground_roads, n_Ground_stations := na_Ground_stations, n_Ground_sorted_places := na_Ground_sorted_places, n_Ground_sorted_roads := na_Ground_sorted_roads, n_Ground_sorted_stations := na_Ground_sorted_stations }
  refine ⟨PySem.W.fnOf "law" "law" (defArgs s_law) (defBody s_law) (defScope s_law) .none kV_law dc_law pm_law an_law cd_law ct_law, fun s v => .of_eq rfl, fun base _ _ => ?_⟩
  have C_law_bag : CalD l.prog w K mg base 1 "_law_bag" (sp_law_bag) := ⟨_, _, _, ok_law_bag F_law_bag T, g_law_bag, k_law_bag, b_law_bag⟩
  have C_law_take : CalD l.prog w K mg base 1 "_law_take" (sp_law_take) := ⟨_, _, _, ok_law_take F_law_take T, g_law_take, k_law_take, b_law_take⟩
  have C_law_names : CalD l.prog w K mg base 2 "_law_names" (sp_law_names) := ⟨_, _, _, ok_law_names F_law_names T C_law_take, g_law_names, k_law_names, b_law_names⟩
  have C_is_tuple_within : CalD l.prog w K mg base 1 "is_tuple_within" (sp_is_tuple_within) := ⟨_, _, _, ok_is_tuple_within F_is_tuple_within T, g_is_tuple_within, k_is_tuple_within, b_is_tuple_within⟩
  have C_check_size : CalD l.prog w K mg base 2 "check_size" (sp_check_size) := ⟨_, _, _, ok_check_size F_check_size T C_is_tuple_within, g_check_size, k_check_size, b_check_size⟩
  have C_is_name : CalD l.prog w K mg base 1 "is_name" (sp_is_name) := ⟨_, _, _, ok_is_name F_is_name T, g_is_name, k_is_name, b_is_name⟩
  have C_is_whole : CalD l.prog w K mg base 1 "is_whole" (sp_is_whole) := ⟨_, _, _, ok_is_whole F_is_whole T, g_is_whole, k_is_whole, b_is_whole⟩
  have C_is_whole_within : CalD l.prog w K mg base 2 "is_whole_within" (sp_is_whole_within) := ⟨_, _, _, ok_is_whole_within F_is_whole_within T C_is_whole, g_is_whole_within, k_is_whole_within, b_is_whole_within⟩
  have C_is_place_with_risk : CalD l.prog w K mg base 3 "is_place_with_risk" (sp_is_place_with_risk) := ⟨_, _, _, ok_is_place_with_risk F_is_place_with_risk T C_is_tuple_within C_is_name C_is_whole_within, g_is_place_with_risk, k_is_place_with_risk, b_is_place_with_risk⟩
  have C_checked_risks : CalD l.prog w K mg base 4 "checked_risks" (sp_checked_risks) := ⟨_, _, _, ok_checked_risks F_checked_risks T C_check_size C_is_place_with_risk, g_checked_risks, k_checked_risks, b_checked_risks⟩
  have C_ends_of : CalD l.prog w K mg base 1 "ends_of" (sp_ends_of) := ⟨_, _, _, ok_ends_of F_ends_of T, g_ends_of, k_ends_of, b_ends_of⟩
  have C_is_place_among : CalD l.prog w K mg base 2 "is_place_among" (sp_is_place_among) := ⟨_, _, _, ok_is_place_among F_is_place_among T C_is_name, g_is_place_among, k_is_place_among, b_is_place_among⟩
  have C_is_road_among : CalD l.prog w K mg base 3 "is_road_among" (sp_is_road_among) := ⟨_, _, _, ok_is_road_among F_is_road_among T C_is_tuple_within C_is_whole_within C_is_place_among, g_is_road_among, k_is_road_among, b_is_road_among⟩
  have C_check_roads : CalD l.prog w K mg base 4 "check_roads" (sp_check_roads) := ⟨_, _, _, ok_check_roads F_check_roads T C_check_size C_ends_of C_is_road_among, g_check_roads, k_check_roads, b_check_roads⟩
  have C_check_stations : CalD l.prog w K mg base 3 "check_stations" (sp_check_stations) := ⟨_, _, _, ok_check_stations F_check_stations T C_check_size C_is_place_among, g_check_stations, k_check_stations, b_check_stations⟩
  have C_Ground__init_ : FnOk l.prog w K mg base CX0 5 f_Ground__init_ _ _ (uSp K (sp_Ground__init_ c_Ground)) := ok_Ground__init_ F_Ground__init_ T C_checked_risks C_check_roads C_check_stations C_ends_of
  have C_law_ground : CalD l.prog w K mg base 7 "_law_ground" (sp_law_ground c_Ground) := ⟨_, _, _, ok_law_ground F_law_ground T C_law_names C_law_take C_Ground__init_ b_Ground__init_ M_Ground G_Ground, g_law_ground, k_law_ground, b_law_ground⟩
  have C_law_hands : CalD l.prog w K mg base 2 "_law_hands" (sp_law_hands) := ⟨_, _, _, ok_law_hands F_law_hands T C_law_take, g_law_hands, k_law_hands, b_law_hands⟩
  have C_law_many : CalD l.prog w K mg base 1 "_law_many" (sp_law_many) := ⟨_, _, _, ok_law_many F_law_many T, g_law_many, k_law_many, b_law_many⟩
  have C_law_unlike : CalD l.prog w K mg base 1 "_law_unlike" (sp_law_unlike) := ⟨_, _, _, ok_law_unlike F_law_unlike T, g_law_unlike, k_law_unlike, b_law_unlike⟩
  have C_law_is_name : CalD l.prog w K mg base 1 "_law_is_name" (sp_law_is_name) := ⟨_, _, _, ok_law_is_name F_law_is_name T, g_law_is_name, k_law_is_name, b_law_is_name⟩
  have C_law_is_in : CalD l.prog w K mg base 1 "_law_is_in" (sp_law_is_in) := ⟨_, _, _, ok_law_is_in F_law_is_in T, g_law_is_in, k_law_is_in, b_law_is_in⟩
  have C_law_between : CalD l.prog w K mg base 1 "_law_between" (sp_law_between) := ⟨_, _, _, ok_law_between F_law_between T, g_law_between, k_law_between, b_law_between⟩
  have C_law_is_skill : CalD l.prog w K mg base 2 "_law_is_skill" (sp_law_is_skill) := ⟨_, _, _, ok_law_is_skill F_law_is_skill T C_law_is_in C_law_between, g_law_is_skill, k_law_is_skill, b_law_is_skill⟩
  have C_law_is_hand : CalD l.prog w K mg base 3 "_law_is_hand" (sp_law_is_hand) := ⟨_, _, _, ok_law_is_hand F_law_is_hand T C_law_is_name C_law_is_in C_law_between C_law_is_skill, g_law_is_hand, k_law_is_hand, b_law_is_hand⟩
  have C_law_due : CalD l.prog w K mg base 4 "_law_due" (sp_law_due) := ⟨_, _, _, ok_law_due F_law_due T C_law_unlike C_law_is_hand, g_law_due, k_law_due, b_law_due⟩
  have C_law_any : CalD l.prog w K mg base 2 "_law_any" (sp_law_any) := ⟨_, _, _, ok_law_any F_law_any T C_law_take, g_law_any, k_law_any, b_law_any⟩
  have C_law_bent_row : CalD l.prog w K mg base 3 "_law_bent_row" (sp_law_bent_row) := ⟨_, _, _, ok_law_bent_row F_law_bent_row T C_law_any C_law_take, g_law_bent_row, k_law_bent_row, b_law_bent_row⟩
  have C_law_bent : CalD l.prog w K mg base 4 "_law_bent" (sp_law_bent) := ⟨_, _, _, ok_law_bent F_law_bent T C_law_take C_law_any C_law_bent_row, g_law_bent, k_law_bent, b_law_bent⟩
  have C_have_unlike_names : CalD l.prog w K mg base 1 "have_unlike_names" (sp_have_unlike_names) := ⟨_, _, _, ok_have_unlike_names F_have_unlike_names T, g_have_unlike_names, k_have_unlike_names, b_have_unlike_names⟩
  have C_is_skill : CalD l.prog w K mg base 3 "is_skill" (sp_is_skill) := ⟨_, _, _, ok_is_skill F_is_skill T C_is_tuple_within C_is_whole_within, g_is_skill, k_is_skill, b_is_skill⟩
  have C_are_skills : CalD l.prog w K mg base 4 "are_skills" (sp_are_skills) := ⟨_, _, _, ok_are_skills F_are_skills T C_is_tuple_within C_is_skill, g_are_skills, k_are_skills, b_are_skills⟩
  have C_is_station_of : CalD l.prog w K mg base 1 "is_station_of" (sp_is_station_of c_Ground) := ⟨_, _, _, ok_is_station_of F_is_station_of T, g_is_station_of, k_is_station_of, b_is_station_of⟩
  have C_is_hand : CalD l.prog w K mg base 5 "is_hand" (sp_is_hand c_Ground) := ⟨_, _, _, ok_is_hand F_is_hand T C_is_tuple_within C_is_whole_within C_are_skills C_is_name C_is_station_of, g_is_hand, k_is_hand, b_is_hand⟩
  have C_are_hands : CalD l.prog w K mg base 6 "are_hands" (sp_are_hands c_Ground) := ⟨_, _, _, ok_are_hands F_are_hands T C_is_tuple_within C_have_unlike_names C_is_hand, g_are_hands, k_are_hands, b_are_hands⟩
  have r : FnOk l.prog w K mg base CX0 8 fa _ _ (uSp K (sp_law c_Ground)) := ok_law F_law T C_law_bag C_law_ground C_law_hands C_law_many C_law_due C_law_take C_law_bent C_are_hands ⟨_, _, _, ok_are_hands F_are_hands T C_is_tuple_within C_have_unlike_names C_is_hand, g_are_hands, k_are_hands, kbn_mk F_are_hands fun _ _ _ _ _ _ us ws h1 h2 => match us, ws, h1, h2 with | [], [w0, w1], _, _ => rfl⟩
  exact r
end DL

set_option Elab.async false
set_option linter.all false
open PySem PySem.W PyProof.Rows
set_option maxRecDepth 100000 in
set_option maxHeartbeats 0 in
theorem PySem.Challenge.cw_whistleboard_k15_what_are_hands_holds : PySem.Challenge.rw_whistleboard_k15_what_are_hands.Holds := by
  w_on; o_law; k_head; (case hw => w_witness2)
  k_fill
  refine L2.walk_ofK (l := PySem.Challenge.rw_whistleboard_k15_what_are_hands) (n := 63) (k := 8) (x := "_law_script") (CX := L2.CX0) (sp := fun K => DL.uSp K (DL.sp_law 0)) rfl (by decide) rfl ⟨rfl, by decide, by decide⟩ (fun w h Y => PySem.W.kIn_of Y) ?F (fun _ _ a ns hl on hS => DL.law_sp on hS ⟨ns, rfl, hl, rfl⟩) (fun _ _ _ _ h => h)
  case F =>
    intro w mg fa h KX G hmg
    refine' DL.all_mk KX G hmg ?a_law_bag ?l_law_bag ?c_law_bag ?k_law_bag ?a_law_take ?l_law_take ?c_law_take ?k_law_take ?a_law_names ?l_law_names ?c_law_names ?k_law_names ?a_is_tuple_within ?l_is_tuple_within ?c_is_tuple_within ?k_is_tuple_within ?a_check_size ?l_check_size ?c_check_size ?k_check_size ?a_is_name ?l_is_name ?c_is_name ?k_is_name ?a_is_whole ?l_is_whole ?c_is_whole ?k_is_whole ?a_is_whole_within ?l_is_whole_within ?c_is_whole_within ?k_is_whole_within ?a_is_place_with_risk ?l_is_place_with_risk ?c_is_place_with_risk ?k_is_place_with_risk ?a_checked_risks ?l_checked_risks ?c_checked_risks ?k_checked_risks ?a_ends_of ?l_ends_of ?c_ends_of ?k_ends_of ?a_is_place_among ?l_is_place_among ?c_is_place_among ?k_is_place_among ?a_is_road_among ?l_is_road_among ?c_is_road_among ?k_is_road_among ?a_check_roads ?l_check_roads ?c_check_roads ?k_check_roads ?a_check_stations ?l_check_stations ?c_check_stations ?k_check_stations ?a_law_ground ?l_law_ground ?c_law_ground ?k_law_ground ?a_law_hands ?l_law_hands ?c_law_hands ?k_law_hands ?a_law_many ?l_law_many ?c_law_many ?k_law_many ?a_law_unlike ?l_law_unlike ?c_law_unlike ?k_law_unlike ?a_law_is_name ?l_law_is_name ?c_law_is_name ?k_law_is_name ?a_law_is_in ?l_law_is_in ?c_law_is_in ?k_law_is_in ?a_law_between ?l_law_between ?c_law_between ?k_law_between ?a_law_is_skill ?l_law_is_skill ?c_law_is_skill ?k_law_is_skill ?a_law_is_hand ?l_law_is_hand ?c_law_is_hand ?k_law_is_hand ?a_law_due ?l_law_due ?c_law_due ?k_law_due ?a_law_any ?l_law_any ?c_law_any ?k_law_any ?a_law_bent_row ?l_law_bent_row ?c_law_bent_row ?k_law_bent_row ?a_law_bent ?l_law_bent ?c_law_bent ?k_law_bent ?a_have_unlike_names ?l_have_unlike_names ?c_have_unlike_names ?k_have_unlike_names ?a_is_skill ?l_is_skill ?c_is_skill ?k_is_skill ?a_are_skills ?l_are_skills ?c_are_skills ?k_are_skills ?a_is_station_of ?l_is_station_of ?c_is_station_of ?k_is_station_of ?a_is_hand ?l_is_hand ?c_is_hand ?k_is_hand ?a_are_hands ?l_are_hands ?c_are_hands ?k_are_hands ?a_law ?l_law ?c_law ?k_law ?gC_Ground ?pg_Ground ?hdC_Ground ?po_Ground ?sa_Ground ?na_Ground_risks ?na_Ground_places ?na_Ground_roads ?na_Ground_stations ?na_Ground_sorted_places ?na_Ground_sorted_roads ?na_Ground_sorted_stations ?mk_Ground ?in_Ground ?if_Ground ?kp_Ground ?l_Ground__init_ ?c_Ground__init_ ?k_Ground__init_ ?z_len ?z_abs ?z_all ?z_any ?z_str ?z_int ?z_isinstance ?z_range ?z_max ?z_min ?z_bool ?z_list ?z_tuple ?z_zip ?z_enumerate ?z_sorted ?gc_LETTERS ?gc_LONGEST_NAME ?gc_MOST_PLACES ?gc_MOST_ROADS ?gc_MOST_STATIONS ?gc_MOST_RISK ?gc_MOST_MINUTES ?gc_MOST_SLOW ?gc_SKILLS ?lt_SKILLS ?gc_MOST_HANDS ?gc_LAST_SHIFT ?gc_MOST_SKILLS ?gc_LAST_SKILL_DAY
    (case a_law_bag => k_is)
    (case l_law_bag => k_is)
    (case c_law_bag => k_is)
    (case k_law_bag => k_is)
    (case a_law_take => k_is)
    (case l_law_take => k_is)
    (case c_law_take => k_is)
    (case k_law_take => k_is)
    (case a_law_names => k_is)
    (case l_law_names => k_is)
    (case c_law_names => k_is)
    (case k_law_names => k_is)
    (case a_is_tuple_within => k_is)
    (case l_is_tuple_within => k_is)
    (case c_is_tuple_within => k_is)
    (case k_is_tuple_within => k_is)
    (case a_check_size => k_is)
    (case l_check_size => k_is)
    (case c_check_size => k_is)
    (case k_check_size => k_is)
    (case a_is_name => k_is)
    (case l_is_name => k_is)
    (case c_is_name => k_is)
    (case k_is_name => k_is)
    (case a_is_whole => k_is)
    (case l_is_whole => k_is)
    (case c_is_whole => k_is)
    (case k_is_whole => k_is)
    (case a_is_whole_within => k_is)
    (case l_is_whole_within => k_is)
    (case c_is_whole_within => k_is)
    (case k_is_whole_within => k_is)
    (case a_is_place_with_risk => k_is)
    (case l_is_place_with_risk => k_is)
    (case c_is_place_with_risk => k_is)
    (case k_is_place_with_risk => k_is)
    (case a_checked_risks => k_is)
    (case l_checked_risks => k_is)
    (case c_checked_risks => k_is)
    (case k_checked_risks => k_is)
    (case a_ends_of => k_is)
    (case l_ends_of => k_is)
    (case c_ends_of => k_is)
    (case k_ends_of => k_is)
    (case a_is_place_among => k_is)
    (case l_is_place_among => k_is)
    (case c_is_place_among => k_is)
    (case k_is_place_among => k_is)
    (case a_is_road_among => k_is)
    (case l_is_road_among => k_is)
    (case c_is_road_among => k_is)
    (case k_is_road_among => k_is)
    (case a_check_roads => k_is)
    (case l_check_roads => k_is)
    (case c_check_roads => k_is)
    (case k_check_roads => k_is)
    (case a_check_stations => k_is)
    (case l_check_stations => k_is)
    (case c_check_stations => k_is)
    (case k_check_stations => k_is)
    (case a_law_ground => k_is)
    (case l_law_ground => k_is)
    (case c_law_ground => k_is)
    (case k_law_ground => k_is)
    (case a_law_hands => k_is)
    (case l_law_hands => k_is)
    (case c_law_hands => k_is)
    (case k_law_hands => k_is)
    (case a_law_many => k_is)
    (case l_law_many => k_is)
    (case c_law_many => k_is)
    (case k_law_many => k_is)
    (case a_law_unlike => k_is)
    (case l_law_unlike => k_is)
    (case c_law_unlike => k_is)
    (case k_law_unlike => k_is)
    (case a_law_is_name => k_is)
    (case l_law_is_name => k_is)
    (case c_law_is_name => k_is)
    (case k_law_is_name => k_is)
    (case a_law_is_in => k_is)
    (case l_law_is_in => k_is)
    (case c_law_is_in => k_is)
    (case k_law_is_in => k_is)
    (case a_law_between => k_is)
    (case l_law_between => k_is)
    (case c_law_between => k_is)
    (case k_law_between => k_is)
    (case a_law_is_skill => k_is)
    (case l_law_is_skill => k_is)
    (case c_law_is_skill => k_is)
    (case k_law_is_skill => k_is)
    (case a_law_is_hand => k_is)
    (case l_law_is_hand => k_is)
    (case c_law_is_hand => k_is)
    (case k_law_is_hand => k_is)
    (case a_law_due => k_is)
    (case l_law_due => k_is)
    (case c_law_due => k_is)
    (case k_law_due => k_is)
    (case a_law_any => k_is)
    (case l_law_any => k_is)
    (case c_law_any => k_is)
    (case k_law_any => k_is)
    (case a_law_bent_row => k_is)
    (case l_law_bent_row => k_is)
    (case c_law_bent_row => k_is)
    (case k_law_bent_row => k_is)
    (case a_law_bent => k_is)
    (case l_law_bent => k_is)
    (case c_law_bent => k_is)
    (case k_law_bent => k_is)
    (case a_have_unlike_names => k_is)
    (case l_have_unlike_names => k_is)
    (case c_have_unlike_names => k_is)
    (case k_have_unlike_names => k_is)
    (case a_is_skill => k_is)
    (case l_is_skill => k_is)
    (case c_is_skill => k_is)
    (case k_is_skill => k_is)
    (case a_are_skills => k_is)
    (case l_are_skills => k_is)
    (case c_are_skills => k_is)
    (case k_are_skills => k_is)
    (case a_is_station_of => k_is)
    (case l_is_station_of => k_is)
    (case c_is_station_of => k_is)
    (case k_is_station_of => k_is)
    (case a_is_hand => k_is)
    (case l_is_hand => k_is)
    (case c_is_hand => k_is)
    (case k_is_hand => k_is)
    (case a_are_hands => k_is)
    (case l_are_hands => k_is)
    (case c_are_hands => k_is)
    (case k_are_hands => k_is)
    (case a_law => k_is)
    (case l_law => k_is)
    (case c_law => k_is)
    (case k_law => k_is)
    (case gC_Ground => k_is)
    (case pg_Ground => first | k_is | rfl | decide +kernel)
    (case hdC_Ground => first | k_is | rfl | decide +kernel)
    (case po_Ground => first | k_is | rfl | decide +kernel)
    (case sa_Ground => k_is)
    (case na_Ground_risks => k_is)
    (case na_Ground_places => k_is)
    (case na_Ground_roads => k_is)
    (case na_Ground_stations => k_is)
    (case na_Ground_sorted_places => k_is)
    (case na_Ground_sorted_roads => k_is)
    (case na_Ground_sorted_stations => k_is)
    (case mk_Ground => first | k_is | rfl | decide +kernel)
    (case in_Ground => k_is)
    (case if_Ground => first | k_is | rfl | decide +kernel)
    (case kp_Ground => k_is)
    (case l_Ground__init_ => k_is)
    (case c_Ground__init_ => k_is)
    (case k_Ground__init_ => k_is)
    (case z_len => k_is)
    (case z_abs => k_is)
    (case z_all => k_is)
    (case z_any => k_is)
    (case z_str => k_is)
    (case z_int => k_is)
    (case z_isinstance => k_is)
    (case z_range => k_is)
    (case z_max => k_is)
    (case z_min => k_is)
    (case z_bool => k_is)
    (case z_list => k_is)
    (case z_tuple => k_is)
    (case z_zip => k_is)
    (case z_enumerate => k_is)
    (case z_sorted => k_is)
    (case gc_LETTERS => k_is)
    (case gc_LONGEST_NAME => k_is)
    (case gc_MOST_PLACES => k_is)
    (case gc_MOST_ROADS => k_is)
    (case gc_MOST_STATIONS => k_is)
    (case gc_MOST_RISK => k_is)
    (case gc_MOST_MINUTES => k_is)
    (case gc_MOST_SLOW => k_is)
    (case gc_SKILLS => k_is)
    (case lt_SKILLS => k_is)
    (case gc_MOST_HANDS => k_is)
    (case gc_LAST_SHIFT => k_is)
    (case gc_MOST_SKILLS => k_is)
    (case gc_LAST_SKILL_DAY => k_is)
