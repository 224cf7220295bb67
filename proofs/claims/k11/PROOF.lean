import PyProof.Rows.All
import Wide.All
import OpenK.AllK
import Wide.FinOn
import PySem.Challenge.RW_oldsights_k11_faults_in_logs
import HandS.ForMost
import HandS.Wide
import HandS.TupAny
import HandS.TupMul
import HandS.Deep
import HandS.IsInst
import HandS.SortInts
import HandS.DictComp
import HandS.Conv
import HandS.Style
import HandS.Flow
import HandS.Zip
import HandS.Small
import HandS.TupLe
import HandS.TupLen
import HandS.HeadHook1
import HandS.ForExc
import HandS.Defaults
import HandS.More
import HandS.RaiseMore
import HandS.Ends
import HandS.HeadEnd
import KE.KRevSl
import HandS.Head0
import HandS.Head1
import HandS.Head2
import HandS.HeadHook2
import PyProof.ExcBaseAll.ValueError
import KE.KStateDown
import Lean
set_option Elab.async false
set_option linter.all false
set_option maxRecDepth 100000
set_option maxHeartbeats 4000000
/-! A layer of data over HandS: what values stand for, what a body knows and owns. -/
namespace Od
open PySem PySem.Spec PyProof.Rows L2

abbrev D := PyData
abbrev Pr := Addr → Prop

/-! ### values that stand for data, by objects that P protects -/
def KSeqL (K : PySem.W.Frag) (a : Addr) (xs : List V) : Prop :=
  ∃ (o : Obj) (its : Array Value) (n : Nat), K.lookup a = some o ∧ o.cls = .type "list" ∧
    o.dict = none ∧ o.data = .seq its n ∧ its.size ≤ sizeLine ∧ Vals xs its.toList
/-- a key of a dict -/
def kD : Key → D
  | .inl i => .int i
  | .inr x => .str x
def ScrL (K : PySem.W.Frag) (H : Hp) (P : Pr) (a : Addr) (xs : List V) : Prop := (P a ∧ ∃ o, H a = some (.frz o (.lst xs))) ∨ KSeqL K a xs
mutual
inductive Dat (K : PySem.W.Frag) (H : Hp) (P : Pr) : V → D → Prop
  | non : Dat K H P .non .none
  | bl (b : Bool) : Dat K H P (.bl b) (.bool b)
  | int (i : Int) : Dat K H P (.int i) (.int i)
  | str (x : Str) : Dat K H P (.str x) (.str x)
  | lst {a : Addr} {xs : List V} {ds : List D} : P a → H a = some (.lst xs) → DatL K H P xs ds → Dat K H P (.ref a) (.list ds)
  /-- the script, as nothing else is: read alone -/
  | scr {a : Addr} {xs : List V} {ds : List D} : ScrL K H P a xs → DatL K H P xs ds → Dat K H P (.ref a) (.dict [(.none, .list ds)])
  | tup {a : Addr} {xs : List V} {ds : List D} : P a → H a = some (.tup xs) → DatL K H P xs ds → Dat K H P (.ref a) (.tuple ds)
  | dcK {a : Addr} {l : List (Key × V)} {kvs : List (D × D)} : P a → H a = some (.dK l) → DatK K H P l kvs → Dat K H P (.ref a) (.dict kvs)
  | dcT {a : Addr} {l : List (List Key × V)} {kvs : List (D × D)} : P a → H a = some (.dT l) → DatT K H P l kvs → Dat K H P (.ref a) (.dict ((.none, .none) :: kvs))
inductive DatL (K : PySem.W.Frag) (H : Hp) (P : Pr) : List V → List D → Prop
  | nil : DatL K H P [] []
  | cons {v : V} {vs : List V} {d : D} {ds : List D} : Dat K H P v d → DatL K H P vs ds → DatL K H P (v :: vs) (d :: ds)
inductive DatK (K : PySem.W.Frag) (H : Hp) (P : Pr) : List (Key × V) → List (D × D) → Prop
  | nil : DatK K H P [] []
  | cons {k : Key} {v : V} {d : D} {l : List (Key × V)} {kvs : List (D × D)} : Dat K H P v d → DatK K H P l kvs → DatK K H P ((k, v) :: l) ((kD k, d) :: kvs)
inductive DatT (K : PySem.W.Frag) (H : Hp) (P : Pr) : List (List Key × V) → List (D × D) → Prop
  | nil : DatT K H P [] []
  | cons {k : List Key} {v : V} {d : D} {l : List (List Key × V)} {kvs : List (D × D)} : Dat K H P v d → DatT K H P l kvs → DatT K H P ((k, v) :: l) ((.tuple (k.map kD), d) :: kvs)
end

section
variable {K : PySem.W.Frag} {H H' : Hp} {P P' : Pr}
/-- protected objects stay -/
structure Pk (P : Pr) (H : Hp) (P' : Pr) (H' : Hp) : Prop where
  le : ∀ a, P a → P' a
  kp : ∀ a o, P a → H a = some o → H' a = some o
theorem Pk.refl : Pk P H P H := ⟨fun _ h => h, fun _ _ _ h => h⟩
theorem Pk.trans {P1 P2 : Pr} {H1 H2 : Hp} (a : Pk P H P1 H1) (b : Pk P1 H1 P2 H2) : Pk P H P2 H2 :=
  ⟨fun x h => b.le x (a.le x h), fun x o h e => b.kp x o (a.le x h) (a.kp x o h e)⟩
mutual
theorem Dat.keep (k : Pk P H P' H') : ∀ (d : D) (v : V), Dat K H P v d → Dat K H' P' v d
  | .none, v, h => by cases h; exact .non
  | .bool b, v, h => by cases h; exact .bl b
  | .int i, v, h => by cases h; exact .int i
  | .str x, v, h => by cases h; exact .str x
  | .list ds, v, h => by
    cases h with
    | lst p r l => exact .lst (k.le _ p) (k.kp _ _ p r) (DatL.keep k ds _ l)
  | .tuple ds, v, h => by
    cases h with
    | tup p r l => exact .tup (k.le _ p) (k.kp _ _ p r) (DatL.keep k ds _ l)
  | .dict kvs, v, h => by
    cases h with
    | scr q l =>
      rename_i a xs ds
      exact .scr (q.imp (fun ⟨p, o, e⟩ => ⟨k.le _ p, o, k.kp _ _ p e⟩) fun z => z) (DatL.keep k ds _ l)
    | dcK p r l => exact .dcK (k.le _ p) (k.kp _ _ p r) (DatK.keep k kvs _ l)
    | dcT p r l =>
      rename_i a l' kvs'
      exact .dcT (k.le _ p) (k.kp _ _ p r) (DatT.keep k kvs' _ l)
termination_by d => sizeOf d
theorem DatL.keep (k : Pk P H P' H') : ∀ (ds : List D) (vs : List V), DatL K H P vs ds → DatL K H' P' vs ds
  | [], vs, h => by cases h; exact .nil
  | d :: ds, vs, h => by
    cases h with
    | cons a b => exact .cons (Dat.keep k d _ a) (DatL.keep k ds _ b)
termination_by ds => sizeOf ds
theorem DatK.keep (k : Pk P H P' H') : ∀ (kvs : List (D × D)) (l : List (Key × V)), DatK K H P l kvs → DatK K H' P' l kvs
  | [], l, h => by cases h; exact .nil
  | (_, d) :: kvs, l, h => by
    cases h with
    | cons a b => exact .cons (Dat.keep k d _ a) (DatK.keep k kvs _ b)
termination_by kvs => sizeOf kvs
theorem DatT.keep (k : Pk P H P' H') : ∀ (kvs : List (D × D)) (l : List (List Key × V)), DatT K H P l kvs → DatT K H' P' l kvs
  | [], l, h => by cases h; exact .nil
  | (_, d) :: kvs, l, h => by
    cases h with
    | cons a b => exact .cons (Dat.keep k d _ a) (DatT.keep k kvs _ b)
termination_by kvs => sizeOf kvs
end
theorem DatK.k {l : List (Key × V)} {kvs : List (D × D)} (h : DatK K H P l kvs) (k : Pk P H P' H') : DatK K H' P' l kvs := DatK.keep k kvs l h
theorem DatT.k {l : List (List Key × V)} {kvs : List (D × D)} (h : DatT K H P l kvs) (k : Pk P H P' H') : DatT K H' P' l kvs := DatT.keep k kvs l h
theorem Dat.k {v : V} {d : D} (h : Dat K H P v d) (k : Pk P H P' H') : Dat K H' P' v d := Dat.keep k d v h
theorem DatL.k {vs : List V} {ds : List D} (h : DatL K H P vs ds) (k : Pk P H P' H') : DatL K H' P' vs ds := DatL.keep k ds vs h
theorem DatL.len : ∀ {vs : List V} {ds : List D}, DatL K H P vs ds → vs.length = ds.length
  | _, _, .nil => rfl
  | _, _, .cons _ t => congrArg (· + 1) (DatL.len t)
theorem DatL.app : ∀ {vs ws : List V} {ds es : List D}, DatL K H P vs ds → DatL K H P ws es → DatL K H P (vs ++ ws) (ds ++ es)
  | _, _, _, _, .nil, s => s
  | _, _, _, _, .cons a t, s => .cons a (DatL.app t s)
theorem DatL.get : ∀ {vs : List V} {ds : List D} {i : Nat} {d : D}, DatL K H P vs ds → ds[i]? = some d → ∃ v, vs[i]? = some v ∧ Dat K H P v d
  | _, _, _, _, .nil, e => by simp at e
  | _, _, 0, _, .cons a _, e => by simp at e; subst e; exact ⟨_, rfl, a⟩
  | _, _, i + 1, d, .cons _ t, e => by
    obtain ⟨v, h1, h2⟩ := DatL.get (i := i) (d := d) t (by simpa using e)
    exact ⟨v, by simpa using h1, h2⟩
theorem DatL.take : ∀ {vs : List V} {ds : List D} (n : Nat), DatL K H P vs ds → DatL K H P (vs.take n) (ds.take n)
  | _, _, 0, _ => .nil
  | _, _, _ + 1, .nil => .nil
  | _, _, n + 1, .cons a t => .cons a (DatL.take n t)
theorem DatL.drop : ∀ {vs : List V} {ds : List D} (n : Nat), DatL K H P vs ds → DatL K H P (vs.drop n) (ds.drop n)
  | _, _, 0, h => h
  | _, _, _ + 1, .nil => .nil
  | _, _, n + 1, .cons _ t => DatL.drop n t
theorem DatL.set {x : V} {e : D} (h : Dat K H P x e) : ∀ {vs : List V} {ds : List D} (i : Nat), DatL K H P vs ds → DatL K H P (vs.set i x) (ds.set i e)
  | _, _, _, .nil => .nil
  | _, _, 0, .cons _ t => .cons h t
  | _, _, i + 1, .cons a t => .cons a (DatL.set h i t)
theorem DatL.ints : ∀ {vs : List V} {ns : List Int}, DatL K H P vs (ns.map PyData.int) → vs = ns.map V.int
  | vs, [], h => by
    cases h
    rfl
  | vs, n :: ns, h => by
    cases h with
    | cons a t =>
      cases a
      rw [DatL.ints t]
      all_goals rfl
theorem DatL.ofInts : ∀ (ns : List Int), DatL K H P (ns.map V.int) (ns.map PyData.int)
  | [] => .nil
  | n :: ns => .cons (.int n) (DatL.ofInts ns)
theorem DatL.bools : ∀ {vs : List V} {bs : List Bool}, DatL K H P vs (bs.map PyData.bool) → vs = bs.map V.bl
  | vs, [], h => by
    cases h
    rfl
  | vs, n :: ns, h => by
    cases h with
    | cons a t =>
      cases a
      rw [DatL.bools t]
      all_goals rfl
def noDic : D → Bool
  | .dict _ => false
  | .list ds => noDics ds
  | .tuple ds => noDics ds
  | _ => true
where noDics : List D → Bool
  | [] => true
  | d :: ds => noDic d && noDics ds
mutual
/-- data of the layer's own relation -/
theorem Dat.dp : ∀ (d : D) (v : V), noDic d = true → Dat K H P v d → Dp K H v d
  | .none, v, _, h => by cases h; exact .non
  | .bool b, v, _, h => by cases h; exact .bl b
  | .int i, v, _, h => by cases h; exact .int i
  | .str x, v, _, h => by cases h; exact .str x
  | .list ds, v, n, h => by
    unfold noDic at n
    cases h with
    | lst p r l => exact .lst (.inl (.inl r)) (DatL.dp ds _ n l)
  | .tuple ds, v, n, h => by
    unfold noDic at n
    cases h with
    | tup p r l => exact .tup (.inl (.inl r)) (DatL.dp ds _ n l)
  | .dict _, v, n, h => by
    unfold noDic at n
    cases n
theorem DatL.dp : ∀ (ds : List D) (vs : List V), noDic.noDics ds = true → DatL K H P vs ds → DpAll K H vs ds
  | [], vs, _, h => by cases h; exact .nil
  | d :: ds, vs, n, h => by
    unfold noDic.noDics at n
    have n' := Bool.and_eq_true_iff.mp n
    cases h with
    | cons a b => exact .cons (Dat.dp d _ n'.1 a) (DatL.dp ds _ n'.2 b)
end
theorem Dat.lstOf {v : V} {ds : List D} (h : Dat K H P v (.list ds)) : ∃ a xs, v = .ref a ∧ P a ∧ H a = some (.lst xs) ∧ DatL K H P xs ds := by
  cases h with
  | lst p r l => exact ⟨_, _, rfl, p, r, l⟩
theorem Dat.tupOf {v : V} {ds : List D} (h : Dat K H P v (.tuple ds)) : ∃ a xs, v = .ref a ∧ P a ∧ H a = some (.tup xs) ∧ DatL K H P xs ds := by
  cases h with
  | tup p r l => exact ⟨_, _, rfl, p, r, l⟩
theorem kD_none {k : Key} : kD k ≠ .none := by
  cases k <;> exact nofun
theorem Dat.scrOf {v : V} {ds : List D} (h : Dat K H P v (.dict [(.none, .list ds)])) : ∃ a xs, v = .ref a ∧ SqL K H a xs ∧ DatL K H P xs ds := by
  generalize hd : PyData.dict [(.none, .list ds)] = dd at h
  cases h with
  | non => cases hd
  | bl _ => cases hd
  | int _ => cases hd
  | str _ => cases hd
  | lst _ _ _ => cases hd
  | tup _ _ _ => cases hd
  | dcK p r l =>
    cases hd
    generalize hk : [(PyData.none, PyData.list ds)] = kk at l
    cases l with
    | nil => cases hk
    | cons a b =>
      injection hk with h1 h2
      injection h1 with h3 h4
      exact (kD_none h3.symm).elim
  | dcT p r l => cases hd
  | scr q l =>
    cases hd
    refine ⟨_, _, rfl, ?_, l⟩
    rcases q with ⟨_, o, e⟩ | q
    · exact .inl (.inr ⟨o, e⟩)
    · exact .inr q
theorem Dat.intOf {v : V} {i : Int} (h : Dat K H P v (.int i)) : v = .int i := by cases h; rfl
theorem Dat.blOf {v : V} {b : Bool} (h : Dat K H P v (.bool b)) : v = .bl b := by cases h; rfl
theorem Dat.strOf {v : V} {x : Str} (h : Dat K H P v (.str x)) : v = .str x := by cases h; rfl
theorem Dat.nonOf {v : V} (h : Dat K H P v .none) : v = .non := by cases h; rfl
end

/-- an object of one's own at a, its items protected -/
def OwA (K : PySem.W.Frag) (H : Hp) (P : Pr) (a : Addr) : D → Prop
  | .list ds => ∃ xs, H a = some (.lst xs) ∧ DatL K H P xs ds
  | .dict kvs => (∃ l : List (Key × V), H a = some (.dK l) ∧ DatK K H P l kvs) ∨ (∃ (l : List (List Key × V)) (kvs' : List (D × D)), kvs = (.none, .none) :: kvs' ∧ H a = some (.dT l) ∧ DatT K H P l kvs')
  | _ => False
section
variable {K : PySem.W.Frag} {H H' : Hp} {P P' : Pr}
theorem OwA.ex {a : Addr} {d : D} (h : OwA K H P a d) : ∃ o, H a = some o := by
  cases d with
  | list ds => obtain ⟨xs, e, _⟩ := h; exact ⟨_, e⟩
  | dict kvs =>
    rcases h with ⟨l, e, _⟩ | ⟨l, _, _, e, _⟩
    · exact ⟨_, e⟩
    · exact ⟨_, e⟩
  | none => exact h.elim
  | bool _ => exact h.elim
  | int _ => exact h.elim
  | str _ => exact h.elim
  | tuple _ => exact h.elim
theorem OwA.keep {a : Addr} {d : D} (h : OwA K H P a d) (k : Pk P H P' H') (e : ∀ o, H a = some o → H' a = some o) : OwA K H' P' a d := by
  cases d with
  | list ds => obtain ⟨xs, q, l⟩ := h; exact ⟨xs, e _ q, l.k k⟩
  | dict kvs =>
    rcases h with ⟨l, q, z⟩ | ⟨l, m, f, q, z⟩
    · exact .inl ⟨l, e _ q, z.k k⟩
    · exact .inr ⟨l, m, f, e _ q, z.k k⟩
  | none => exact h.elim
  | bool _ => exact h.elim
  | int _ => exact h.elim
  | str _ => exact h.elim
  | tuple _ => exact h.elim
end

/-! ### a talk: an instance with two data and three objects of its own -/
structure Tk where
  bk : D
  ck : D
  sts : List D
  hap : List D
  mom : List (D × D)
def Tk.D (t : Tk) : D := .tuple [t.bk, t.ck, .list t.sts, .list t.hap, .dict t.mom]
def Tk.fs (bv cv : V) (s h m : Addr) : List (Str × V) := [("book", bv), ("checks", cv), ("states", .ref s), ("happened", .ref h), ("moments", .ref m)]
structure TkO (K : PySem.W.Frag) (M : Pr) (H : Hp) (P : Pr) (a s h m : Addr) (t : Tk) : Prop where
  ob : ∃ dx bv cv, H a = some (.ins (He.ga K "Talk") dx (Tk.fs bv cv s h m)) ∧ Dat K H P bv t.bk ∧ Dat K H P cv t.ck
  na : ¬ M a
  ms : M s
  mh : M h
  mm : M m
  sh : s ≠ h
  sm : s ≠ m
  hm : h ≠ m
  os : OwA K H P s (.list t.sts)
  oh : OwA K H P h (.list t.hap)
  om : OwA K H P m (.dict t.mom)
def TkAt (K : PySem.W.Frag) (M : Pr) (H : Hp) (P : Pr) (a : Addr) (d : D) : Prop := ∃ s h m t, d = t.D ∧ TkO K M H P a s h m t
theorem TkO.keep {K : PySem.W.Frag} {H H' : Hp} {P P' M M' : Pr} {a s h m : Addr} {t : Tk} (w : TkO K M H P a s h m t) (k : Pk P H P' H') (e : ∀ b o, (b = a ∨ M b) → H b = some o → H' b = some o) (na : ¬ M' a) (mm : ∀ b, M b → M' b) : TkO K M' H' P' a s h m t := by
  obtain ⟨⟨dx, bv, cv, h1, h2, h3⟩, _, h5, h6, h7, h8, h9, h10, h11, h12, h13⟩ := w
  exact ⟨⟨dx, bv, cv, e _ _ (.inl rfl) h1, h2.k k, h3.k k⟩, na, mm _ h5, mm _ h6, mm _ h7, h8, h9, h10, h11.keep k fun o => e _ _ (.inr h5), h12.keep k fun o => e _ _ (.inr h6), h13.keep k fun o => e _ _ (.inr h7)⟩
theorem TkAt.keep {K : PySem.W.Frag} {H H' : Hp} {P P' M : Pr} {a : Addr} {d : D} (w : TkAt K M H P a d) (k : Pk P H P' H') (e : ∀ b o, (b = a ∨ M b) → H b = some o → H' b = some o) : TkAt K M H' P' a d := by
  obtain ⟨s, h, m, t, e1, w⟩ := w
  exact ⟨s, h, m, t, e1, w.keep k e w.na fun _ z => z⟩
theorem OwA.noIns {K : PySem.W.Frag} {H : Hp} {P : Pr} {a C dx : Addr} {fs : List (Str × V)} {d : D} (w : OwA K H P a d) (h : H a = some (.ins C dx fs)) : False := by
  cases d with
  | list ds =>
    obtain ⟨xs, q, l⟩ := w
    rw [h] at q; cases q
  | dict kvs =>
    rcases w with ⟨l, q, z⟩ | ⟨l, m, f, q, z⟩
    · rw [h] at q; cases q
    · rw [h] at q; cases q
  | none => exact w.elim
  | bool _ => exact w.elim
  | int _ => exact w.elim
  | str _ => exact w.elim
  | tuple _ => exact w.elim
theorem TkAt.notOw {K : PySem.W.Frag} {H : Hp} {P M : Pr} {a b : Addr} {d n : D} (w : TkAt K M H P a d) (o : OwA K H P b n) : a ≠ b := fun e => by
  subst e
  obtain ⟨s, h, m, t, _, w⟩ := w
  obtain ⟨dx, bv, cv, e, _⟩ := w.ob
  exact o.noIns e

/-! ### a frame's slots -/
inductive Sl where
  | un | sh (d : D) | ow (d : D) | io (d : D) | tk (d : D)
abbrev S := List Sl
/-- the entry: the heap then, what may be changed of it, what is protected of it; whether what may be changed is a talk -/
structure En where
  H0 : Hp
  M : Pr
  P0 : Pr
  tka : Option Addr
def SlOk (K : PySem.W.Frag) (E : En) (P : Pr) (H : Hp) (x : Option (Option V)) : Sl → Prop
  | .un => True
  | .sh d => ∃ v, x = some (some v) ∧ Dat K H P v d
  | .ow d => ∃ a, x = some (some (.ref a)) ∧ ¬ P a ∧ E.H0 a = none ∧ OwA K H P a d
  | .io d => ∃ a, x = some (some (.ref a)) ∧ ¬ P a ∧ (E.M a ∧ E.tka = none) ∧ OwA K H P a d
  | .tk d => ∃ a, E.tka = some a ∧ x = some (some (.ref a)) ∧ TkAt K E.M H P a d
def isOwn : Sl → Bool
  | .ow _ => true
  | .io _ => true
  | _ => false
def isTk : Sl → Bool
  | .tk _ => true
  | _ => false
/-- one talk alone -/
def Tk1 (s : S) : Prop := ∀ (i j : Nat) (d e : D), s[i]? = some (Sl.tk d) → s[j]? = some (Sl.tk e) → i = j
theorem Tk1.sub {s s' : S} (h : Tk1 s) (k : ∀ (i : Nat) (d : D), s'[i]? = some (Sl.tk d) → ∃ e, s[i]? = some (Sl.tk e)) : Tk1 s' := fun i j d e hi hj => by
  obtain ⟨_, p⟩ := k i d hi
  obtain ⟨_, q⟩ := k j e hj
  exact h i j _ _ p q
theorem Tk1.set {s : S} {i : Nat} {y : Sl} (h : Tk1 s) (n : isTk y = false) : Tk1 (s.set i y) := h.sub fun j d hj => by
  by_cases e : j = i
  · subst e
    by_cases hl : j < s.length
    · rw [List.getElem?_set_self hl] at hj
      cases hj
      cases n
    · rw [List.getElem?_eq_none (by simpa using hl)] at hj
      cases hj
  · rw [List.getElem?_set_ne (Ne.symm e)] at hj
    exact ⟨d, hj⟩
/-- slot i owns a -/
def Own (σ : L2.St) (s : S) (i : Nat) (a : Addr) : Prop := σ[i]? = some (some (.ref a)) ∧ ∃ x, s[i]? = some x ∧ isOwn x = true
def Owns (σ : L2.St) (s : S) (a : Addr) : Prop := ∃ i, Own σ s i a
structure Stt (K : PySem.W.Frag) (E : En) (P : Pr) (H : Hp) (σ : L2.St) (s : S) : Prop where
  len : σ.length = s.length
  sl : ∀ (i : Nat) (x : Sl), s[i]? = some x → SlOk K E P H σ[i]? x
  dj : ∀ (i j : Nat) (a : Addr), Own σ s i a → Own σ s j a → i = j
  pg : ∀ a, E.P0 a → P a
  pn : ∀ a, P a → E.P0 a ∨ E.H0 a = none
  pal : ∀ a, P a → ∃ o, H a = some o
  kp : ∀ a o, E.H0 a = some o → ¬ E.M a → H a = some o
  mx : ∀ a, E.M a → ∃ o, H a = some o
  mp : ∀ a, E.M a → ¬ P a
  m0 : ∀ a, E.M a → ∃ o, E.H0 a = some o
  tk : Tk1 s
section
variable {K : PySem.W.Frag} {E : En} {P P' P1 : Pr} {H H' H1 : Hp} {σ : L2.St} {s s' s1 : S}
theorem Stt.own_np (h : Stt K E P H σ s) {a : Addr} (o : Owns σ s a) : ¬ P a := by
  obtain ⟨i, e, x, hx, ho⟩ := o
  have q := h.sl i x hx
  cases x with
  | un => cases ho
  | sh _ => cases ho
  | ow d =>
    obtain ⟨b, e', np, _⟩ := q
    rw [e] at e'; cases e'; exact np
  | io d =>
    obtain ⟨b, e', np, _⟩ := q
    rw [e] at e'; cases e'; exact np
  | tk _ => cases ho
theorem Stt.own_ex (h : Stt K E P H σ s) {a : Addr} (o : Owns σ s a) : ∃ u, H a = some u := by
  obtain ⟨i, e, x, hx, ho⟩ := o
  have q := h.sl i x hx
  cases x with
  | un => cases ho
  | sh _ => cases ho
  | ow d =>
    obtain ⟨b, e', _, _, w⟩ := q
    rw [e] at e'; cases e'; exact w.ex
  | io d =>
    obtain ⟨b, e', _, _, w⟩ := q
    rw [e] at e'; cases e'; exact w.ex
  | tk _ => cases ho
/-- what an expression may do: from (s, P, H) to (s', P', H') -/
structure Gr (E : En) (σ : L2.St) (s s' : S) (P : Pr) (H : Hp) (P' : Pr) (H' : Hp) : Prop where
  le : ∀ a, P a → P' a
  kp : ∀ a o, H a = some o → ¬ Owns σ s a → ¬ E.M a → H' a = some o
  nw : ∀ a, P' a → P a ∨ H a = none ∨ Owns σ s a
  ow : ∀ a, Owns σ s' a → Owns σ s a
  ex : ∀ a, H' a = none → H a = none
theorem Gr.refl : Gr E σ s s P H P H := ⟨fun _ h => h, fun _ _ h _ _ => h, fun _ h => .inl h, fun _ h => h, fun _ h => h⟩
theorem Gr.trans (a : Gr E σ s s1 P H P1 H1) (b : Gr E σ s1 s' P1 H1 P' H') : Gr E σ s s' P H P' H' where
  le := fun x h => b.le x (a.le x h)
  kp := fun x o e n m => b.kp x o (a.kp x o e n m) (fun q => n (a.ow x q)) m
  nw := fun x h => by
    rcases b.nw x h with q | q | q
    · exact a.nw x q
    · exact .inr (.inl (a.ex x q))
    · exact .inr (.inr (a.ow x q))
  ow := fun x h => a.ow x (b.ow x h)
  ex := fun x h => a.ex x (b.ex x h)
theorem Gr.pk (g : Gr E σ s s' P H P' H') (h : Stt K E P H σ s) : Pk P H P' H' := ⟨g.le, fun a o p e => g.kp a o e (fun q => h.own_np q p) fun m => h.mp a m p⟩
/-- a fresh object laid, protected -/
theorem Stt.lay (h : Stt K E P H σ s) {p : Addr} {o : HO} (hp : H p = none) :
    Stt K E (fun a => P a ∨ a = p) (upd H p o) σ s ∧ Gr E σ s s P H (fun a => P a ∨ a = p) (upd H p o) := by
  have hk : ∀ a u, H a = some u → (upd H p o) a = some u := fun a u e => by rw [upd_ne (ne_of_none e hp)]; exact e
  have no : ∀ a, Owns σ s a → a ≠ p := fun a q z => by
    subst z
    obtain ⟨u, e⟩ := h.own_ex q
    rw [hp] at e; cases e
  have pk : Pk P H (fun a => P a ∨ a = p) (upd H p o) := ⟨fun a q => .inl q, fun a u _ e => hk a u e⟩
  have h0 : E.H0 p = none := by
    cases e : E.H0 p with
    | none => rfl
    | some u =>
      by_cases m : E.M p
      · obtain ⟨z, q⟩ := h.mx p m
        rw [hp] at q; cases q
      · rw [h.kp p u e m] at hp; cases hp
  have mp : ∀ a, E.M a → ¬ (P a ∨ a = p) := fun a m z => by
    rcases z with z | z
    · exact h.mp a m z
    · subst z
      obtain ⟨u, e⟩ := h.mx a m
      rw [hp] at e; cases e
  refine ⟨⟨h.len, fun i x hx => ?_, h.dj, fun a q => .inl (h.pg a q), fun a q => ?_, fun a q => ?_, fun a u e m => hk a u (h.kp a u e m), fun a m => let ⟨u, e⟩ := h.mx a m; ⟨u, hk a u e⟩, mp, h.m0, h.tk⟩, ⟨fun a q => .inl q, fun a u e _ _ => hk a u e, fun a q => ?_, fun _ q => q, fun a q => ?_⟩⟩
  · have q := h.sl i x hx
    cases x with
    | un => trivial
    | sh d => obtain ⟨v, e, z⟩ := q; exact ⟨v, e, z.k pk⟩
    | ow d =>
      obtain ⟨a, e, np, e0, w⟩ := q
      refine ⟨a, e, fun z => ?_, e0, w.keep pk fun u e => hk a u e⟩
      rcases z with z | z
      · exact np z
      · exact no a ⟨i, e, _, hx, rfl⟩ z
    | io d =>
      obtain ⟨a, e, np, e0, w⟩ := q
      refine ⟨a, e, fun z => ?_, e0, w.keep pk fun u e => hk a u e⟩
      rcases z with z | z
      · exact np z
      · exact no a ⟨i, e, _, hx, rfl⟩ z
    | tk d =>
      obtain ⟨a, m, e, w⟩ := q
      exact ⟨a, m, e, w.keep pk fun b u _ e => hk b u e⟩
  · rcases q with q | q
    · exact h.pn a q
    · subst q
      exact .inr h0
  · rcases q with q | q
    · obtain ⟨u, e⟩ := h.pal a q; exact ⟨u, hk a u e⟩
    · subst q; exact ⟨o, upd_same⟩
  · rcases q with q | q
    · exact .inl q
    · subst q; exact .inr (.inl hp)
  · by_cases z : a = p
    · subst z; exact hp
    · rw [upd_ne z] at q; exact q
/-- what is not there now was not there at the entry -/
theorem Stt.h0 (h : Stt K E P H σ s) {a : Addr} (hp : H a = none) : E.H0 a = none := by
  cases e : E.H0 a with
  | none => rfl
  | some u =>
    by_cases m : E.M a
    · obtain ⟨z, q⟩ := h.mx a m
      rw [hp] at q; cases q
    · rw [h.kp a u e m] at hp; cases hp
theorem Stt.noOwn (h : Stt K E P H σ s) {a : Addr} (hp : H a = none) : ¬ Owns σ s a := fun o => by
  obtain ⟨u, e⟩ := h.own_ex o
  rw [hp] at e; cases e
theorem Stt.noM (h : Stt K E P H σ s) {a : Addr} (hp : H a = none) : ¬ E.M a := fun m => by
  obtain ⟨u, e⟩ := h.mx a m
  rw [hp] at e; cases e
theorem Stt.noP (h : Stt K E P H σ s) {a : Addr} (hp : H a = none) : ¬ P a := fun o => by
  obtain ⟨u, e⟩ := h.pal a o
  rw [hp] at e; cases e
/-- a fresh object laid, not protected -/
theorem Stt.layO (h : Stt K E P H σ s) {p : Addr} {o : HO} (hp : H p = none) : Stt K E P (upd H p o) σ s ∧ Gr E σ s s P H P (upd H p o) := by
  have hk : ∀ a u, H a = some u → (upd H p o) a = some u := fun a u e => by rw [upd_ne (ne_of_none e hp)]; exact e
  have pk : Pk P H P (upd H p o) := ⟨fun a q => q, fun a u _ e => hk a u e⟩
  refine ⟨⟨h.len, fun i x hx => ?_, h.dj, h.pg, h.pn, fun a q => let ⟨u, e⟩ := h.pal a q; ⟨u, hk a u e⟩, fun a u e m => hk a u (h.kp a u e m), fun a m => let ⟨u, e⟩ := h.mx a m; ⟨u, hk a u e⟩, h.mp, h.m0, h.tk⟩,
    ⟨fun a q => q, fun a u e _ _ => hk a u e, fun a q => .inl q, fun _ q => q, fun a q => ?_⟩⟩
  · have q := h.sl i x hx
    cases x with
    | un => trivial
    | sh d => obtain ⟨v, e, z⟩ := q; exact ⟨v, e, z.k pk⟩
    | ow d => obtain ⟨a, e, np, e0, w⟩ := q; exact ⟨a, e, np, e0, w.keep pk fun u e => hk a u e⟩
    | io d => obtain ⟨a, e, np, e0, w⟩ := q; exact ⟨a, e, np, e0, w.keep pk fun u e => hk a u e⟩
    | tk d => obtain ⟨a, m, e, w⟩ := q; exact ⟨a, m, e, w.keep pk fun b u _ e => hk b u e⟩
  · by_cases z : a = p
    · subst z; exact hp
    · rw [upd_ne z] at q; exact q
/-- an object of no slot, protected from here on -/
theorem Stt.prot (h : Stt K E P H σ s) {a : Addr} (e0 : E.H0 a = none) (no : ¬ Owns σ s a) (hx : ∃ o, H a = some o) : Stt K E (fun b => P b ∨ b = a) H σ s := by
  have pk : Pk P H (fun b => P b ∨ b = a) H := ⟨fun a q => .inl q, fun a u _ e => e⟩
  have mp : ∀ b, E.M b → ¬ (P b ∨ b = a) := fun b m z => by
    rcases z with z | z
    · exact h.mp b m z
    · subst z
      obtain ⟨u, e⟩ := h.m0 b m
      rw [e0] at e; cases e
  refine ⟨h.len, fun i x hi => ?_, h.dj, fun a q => .inl (h.pg a q), fun b q => ?_, fun b q => ?_, h.kp, h.mx, mp, h.m0, h.tk⟩
  · have q := h.sl i x hi
    cases x with
    | un => trivial
    | sh d => obtain ⟨v, e, z⟩ := q; exact ⟨v, e, z.k pk⟩
    | ow d =>
      obtain ⟨b, e, np, e0, w⟩ := q
      refine ⟨b, e, fun z => ?_, e0, w.keep pk fun u e => e⟩
      rcases z with z | z
      · exact np z
      · subst z; exact no ⟨i, e, _, hi, rfl⟩
    | io d =>
      obtain ⟨b, e, np, e0, w⟩ := q
      refine ⟨b, e, fun z => ?_, e0, w.keep pk fun u e => e⟩
      rcases z with z | z
      · exact np z
      · subst z; exact no ⟨i, e, _, hi, rfl⟩
    | tk d =>
      obtain ⟨b, m, e, w⟩ := q
      exact ⟨b, m, e, w.keep pk fun _ u _ e => e⟩
  · rcases q with q | q
    · exact h.pn b q
    · subst q; exact .inr e0
  · rcases q with q | q
    · exact h.pal b q
    · subst q; exact hx
end
end Od

namespace Od
open PySem PySem.Spec PyProof.Rows L2

/-! ### what code does to the slots' data -/
inductive Rs (α : Type) where
  | ok (a : α) (s : S) | ex (c : Str)
abbrev De (α : Type) := S → Option (Rs α)
def bnd {α β : Type} (f : De α) (g : α → De β) : De β := fun s =>
  match f s with
  | none => none
  | some (.ok a s1) => g a s1
  | some (.ex c) => some (.ex c)
def rtn {α : Type} (a : α) : De α := fun s => some (.ok a s)
def lft {α : Type} (o : Option α) : De α := fun s =>
  match o with
  | none => none
  | some a => some (.ok a s)

/-- where a def's body stands -/
structure Gam where
  P : Program
  w : World
  K : PySem.W.Frag
  mg : Str → Option Value
  base : Heap
  N : List Str
  sc : Scope
  k : Nat
  E : XK
  own : Bool
  fn : Str → Bool
structure Cls (G : Gam) (X : Cx) : Prop where
  prog : X.prog = G.P
  w : X.w = G.w
  K : X.K = G.K
  mg : X.mg = G.mg
  base : X.base = G.base
  N : X.N = G.N
  nd : X.N.Nodup
  sc : X.env.scope = G.sc
  calm : X.calm = true
  rm : Room G.k X.A
  gd : X.A.guards = some []
  pass : Passes (L2.CX X.prog X.w) X G.E
  po : PassesOwn (model X.prog X.w) X.A X.env X.xe
  tk : L2.Takes X (fun c d _ H => G.E c d H)
  fn : ∀ x, G.fn x = true → X.fn x = true
theorem Cls.kf {G : Gam} {X : Cx} (h : Cls G X) : X.env.scope.kind = G.sc.kind := by rw [h.sc]

/-- what is wanted behind the code's end r -/
def Po {α : Type} (G : Gam) (E : En) (P : Pr) (H : Hp) (σ : L2.St) (s : S) (r : Option (Rs α)) (R : α → S → Pr → Hp → Prop) : Prop :=
  match r with
  | none => False
  | some (.ok a s') => ∀ P' H', Stt G.K E P' H' σ s' → Gr E σ s s' P H P' H' → R a s' P' H'
  | some (.ex c) => ∀ H', (∀ a o, E.H0 a = some o → ¬ E.M a → H' a = some o) → ∃ C, G.mg c = some (.ref C) ∧ G.E (.ref C) none H'
section
variable {α β : Type} {G : Gam} {E : En} {P : Pr} {H : Hp} {σ : L2.St} {s : S}
theorem po_step {f : De α} {g : α → De β} {R : β → S → Pr → Hp → Prop} {R1 : α → S → Pr → Hp → Prop} (h : Po G E P H σ s (bnd f g s) R)
    (k : ∀ a s1 P1 H1, f s = some (.ok a s1) → Stt G.K E P1 H1 σ s1 → Gr E σ s s1 P H P1 H1 → Po G E P1 H1 σ s1 (g a s1) R → R1 a s1 P1 H1) : Po G E P H σ s (f s) R1 := by
  unfold bnd at h
  cases e : f s with
  | none => rw [e] at h; exact h
  | some r =>
    rw [e] at h
    cases r with
    | ex c => exact h
    | ok a s1 =>
      intro P1 H1 st gr
      refine k a s1 P1 H1 e st gr ?_
      have h : Po G E P H σ s (g a s1) R := h
      show Po G E P1 H1 σ s1 (g a s1) R
      cases e2 : g a s1 with
      | none => rw [e2] at h; exact h
      | some r2 =>
        rw [e2] at h
        cases r2 with
        | ex c => exact h
        | ok b s2 => exact fun P2 H2 st2 gr2 => h P2 H2 st2 (gr.trans gr2)
theorem po_mono {r : Option (Rs α)} {R R1 : α → S → Pr → Hp → Prop} (h : Po G E P H σ s r R) (k : ∀ a s1 P1 H1, Stt G.K E P1 H1 σ s1 → Gr E σ s s1 P H P1 H1 → R a s1 P1 H1 → R1 a s1 P1 H1) : Po G E P H σ s r R1 := by
  cases r with
  | none => exact h
  | some r =>
    cases r with
    | ex c => exact h
    | ok a s1 => exact fun P1 H1 st gr => k a s1 P1 H1 st gr (h P1 H1 st gr)
theorem po_rtn {a : α} {R : α → S → Pr → Hp → Prop} (h : Po G E P H σ s (rtn a s) R) (st : Stt G.K E P H σ s) : R a s P H := h P H st Gr.refl
theorem po_lft {o : Option α} {R : α → S → Pr → Hp → Prop} (h : Po G E P H σ s (lft o s) R) : ∃ a, o = some a ∧ ∀ P' H', Stt G.K E P' H' σ s → Gr E σ s s P H P' H' → R a s P' H' := by
  cases o with
  | none => exact h.elim
  | some a => exact ⟨a, rfl, h⟩
end

/-! ### judgements -/
def RD (G : Gam) (Q : VK) : D → S → Pr → Hp → Prop := fun d _ P' H' => ∀ v, Dat G.K H' P' v d → Q v H'
def RO (G : Gam) (H : Hp) (Q : VK) : D → S → Pr → Hp → Prop := fun d s' P' H' => ∀ a, H a = none → ¬ P' a → OwA G.K H' P' a d → Q (.ref a) H'
def TEok (G : Gam) (te : TE) (f : De D) : Prop := ∀ E P H σ s Q, Stt G.K E P H σ s → Po G E P H σ s (f s) (RD G Q) → te σ H Q
def TOok (G : Gam) (te : TE) (f : De D) : Prop := ∀ E P H σ s Q, Stt G.K E P H σ s → Po G E P H σ s (f s) (RO G H Q) → te σ H Q
def TTok (G : Gam) (te : TT) (f : De Bool) : Prop := ∀ E P H σ s Q, Stt G.K E P H σ s → Po G E P H σ s (f s) (fun b _ _ H' => Q b H') → te σ H Q
def TAok (G : Gam) (te : TA) (f : De (List D)) : Prop := ∀ E P H σ s Q, Stt G.K E P H σ s → Po G E P H σ s (f s) (fun ds _ P' H' => ∀ vs, DatL G.K H' P' vs ds → Q vs H') → te σ H Q
/-- e is worth what f says, as data that stays | as a new object of one's own -/
def SE (G : Gam) (e : Expr) (f : De D) : Prop := ∃ te, (∀ X, Cls G X → PE X e te) ∧ TEok G te f
def SO (G : Gam) (e : Expr) (f : De D) : Prop := ∃ te, (∀ X, Cls G X → PE X e te) ∧ TOok G te f
def ST (G : Gam) (e : Expr) (f : De Bool) : Prop := ∃ te, (∀ X, Cls G X → PT X e te) ∧ TTok G te f
def SW (G : Gam) (e : Expr) (f : De Bool) : Prop := ∃ te, (∀ X, Cls G X → PW X e te) ∧ TTok G te f
def SA (G : Gam) (es : List Expr) (f : De (List D)) : Prop := ∃ te, (∀ X, Cls G X → PA X es te) ∧ TAok G te f

section
variable {G : Gam} {a b c e : Expr} {es : List Expr} {fa fb fc : De D} {fs : De (List D)} {pos : Pos}

/-! ### names, constants -/
def dVar (i : Nat) : De D := fun s =>
  match s[i]? with
  | some (.sh d) => some (.ok d s)
  | _ => none
theorem e_var (i : Nat) {x : Str} (hN : G.N[i]? = some x := by rfl) (hv : Vis G.sc x := by first | exact Or.inl rfl | exact Or.inr (Or.inl rfl) | exact Or.inr (Or.inr rfl))
    (hd : (x == ("__debug__" : Str)) = false := by decide) (hcd : (x == ("__classdict__" : Str)) = false := by decide) : SE G (.Name x pos) (dVar i) := by
  refine ⟨_, fun X h => pe_var (i := i) (by rw [h.N]; exact hN) (by rw [h.sc]; exact hv) hd hcd, fun E P H σ s Q st h => ?_⟩
  unfold dVar at h
  cases hx : s[i]? with
  | none => rw [hx] at h; exact h.elim
  | some x =>
    rw [hx] at h
    cases x with
    | un => exact h.elim
    | ow _ => exact h.elim
    | io _ => exact h.elim
    | tk _ => exact h.elim
    | sh d =>
      obtain ⟨v, ev, dv⟩ := st.sl i _ hx
      exact ⟨v, ev, h P H st Gr.refl v dv⟩
def dC (d : D) : De D := rtn d
theorem e_int {i j} : SE G (.Constant (.int i) j pos) (dC (.int i)) := ⟨_, fun X h => pe_int, fun E P H σ s Q st h => po_rtn h st _ (.int i)⟩
theorem e_bl {i j} : SE G (.Constant (.bool i) j pos) (dC (.bool i)) := ⟨_, fun X h => pe_bl, fun E P H σ s Q st h => po_rtn h st _ (.bl i)⟩
theorem e_str {i j} : SE G (.Constant (.str i) j pos) (dC (.str i)) := ⟨_, fun X h => pe_str, fun E P H σ s Q st h => po_rtn h st _ (.str i)⟩
theorem e_non {j} : SE G (.Constant .none j pos) (dC .none) := ⟨_, fun X h => pe_non, fun E P H σ s Q st h => po_rtn h st _ .non⟩

/-! ### what may be looked at: data that stay, or an object of one's own -/
def Vw (K : PySem.W.Frag) (H : Hp) (P : Pr) (v : V) (d : D) : Prop := Dat K H P v d ∨ ∃ a, v = .ref a ∧ OwA K H P a d
/-- an operand: what its evaluation does, and what it is worth later -/
structure Opd where
  f : De D
  rd : D → S → Option D
/-- an expression's value; a name's, looked at late -/
def opE (f : De D) : Opd := ⟨f, fun d _ => some d⟩
def rdS (i : Nat) (s : S) : Option D :=
  match s[i]? with
  | some (.sh d) => some d
  | some (.ow d) => some d
  | some (.io d) => some d
  | _ => none
def opB (i : Nat) : Opd := ⟨fun s => match rdS i s with | some _ => some (.ok .none s) | none => none, fun _ s => rdS i s⟩
theorem Stt.rd {K : PySem.W.Frag} {E : En} {P : Pr} {H : Hp} {σ : L2.St} {s : S} (st : Stt K E P H σ s) {i : Nat} {d : D} (e : rdS i s = some d) : ∃ v, σ[i]? = some (some v) ∧ Vw K H P v d := by
  unfold rdS at e
  cases hx : s[i]? with
  | none => rw [hx] at e; cases e
  | some x =>
    rw [hx] at e
    have q := st.sl i x hx
    cases x with
    | un => cases e
    | sh d' => cases e; obtain ⟨v, h1, h2⟩ := q; exact ⟨v, h1, .inl h2⟩
    | ow d' => cases e; obtain ⟨a, h1, _, _, h2⟩ := q; exact ⟨_, h1, .inr ⟨a, rfl, h2⟩⟩
    | io d' => cases e; obtain ⟨a, h1, _, _, h2⟩ := q; exact ⟨_, h1, .inr ⟨a, rfl, h2⟩⟩
    | tk _ => cases e
def TVok (G : Gam) (te : TE) (o : Opd) : Prop := ∀ E P H σ s Q, Stt G.K E P H σ s → Po G E P H σ s (o.f s) (fun a s1 P1 H1 => ∀ v,
  (∀ s' P' H', Stt G.K E P' H' σ s' → Gr E σ s1 s' P1 H1 P' H' → ∀ d, o.rd a s' = some d → Vw G.K H' P' v d) → Q v H1) → te σ H Q
def SV (G : Gam) (e : Expr) (o : Opd) : Prop := ∃ te, (∀ X, Cls G X → PE X e te) ∧ TVok G te o
theorem v_e : SE G e fa → SV G e (opE fa) := by
  rintro ⟨te, pe, h⟩
  refine ⟨te, pe, fun E P H σ s Q st hp => h E P H σ s Q st (po_mono hp fun d s1 P1 H1 st1 gr1 k v dv => k v fun s' P' H' st' gr' d' e => ?_)⟩
  cases e
  exact .inl (dv.k (gr'.pk st1))
theorem v_o : SO G e fa → SV G e (opE fa) := by
  rintro ⟨te, pe, h⟩
  refine ⟨te, pe, fun E P H σ s Q st hp => h E P H σ s Q st (po_mono hp fun d s1 P1 H1 st1 gr1 k a hn np w => k (.ref a) fun s' P' H' st' gr' d' e => ?_)⟩
  cases e
  exact .inr ⟨a, rfl, w.keep (gr'.pk st1) fun o q => gr'.kp a o q (fun z => st.noOwn hn (gr1.ow a z)) (st.noM hn)⟩
/-- a new object that nobody changes any more -/
def isL : D → Bool
  | .list _ => true
  | _ => false
def dSh (f : De D) : De D := bnd f fun d s => match d with
  | .list _ => some (.ok d s)
  | .dict _ => some (.ok d s)
  | _ => none
theorem te_sh {te : TE} (h : TOok G te fa) : TEok G te (dSh fa) := by
  refine fun E P H σ s Q st hp => h E P H σ s Q st ?_
  unfold dSh bnd at hp
  cases e : fa s with
  | none => rw [e] at hp; exact hp
  | some r =>
    rw [e] at hp
    cases r with
    | ex c => exact hp
    | ok d s1 =>
      cases d <;> first | exact hp.elim | skip
      all_goals intro P1 H1 st1 gr1 a hn np w
      all_goals have no : ¬ Owns σ s1 a := fun z => st.noOwn hn (gr1.ow a z)
      all_goals refine hp (fun b => P1 b ∨ b = a) H1 (st1.prot (st.h0 hn) no w.ex) ⟨fun b q => .inl (gr1.le b q), gr1.kp, fun b q => ?_, gr1.ow, gr1.ex⟩ (.ref a) ?_
      · rcases q with q | q
        · exact gr1.nw b q
        · subst q; exact .inr (.inl hn)
      · obtain ⟨xs, h1, h2⟩ := w
        exact .lst (.inr rfl) h1 (h2.k ⟨fun _ q => .inl q, fun _ _ _ q => q⟩)
      · rcases q with q | q
        · exact gr1.nw b q
        · subst q; exact .inr (.inl hn)
      · rcases w with ⟨l, h1, h2⟩ | ⟨l, m, rfl, h1, h2⟩
        · exact .dcK (.inr rfl) h1 (h2.k ⟨fun _ q => .inl q, fun _ _ _ q => q⟩)
        · exact .dcT (.inr rfl) h1 (h2.k ⟨fun _ q => .inl q, fun _ _ _ q => q⟩)
theorem e_o : SO G e fa → SE G e (dSh fa) := by
  rintro ⟨te, pe, h⟩
  exact ⟨te, pe, te_sh h⟩
theorem v_n (i : Nat) {x : Str} (hN : G.N[i]? = some x := by rfl) (hv : Vis G.sc x := by first | exact Or.inl rfl | exact Or.inr (Or.inl rfl) | exact Or.inr (Or.inr rfl))
    (hd : (x == ("__debug__" : Str)) = false := by decide) (hcd : (x == ("__classdict__" : Str)) = false := by decide) : SV G (.Name x pos) (opB i) := by
  refine ⟨_, fun X h => pe_var (i := i) (by rw [h.N]; exact hN) (by rw [h.sc]; exact hv) hd hcd, fun E P H σ s Q st h => ?_⟩
  unfold opB at h
  dsimp only at h
  cases e : rdS i s with
  | none => rw [e] at h; exact h.elim
  | some d =>
    rw [e] at h
    obtain ⟨v, ev, _⟩ := st.rd e
    refine ⟨v, ev, h P H st Gr.refl v fun s' P' H' st' gr' d' e' => ?_⟩
    obtain ⟨w, ew, vw⟩ := st'.rd e'
    rw [ev] at ew; cases ew
    exact vw

/-! ### two-place operations by values -/
/-- the operation r on values does what op says of data -/
def R2ok (G : Gam) (r : R2) (op : D → D → Option D) : Prop := ∀ E P H σ s x y dx dy d Q, Stt G.K E P H σ s → Vw G.K H P x dx → Vw G.K H P y dy → op dx dy = some d →
  (∀ v P' H', Stt G.K E P' H' σ s → Gr E σ s s P H P' H' → Dat G.K H' P' v d → Q v H') → r x y H Q
/-- .. makes a new object -/
def R2own (G : Gam) (r : R2) (op : D → D → Option D) : Prop := ∀ E P H σ s x y dx dy d Q, Stt G.K E P H σ s → Vw G.K H P x dx → Vw G.K H P y dy → op dx dy = some d →
  (∀ a P' H', Stt G.K E P' H' σ s → Gr E σ s s P H P' H' → H a = none → ¬ P' a → OwA G.K H' P' a d → Q (.ref a) H') → r x y H Q
def d2 (a b : Opd) (op : D → D → Option D) : De D := bnd a.f fun x => bnd b.f fun y => fun s => lft ((a.rd x s).bind fun dx => (b.rd y s).bind fun dy => op dx dy) s
variable {oa ob oc : Opd}
theorem po_2 {ta tb : TE} {r : R2} {op : D → D → Option D} {E : En} {P : Pr} {H : Hp} {σ : L2.St} {s : S} {Q : VK} {R : D → S → Pr → Hp → Prop} (ha : TVok G ta oa) (hb : TVok G tb ob) (st : Stt G.K E P H σ s) (h : Po G E P H σ s (d2 oa ob op s) R)
    (k : ∀ s2 P2 H2 x y dx dy d, Stt G.K E P2 H2 σ s2 → Gr E σ s s2 P H P2 H2 → Vw G.K H2 P2 x dx → Vw G.K H2 P2 y dy → op dx dy = some d → (∀ P' H', Stt G.K E P' H' σ s2 → Gr E σ s2 s2 P2 H2 P' H' → R d s2 P' H') → r x y H2 Q) : tOp r ta tb σ H Q := by
  refine ha E P H σ s _ st (po_step h fun x s1 P1 H1 _ st1 gr1 h1 vx hx => ?_)
  refine hb E P1 H1 σ s1 _ st1 (po_step h1 fun y s2 P2 H2 _ st2 gr2 h2 vy hy => ?_)
  obtain ⟨d, ed, h2⟩ := po_lft h2
  obtain ⟨dx, ex, ed⟩ := Option.bind_eq_some_iff.mp ed
  obtain ⟨dy, ey, ed⟩ := Option.bind_eq_some_iff.mp ed
  exact k s2 P2 H2 vx vy dx dy d st2 (gr1.trans gr2) (hx s2 P2 H2 st2 gr2 dx ex) (hy s2 P2 H2 st2 Gr.refl dy ey) ed h2
theorem te_2 {ta tb : TE} {r : R2} {op : D → D → Option D} (ha : TVok G ta oa) (hb : TVok G tb ob) (hr : R2ok G r op) : TEok G (tOp r ta tb) (d2 oa ob op) :=
  fun E P H σ s Q st h => po_2 ha hb st h fun s2 P2 H2 x y dx dy d st2 gr2 hx hy ed k => hr E P2 H2 σ s2 x y dx dy d Q st2 hx hy ed fun v P' H' st' gr' dv => k P' H' st' gr' v dv
theorem to_2 {ta tb : TE} {r : R2} {op : D → D → Option D} (ha : TVok G ta oa) (hb : TVok G tb ob) (hr : R2own G r op) : TOok G (tOp r ta tb) (d2 oa ob op) :=
  fun E P H σ s Q st h => po_2 ha hb st h fun s2 P2 H2 x y dx dy d st2 gr2 hx hy ed k => hr E P2 H2 σ s2 x y dx dy d Q st2 hx hy ed fun a P' H' st' gr' n1 n2 dv => k P' H' st' gr' a (gr2.ex a n1) n2 dv
structure Op2 (G : Gam) (f : Value → Value → Sem Value) (o : D → D → Option D) : Prop where
  ex : ∃ r, (∀ X, Cls G X → OpR X f r) ∧ R2ok G r o
structure Op2o (G : Gam) (f : Value → Value → Sem Value) (o : D → D → Option D) : Prop where
  ex : ∃ r, (∀ X, Cls G X → OpR X f r) ∧ R2own G r o
theorem e_bin {op : Operator} {o : D → D → Option D} (ho : Op2 G (binaryOp op) o) : SV G a oa → SV G b ob → SE G (.BinOp a op b pos) (d2 oa ob o) := by
  rintro ⟨ta, pa, ha⟩ ⟨tb, pb, hb⟩
  obtain ⟨r, h1, h2⟩ := ho.ex
  exact ⟨_, fun X h => pe_op (h1 X h) (pa X h) (pb X h), te_2 ha hb h2⟩
theorem o_bin {op : Operator} {o : D → D → Option D} (ho : Op2o G (binaryOp op) o) : SV G a oa → SV G b ob → SO G (.BinOp a op b pos) (d2 oa ob o) := by
  rintro ⟨ta, pa, ha⟩ ⟨tb, pb, hb⟩
  obtain ⟨r, h1, h2⟩ := ho.ex
  exact ⟨_, fun X h => pe_op (h1 X h) (pa X h) (pb X h), to_2 ha hb h2⟩
theorem e_cmp {op : CmpOp} {o : D → D → Option D} (ho : Op2 G (compareOp op) o) (hh1 : SV G a oa) (hh2 : SV G b ob) (hm : behindInMarks op b = false := by first | exact nobehind _ (by decide) (by decide) | rfl) :
    SE G (.Compare a [op] [b] pos) (d2 oa ob o) := by
  revert hh1 hh2
 
  rintro ⟨ta, pa, ha⟩ ⟨tb, pb, hb⟩
  obtain ⟨r, h1, h2⟩ := ho.ex
  exact ⟨_, fun X h => pe_cmpR (h1 X h) (pa X h) (pb X h) hm, te_2 ha hb h2⟩
/-- a < b < c -/
def dChain (a b c : Opd) (op op' : D → D → Option D) : De D := bnd a.f fun x => bnd b.f fun y => fun s =>
  match (a.rd x s).bind fun dx => (b.rd y s).bind fun dy => op dx dy with
  | some (.bool true) => (bnd c.f fun z => fun s => lft ((b.rd y s).bind fun dy => (c.rd z s).bind fun dz => op' dy dz) s) s
  | some (.bool false) => some (.ok (.bool false) s)
  | _ => none
/-- either of two operations -/
theorem Op2.or {f : Value → Value → Sem Value} {o o' : D → D → Option D} (h : Op2 G f o) (h' : Op2 G f o') : Op2 G f (fun x y => (o x y).or (o' x y)) := by
  obtain ⟨r, h1, h2⟩ := h.ex
  obtain ⟨r', h1', h2'⟩ := h'.ex
  refine ⟨_, fun X c => (h1 X c).or (h1' X c), fun E P H σ s x y dx dy d Q st hx hy e k => ?_⟩
  cases z : o dx dy with
  | some d' =>
    dsimp only at e
    rw [z] at e
    cases e
    exact .inl (h2 E P H σ s x y dx dy _ Q st hx hy z k)
  | none =>
    dsimp only at e
    rw [z] at e
    exact .inr (h2' E P H σ s x y dx dy _ Q st hx hy e k)
/-- ints -/
theorem Vw.intOf {K : PySem.W.Frag} {H : Hp} {P : Pr} {v : V} {i : Int} (h : Vw K H P v (.int i)) : v = .int i := by
  rcases h with h | ⟨_, _, h⟩
  · exact h.intOf
  · exact h.elim
theorem Vw.blOf {K : PySem.W.Frag} {H : Hp} {P : Pr} {v : V} {i : Bool} (h : Vw K H P v (.bool i)) : v = .bl i := by
  rcases h with h | ⟨_, _, h⟩
  · exact h.blOf
  · exact h.elim
theorem Vw.strOf {K : PySem.W.Frag} {H : Hp} {P : Pr} {v : V} {i : Str} (h : Vw K H P v (.str i)) : v = .str i := by
  rcases h with h | ⟨_, _, h⟩
  · exact h.strOf
  · exact h.elim
theorem Vw.nonOf {K : PySem.W.Frag} {H : Hp} {P : Pr} {v : V} (h : Vw K H P v .none) : v = .non := by
  rcases h with h | ⟨_, _, h⟩
  · exact h.nonOf
  · exact h.elim
theorem Vw.lstOf {K : PySem.W.Frag} {H : Hp} {P : Pr} {v : V} {ds : List D} (h : Vw K H P v (.list ds)) : ∃ a xs, v = .ref a ∧ H a = some (.lst xs) ∧ DatL K H P xs ds := by
  rcases h with h | ⟨a, e, xs, h1, h2⟩
  · obtain ⟨a, xs, e, _, h1, h2⟩ := h.lstOf
    exact ⟨a, xs, e, h1, h2⟩
  · exact ⟨a, xs, e, h1, h2⟩
theorem Vw.tupOf {K : PySem.W.Frag} {H : Hp} {P : Pr} {v : V} {ds : List D} (h : Vw K H P v (.tuple ds)) : ∃ a xs, v = .ref a ∧ P a ∧ H a = some (.tup xs) ∧ DatL K H P xs ds := by
  rcases h with h | ⟨_, _, h⟩
  · exact h.tupOf
  · exact h.elim
theorem Vw.dat {K : PySem.W.Frag} {H : Hp} {P : Pr} {v : V} {d : D} (h : Vw K H P v d) (n : ∀ ds, d ≠ .list ds) (m : ∀ ds, d ≠ .dict ds) : Dat K H P v d := by
  rcases h with h | ⟨_, _, h⟩
  · exact h
  · cases d with
    | list ds => exact (n ds rfl).elim
    | dict ds => exact (m ds rfl).elim
    | none => exact h.elim
    | bool _ => exact h.elim
    | int _ => exact h.elim
    | str _ => exact h.elim
    | tuple _ => exact h.elim
/-- data of the layer's own relation -/
theorem Vw.dp {K : PySem.W.Frag} {H : Hp} {P : Pr} {v : V} {d : D} (n : noDic d = true) (h : Vw K H P v d) : Dp K H v d := by
  rcases h with h | ⟨a, e, h⟩
  · exact h.dp _ _ n
  · cases d with
    | list ds =>
      obtain ⟨xs, h1, h2⟩ := h
      subst e
      unfold noDic at n
      exact .lst (.inl (.inl h1)) (DatL.dp ds _ n h2)
    | dict ds => unfold noDic at n; cases n
    | none => exact h.elim
    | bool _ => exact h.elim
    | int _ => exact h.elim
    | str _ => exact h.elim
    | tuple _ => exact h.elim
def oI (g : Int → Int → D) : D → D → Option D
  | .int i, .int j => some (g i j)
  | _, _ => none
theorem oI_some {g : Int → Int → D} {x y d : D} (e : oI g x y = some d) : ∃ i j, x = .int i ∧ y = .int j ∧ d = g i j := by
  cases x <;> first | (cases e; done) | skip
  cases y <;> first | (cases e; done) | skip
  cases e
  exact ⟨_, _, rfl, rfl, rfl⟩
theorem r2_I {g : Int → Int → V} {g' : Int → Int → D} (hg : ∀ (K : PySem.W.Frag) H P i j, Dat K H P (g i j) (g' i j)) : R2ok G (rI0 g) (oI g') := by
  intro E P H σ s x y dx dy d Q st hx hy e h
  obtain ⟨i, j, rfl, rfl, rfl⟩ := oI_some e
  exact ⟨i, j, hx.intOf, hy.intOf, h _ P H st Gr.refl (hg _ _ _ _ _)⟩
theorem o_add : Op2 G (binaryOp .Add) (oI fun i j => .int (i + j)) := ⟨_, fun _ _ => op_add, r2_I fun _ _ _ _ _ => .int _⟩
theorem o_sub : Op2 G (binaryOp .Sub) (oI fun i j => .int (i - j)) := ⟨_, fun _ _ => op_sub, r2_I fun _ _ _ _ _ => .int _⟩
theorem o_lt : Op2 G (compareOp .Lt) (oI fun i j => .bool (decide (i < j))) := ⟨_, fun _ _ => op_lt, r2_I fun _ _ _ _ _ => .bl _⟩
theorem o_le : Op2 G (compareOp .LtE) (oI fun i j => .bool (decide (i ≤ j))) := ⟨_, fun _ _ => op_le, r2_I fun _ _ _ _ _ => .bl _⟩
theorem o_gt : Op2 G (compareOp .Gt) (oI fun i j => .bool (decide (j < i))) := ⟨_, fun _ _ => op_gt, r2_I fun _ _ _ _ _ => .bl _⟩
theorem o_ge : Op2 G (compareOp .GtE) (oI fun i j => .bool (decide (j ≤ i))) := ⟨_, fun _ _ => op_ge, r2_I fun _ _ _ _ _ => .bl _⟩
/-- == of any data -/
theorem Cls.u64 {X : Cx} (h : Cls G X) : X.A.units + 64 < cLine := h.rm.units
def eqOk (x y : D) : Bool := noDic x && noDic y && SeqAt.shaped x && SeqAt.shaped y
def oEq : D → D → Option D
  | .str x, .str y => some (.bool (decide (x = y)))
  | x, y => if eqOk x y = true then some (.bool (PyData.eqv x y)) else none
def oNe : D → D → Option D
  | .str x, .str y => some (.bool (!decide (x = y)))
  | x, y => if eqOk x y = true then some (.bool (!PyData.eqv x y)) else none
theorem dec_strs {x y : Str} : decide (V.str x = V.str y) = decide (x = y) := by
  by_cases h : x = y
  · subst h; rw [decide_eq_true rfl, decide_eq_true rfl]
  · rw [decide_eq_false h, decide_eq_false fun z => h (V.str.inj z)]
theorem oEq_some {x y d : D} (e : oEq x y = some d) : (∃ a b, x = .str a ∧ y = .str b ∧ d = .bool (decide (a = b))) ∨ (eqOk x y = true ∧ d = .bool (PyData.eqv x y)) := by
  unfold oEq at e
  split at e
  · cases e; exact .inl ⟨_, _, rfl, rfl, rfl⟩
  · split at e
    · rename_i c; cases e; exact .inr ⟨c, rfl⟩
    · cases e
theorem oNe_some {x y d : D} (e : oNe x y = some d) : (∃ a b, x = .str a ∧ y = .str b ∧ d = .bool (!decide (a = b))) ∨ (eqOk x y = true ∧ d = .bool (!PyData.eqv x y)) := by
  unfold oNe at e
  split at e
  · cases e; exact .inl ⟨_, _, rfl, rfl, rfl⟩
  · split at e
    · rename_i c; cases e; exact .inr ⟨c, rfl⟩
    · cases e
theorem o_eq : Op2 G (compareOp .Eq) oEq := by
  refine ⟨_, fun X h => by have z := (op_eqD (X := X) h.u64).or op_eq; rw [h.K] at z; exact z, fun E P H σ s x y dx dy d Q st hx hy e h => ?_⟩
  rcases oEq_some e with ⟨a, b, rfl, rfl, rfl⟩ | ⟨c, rfl⟩
  · cases hx.strOf
    cases hy.strOf
    exact .inr ⟨rfl, by rw [dec_strs]; exact h _ P H st Gr.refl (.bl _)⟩
  · unfold eqOk at c
    simp only [Bool.and_eq_true] at c
    exact .inl ⟨dx, dy, hx.dp c.1.1.1, hy.dp c.1.1.2, c.1.2, c.2, h _ P H st Gr.refl (.bl _)⟩
theorem o_ne : Op2 G (compareOp .NotEq) oNe := by
  refine ⟨_, fun X h => by have z := (op_neD (X := X) h.u64).or op_ne; rw [h.K] at z; exact z, fun E P H σ s x y dx dy d Q st hx hy e h => ?_⟩
  rcases oNe_some e with ⟨a, b, rfl, rfl, rfl⟩ | ⟨c, rfl⟩
  · cases hx.strOf
    cases hy.strOf
    exact .inr ⟨rfl, by rw [dec_strs]; exact h _ P H st Gr.refl (.bl _)⟩
  · unfold eqOk at c
    simp only [Bool.and_eq_true] at c
    exact .inl ⟨dx, dy, hx.dp c.1.1.1, hy.dp c.1.1.2, c.1.2, c.2, h _ P H st Gr.refl (.bl _)⟩
end
end Od

namespace Od
open PySem PySem.Spec PyProof.Rows L2

section
variable {G : Gam} {a b c e : Expr} {es : List Expr} {fa fb fc : De D} {ga gb : De Bool} {fs : De (List D)} {pos : Pos} {oa ob oc : Opd}

/-! ### more of ints -/
def oIc (c : Int → Int → Bool) (g : Int → Int → D) : D → D → Option D
  | .int i, .int j => if c i j = true then some (g i j) else none
  | _, _ => none
theorem oIc_some {c : Int → Int → Bool} {g : Int → Int → D} {x y d : D} (e : oIc c g x y = some d) : ∃ i j, x = .int i ∧ y = .int j ∧ c i j = true ∧ d = g i j := by
  cases x <;> first | (cases e; done) | skip
  cases y <;> first | (cases e; done) | skip
  unfold oIc at e
  dsimp only at e
  split at e
  · rename_i h
    cases e
    exact ⟨_, _, rfl, rfl, h, rfl⟩
  · cases e
theorem r2_Ic {C : Int → Int → Prop} {c : Int → Int → Bool} {g : Int → Int → Int} (hc : ∀ i j, c i j = true → C i j) : R2ok G (rI C fun i j => .int (g i j)) (oIc c fun i j => .int (g i j)) := by
  intro E P H σ s x y dx dy d Q st hx hy e h
  obtain ⟨i, j, rfl, rfl, z, rfl⟩ := oIc_some e
  exact ⟨i, j, hx.intOf, hy.intOf, hc _ _ z, h _ P H st Gr.refl (.int _)⟩
def cMul (i j : Int) : Bool := decide (i.natAbs.log2 + j.natAbs.log2 < 1000000)
def cDiv (_ j : Int) : Bool := decide (0 < j) && decide (j.natAbs.log2 < 9000)
def cMod (_ j : Int) : Bool := decide (0 < j)
def cPow (i j : Int) : Bool := decide (0 ≤ j) && decide (j ≤ 1000000) && decide (i.natAbs < 2 ^ 64)
theorem o_mul : Op2 G (binaryOp .Mult) (oIc cMul fun i j => .int (i * j)) := ⟨_, fun _ _ => op_mulW, r2_Ic fun i j h => by
  unfold cMul at h
  have h := of_decide_eq_true h
  exact h⟩
theorem o_fdiv : Op2 G (binaryOp .FloorDiv) (oIc cDiv fun i j => .int (i / j)) := ⟨_, fun _ _ => op_fdivW, r2_Ic fun i j h => by
  unfold cDiv at h; simp only [Bool.and_eq_true, decide_eq_true_eq] at h; exact h⟩
theorem o_mod : Op2 G (binaryOp .Mod) (oIc cMod fun i j => .int (i % j)) := ⟨_, fun _ _ => op_mod, r2_Ic fun i j h => by unfold cMod at h; exact of_decide_eq_true h⟩
theorem o_pow : Op2 G (binaryOp .Pow) (oIc cPow fun i j => .int (i ^ j.toNat)) := ⟨_, fun _ _ => op_pow, r2_Ic fun i j h => by
  unfold cPow at h; simp only [Bool.and_eq_true, decide_eq_true_eq] at h; exact ⟨h.1.1, h.1.2, h.2⟩⟩
/-- is, is not: of None, of truths -/
def isNone : D → Bool
  | .none => true
  | _ => false
theorem Vw.isNone {K : PySem.W.Frag} {H : Hp} {P : Pr} {v : V} {d : D} (h : Vw K H P v d) : decide (v = .non) = Od.isNone d := by
  rcases h with h | ⟨a, e, h⟩
  · cases h <;> rfl
  · subst e
    cases d with
    | none => exact h.elim
    | bool _ => exact h.elim
    | int _ => exact h.elim
    | str _ => exact h.elim
    | tuple _ => exact h.elim
    | list _ => rfl
    | dict _ => rfl
def oIs : D → D → Option D
  | x, .none => some (.bool (isNone x))
  | .bool p, .bool q => some (.bool (decide (p = q)))
  | _, _ => none
def oIsNot : D → D → Option D
  | x, .none => some (.bool (!isNone x))
  | .bool p, .bool q => some (.bool (!decide (p = q)))
  | _, _ => none
theorem o_is : Op2 G (compareOp .Is) oIs := by
  refine ⟨_, fun X h => op_isN.or op_isBl, fun E P H σ s x y dx dy d Q st hx hy e h => ?_⟩
  cases dy with
  | none =>
    have e : some (PyData.bool (isNone dx)) = some d := by cases dx <;> exact e
    cases e
    exact .inl ⟨hy.nonOf, by rw [hx.isNone]; exact h _ P H st Gr.refl (.bl _)⟩
  | bool q =>
    cases dx <;> first | (cases e; done) | skip
    rename_i p
    cases e
    exact .inr ⟨p, q, hx.blOf, hy.blOf, h _ P H st Gr.refl (.bl _)⟩
  | _ => cases dx <;> cases e
theorem o_isNot : Op2 G (compareOp .IsNot) oIsNot := by
  refine ⟨_, fun X h => op_notN.or op_notBl, fun E P H σ s x y dx dy d Q st hx hy e h => ?_⟩
  cases dy with
  | none =>
    have e : some (PyData.bool (!isNone dx)) = some d := by cases dx <;> exact e
    cases e
    exact .inl ⟨hy.nonOf, by rw [hx.isNone]; exact h _ P H st Gr.refl (.bl _)⟩
  | bool q =>
    cases dx <;> first | (cases e; done) | skip
    rename_i p
    cases e
    exact .inr ⟨p, q, hx.blOf, hy.blOf, h _ P H st Gr.refl (.bl _)⟩
  | _ => cases dx <;> cases e
/-- in, not in: a list, a tuple of any data -/
def rInT (K : PySem.W.Frag) (neg : Bool) : R2 := fun x y H Q => ∃ d ds, Dp K H x d ∧ Dp K H y (.tuple ds) ∧ SeqAt.shaped d = true ∧ SeqAt.shaped (.tuple ds) = true ∧
  Q (.bl (if neg then !ds.any fun z => PyData.eqv z d else ds.any fun z => PyData.eqv z d)) H
theorem op_inT {X : Cx} (hu : X.A.units + 65 < cLine) : OpR X (compareOp .In) (rInT X.K false) := by
  intro pins s σ H x y v u Q I rx ry h
  obtain ⟨d, ds, hd, he, sd, se, q⟩ := h
  obtain ⟨as, ra⟩ := Dp.reads I d x v hd rx
  obtain ⟨bs, rb⟩ := Dp.reads I (.tuple ds) y u he ry
  refine SeqAt.in_tuple_reads rb ra (SeqAt.canLay_of_shaped se) (SeqAt.canLay_of_shaped sd) ?_ ⟨.bl _, H, I, rfl, q⟩
  exact room_in_shaped sd hu
theorem op_notInT {X : Cx} (hu : X.A.units + 65 < cLine) : OpR X (compareOp .NotIn) (rInT X.K true) := by
  intro pins s σ H x y v u Q I rx ry h
  obtain ⟨d, ds, hd, he, sd, se, q⟩ := h
  obtain ⟨as, ra⟩ := Dp.reads I d x v hd rx
  obtain ⟨bs, rb⟩ := Dp.reads I (.tuple ds) y u he ry
  refine SeqAt.notIn_tuple_reads rb ra (SeqAt.canLay_of_shaped se) (SeqAt.canLay_of_shaped sd) ?_ ⟨.bl _, H, I, rfl, q⟩
  exact room_in_shaped sd hu
theorem Cls.u65 {X : Cx} (h : Cls G X) : X.A.units + 65 < cLine := by have := h.rm.un; omega
def oIn (neg : Bool) : D → D → Option D
  | x, .list ds => if eqOk x (.list ds) = true then some (.bool (if neg then !ds.any fun z => PyData.eqv z x else ds.any fun z => PyData.eqv z x)) else none
  | x, .tuple ds => if eqOk x (.tuple ds) = true then some (.bool (if neg then !ds.any fun z => PyData.eqv z x else ds.any fun z => PyData.eqv z x)) else none
  | _, _ => none
theorem r2_in {neg : Bool} : R2ok G (fun x y H Q => (∃ d ds, Dp G.K H x d ∧ Dp G.K H y (.list ds) ∧ SeqAt.shaped d = true ∧ SeqAt.shaped (.list ds) = true ∧
    Q (.bl (if neg then !ds.any fun z => PyData.eqv z d else ds.any fun z => PyData.eqv z d)) H) ∨ rInT G.K neg x y H Q) (oIn neg) := by
  intro E P H σ s x y dx dy d Q st hx hy e h
  cases dy with
  | list ds =>
    unfold oIn at e
    dsimp only at e
    split at e
    · rename_i c
      unfold eqOk at c
      simp only [Bool.and_eq_true] at c
      cases e
      exact .inl ⟨dx, ds, hx.dp c.1.1.1, hy.dp c.1.1.2, c.1.2, c.2, h _ P H st Gr.refl (.bl _)⟩
    · cases e
  | tuple ds =>
    unfold oIn at e
    dsimp only at e
    split at e
    · rename_i c
      unfold eqOk at c
      simp only [Bool.and_eq_true] at c
      cases e
      exact .inr ⟨dx, ds, hx.dp c.1.1.1, hy.dp c.1.1.2, c.1.2, c.2, h _ P H st Gr.refl (.bl _)⟩
    · cases e
  | _ => cases e
theorem o_in : Op2 G (compareOp .In) (oIn false) := ⟨_, fun X h => by
  have z := (op_inD (X := X) h.u65).or (op_inT h.u65)
  rw [h.K] at z
  exact z, r2_in (neg := false)⟩
theorem o_notIn : Op2 G (compareOp .NotIn) (oIn true) := ⟨_, fun X h => by
  have z := (op_notInD (X := X) h.u65).or (op_notInT h.u65)
  rw [h.K] at z
  exact z, r2_in (neg := true)⟩

/-! ### tests -/
def dB (f : De D) : De Bool := bnd f fun d s => match d with
  | .bool b => some (.ok b s)
  | _ => none
theorem t_v (hh1 : SE G e fa) (he : ∀ (X : Cx) whole, isTrue e X.env whole = (do let v ← whole; standAt e.pos; holding [v] (truthy v)) := by intro _ _; rfl) :
    ST G e (dB fa) := by
  revert hh1
 
  rintro ⟨te, pe, h⟩
  refine ⟨_, fun X c => pt_val (pe X c) (he X), fun E P H σ s Q st hp => h E P H σ s _ st (po_step hp fun d s1 P1 H1 ee st1 gr1 h1 v hv => ?_)⟩
  cases d <;> first | exact h1.elim | skip
  rename_i b
  exact ⟨b, hv.blOf, h1 P1 H1 st1 Gr.refl⟩
theorem t_cmp {op : CmpOp} {o : D → D → Option D} (ho : Op2 G (compareOp op) o) (hh1 : SV G a oa) (hh2 : SV G b ob) (hm : behindInMarks op b = false := by first | exact nobehind _ (by decide) (by decide) | rfl) :
    ST G (.Compare a [op] [b] pos) (dB (d2 oa ob o)) := by
  revert hh1 hh2
 
  rintro ⟨ta, pa, ha⟩ ⟨tb, pb, hb⟩
  obtain ⟨r, h1, h2⟩ := ho.ex
  refine ⟨_, fun X h => pt_cmpR (h1 X h) (pa X h) (pb X h) hm, fun E P H σ s Q st hp => te_2 ha hb h2 E P H σ s _ st (po_step hp fun d s1 P1 H1 ee st1 gr1 h1 v hv => ?_)⟩
  cases d <;> first | exact h1.elim | skip
  rename_i b
  exact ⟨b, hv.blOf, h1 P1 H1 st1 Gr.refl⟩
/-- a < b < c: k says whether the first holds -/
theorem te_chain {ta tb tc : TE} {r r' : R2} {op op' : D → D → Option D} (ha : TVok G ta oa) (hb : TVok G tb ob) (hc : TVok G tc oc) (hr : R2ok G r op) (hr' : R2ok G r' op') : TEok G (tChain r r' ta tb tc) (dChain oa ob oc op op') := by
  intro E P H σ s Q st h
  refine ha E P H σ s _ st (po_step h fun x s1 P1 H1 ee st1 gr1 h1 vx hx => ?_)
  refine hb E P1 H1 σ s1 _ st1 (po_step h1 fun y s2 P2 H2 ee2 st2 gr2 h2 vy hy => ?_)
  cases ed0 : (oa.rd x s2).bind fun dx => (ob.rd y s2).bind fun dy => op dx dy with
  | none => rw [ed0] at h2; exact h2.elim
  | some d =>
    rw [ed0] at h2
    obtain ⟨dx, ex, ed1⟩ := Option.bind_eq_some_iff.mp ed0
    obtain ⟨dy, ey, ed2⟩ := Option.bind_eq_some_iff.mp ed1
    refine hr E P2 H2 σ s2 vx vy dx dy d _ st2 (hx s2 P2 H2 st2 gr2 dx ex) (hy s2 P2 H2 st2 Gr.refl dy ey) ed2 fun z P3 H3 st3 gr3 hz => ?_
    cases d <;> first | exact h2.elim | skip
    rename_i k
    refine ⟨k, hz.blOf, ?_⟩
    cases k with
    | false => exact h2 P3 H3 st3 gr3 _ (.bl _)
    | true =>
      rw [if_pos rfl]
      have h2 : Po G E P2 H2 σ s2 ((bnd oc.f fun z => fun s => lft ((ob.rd y s).bind fun dy => (oc.rd z s).bind fun dz => op' dy dz) s) s2) (RD G Q) := h2
      have h3 : Po G E P3 H3 σ s2 ((bnd oc.f fun z => fun s => lft ((ob.rd y s).bind fun dy => (oc.rd z s).bind fun dz => op' dy dz) s) s2) (RD G Q) := by
        revert h2
        generalize (bnd oc.f fun z => fun s => lft ((ob.rd y s).bind fun dy => (oc.rd z s).bind fun dz => op' dy dz) s) s2 = r2
        intro h2
        cases r2 with
        | none => exact h2
        | some r3 =>
          cases r3 with
          | ex c => exact h2
          | ok d s4 => exact fun P4 H4 st4 gr4 => h2 P4 H4 st4 (gr3.trans gr4)
      refine hc E P3 H3 σ s2 _ st3 (po_step h3 fun z s4 P4 H4 ee4 st4 gr4 h4 vz hz4 => ?_)
      obtain ⟨d4, ed4, h4⟩ := po_lft h4
      obtain ⟨dy4, ey4, ed4⟩ := Option.bind_eq_some_iff.mp ed4
      obtain ⟨dz4, ez4, ed4⟩ := Option.bind_eq_some_iff.mp ed4
      exact hr' E P4 H4 σ s4 vy vz dy4 dz4 d4 Q st4 (hy s4 P4 H4 st4 (gr3.trans gr4) dy4 ey4) (hz4 s4 P4 H4 st4 Gr.refl dz4 ez4) ed4 fun v P' H' st' gr' dv => h4 P' H' st' gr' v dv
theorem e_chain {op op' : CmpOp} {o o' : D → D → Option D} (ho : Op2 G (compareOp op) o) (ho' : Op2 G (compareOp op') o') (hh1 : SV G a oa) (hh2 : SV G b ob) (hh3 : SV G c oc) (hm : lastMarks [op, op'] [b, c] = false := by with_unfolding_all rfl) :
    SE G (.Compare a [op, op'] [b, c] pos) (dChain oa ob oc o o') := by
  revert hh1 hh2 hh3
 
  rintro ⟨ta, pa, ha⟩ ⟨tb, pb, hb⟩ ⟨tc, pc, hc⟩
  obtain ⟨r, h1, h2⟩ := ho.ex
  obtain ⟨r', h1', h2'⟩ := ho'.ex
  exact ⟨_, fun X h => pe_chain (h1 X h) (h1' X h) (pa X h) (pb X h) (pc X h) hm, te_chain ha hb hc h2 h2'⟩
theorem t_chain {op op' : CmpOp} {o o' : D → D → Option D} (ho : Op2 G (compareOp op) o) (ho' : Op2 G (compareOp op') o') (hh1 : SV G a oa) (hh2 : SV G b ob) (hh3 : SV G c oc) (hm : lastMarks [op, op'] [b, c] = false := by with_unfolding_all rfl) :
    ST G (.Compare a [op, op'] [b, c] pos) (dB (dChain oa ob oc o o')) := by
  revert hh1 hh2 hh3
 
  rintro ⟨ta, pa, ha⟩ ⟨tb, pb, hb⟩ ⟨tc, pc, hc⟩
  obtain ⟨r, h1, h2⟩ := ho.ex
  obtain ⟨r', h1', h2'⟩ := ho'.ex
  refine ⟨_, fun X h => pt_chain (h1 X h) (h1' X h) (pa X h) (pb X h) (pc X h) hm, fun E P H σ s Q st hp => te_chain ha hb hc h2 h2' E P H σ s _ st (po_step hp fun d s1 P1 H1 ee st1 gr1 h1 v hv => ?_)⟩
  cases d <;> first | exact h1.elim | skip
  rename_i b
  exact ⟨b, hv.blOf, h1 P1 H1 st1 Gr.refl⟩
/-- not -/
def dNot (f : De Bool) : De Bool := bnd f fun b => rtn (!b)
theorem t_not : ST G a ga → ST G (.UnaryOp .Not a pos) (dNot ga) := by
  rintro ⟨ta, pa, ha⟩
  exact ⟨_, fun X h => pt_not (pa X h), fun E P H σ s Q st hp => ha E P H σ s _ st (po_step hp fun d s1 P1 H1 ee st1 gr1 h1 => po_rtn h1 st1)⟩
def dNotV (f : De D) : De D := bnd f fun d s => match d with
  | .bool b => some (.ok (.bool (!b)) s)
  | _ => none
theorem e_not : SE G a fa → SE G (.UnaryOp .Not a pos) (dNotV fa) := by
  rintro ⟨ta, pa, ha⟩
  refine ⟨_, fun X h => pe_not (pa X h), fun E P H σ s Q st hp => ha E P H σ s _ st (po_step hp fun d s1 P1 H1 ee st1 gr1 h1 v hv => ?_)⟩
  cases d <;> first | exact h1.elim | skip
  rename_i b
  exact ⟨b, hv.blOf, h1 P1 H1 st1 Gr.refl _ (.bl _)⟩
/-- and, or: tests -/
def dAnd (f g : De Bool) : De Bool := bnd f fun b s => match b with
  | true => g s
  | false => some (.ok false s)
def dOr (f g : De Bool) : De Bool := bnd f fun b s => match b with
  | true => some (.ok true s)
  | false => g s
theorem w_and1 : ST G a ga → SW G (.BoolOp .And [a] pos) ga := by
  rintro ⟨ta, pa, ha⟩
  exact ⟨_, fun X h => pw_and1 (pa X h), ha⟩
theorem w_or1 : ST G a ga → SW G (.BoolOp .Or [a] pos) ga := by
  rintro ⟨ta, pa, ha⟩
  exact ⟨_, fun X h => pw_or1 (pa X h), ha⟩
theorem w_and {rest : List Expr} : ST G a ga → SW G (.BoolOp .And (b :: rest) pos) gb → SW G (.BoolOp .And (a :: b :: rest) pos) (dAnd ga gb) := by
  rintro ⟨ta, pa, ha⟩ ⟨tb, pb, hb⟩
  refine ⟨_, fun X h => pw_and (pa X h) (pb X h), fun E P H σ s Q st hp => ha E P H σ s _ st (po_step hp fun d s1 P1 H1 ee st1 gr1 h1 => ?_)⟩
  cases d with
  | true => rw [if_pos rfl]; exact hb E P1 H1 σ s1 _ st1 h1
  | false => rw [if_neg (by decide)]; exact h1 P1 H1 st1 Gr.refl
theorem w_or {rest : List Expr} : ST G a ga → SW G (.BoolOp .Or (b :: rest) pos) gb → SW G (.BoolOp .Or (a :: b :: rest) pos) (dOr ga gb) := by
  rintro ⟨ta, pa, ha⟩ ⟨tb, pb, hb⟩
  refine ⟨_, fun X h => pw_or (pa X h) (pb X h), fun E P H σ s Q st hp => ha E P H σ s _ st (po_step hp fun d s1 P1 H1 ee st1 gr1 h1 => ?_)⟩
  cases d with
  | true => rw [if_pos rfl]; exact h1 P1 H1 st1 Gr.refl
  | false => rw [if_neg (by decide)]; exact hb E P1 H1 σ s1 _ st1 h1
theorem t_w : SW G e ga → ST G e ga := by
  rintro ⟨ta, pa, ha⟩
  exact ⟨_, fun X h => (pa X h).pt, ha⟩
/-- .. values -/
def dAndV (f g : De D) : De D := bnd f fun d s => match d with
  | .bool true => g s
  | .bool false => some (.ok (.bool false) s)
  | _ => none
def dOrV (f g : De D) : De D := bnd f fun d s => match d with
  | .bool true => some (.ok (.bool true) s)
  | .bool false => g s
  | _ => none
theorem e_one {op} : SE G a fa → SE G (.BoolOp op [a] pos) fa := by
  rintro ⟨ta, pa, ha⟩
  exact ⟨_, fun X h => pe_one (pa X h), ha⟩
theorem e_and {rest : List Expr} : SE G a fa → SE G (.BoolOp .And (b :: rest) pos) fb → SE G (.BoolOp .And (a :: b :: rest) pos) (dAndV fa fb) := by
  rintro ⟨ta, pa, ha⟩ ⟨tb, pb, hb⟩
  refine ⟨_, fun X h => pe_and (pa X h) (pb X h), fun E P H σ s Q st hp => ha E P H σ s _ st (po_step hp fun d s1 P1 H1 ee st1 gr1 h1 v hv => ?_)⟩
  cases d <;> first | exact h1.elim | skip
  rename_i k
  refine ⟨k, hv.blOf, ?_⟩
  cases k with
  | true => rw [if_pos rfl]; exact hb E P1 H1 σ s1 _ st1 h1
  | false => rw [if_neg (by decide)]; exact h1 P1 H1 st1 Gr.refl _ (.bl _)
theorem e_or {rest : List Expr} : SE G a fa → SE G (.BoolOp .Or (b :: rest) pos) fb → SE G (.BoolOp .Or (a :: b :: rest) pos) (dOrV fa fb) := by
  rintro ⟨ta, pa, ha⟩ ⟨tb, pb, hb⟩
  refine ⟨_, fun X h => pe_or (pa X h) (pb X h), fun E P H σ s Q st hp => ha E P H σ s _ st (po_step hp fun d s1 P1 H1 ee st1 gr1 h1 v hv => ?_)⟩
  cases d <;> first | exact h1.elim | skip
  rename_i k
  refine ⟨k, hv.blOf, ?_⟩
  cases k with
  | true => rw [if_pos rfl]; exact h1 P1 H1 st1 Gr.refl _ (.bl _)
  | false => rw [if_neg (by decide)]; exact hb E P1 H1 σ s1 _ st1 h1
/-- a if c else b -/
def dIf {α : Type} (c : De Bool) (f g : De α) : De α := bnd c fun b => match b with
  | true => f
  | false => g
theorem e_if : ST G c ga → SE G a fa → SE G b fb → SE G (.IfExp c a b pos) (dIf ga fa fb) := by
  rintro ⟨tc, pc, hc⟩ ⟨ta, pa, ha⟩ ⟨tb, pb, hb⟩
  refine ⟨_, fun X h => pe_ifExp (pc X h) (pa X h) (pb X h), fun E P H σ s Q st hp => hc E P H σ s _ st (po_step hp fun d s1 P1 H1 ee st1 gr1 h1 => ?_)⟩
  cases d with
  | true => rw [if_pos rfl]; exact ha E P1 H1 σ s1 _ st1 h1
  | false => rw [if_neg (by decide)]; exact hb E P1 H1 σ s1 _ st1 h1
end
end Od

namespace Od
open PySem PySem.Spec PyProof.Rows L2

section
variable {G : Gam} {a b c e : Expr} {es : List Expr} {fa fb fc : De D} {ga gb : De Bool} {fs : De (List D)} {pos : Pos} {oa ob oc : Opd}

theorem Cls.gl {X : Cx} (h : Cls G X) {x : Str} (hg : G.sc.names.lookup x = some .globalImplicit) : Gl X x := by
  show X.env.scope.names.lookup x = _
  rw [h.sc]
  exact hg
theorem Cls.mn {X : Cx} (h : Cls G X) {x : Str} (hg : G.mg x = none) : X.mg x = none := by rw [h.mg]; exact hg

/-! ### arguments that stay -/
def dNil : De (List D) := rtn []
def dCons (f : De D) (g : De (List D)) : De (List D) := bnd f fun d => bnd g fun ds => rtn (d :: ds)
theorem a_nil : SA G [] dNil := ⟨_, fun X h => pa_nil, fun E P H σ s Q st hp => po_rtn hp st _ .nil⟩
theorem a_cons (hh1 : SE G e fa) (hh2 : SA G es fs) (hs : ∀ X : Cx, starEach (e :: es) X.env = (false, eval e X.env) :: starEach es X.env := by intro _; rfl) :
    SA G (e :: es) (dCons fa fs) := by
  revert hh1 hh2
 
  rintro ⟨te, pe, he⟩ ⟨ta, pa, ha⟩
  refine ⟨_, fun X h => pa_cons (pe X h) (pa X h) (hs X), fun E P H σ s Q st hp => he E P H σ s _ st (po_step hp fun d s1 P1 H1 ee st1 gr1 h1 v hv => ?_)⟩
  refine ha E P1 H1 σ s1 _ st1 (po_step h1 fun ds s2 P2 H2 ee2 st2 gr2 h2 vs hvs => ?_)
  exact po_rtn h2 st2 _ (.cons (hv.k (gr2.pk st1)) hvs)

/-! ### tuples and lists as they are written -/
def dTup (f : De (List D)) : De D := bnd f fun ds s => if ds.length ≤ 1000 then some (.ok (.tuple ds) s) else none
def dLst (f : De (List D)) : De D := bnd f fun ds s => if ds.length ≤ 1000 then some (.ok (.list ds) s) else none
theorem sz1000 {n : Nat} (h : n ≤ 1000) : n ≤ sizeLine := Nat.le_trans h (by decide)
theorem lay_tup {E : En} {P : Pr} {H : Hp} {σ : L2.St} {s : S} (st : Stt G.K E P H σ s) {p : Addr} {xs : List V} {ds : List D} (hp : H p = none) (hx : DatL G.K H P xs ds) :
    ∃ P', Stt G.K E P' (upd H p (.tup xs)) σ s ∧ Gr E σ s s P H P' (upd H p (.tup xs)) ∧ Dat G.K (upd H p (.tup xs)) P' (.ref p) (.tuple ds) := by
  obtain ⟨h1, h2⟩ := st.lay (o := .tup xs) hp
  exact ⟨_, h1, h2, .tup (.inr rfl) upd_same (hx.k (h2.pk st))⟩
theorem lay_lst {E : En} {P : Pr} {H : Hp} {σ : L2.St} {s : S} (st : Stt G.K E P H σ s) {p : Addr} {xs : List V} {ds : List D} (hp : H p = none) (hx : DatL G.K H P xs ds) :
    Stt G.K E P (upd H p (.lst xs)) σ s ∧ Gr E σ s s P H P (upd H p (.lst xs)) ∧ ¬ P p ∧ OwA G.K (upd H p (.lst xs)) P p (.list ds) := by
  obtain ⟨h1, h2⟩ := st.layO (o := .lst xs) hp
  exact ⟨h1, h2, st.noP hp, xs, upd_same, hx.k (h2.pk st)⟩
theorem e_tup {k} : SA G es fs → SE G (.Tuple es k pos) (dTup fs) := by
  rintro ⟨ta, pa, ha⟩
  refine ⟨_, fun X h => pe_tup (pa X h), fun E P H σ s Q st hp => ha E P H σ s _ st (po_step hp fun ds s1 P1 H1 ee st1 gr1 h1 vs hv => ?_)⟩
  split at h1
  · rename_i hl
    refine ⟨by rw [hv.len]; exact sz1000 hl, fun p hn => ?_⟩
    obtain ⟨P', st', gr', dv⟩ := lay_tup st1 hn hv
    exact h1 P' _ st' gr' _ dv
  · exact h1.elim
theorem o_lst : SA G es fs → SO G (.List es pos) (dLst fs) := by
  rintro ⟨ta, pa, ha⟩
  refine ⟨_, fun X h => pe_lst (pa X h), fun E P H σ s Q st hp => ha E P H σ s _ st (po_step hp fun ds s1 P1 H1 ee st1 gr1 h1 vs hv => ?_)⟩
  split at h1
  · rename_i hl
    refine ⟨by rw [hv.len]; exact sz1000 hl, fun p hn => ?_⟩
    obtain ⟨st', gr', np, ow⟩ := lay_lst st1 hn hv
    exact h1 _ _ st' gr' p (gr1.ex p hn) np ow
  · exact h1.elim
def dDicK : De D := rtn (.dict [])
def dDicT : De D := rtn (.dict [(.none, .none)])
theorem o_dicK : SO G (.Dict [] [] pos) dDicK := by
  refine ⟨_, fun X h => pe_dnewK, fun E P H σ s Q st hp p hn => ?_⟩
  obtain ⟨h1, h2⟩ := st.layO (o := .dK []) hn
  exact hp _ _ h1 h2 p hn (st.noP hn) (.inl ⟨[], upd_same, .nil⟩)
theorem o_dicT : SO G (.Dict [] [] pos) dDicT := by
  refine ⟨_, fun X h => pe_dnewT, fun E P H σ s Q st hp p hn => ?_⟩
  obtain ⟨h1, h2⟩ := st.layO (o := .dT []) hn
  exact hp _ _ h1 h2 p hn (st.noP hn) (.inr ⟨[], [], rfl, upd_same, .nil⟩)

/-! ### built-in functions of one and of two values -/
def R1ok (G : Gam) (r : List V → Hp → VK → Prop) (op : D → Option D) : Prop := ∀ E P H σ s x dx d Q, Stt G.K E P H σ s → Vw G.K H P x dx → op dx = some d →
  (∀ v P' H', Stt G.K E P' H' σ s → Gr E σ s s P H P' H' → Dat G.K H' P' v d → Q v H') → r [x] H Q
def R1own (G : Gam) (r : List V → Hp → VK → Prop) (op : D → Option D) : Prop := ∀ E P H σ s x dx d Q, Stt G.K E P H σ s → Vw G.K H P x dx → op dx = some d →
  (∀ a P' H', Stt G.K E P' H' σ s → Gr E σ s s P H P' H' → H a = none → ¬ P' a → OwA G.K H' P' a d → Q (.ref a) H') → r [x] H Q
def R11ok (G : Gam) (r : List V → Hp → VK → Prop) (op : D → D → Option D) : Prop := ∀ E P H σ s x y dx dy d Q, Stt G.K E P H σ s → Vw G.K H P x dx → Vw G.K H P y dy → op dx dy = some d →
  (∀ v P' H', Stt G.K E P' H' σ s → Gr E σ s s P H P' H' → Dat G.K H' P' v d → Q v H') → r [x, y] H Q
structure Op1 (G : Gam) (f : Value) (o : D → Option D) : Prop where
  ex : ∃ r, (∀ X, Cls G X → CallR X f r) ∧ R1ok G r o
structure Op1o (G : Gam) (f : Value) (o : D → Option D) : Prop where
  ex : ∃ r, (∀ X, Cls G X → CallR X f r) ∧ R1own G r o
structure Op11 (G : Gam) (f : Value) (o : D → D → Option D) : Prop where
  ex : ∃ r, (∀ X, Cls G X → CallR X f r) ∧ R11ok G r o
theorem Op1.or {f : Value} {o o' : D → Option D} (h : Op1 G f o) (h' : Op1 G f o') : Op1 G f (fun x => (o x).or (o' x)) := by
  obtain ⟨r, h1, h2⟩ := h.ex
  obtain ⟨r', h1', h2'⟩ := h'.ex
  refine ⟨_, fun X c => (h1 X c).or (h1' X c), fun E P H σ s x dx d Q st hx e k => ?_⟩
  cases z : o dx with
  | some d' =>
    dsimp only at e
    rw [z] at e
    cases e
    exact .inl (h2 E P H σ s x dx _ Q st hx z k)
  | none =>
    dsimp only at e
    rw [z] at e
    exact .inr (h2' E P H σ s x dx _ Q st hx e k)
theorem Op1o.or {f : Value} {o o' : D → Option D} (h : Op1o G f o) (h' : Op1o G f o') : Op1o G f (fun x => (o x).or (o' x)) := by
  obtain ⟨r, h1, h2⟩ := h.ex
  obtain ⟨r', h1', h2'⟩ := h'.ex
  refine ⟨_, fun X c => (h1 X c).or (h1' X c), fun E P H σ s x dx d Q st hx e k => ?_⟩
  cases z : o dx with
  | some d' =>
    dsimp only at e
    rw [z] at e
    cases e
    exact .inl (h2 E P H σ s x dx _ Q st hx z k)
  | none =>
    dsimp only at e
    rw [z] at e
    exact .inr (h2' E P H σ s x dx _ Q st hx e k)
def d1 (a : Opd) (op : D → Option D) : De D := bnd a.f fun x s => lft ((a.rd x s).bind op) s
theorem po_1 {ta : TE} {r : List V → Hp → VK → Prop} {op : D → Option D} {E : En} {P : Pr} {H : Hp} {σ : L2.St} {s : S} {Q : VK} {R : D → S → Pr → Hp → Prop} (ha : TVok G ta oa) (st : Stt G.K E P H σ s) (h : Po G E P H σ s (d1 oa op s) R)
    (k : ∀ s2 P2 H2 x dx d, Stt G.K E P2 H2 σ s2 → Gr E σ s s2 P H P2 H2 → Vw G.K H2 P2 x dx → op dx = some d → (∀ P' H', Stt G.K E P' H' σ s2 → Gr E σ s2 s2 P2 H2 P' H' → R d s2 P' H') → r [x] H2 Q) : tCB r (tCons ta tNil) σ H Q := by
  refine ha E P H σ s _ st (po_step h fun x s1 P1 H1 ee st1 gr1 h1 vx hx => ?_)
  obtain ⟨d, ed, h2⟩ := po_lft h1
  obtain ⟨dx, ex, ed⟩ := Option.bind_eq_some_iff.mp ed
  exact k s1 P1 H1 vx dx d st1 gr1 (hx s1 P1 H1 st1 Gr.refl dx ex) ed h2
theorem po_11 {ta tb : TE} {r : List V → Hp → VK → Prop} {op : D → D → Option D} {E : En} {P : Pr} {H : Hp} {σ : L2.St} {s : S} {Q : VK} {R : D → S → Pr → Hp → Prop} (ha : TVok G ta oa) (hb : TVok G tb ob) (st : Stt G.K E P H σ s) (h : Po G E P H σ s (d2 oa ob op s) R)
    (k : ∀ s2 P2 H2 x y dx dy d, Stt G.K E P2 H2 σ s2 → Gr E σ s s2 P H P2 H2 → Vw G.K H2 P2 x dx → Vw G.K H2 P2 y dy → op dx dy = some d → (∀ P' H', Stt G.K E P' H' σ s2 → Gr E σ s2 s2 P2 H2 P' H' → R d s2 P' H') → r [x, y] H2 Q) :
    tCB r (tCons ta (tCons tb tNil)) σ H Q := by
  have z := po_2 (r := fun x y H Q => r [x, y] H Q) (Q := Q) ha hb st h k
  exact z
section
variable {x : Str} {p : Pos} {id T : String}
theorem e_call1 {op : D → Option D} (o : Op1 G (.builtin id) op) (hm : G.mg x = none) (hh1 : SV G e oa) (hg : G.sc.names.lookup x = some .globalImplicit := by rfl) (hv : bootBuiltins x = some (.builtin id) := by decide +kernel) (hn : x ≠ "__name__" := by decide) (hdb : (x == ("__debug__" : Str)) = false := by decide) (hs : ∀ X : Cx, starEach [e] X.env = [(false, eval e X.env)] := by intro _; rfl) :
    SE G (.Call (.Name x p) [e] [] pos) (d1 oa op) := by
  revert hh1
 
  rintro ⟨ta, pa, ha⟩
  obtain ⟨r, h1, h2⟩ := o.ex
  exact ⟨_, fun X h => pe_callB (h1 X h) (h.gl hg) (h.mn hm) hv (pa_cons (pa X h) pa_nil (hs X)) hn hdb (hs X), fun E P H σ s Q st hp => po_1 ha st hp fun s2 P2 H2 x dx d st2 gr2 hx ed k => h2 E P2 H2 σ s2 x dx d Q st2 hx ed fun v P' H' st' gr' dv => k P' H' st' gr' v dv⟩
theorem o_call1 {op : D → Option D} (o : Op1o G (.builtin id) op) (hm : G.mg x = none) (hh1 : SV G e oa) (hg : G.sc.names.lookup x = some .globalImplicit := by rfl) (hv : bootBuiltins x = some (.builtin id) := by decide +kernel) (hn : x ≠ "__name__" := by decide) (hdb : (x == ("__debug__" : Str)) = false := by decide) (hs : ∀ X : Cx, starEach [e] X.env = [(false, eval e X.env)] := by intro _; rfl) :
    SO G (.Call (.Name x p) [e] [] pos) (d1 oa op) := by
  revert hh1
 
  rintro ⟨ta, pa, ha⟩
  obtain ⟨r, h1, h2⟩ := o.ex
  exact ⟨_, fun X h => pe_callB (h1 X h) (h.gl hg) (h.mn hm) hv (pa_cons (pa X h) pa_nil (hs X)) hn hdb (hs X), fun E P H σ s Q st hp => po_1 ha st hp fun s2 P2 H2 x dx d st2 gr2 hx ed k => h2 E P2 H2 σ s2 x dx d Q st2 hx ed fun a P' H' st' gr' n1 n2 dv => k P' H' st' gr' a (gr2.ex a n1) n2 dv⟩
theorem e_ty1 {op : D → Option D} (o : Op1 G (.type T) op) (hm : G.mg x = none) (hh1 : SV G e oa) (hg : G.sc.names.lookup x = some .globalImplicit := by rfl) (hv : bootBuiltins x = some (.type T) := by decide +kernel) (hn : x ≠ "__name__" := by decide) (hdb : (x == ("__debug__" : Str)) = false := by decide) (hs : ∀ X : Cx, starEach [e] X.env = [(false, eval e X.env)] := by intro _; rfl) :
    SE G (.Call (.Name x p) [e] [] pos) (d1 oa op) := by
  revert hh1
 
  rintro ⟨ta, pa, ha⟩
  obtain ⟨r, h1, h2⟩ := o.ex
  exact ⟨_, fun X h => pe_callTy (h1 X h) (h.gl hg) (h.mn hm) hv (pa_cons (pa X h) pa_nil (hs X)) hn hdb (hs X), fun E P H σ s Q st hp => po_1 ha st hp fun s2 P2 H2 x dx d st2 gr2 hx ed k => h2 E P2 H2 σ s2 x dx d Q st2 hx ed fun v P' H' st' gr' dv => k P' H' st' gr' v dv⟩
theorem o_ty1 {op : D → Option D} (o : Op1o G (.type T) op) (hm : G.mg x = none) (hh1 : SV G e oa) (hg : G.sc.names.lookup x = some .globalImplicit := by rfl) (hv : bootBuiltins x = some (.type T) := by decide +kernel) (hn : x ≠ "__name__" := by decide) (hdb : (x == ("__debug__" : Str)) = false := by decide) (hs : ∀ X : Cx, starEach [e] X.env = [(false, eval e X.env)] := by intro _; rfl) :
    SO G (.Call (.Name x p) [e] [] pos) (d1 oa op) := by
  revert hh1
 
  rintro ⟨ta, pa, ha⟩
  obtain ⟨r, h1, h2⟩ := o.ex
  exact ⟨_, fun X h => pe_callTy (h1 X h) (h.gl hg) (h.mn hm) hv (pa_cons (pa X h) pa_nil (hs X)) hn hdb (hs X), fun E P H σ s Q st hp => po_1 ha st hp fun s2 P2 H2 x dx d st2 gr2 hx ed k => h2 E P2 H2 σ s2 x dx d Q st2 hx ed fun a P' H' st' gr' n1 n2 dv => k P' H' st' gr' a (gr2.ex a n1) n2 dv⟩
theorem e_call2 {op : D → D → Option D} (o : Op11 G (.builtin id) op) (hm : G.mg x = none) (hh1 : SV G a oa) (hh2 : SV G b ob) (hg : G.sc.names.lookup x = some .globalImplicit := by rfl) (hv : bootBuiltins x = some (.builtin id) := by decide +kernel) (hn : x ≠ "__name__" := by decide) (hdb : (x == ("__debug__" : Str)) = false := by decide) (hs : ∀ X : Cx, starEach [a, b] X.env = [(false, eval a X.env), (false, eval b X.env)] := by intro _; rfl) (hs2 : ∀ X : Cx, starEach [b] X.env = [(false, eval b X.env)] := by intro _; rfl) :
    SE G (.Call (.Name x p) [a, b] [] pos) (d2 oa ob op) := by
  revert hh1 hh2
 
  rintro ⟨ta, pa, ha⟩ ⟨tb, pb, hb⟩
  obtain ⟨r, h1, h2⟩ := o.ex
  refine ⟨_, fun X h => pe_callB (h1 X h) (h.gl hg) (h.mn hm) hv (pa_cons (pa X h) (pa_cons (pb X h) pa_nil (hs2 X)) (by rw [hs X, hs2 X])) hn hdb (by rw [hs X, hs2 X]) (by rw [hs2 X]; rfl),
    fun E P H σ s Q st hp => po_11 ha hb st hp fun s2 P2 H2 x y dx dy d st2 gr2 hx hy ed k => h2 E P2 H2 σ s2 x y dx dy d Q st2 hx hy ed fun v P' H' st' gr' dv => k P' H' st' gr' v dv⟩
end
/-! the functions -/
def fLen : D → Option D
  | .list ds => some (.int ds.length)
  | .tuple ds => some (.int ds.length)
  | .dict [(.none, .list ds)] => some (.int ds.length)
  | _ => none
theorem Vw.scrOf {K : PySem.W.Frag} {H : Hp} {P : Pr} {v : V} {ds : List D} (h : Vw K H P v (.dict [(.none, .list ds)])) : ∃ a xs, v = .ref a ∧ SqL K H a xs ∧ DatL K H P xs ds := by
  rcases h with h | ⟨a, e, h⟩
  · exact h.scrOf
  · rcases h with ⟨l, h1, h2⟩ | ⟨l, m, h0, h1, h2⟩
    · generalize hk : [(PyData.none, PyData.list ds)] = kk at h2
      cases h2 with
      | nil => cases hk
      | cons _ _ =>
        injection hk with q1 q2
        injection q1 with q3 q4
        exact (kD_none q3.symm).elim
    · cases h0
theorem f_len : Op1 G (.builtin "len") fLen := by
  refine ⟨_, fun X h => by have z := call_len_seq (X := X); rw [h.K] at z; exact z, fun E P H σ s x dx d Q st hx e h => ?_⟩
  cases dx with
  | list ds =>
    cases e
    obtain ⟨a, xs, rfl, h1, h2⟩ := hx.lstOf
    refine ⟨a, xs, rfl, .inl (.of h1), ?_⟩
    rw [h2.len]
    exact h _ P H st Gr.refl (.int _)
  | tuple ds =>
    cases e
    obtain ⟨a, xs, rfl, _, h1, h2⟩ := hx.tupOf
    refine ⟨a, xs, rfl, .inr (.of h1), ?_⟩
    rw [h2.len]
    exact h _ P H st Gr.refl (.int _)
  | dict kvs =>
    unfold fLen at e
    split at e
    · rename_i q; cases q
    · rename_i q; cases q
    · rename_i q
      cases q
      cases e
      obtain ⟨a, xs, rfl, h1, h2⟩ := hx.scrOf
      refine ⟨a, xs, rfl, .inl h1, ?_⟩
      rw [h2.len]
      exact h _ P H st Gr.refl (.int _)
    · cases e
  | _ => cases e
def boolsOf : List D → Option (List Bool)
  | [] => some []
  | .bool b :: r => (boolsOf r).map (b :: ·)
  | _ :: _ => none
theorem boolsOf_some : ∀ {ds : List D} {bs : List Bool}, boolsOf ds = some bs → ds = bs.map PyData.bool
  | [], bs, h => by cases h; rfl
  | .bool b :: r, bs, h => by
    unfold boolsOf at h
    obtain ⟨bs', h1, h2⟩ := Option.map_eq_some_iff.mp h
    subst h2
    rw [boolsOf_some h1]
    rfl
  | .none :: r, bs, h => by cases h
  | .int _ :: r, bs, h => by cases h
  | .str _ :: r, bs, h => by cases h
  | .list _ :: r, bs, h => by cases h
  | .tuple _ :: r, bs, h => by cases h
  | .dict _ :: r, bs, h => by cases h
def intsOf : List D → Option (List Int)
  | [] => some []
  | .int b :: r => (intsOf r).map (b :: ·)
  | _ :: _ => none
theorem intsOf_some : ∀ {ds : List D} {bs : List Int}, intsOf ds = some bs → ds = bs.map PyData.int
  | [], bs, h => by cases h; rfl
  | .int b :: r, bs, h => by
    unfold intsOf at h
    obtain ⟨bs', h1, h2⟩ := Option.map_eq_some_iff.mp h
    subst h2
    rw [intsOf_some h1]
    rfl
  | .none :: r, bs, h => by cases h
  | .bool _ :: r, bs, h => by cases h
  | .str _ :: r, bs, h => by cases h
  | .list _ :: r, bs, h => by cases h
  | .tuple _ :: r, bs, h => by cases h
  | .dict _ :: r, bs, h => by cases h
def fAny : D → Option D
  | .list ds => (boolsOf ds).map fun bs => .bool (bs.any id)
  | _ => none
def fAll : D → Option D
  | .list ds => (boolsOf ds).map fun bs => .bool (bs.all id)
  | _ => none
theorem f_any : Op1 G (.builtin "any") fAny := by
  refine ⟨_, fun X h => by have z := cr_any (X := X) h.calm; rw [h.K] at z; exact z, fun E P H σ s x dx d Q st hx e h => ?_⟩
  cases dx <;> first | (cases e; done) | skip
  obtain ⟨bs, eb, rfl⟩ := Option.map_eq_some_iff.mp (show _ = some d from e)
  have e2 := boolsOf_some eb
  obtain ⟨a, xs, rfl, h1, h2⟩ := hx.lstOf
  rw [e2] at h2
  have e3 := h2.bools
  subst e3
  exact ⟨a, bs, rfl, .of h1, h _ P H st Gr.refl (.bl _)⟩
theorem f_all : Op1 G (.builtin "all") fAll := by
  refine ⟨_, fun X h => by have z := cr_all (X := X) h.calm; rw [h.K] at z; exact z, fun E P H σ s x dx d Q st hx e h => ?_⟩
  cases dx <;> first | (cases e; done) | skip
  obtain ⟨bs, eb, rfl⟩ := Option.map_eq_some_iff.mp (show _ = some d from e)
  have e2 := boolsOf_some eb
  obtain ⟨a, xs, rfl, h1, h2⟩ := hx.lstOf
  rw [e2] at h2
  have e3 := h2.bools
  subst e3
  exact ⟨a, bs, rfl, .of h1, h _ P H st Gr.refl (.bl _)⟩
def fTuple : D → Option D
  | .list ds => some (.tuple ds)
  | .tuple ds => some (.tuple ds)
  | _ => none
theorem f_tuple : Op1 G (.type "tuple") fTuple := by
  refine ⟨_, fun X h => by have z := call_tuple_of (X := X); rw [h.K] at z; exact z, fun E P H σ s x dx d Q st hx e h => ?_⟩
  cases dx <;> first | (cases e; done) | skip
  · cases e
    obtain ⟨a, xs, rfl, h1, h2⟩ := hx.lstOf
    refine ⟨a, xs, rfl, .inl ⟨.of h1, fun l hl => ?_⟩⟩
    obtain ⟨P', st', gr', dv⟩ := lay_tup st hl h2
    exact h _ P' _ st' gr' dv
  · cases e
    have dv := hx.dat (fun _ => nofun) (fun _ => nofun)
    obtain ⟨a, xs, rfl, _, h1, h2⟩ := hx.tupOf
    exact ⟨a, xs, rfl, .inr ⟨.of h1, h _ P H st Gr.refl dv⟩⟩
def fList : D → Option D
  | .list ds => some (.list ds)
  | .tuple ds => some (.list ds)
  | _ => none
theorem f_list : Op1o G (.type "list") fList := by
  refine ⟨_, fun X h => by have z := call_list_of (X := X); rw [h.K] at z; exact z, fun E P H σ s x dx d Q st hx e h => ?_⟩
  cases dx <;> first | (cases e; done) | skip
  · cases e
    obtain ⟨a, xs, rfl, h1, h2⟩ := hx.lstOf
    refine ⟨a, xs, rfl, .inl (.of h1), fun l hl => ?_⟩
    obtain ⟨st', gr', np, ow⟩ := lay_lst st hl h2
    exact h l _ _ st' gr' hl np ow
  · cases e
    obtain ⟨a, xs, rfl, _, h1, h2⟩ := hx.tupOf
    refine ⟨a, xs, rfl, .inr (.of h1), fun l hl => ?_⟩
    obtain ⟨st', gr', np, ow⟩ := lay_lst st hl h2
    exact h l _ _ st' gr' hl np ow
def fMax2 : D → D → Option D := oI fun i j => .int (if j > i then j else i)
def fMin2 : D → D → Option D := oI fun i j => .int (if j < i then j else i)
theorem f_max2 : Op11 G (.builtin "max") fMax2 := by
  refine ⟨_, fun X h => call_max2 h.calm, fun E P H σ s x y dx dy d Q st hx hy e h => ?_⟩
  obtain ⟨i, j, rfl, rfl, rfl⟩ := oI_some e
  cases hx.intOf
  cases hy.intOf
  exact ⟨i, j, rfl, h _ P H st Gr.refl (.int _)⟩
theorem f_min2 : Op11 G (.builtin "min") fMin2 := by
  refine ⟨_, fun X h => call_min2 h.calm, fun E P H σ s x y dx dy d Q st hx hy e h => ?_⟩
  obtain ⟨i, j, rfl, rfl, rfl⟩ := oI_some e
  cases hx.intOf
  cases hy.intOf
  exact ⟨i, j, rfl, h _ P H st Gr.refl (.int _)⟩

/-! ### an item, a slice -/
def atD (ds : List D) (i : Int) : Option D := (ixN ds.length i).bind fun j => ds[j]?
theorem atD_at {K : PySem.W.Frag} {H : Hp} {P : Pr} {xs : List V} {ds : List D} {i : Int} {d : D} (h : DatL K H P xs ds) (e : atD ds i = some d) : ∃ v, atI xs i = some v ∧ Dat K H P v d := by
  unfold atD at e
  obtain ⟨j, e1, e2⟩ := Option.bind_eq_some_iff.mp e
  obtain ⟨v, e3, dv⟩ := h.get e2
  refine ⟨v, ?_, dv⟩
  unfold atI
  rw [h.len, e1]
  exact e3
def oIx : D → D → Option D
  | .list ds, .int i => atD ds i
  | .tuple ds, .int i => atD ds i
  | .dict [(.none, .list ds)], .int i => atD ds i
  | _, _ => none
theorem ix_r2 : R2ok G (fun x y H Q => rIxL G.K x y H Q ∨ rIxT G.K x y H Q) oIx := by
  intro E P H σ s x y dx dy d Q st hx hy e h
  unfold oIx at e
  split at e
  · obtain ⟨a, xs, rfl, h1, h2⟩ := hx.lstOf
    cases hy.intOf
    obtain ⟨v, e1, dv⟩ := atD_at h2 e
    exact .inl ⟨a, xs, _, v, rfl, rfl, .of h1, e1, h v P H st Gr.refl dv⟩
  · obtain ⟨a, xs, rfl, _, h1, h2⟩ := hx.tupOf
    cases hy.intOf
    obtain ⟨v, e1, dv⟩ := atD_at h2 e
    exact .inr ⟨a, xs, _, v, rfl, rfl, .of h1, e1, h v P H st Gr.refl dv⟩
  · obtain ⟨a, xs, rfl, h1, h2⟩ := hx.scrOf
    cases hy.intOf
    obtain ⟨v, e1, dv⟩ := atD_at h2 e
    exact .inl ⟨a, xs, _, v, rfl, rfl, h1, e1, h v P H st Gr.refl dv⟩
  · cases e
theorem e_ix (hh1 : SV G a oa) (hh2 : SV G b ob) (hs : PlainIx b := by exact fun _ _ => rfl) :
    SE G (.Subscript a b pos) (d2 oa ob oIx) := by
  revert hh1 hh2
 
  rintro ⟨ta, pa, ha⟩ ⟨tb, pb, hb⟩
  refine ⟨_, fun X h => pe_ix (r := fun x y H Q => rIxL G.K x y H Q ∨ rIxT G.K x y H Q) (by have z := (ix_list (X := X)).or ix_tup; rw [h.K] at z; exact z) (pa X h) (pb X h) hs, te_2 ha hb ix_r2⟩
/-- a part of a slice -/
def SP' (G : Gam) (e : Option Expr) (f : De (Option Int)) : Prop := ∃ te : TO, (∀ X, Cls G X → PO X e te) ∧ ∀ E P H σ s Q, Stt G.K E P H σ s → Po G E P H σ s (f s) (fun o _ _ H' => Q o H') → te σ H Q
def dNoP : De (Option Int) := rtn none
def dPt (f : De D) : De (Option Int) := bnd f fun d s => match d with
  | .int i => some (.ok (some i) s)
  | _ => none
theorem p_none : SP' G none dNoP := ⟨_, fun X h => po_none, fun E P H σ s Q st hp => po_rtn hp st⟩
theorem p_some : SE G e fa → SP' G (some e) (dPt fa) := by
  rintro ⟨te, pe, he⟩
  refine ⟨_, fun X h => po_some (pe X h), fun E P H σ s Q st hp => he E P H σ s _ st (po_step hp fun d s1 P1 H1 ee st1 gr1 h1 v hv => ?_)⟩
  cases d <;> first | exact h1.elim | skip
  rename_i i
  exact ⟨i, hv.intOf, h1 P1 H1 st1 Gr.refl⟩
def cutD (ds : List D) (lo hi : Option Int) : List D := (ds.drop (HT.sIx ds.length 0 lo)).take (HT.sIx ds.length ds.length hi - HT.sIx ds.length 0 lo)
theorem cutD_at {K : PySem.W.Frag} {H : Hp} {P : Pr} {xs : List V} {ds : List D} (h : DatL K H P xs ds) (lo hi : Option Int) : DatL K H P (cutV xs lo hi) (cutD ds lo hi) := by
  unfold cutV cutD
  rw [h.len]
  exact (h.drop _).take _
def dSl (o : Opd) (l h : De (Option Int)) (g : D → Option Int → Option Int → Option D) : De D := bnd o.f fun x => bnd l fun i => bnd h fun j s => lft ((o.rd x s).bind fun d => g d i j) s
def slL : D → Option Int → Option Int → Option D
  | .list ds, i, j => some (.list (cutD ds i j))
  | _, _, _ => none
def slT : D → Option Int → Option Int → Option D
  | .tuple ds, i, j => some (.tuple (cutD ds i j))
  | _, _, _ => none
variable {lo hi : Option Expr} {fl fh : De (Option Int)}
theorem o_slL {p2 : Pos} : SV G a oa → SP' G lo fl → SP' G hi fh → SO G (.Subscript a (.Slice lo hi none p2) pos) (dSl oa fl fh slL) := by
  rintro ⟨ta, pa, ha⟩ ⟨tl, pl, hl⟩ ⟨th, ph, hh⟩
  refine ⟨_, fun X h => pe_slice (r := rSlL G.K) (by have z := sl_list (X := X); rw [h.K] at z; exact z) (pa X h) (pl X h) (ph X h), fun E P H σ s Q st hp => ha E P H σ s _ st (po_step hp fun x s1 P1 H1 ee st1 gr1 h1 vx hx => ?_)⟩
  refine hl E P1 H1 σ s1 _ st1 (po_step h1 fun i s2 P2 H2 ee2 st2 gr2 h2 => ?_)
  refine hh E P2 H2 σ s2 _ st2 (po_step h2 fun j s3 P3 H3 ee3 st3 gr3 h3 => ?_)
  obtain ⟨d, ed, h4⟩ := po_lft h3
  obtain ⟨dx, ex, ed⟩ := Option.bind_eq_some_iff.mp ed
  have vw := hx s3 P3 H3 st3 (gr2.trans gr3) dx ex
  cases dx <;> first | (cases ed; done) | skip
  cases ed
  obtain ⟨q, xs, rfl, w1, w2⟩ := vw.lstOf
  refine ⟨q, xs, rfl, .of w1, fun p hn => ?_⟩
  obtain ⟨st', gr', np, ow⟩ := lay_lst st3 hn (cutD_at w2 i j)
  exact h4 _ _ st' gr' p (gr1.ex p (gr2.ex p (gr3.ex p hn))) np ow
theorem e_slT {p2 : Pos} : SV G a oa → SP' G lo fl → SP' G hi fh → SE G (.Subscript a (.Slice lo hi none p2) pos) (dSl oa fl fh slT) := by
  rintro ⟨ta, pa, ha⟩ ⟨tl, pl, hl⟩ ⟨th, ph, hh⟩
  refine ⟨_, fun X h => pe_slice (r := rSlA G.K) (by have z := sl_tupA (X := X); rw [h.K] at z; exact z) (pa X h) (pl X h) (ph X h), fun E P H σ s Q st hp => ha E P H σ s _ st (po_step hp fun x s1 P1 H1 ee st1 gr1 h1 vx hx => ?_)⟩
  refine hl E P1 H1 σ s1 _ st1 (po_step h1 fun i s2 P2 H2 ee2 st2 gr2 h2 => ?_)
  refine hh E P2 H2 σ s2 _ st2 (po_step h2 fun j s3 P3 H3 ee3 st3 gr3 h3 => ?_)
  obtain ⟨d, ed, h4⟩ := po_lft h3
  obtain ⟨dx, ex, ed⟩ := Option.bind_eq_some_iff.mp ed
  have vw := hx s3 P3 H3 st3 (gr2.trans gr3) dx ex
  cases dx <;> first | (cases ed; done) | skip
  rename_i ds
  cases ed
  have dv := vw.dat (fun _ => nofun) (fun _ => nofun)
  obtain ⟨q, xs, rfl, _, w1, w2⟩ := vw.tupOf
  refine ⟨q, xs, rfl, .of w1, fun hw => ?_, fun hw p hn => ?_⟩
  · have e : cutD ds i j = ds := by
      unfold cutD
      rw [← w2.len, hw.1, hw.2, List.drop_zero, w2.len]
      show ds.take (ds.length - 0) = ds
      rw [Nat.sub_zero, List.take_length]
    have h5 := h4 P3 H3 st3 Gr.refl
    rw [e] at h5
    exact h5 _ dv
  · obtain ⟨P', st', gr', dv'⟩ := lay_tup st3 hn (cutD_at w2 i j)
    exact h4 _ _ st' gr' _ dv'
/-! ### + of lists, of tuples; * of tuples -/
def oCatL : D → D → Option D
  | .list xs, .list ys => if xs.length + ys.length ≤ 100000 then some (.list (xs ++ ys)) else none
  | _, _ => none
theorem sz5 {n : Nat} (h : n ≤ 100000) : n ≤ sizeLine := Nat.le_trans h (by decide)
theorem o_catL : Op2o G (binaryOp .Add) oCatL := by
  refine ⟨_, fun X h => op_cat, fun E P H σ s x y dx dy d Q st hx hy e h => ?_⟩
  cases dx <;> first | (cases e; done) | skip
  cases dy <;> first | (cases e; done) | skip
  unfold oCatL at e
  dsimp only at e
  split at e
  · rename_i hl
    cases e
    obtain ⟨p, xs, rfl, h1, h2⟩ := hx.lstOf
    obtain ⟨q, ys, rfl, h3, h4⟩ := hy.lstOf
    refine ⟨p, q, xs, ys, rfl, rfl, h1, h3, by rw [h2.len, h4.len]; exact sz5 hl, fun l hn => ?_⟩
    obtain ⟨st', gr', np, ow⟩ := lay_lst st hn (h2.app h4)
    exact h l _ _ st' gr' hn np ow
  · cases e
def oCatT : D → D → Option D
  | .tuple xs, .tuple ys => if xs.length + ys.length ≤ 100000 then some (.tuple (xs ++ ys)) else none
  | _, _ => none
theorem o_catT : Op2 G (binaryOp .Add) oCatT := by
  refine ⟨_, fun X h => by have z := op_catA (X := X); rw [h.K] at z; exact z, fun E P H σ s x y dx dy d Q st hx hy e h => ?_⟩
  cases dx <;> first | (cases e; done) | skip
  cases dy <;> first | (cases e; done) | skip
  unfold oCatT at e
  dsimp only at e
  split at e
  · rename_i hl
    cases e
    have dx' := hx.dat (fun _ => nofun) (fun _ => nofun)
    have dy' := hy.dat (fun _ => nofun) (fun _ => nofun)
    obtain ⟨p, xs, rfl, _, h1, h2⟩ := hx.tupOf
    obtain ⟨q, ys, rfl, _, h3, h4⟩ := hy.tupOf
    refine ⟨p, q, xs, ys, rfl, rfl, .of h1, .of h3, by rw [h2.len, h4.len]; exact sz5 hl, fun e1 => ?_, fun e1 e2 => ?_, fun e1 e2 l hn => ?_⟩
    · subst e1
      cases h2
      exact h _ P H st Gr.refl dy'
    · subst e2
      cases h4
      rw [List.append_nil] at h
      exact h _ P H st Gr.refl dx'
    · obtain ⟨P', st', gr', dv'⟩ := lay_tup st hn (h2.app h4)
      exact h _ _ _ st' gr' dv'
  · cases e
end
end Od

namespace Od
open PySem PySem.Spec PyProof.Rows L2

/-! ### a def's promise where no guard of the interpreter's own stands around -/
structure FnG (P : Program) (w : World) (K : PySem.W.Frag) (mg : Str → Option Value) (base : Heap) (k : Nat) (f : Addr) (fd : FuncData) (ps : List Str) (sp : Sp) : Prop where
  len : ∀ vs H Q E, sp vs H Q E → vs.length = ps.length
  run : ∀ (A : Around) (outer : List Env) (s : Shared) (H : Hp) (args : Args) (us : List Value) (vs : List V) (Q : VK) (E : XK), Room k A → A.guards = some [] →
    Env0 P w K mg base A outer s H → BindsTo s fd args (ps.zip us) → Vals vs us → sp vs H Q E →
    codeAny (model P w) A (.call (.ref f) args) (CR (L2.CX P w) outer P w H s Q E) s
theorem FnG.mono {P : Program} {w : World} {K : PySem.W.Frag} {mg : Str → Option Value} {base : Heap} {j k : Nat} {f : Addr} {fd : FuncData} {ps : List Str} {sp : Sp} (F : FnG P w K mg base j f fd ps sp) (h : j ≤ k) : FnG P w K mg base k f fd ps sp :=
  ⟨F.len, fun A o s H ar us vs Q E hr => F.run A o s H ar us vs Q E (hr.mono h)⟩
/-- from the body, as the layer's own rule -/
theorem fng_of {P : Program} {w : World} {K : PySem.W.Frag} {mg : Str → Option Value} {base : Heap} {k : Nat} {f : Addr} {name qual : Str} {params : Arguments} {body : List Stmt} {scope : Scope}
    {dV kV doc pm cdv ct oc : Value} {an od : Option Addr} {osl : Array (Option Value)} {N ps : List Str} {sp : Sp}
    (lk : K.lookup f = some ⟨oc, od, .func (PySem.W.fnOf name qual params body scope dV kV doc pm an cdv ct), osl⟩) (hcd : PySem.W.codeIn K cdv qual = true) (Sc : FnScope N ps scope)
    (len : ∀ vs H Q E, sp vs H Q E → vs.length = ps.length)
    (hbody : ∀ (A : Around) (outer : List Env) (s : Shared) (H : Hp) (vs : List V) (Q : VK) (E : XK), Room k (A.deeper (envOfC qual scope s.heap.objs.size f cdv)) → A.guards = some [] → sp vs H Q E →
      ∃ t, PSs (cxOf (L2.CX P w) P w K mg base N qual scope f cdv A outer s H E) body t ∧ t { nx := fun _ H' => Q .non H', rt := Q } (start N vs) H) :
    FnG P w K mg base (k + 1) f (PySem.W.fnOf name qual params body scope dV kV doc pm an cdv ct) ps sp := by
  constructor
  · exact len
  intro A outer s H args us vs Q E room gd e0 binds rv want
  have nv := len _ _ _ _ want
  have inK : K.In s.heap := e0.mod.kin.keeps fun b o e => (e0.bs b o e).1
  have noLim : s.heap.NoLimit := e0.mod.nolimit.keeps fun b o e => (e0.bs b o e).1
  have kinds : ∀ y ∈ ps.zip us, scope.names.lookup y.1 = some .local ∨ (scope.names.lookup y.1 = some .cell ∧
      ((cellsFrom (s.heap.objs.size + 1) scope.names []).lookup y.1).isSome = true) := by
    rintro ⟨n, v⟩ hy
    have z := Sc.par n (List.of_mem_zip hy).1
    cases z with
    | inl q => exact .inl q
    | inr q => exact .inr ⟨q, PySem.W.cellsFrom_some _ _ _ (.inl q)⟩
  refine codeAny_call_function room.depth (inK _ _ lk) rfl Sc.co Sc.gen rfl (PySem.W.codeRec_of inK hcd) ?_
  refine binds _ _ _ _ (wpAny_newFunctionEnv_cells Sc.kind kinds ?_)
  intro env henv s1 ic
  cases henv
  refine ⟨noLim.keeps ic.toInCall.keep, codeAny_func ?_⟩
  obtain ⟨t, pt, qt⟩ := hbody A outer s H vs Q E (room.deeper _) gd want
  have inv := inv_start (CX := L2.CX P w) (E := E) Sc room.hd e0 nv rv ic
  have out : ∀ {σ' : L2.St} {H' : Hp} {v : V} {u : Value} {s' : Shared}, Inv (cxOf (L2.CX P w) P w K mg base N qual scope f cdv A outer s H E) [] σ' H' s' → RelV v u → Q v H' → CE outer P w H s Q u s' := by
    intro σ' H' v u s' J r q
    exact ⟨v, H', J.os, J.bare, J.base, J.hok, r, q⟩
  refine wpAny_mono (pt.run [] s1 (start N vs) H _ inv qt) ?_ (fun _ _ z => z)
  intro fl s' hs
  match fl, hs with
  | .ret u, ⟨v, σ', H', J, r, q⟩ => exact out J r q
  | .next, ⟨σ', H', J, q⟩ => exact out (v := V.non) (u := Value.none) J rfl q
  | .brk, ⟨_, _, _, q⟩ => exact q.elim
  | .cont, ⟨_, _, _, q⟩ => exact q.elim

section
variable {X : Cx} {k : Nat} {f : Addr} {fd : FuncData} {ps : List Str} {sp : Sp} {E : XK} {x : Str} {p pos : Pos} {e : Expr} {es : List Expr} {t : TA}
theorem run_g {pins : List (Addr × Obj)} {σ : L2.St} {H : Hp} {s : Shared} {Q : VK} {us : List Value} {vs : List V} (F : FnG X.prog X.w X.K X.mg X.base k f fd ps sp) (hr : Room k X.A) (hg : X.A.guards = some []) (hb : Binds X.K fd ps [])
    (hx : Passes (L2.CX X.prog X.w) X E) (I : Inv X pins σ H s) (r : Vals vs us) (h : sp vs H Q E) : wpAny (model X.prog X.w) X.A (call (.ref f) us) (EP X pins σ Q) X.xe s := by
  have hn : (us ++ []).length = ps.length := by rw [List.append_nil, ← r.length]; exact F.len _ _ _ _ h
  have hb' := hb s us I.kIn hn
  rw [List.append_nil] at hb'
  refine wpAny_call (codeAny_mono (F.run X.A X.stack s H ⟨us, []⟩ us vs Q E hr hg I.env0 hb' r h) ?_)
  intro res s' hq
  match res, hq with
  | .error e, hq => exact hx pins σ H s e s' I hq
  | .ok (.ret u), hq => exact I.after hq
  | .ok .next, hq => exact hq.elim
  | .ok .brk, hq => exact hq.elim
  | .ok .cont, hq => exact hq.elim
theorem pe_g (F : FnG X.prog X.w X.K X.mg X.base k f fd ps sp) (hr : Room k X.A) (hgd : X.A.guards = some []) (hg : Gl X x) (hm : X.mg x = some (.ref f)) (hk : PySem.W.keepIn X.K (.ref f) = true) (hb : Binds X.K fd ps []) (hx : Passes (L2.CX X.prog X.w) X E)
    (ha : PA X (e :: es) t) (hdb : (x == ("__debug__" : Str)) = false) (he : starEach (e :: es) X.env = (false, eval e X.env) :: starEach es X.env) (hpl : (backTo pos (starEach es X.env)).any (·.1) = false) :
    PE X (.Call (.Name x p) (e :: es) [] pos) (fun σ H Q => t σ H fun vs H1 => sp vs H1 Q E) := by
  constructor
  intro pins s σ H Q I h
  refine wpAny_Call_Name_kw (ld_glob I hg hm ?_ hdb)
  refine PySem.W.callWith_K (h₀ := X.base) I.ok.mod.kin hk ?_ he hpl
  refine thn (ha.run pos pins s σ H _ I h) ?_
  rintro us s1 ⟨vs, H1, I1, r, q⟩
  exact ⟨I1.kIn, run_g F hr hgd hb hx I1 r q⟩
end

/-! ### promises by data -/
inductive FR where
  | ret (d : D) (n : D) | ex (c : Str)
/-- io: the first argument is changed in place (n its data behind the call); own: the value is a new object that nobody else holds -/
structure FS where
  n : Nat
  io : Bool
  own : Bool
  f : List D → Option FR
def ArgsOk (K : PySem.W.Frag) (H : Hp) (P : Pr) (io : Bool) (vs : List V) (ds : List D) : Prop :=
  match io with
  | false => DatL K H P vs ds
  | true => ∃ a vs' d ds', vs = .ref a :: vs' ∧ ds = d :: ds' ∧ ¬ P a ∧ OwA K H P a d ∧ DatL K H P vs' ds'
def IoR (io : Bool) (vs : List V) (a : Addr) : Prop := io = true ∧ vs.head? = some (.ref a)
structure Beh (K : PySem.W.Frag) (fs : FS) (vs : List V) (P : Pr) (H : Hp) (d n : D) (v : V) (P' : Pr) (H' : Hp) : Prop where
  le : ∀ a, P a → P' a
  nw : ∀ a, P' a → P a ∨ H a = none
  pal : ∀ a, P' a → ∃ o, H' a = some o
  kp : ∀ a o, H a = some o → ¬ IoR fs.io vs a → H' a = some o
  ex : ∀ a, H' a = none → H a = none
  val : if fs.own = true then ∃ b, v = .ref b ∧ H b = none ∧ ¬ P' b ∧ OwA K H' P' b d else Dat K H' P' v d
  io : fs.io = true → ∃ a, vs.head? = some (.ref a) ∧ ¬ P' a ∧ OwA K H' P' a n
def spOf (K : PySem.W.Frag) (mg : Str → Option Value) (fs : FS) : Sp := fun vs H Q E => vs.length = fs.n ∧ ∃ P ds, (∀ a, P a → ∃ o, H a = some o) ∧ ArgsOk K H P fs.io vs ds ∧
  match fs.f ds with
  | none => False
  | some (.ex c) => ∀ H', (∀ a o, H a = some o → ¬ IoR fs.io vs a → H' a = some o) → ∃ C, mg c = some (.ref C) ∧ E (.ref C) none H'
  | some (.ret d n) => ∀ v P' H', Beh K fs vs P H d n v P' H' → Q v H'
/-- the def of this name keeps this promise -/
structure DefG (P : Program) (w : World) (K : PySem.W.Frag) (mg : Str → Option Value) (base : Heap) (k : Nat) (x : Str) (fs : FS) : Prop where
  ex : ∃ f fd ps, mg x = some (.ref f) ∧ PySem.W.keepIn K (.ref f) = true ∧ Binds K fd ps [] ∧ ps.length = fs.n ∧ FnG P w K mg base k f fd ps (spOf K mg fs)
theorem DefG.mono {P : Program} {w : World} {K : PySem.W.Frag} {mg : Str → Option Value} {base : Heap} {j k : Nat} {x : Str} {fs : FS} (F : DefG P w K mg base j x fs) (h : j ≤ k) : DefG P w K mg base k x fs := by
  obtain ⟨f, fd, ps, a, b, c, d, e⟩ := F.ex
  exact ⟨f, fd, ps, a, b, c, d, e.mono h⟩
end Od

namespace Od
open PySem PySem.Spec PyProof.Rows L2

/-! ### slots that change -/
def reK : Sl → D → Sl
  | .un, _ => .un
  | .sh d, _ => .sh d
  | .ow _, n => .ow n
  | .io _, n => .io n
  | .tk d, _ => .tk d
def ownD (s : S) (i : Nat) : Option D :=
  match s[i]? with
  | some (.ow d) => some d
  | some (.io d) => some d
  | _ => none
def putO (s : S) (i : Nat) (n : D) : S :=
  match s[i]? with
  | some x => s.set i (reK x n)
  | none => s
section
variable {K : PySem.W.Frag} {E : En} {P P' : Pr} {H H' : Hp} {σ : L2.St} {s : S}
theorem getset {α : Type} {l : List α} {i j : Nat} {x y : α} (h : (l.set i y)[j]? = some x) : (j = i ∧ x = y) ∨ (j ≠ i ∧ l[j]? = some x) := by
  by_cases e : j = i
  · subst e
    by_cases hl : j < l.length
    · rw [List.getElem?_set_self hl] at h
      exact .inl ⟨rfl, (Option.some.inj h).symm⟩
    · rw [List.getElem?_eq_none (by simpa using hl)] at h
      cases h
  · rw [List.getElem?_set_ne (Ne.symm e)] at h
    exact .inr ⟨e, h⟩
theorem Stt.ownOf (st : Stt K E P H σ s) {i : Nat} {d : D} (e : ownD s i = some d) : ∃ a, σ[i]? = some (some (.ref a)) ∧ ¬ P a ∧ OwA K H P a d ∧ Own σ s i a ∧ (E.H0 a = none ∨ (E.M a ∧ E.tka = none)) := by
  unfold ownD at e
  cases hx : s[i]? with
  | none => rw [hx] at e; cases e
  | some x =>
    rw [hx] at e
    have q := st.sl i x hx
    cases x with
    | un => cases e
    | sh _ => cases e
    | ow d' => cases e; obtain ⟨a, h1, h2, h3, h4⟩ := q; exact ⟨a, h1, h2, h4, ⟨h1, _, hx, rfl⟩, .inl h3⟩
    | io d' => cases e; obtain ⟨a, h1, h2, h3, h4⟩ := q; exact ⟨a, h1, h2, h4, ⟨h1, _, hx, rfl⟩, .inr h3⟩
    | tk _ => cases e
theorem tk_putO {i j : Nat} {n d : D} (h : (putO s i n)[j]? = some (Sl.tk d)) : s[j]? = some (Sl.tk d) := by
  unfold putO at h
  cases hx : s[i]? with
  | none => rw [hx] at h; exact h
  | some y =>
    rw [hx] at h
    rcases getset h with ⟨e, q⟩ | ⟨e, q⟩
    · subst e
      cases y <;> first | (cases q; done) | exact hx.trans (congrArg some q.symm)
    · exact q
theorem own_putO {i j : Nat} {n : D} {a : Addr} (h : Own σ (putO s i n) j a) : Own σ s j a := by
  obtain ⟨h1, x, h2, h3⟩ := h
  unfold putO at h2
  cases hx : s[i]? with
  | none => rw [hx] at h2; exact ⟨h1, x, h2, h3⟩
  | some y =>
    rw [hx] at h2
    rcases getset h2 with ⟨e, q⟩ | ⟨e, q⟩
    · subst e; subst q
      refine ⟨h1, y, hx, ?_⟩
      cases y <;> first | rfl | exact h3 | cases h3
    · exact ⟨h1, x, q, h3⟩
/-- behind what changed the object of slot i alone -/
theorem Stt.mutO (st : Stt K E P H σ s) {i : Nat} {d n : D} {a : Addr} (e : ownD s i = some d) (ha : σ[i]? = some (some (.ref a))) (le : ∀ b, P b → P' b) (nw : ∀ b, P' b → P b ∨ H b = none) (pal : ∀ b, P' b → ∃ o, H' b = some o)
    (kp : ∀ b o, H b = some o → b ≠ a → H' b = some o) (ex : ∀ b, H' b = none → H b = none) (np : ¬ P' a) (ow : OwA K H' P' a n) : Stt K E P' H' σ (putO s i n) ∧ Gr E σ s (putO s i n) P H P' H' := by
  obtain ⟨a', h1, h2, h3, h4, h5⟩ := st.ownOf e
  rw [ha] at h1; cases h1
  have pk : Pk P H P' H' := ⟨le, fun b o q z => kp b o z fun w => by subst w; exact h2 q⟩
  have np' : ∀ b, Owns σ s b → ¬ P' b := fun b o q => by
    rcases nw b q with z | z
    · exact st.own_np o z
    · exact st.noOwn z o
  have mp' : ∀ b, E.M b → ¬ P' b := fun b m o => by
    rcases nw b o with z | z
    · exact st.mp b m z
    · exact st.noM z m
  refine ⟨⟨?_, fun j x hj => ?_, fun j k b o1 o2 => st.dj j k b (own_putO o1) (own_putO o2), fun b q => le b (st.pg b q), fun b q => ?_, pal, fun b o q m => ?_, fun b m => ?_, mp', st.m0, st.tk.sub fun j d z => ⟨d, tk_putO z⟩⟩, ⟨le, fun b o q no _ => kp b o q fun w => ?_, fun b q => ?_, fun b ⟨j, o⟩ => ⟨j, own_putO o⟩, ex⟩⟩
  · unfold putO
    split
    · rw [List.length_set]; exact st.len
    · exact st.len
  · unfold putO at hj
    cases hx : s[i]? with
    | none => unfold ownD at e; rw [hx] at e; cases e
    | some y =>
      rw [hx] at hj
      rcases getset hj with ⟨ej, q⟩ | ⟨ej, q⟩
      · subst ej
        subst q
        have w := st.sl j y hx
        unfold ownD at e
        rw [hx] at e
        cases y with
        | un => cases e
        | sh _ => cases e
        | ow d' =>
          obtain ⟨b, w1, w2, w3, w4⟩ := w
          rw [ha] at w1; cases w1
          exact ⟨a, ha, np, w3, ow⟩
        | io d' =>
          obtain ⟨b, w1, w2, w3, w4⟩ := w
          rw [ha] at w1; cases w1
          exact ⟨a, ha, np, w3, ow⟩
        | tk _ => cases e
      · have w := st.sl j x q
        cases x with
        | un => trivial
        | sh d' => obtain ⟨v, w1, w2⟩ := w; exact ⟨v, w1, w2.k pk⟩
        | ow d' =>
          obtain ⟨b, w1, w2, w3, w4⟩ := w
          have o : Own σ s j b := ⟨w1, _, q, rfl⟩
          have nb : b ≠ a := fun z => by subst z; exact ej (st.dj _ _ _ o h4)
          exact ⟨b, w1, np' b ⟨j, o⟩, w3, w4.keep pk fun u z => kp b u z nb⟩
        | io d' =>
          obtain ⟨b, w1, w2, w3, w4⟩ := w
          have o : Own σ s j b := ⟨w1, _, q, rfl⟩
          have nb : b ≠ a := fun z => by subst z; exact ej (st.dj _ _ _ o h4)
          exact ⟨b, w1, np' b ⟨j, o⟩, w3, w4.keep pk fun u z => kp b u z nb⟩
        | tk d' =>
          obtain ⟨b, m, w1, w2⟩ := w
          refine ⟨b, m, w1, w2.keep pk fun c u hc z => kp c u z fun zc => ?_⟩
          rcases hc with hc | hc
          · exact w2.notOw h3 (hc.symm.trans zc)
          · subst zc
            rcases h5 with q5 | q5
            · obtain ⟨o, w⟩ := st.m0 c hc
              rw [q5] at w; cases w
            · rw [m] at q5; exact nomatch q5.2
  · rcases nw b q with z | z
    · exact st.pn b z
    · exact .inr (st.h0 z)
  · refine kp b o (st.kp b o q m) fun w => ?_
    subst w
    rcases h5 with z | z
    · rw [q] at z; cases z
    · exact m z.1
  · cases z : H' b with
    | some o => exact ⟨o, rfl⟩
    | none =>
      obtain ⟨o, w⟩ := st.mx b m
      rw [ex b z] at w; cases w
  · subst w; exact no ⟨i, h4⟩
  · rcases nw b q with z | z
    · exact .inl z
    · exact .inr (.inl z)
/-- behind what changed nothing that was -/
theorem Stt.more (st : Stt K E P H σ s) (le : ∀ b, P b → P' b) (nw : ∀ b, P' b → P b ∨ H b = none) (pal : ∀ b, P' b → ∃ o, H' b = some o)
    (kp : ∀ b o, H b = some o → H' b = some o) (ex : ∀ b, H' b = none → H b = none) : Stt K E P' H' σ s ∧ Gr E σ s s P H P' H' := by
  have pk : Pk P H P' H' := ⟨le, fun b o q z => kp b o z⟩
  have np' : ∀ b, Owns σ s b → ¬ P' b := fun b o q => by
    rcases nw b q with z | z
    · exact st.own_np o z
    · exact st.noOwn z o
  have mp' : ∀ b, E.M b → ¬ P' b := fun b m o => by
    rcases nw b o with z | z
    · exact st.mp b m z
    · exact st.noM z m
  refine ⟨⟨st.len, fun j x q => ?_, st.dj, fun b q => le b (st.pg b q), fun b q => ?_, pal, fun b o q m => kp b o (st.kp b o q m), fun b m => let ⟨o, w⟩ := st.mx b m; ⟨o, kp b o w⟩, mp', st.m0, st.tk⟩, ⟨le, fun b o q no _ => kp b o q, fun b q => ?_, fun b o => o, ex⟩⟩
  · have w := st.sl j x q
    cases x with
    | un => trivial
    | sh d' => obtain ⟨v, w1, w2⟩ := w; exact ⟨v, w1, w2.k pk⟩
    | ow d' => obtain ⟨b, w1, w2, w3, w4⟩ := w; exact ⟨b, w1, np' b ⟨j, w1, _, q, rfl⟩, w3, w4.keep pk fun u z => kp b u z⟩
    | io d' => obtain ⟨b, w1, w2, w3, w4⟩ := w; exact ⟨b, w1, np' b ⟨j, w1, _, q, rfl⟩, w3, w4.keep pk fun u z => kp b u z⟩
    | tk d' => obtain ⟨b, m, w1, w2⟩ := w; exact ⟨b, m, w1, w2.keep pk fun c u _ z => kp c u z⟩
  · rcases nw b q with z | z
    · exact st.pn b z
    · exact .inr (st.h0 z)
  · rcases nw b q with z | z
    · exact .inl z
    · exact .inr (.inl z)
end

/-! ### calls of defs -/
section
variable {G : Gam} {a b c e : Expr} {es : List Expr} {fa fb fc : De D} {fs : FS} {fl : De (List D)} {pos p : Pos} {x : Str}
theorem Cls.call {X : Cx} (h : Cls G X) {t : TA} (F : DefG G.P G.w G.K G.mg G.base G.k x fs) (hg : G.sc.names.lookup x = some .globalImplicit) (ha : PA X (e :: es) t) (hdb : (x == ("__debug__" : Str)) = false)
    (he : starEach (e :: es) X.env = (false, eval e X.env) :: starEach es X.env) (hpl : (backTo pos (starEach es X.env)).any (·.1) = false) :
    PE X (.Call (.Name x p) (e :: es) [] pos) (fun σ H Q => t σ H fun vs H1 => spOf G.K G.mg fs vs H1 Q G.E) := by
  obtain ⟨f, fd, ps, h1, h2, h3, h4, h5⟩ := F.ex
  refine pe_g (f := f) (fd := fd) (ps := ps) (k := G.k) (sp := spOf G.K G.mg fs) ?_ h.rm h.gd (h.gl hg) (by rw [h.mg]; exact h1) (by rw [h.K]; exact h2) (by rw [h.K]; exact h3) h.pass ha hdb he hpl
  rw [h.prog, h.w, h.K, h.mg, h.base]
  exact h5
def dFn (fs : FS) (fl : De (List D)) : De D := bnd fl fun ds s => if ds.length = fs.n then
    match fs.f ds with
    | some (.ret d _) => some (.ok d s)
    | some (.ex c) => some (.ex c)
    | none => none
  else none
theorem sp_call (hi : fs.io = false) {E : En} {P : Pr} {H : Hp} {σ : L2.St} {s : S} {vs : List V} {ds : List D} {Q : VK} {R : D → S → Pr → Hp → Prop} (st : Stt G.K E P H σ s) (hv : DatL G.K H P vs ds)
    (h : Po G E P H σ s (if ds.length = fs.n then (match fs.f ds with | some (.ret d _) => some (.ok d s) | some (.ex c) => some (.ex c) | none => none) else none) R)
    (k : ∀ d n v P' H', R d s P' H' → Beh G.K fs vs P H d n v P' H' → Q v H') : spOf G.K G.mg fs vs H Q G.E := by
  split at h
  · rename_i hl
    refine ⟨by rw [hv.len]; exact hl, P, ds, st.pal, ?_, ?_⟩
    · unfold ArgsOk
      rw [hi]
      exact hv
    · cases ef : fs.f ds with
      | none => rw [ef] at h; exact h.elim
      | some r =>
        rw [ef] at h
        cases r with
        | ex c => exact fun H' q => h H' fun a o z m => q a o (st.kp a o z m) fun w => by rw [hi] at w; exact nomatch w.1
        | ret d n =>
          intro v P' H' be
          obtain ⟨st', gr'⟩ := st.more be.le be.nw be.pal (fun b o z => be.kp b o z fun w => by rw [hi] at w; exact nomatch w.1) be.ex
          exact k d n v P' H' (h P' H' st' gr') be
  · exact h.elim
theorem e_fn (F : DefG G.P G.w G.K G.mg G.base G.k x fs) (hi : fs.io = false) (ho : fs.own = false) (hh1 : SA G (e :: es) fl) (hg : G.sc.names.lookup x = some .globalImplicit := by rfl) (hdb : (x == ("__debug__" : Str)) = false := by decide) (he : ∀ X : Cx, starEach (e :: es) X.env = (false, eval e X.env) :: starEach es X.env := by intro _; rfl) (hpl : ∀ X : Cx, (backTo pos (starEach es X.env)).any (·.1) = false := by intro _; rfl) :
    SE G (.Call (.Name x p) (e :: es) [] pos) (dFn fs fl) := by
  revert hh1
 
  rintro ⟨ta, pa, ha⟩
  refine ⟨_, fun X h => h.call F hg (pa X h) hdb (he X) (hpl X), fun E P H σ s Q st hp => ha E P H σ s _ st (po_step hp fun ds s1 P1 H1 ee st1 gr1 h1 vs hv => ?_)⟩
  refine sp_call hi st1 hv h1 fun d n v P' H' r be => r v ?_
  have z := be.val
  rw [ho, if_neg (by decide)] at z
  exact z
theorem o_fn (F : DefG G.P G.w G.K G.mg G.base G.k x fs) (hi : fs.io = false) (ho : fs.own = true) (hh1 : SA G (e :: es) fl) (hg : G.sc.names.lookup x = some .globalImplicit := by rfl) (hdb : (x == ("__debug__" : Str)) = false := by decide) (he : ∀ X : Cx, starEach (e :: es) X.env = (false, eval e X.env) :: starEach es X.env := by intro _; rfl) (hpl : ∀ X : Cx, (backTo pos (starEach es X.env)).any (·.1) = false := by intro _; rfl) :
    SO G (.Call (.Name x p) (e :: es) [] pos) (dFn fs fl) := by
  revert hh1
 
  rintro ⟨ta, pa, ha⟩
  refine ⟨_, fun X h => h.call F hg (pa X h) hdb (he X) (hpl X), fun E P H σ s Q st hp => ha E P H σ s _ st (po_step hp fun ds s1 P1 H1 ee st1 gr1 h1 vs hv => ?_)⟩
  refine sp_call hi st1 hv h1 fun d n v P' H' r be => ?_
  have z := be.val
  rw [ho, if_pos rfl] at z
  obtain ⟨b, rfl, n1, n2, n3⟩ := z
  exact r b (gr1.ex b n1) n2 n3
/-- f(y, ..), y an object of one's own that f changes -/
def dFnI (fs : FS) (i : Nat) (fl : De (List D)) : De D := fun s0 =>
  match ownD s0 i with
  | none => none
  | some _ => (bnd fl fun ds s => if ds.length + 1 = fs.n then
    match ownD s i with
    | some d0 => (match fs.f (d0 :: ds) with
      | some (.ret d n) => some (.ok d (putO s i n))
      | some (.ex c) => some (.ex c)
      | none => none)
    | none => none
  else none) s0
theorem te_fnI (hi : fs.io = true) {i : Nat} {ta : TA} (ha : TAok G ta fl) {E : En} {P : Pr} {H : Hp} {σ : L2.St} {s : S} {Q : VK} {R : D → S → Pr → Hp → Prop} (st : Stt G.K E P H σ s) (h : Po G E P H σ s (dFnI fs i fl s) R)
    (k : ∀ vs1 s1 P1 H1 d n v P' H', Gr E σ s s1 P H P1 H1 → R d (putO s1 i n) P' H' → Beh G.K fs vs1 P1 H1 d n v P' H' → Q v H') :
    (tVar i σ H fun v H1 => ta σ H1 fun vs H2 => spOf G.K G.mg fs (v :: vs) H2 Q G.E) := by
  unfold dFnI at h
  cases e0 : ownD s i with
  | none => rw [e0] at h; exact h.elim
  | some d0 =>
    rw [e0] at h
    obtain ⟨r, hr, _, _, _, _⟩ := st.ownOf e0
    refine ⟨.ref r, hr, ha E P H σ s _ st (po_step h fun ds s1 P1 H1 ee st1 gr1 h1 vs hv => ?_)⟩
    split at h1
    · rename_i hl
      cases e1 : ownD s1 i with
      | none => rw [e1] at h1; exact h1.elim
      | some d1 =>
        rw [e1] at h1
        obtain ⟨r', hr', np, ow, own, hm⟩ := st1.ownOf e1
        rw [hr] at hr'; cases hr'
        refine ⟨by rw [List.length_cons, hv.len]; exact hl, P1, d1 :: ds, st1.pal, ?_, ?_⟩
        · unfold ArgsOk
          rw [hi]
          exact ⟨r, vs, d1, ds, rfl, rfl, np, ow, hv⟩
        · dsimp only at h1
          cases ef : fs.f (d1 :: ds) with
          | none => rw [ef] at h1; exact h1.elim
          | some rr =>
            rw [ef] at h1
            cases rr with
            | ex c =>
              refine fun H' q => h1 H' fun a o z m => q a o (st1.kp a o z m) fun w => ?_
              have w2 : a = r := by have w2 := w.2; simp at w2; exact w2.symm
              subst w2
              rcases hm with w | w
              · rw [z] at w; cases w
              · exact m w.1
            | ret d n =>
              intro v P' H' be
              obtain ⟨r2, er2, n2, o2⟩ := be.io hi
              have er3 : r2 = r := by simp at er2; exact er2.symm
              subst er3
              obtain ⟨st', gr'⟩ := st1.mutO e1 hr be.le be.nw be.pal (fun b o z nb => be.kp b o z fun w => nb (by have w2 := w.2; simp at w2; exact w2.symm)) be.ex n2 o2
              exact k (.ref r2 :: vs) s1 P1 H1 d n v P' H' gr1 (h1 P' H' st' gr') be
    · exact h1.elim
theorem pa_fnI {i : Nat} {y : Str} {py : Pos} {ta : TA} {X : Cx} (h : Cls G X) (hN : G.N[i]? = some y) (hv : Vis G.sc y) (hd : (y == ("__debug__" : Str)) = false) (hcd : (y == ("__classdict__" : Str)) = false)
    (hs : starEach (.Name y py :: es) X.env = (false, eval (.Name y py) X.env) :: starEach es X.env) (pa : PA X es ta) : PA X (.Name y py :: es) (tCons (tVar i) ta) :=
  pa_cons (pe_var (i := i) (by rw [h.N]; exact hN) (by rw [h.sc]; exact hv) hd hcd) pa hs
theorem e_fnI (i : Nat) {y : Str} {py : Pos} (F : DefG G.P G.w G.K G.mg G.base G.k x fs) (hi : fs.io = true) (ho : fs.own = false) (hh1 : SA G es fl) (hN : G.N[i]? = some y := by rfl) (hv : Vis G.sc y := by first | exact Or.inl rfl | exact Or.inr (Or.inl rfl) | exact Or.inr (Or.inr rfl)) (hg : G.sc.names.lookup x = some .globalImplicit := by rfl) (hdb : (x == ("__debug__" : Str)) = false := by decide) (hd : (y == ("__debug__" : Str)) = false := by decide) (hcd : (y == ("__classdict__" : Str)) = false := by decide) (he : ∀ X : Cx, starEach (.Name y py :: es) X.env = (false, eval (.Name y py) X.env) :: starEach es X.env := by intro _; rfl) (hpl : ∀ X : Cx, (backTo pos (starEach es X.env)).any (·.1) = false := by intro _; rfl) :
    SE G (.Call (.Name x p) (.Name y py :: es) [] pos) (dFnI fs i fl) := by
  revert hh1
 
  rintro ⟨ta, pa, ha⟩
  refine ⟨_, fun X h => h.call F hg (pa_fnI h hN hv hd hcd (he X) (pa X h)) hdb (he X) (hpl X), fun E P H σ s Q st hp => ?_⟩
  refine te_fnI hi ha st hp fun vs1 s1 P1 H1 d n v P' H' gr r be => r v ?_
  have z := be.val
  rw [ho, if_neg (by decide)] at z
  exact z
theorem o_fnI (i : Nat) {y : Str} {py : Pos} (F : DefG G.P G.w G.K G.mg G.base G.k x fs) (hi : fs.io = true) (ho : fs.own = true) (hh1 : SA G es fl) (hN : G.N[i]? = some y := by rfl) (hv : Vis G.sc y := by first | exact Or.inl rfl | exact Or.inr (Or.inl rfl) | exact Or.inr (Or.inr rfl)) (hg : G.sc.names.lookup x = some .globalImplicit := by rfl) (hdb : (x == ("__debug__" : Str)) = false := by decide) (hd : (y == ("__debug__" : Str)) = false := by decide) (hcd : (y == ("__classdict__" : Str)) = false := by decide) (he : ∀ X : Cx, starEach (.Name y py :: es) X.env = (false, eval (.Name y py) X.env) :: starEach es X.env := by intro _; rfl) (hpl : ∀ X : Cx, (backTo pos (starEach es X.env)).any (·.1) = false := by intro _; rfl) :
    SO G (.Call (.Name x p) (.Name y py :: es) [] pos) (dFnI fs i fl) := by
  revert hh1
 
  rintro ⟨ta, pa, ha⟩
  refine ⟨_, fun X h => h.call F hg (pa_fnI h hN hv hd hcd (he X) (pa X h)) hdb (he X) (hpl X), fun E P H σ s Q st hp => ?_⟩
  refine te_fnI hi ha st hp fun vs1 s1 P1 H1 d n v P' H' gr r be => ?_
  have z := be.val
  rw [ho, if_pos rfl] at z
  obtain ⟨b, rfl, n1, n2, n3⟩ := z
  exact r b (gr.ex b n1) n2 n3
end
end Od

namespace Od
open PySem PySem.Spec PyProof.Rows L2

/-! ### storing -/
section
variable {K : PySem.W.Frag} {E : En} {P P' : Pr} {H H' : Hp} {σ : L2.St} {s : S}
theorem set_at {i : Nat} {v : V} {y : Sl} (hl : σ.length = s.length) (h : (s.set i y)[i]? = some y) : (σ.set i (some v))[i]? = some (some v) := by
  by_cases q : i < s.length
  · rw [List.getElem?_set_self (by omega)]
  · rw [List.getElem?_eq_none (by simpa using q)] at h
    cases h
theorem set_off {i j : Nat} {v : V} (e : j ≠ i) : (σ.set i (some v))[j]? = σ[j]? := List.getElem?_set_ne (Ne.symm e)
theorem own_setSh {i j : Nat} {v : V} {d : D} {a : Addr} (h : Own (σ.set i (some v)) (s.set i (.sh d)) j a) : Own σ s j a := by
  obtain ⟨h1, x, h2, h3⟩ := h
  rcases getset h2 with ⟨e, q⟩ | ⟨e, q⟩
  · subst q; cases h3
  · rw [set_off e] at h1
    exact ⟨h1, x, q, h3⟩
theorem Stt.setSh (st : Stt K E P H σ s) {i : Nat} {v : V} {d : D} (dv : Dat K H P v d) : Stt K E P H (σ.set i (some v)) (s.set i (.sh d)) := by
  have own : ∀ j a, Own (σ.set i (some v)) (s.set i (.sh d)) j a → Own σ s j a := by
    rintro j a ⟨h1, x, h2, h3⟩
    rcases getset h2 with ⟨e, q⟩ | ⟨e, q⟩
    · subst q; cases h3
    · rw [set_off e] at h1
      exact ⟨h1, x, q, h3⟩
  refine ⟨by rw [List.length_set, List.length_set]; exact st.len, fun j x hj => ?_, fun j k a o1 o2 => st.dj j k a (own j a o1) (own k a o2), st.pg, st.pn, st.pal, st.kp, st.mx, st.mp, st.m0, st.tk.set rfl⟩
  rcases getset hj with ⟨e, q⟩ | ⟨e, q⟩
  · subst e; subst q
    exact ⟨v, set_at st.len hj, dv⟩
  · rw [set_off e]
    exact st.sl j x q
theorem Stt.setOw (st : Stt K E P H σ s) {i : Nat} {a : Addr} {d : D} (np : ¬ P a) (e0 : E.H0 a = none) (no : ¬ Owns σ s a) (ow : OwA K H P a d) : Stt K E P H (σ.set i (some (.ref a))) (s.set i (.ow d)) := by
  have own : ∀ j b, Own (σ.set i (some (.ref a))) (s.set i (.ow d)) j b → (j = i ∧ b = a) ∨ (j ≠ i ∧ Own σ s j b) := by
    rintro j b ⟨h1, x, h2, h3⟩
    rcases getset h2 with ⟨e, q⟩ | ⟨e, q⟩
    · subst e; subst q
      rw [set_at st.len h2] at h1
      cases h1
      exact .inl ⟨rfl, rfl⟩
    · rw [set_off e] at h1
      exact .inr ⟨e, h1, x, q, h3⟩
  refine ⟨by rw [List.length_set, List.length_set]; exact st.len, fun j x hj => ?_, fun j k b o1 o2 => ?_, st.pg, st.pn, st.pal, st.kp, st.mx, st.mp, st.m0, st.tk.set rfl⟩
  · rcases getset hj with ⟨e, q⟩ | ⟨e, q⟩
    · subst e; subst q
      exact ⟨a, set_at st.len hj, np, e0, ow⟩
    · rw [set_off e]
      exact st.sl j x q
  · rcases own j b o1 with ⟨e1, q1⟩ | ⟨e1, q1⟩ <;> rcases own k b o2 with ⟨e2, q2⟩ | ⟨e2, q2⟩
    · rw [e1, e2]
    · subst q1; exact (no ⟨k, q2⟩).elim
    · subst q2; exact (no ⟨j, q1⟩).elim
    · exact st.dj j k b q1 q2
end

/-! ### what statements do -/
inductive Ou where
  | nx (s : S) | rt (d : D) (s : S) | bk (s : S) | ct (s : S) | ex (c : Str)
abbrev DeS := S → Option Ou
def RtOk (G : Gam) (E : En) (P' : Pr) (H' : Hp) (v : V) (d : D) : Prop := if G.own = true then ∃ b, v = .ref b ∧ E.H0 b = none ∧ ¬ P' b ∧ OwA G.K H' P' b d else Dat G.K H' P' v d
def PoS (G : Gam) (E : En) (P : Pr) (H : Hp) (r : Option Ou) (N : Ends) : Prop :=
  match r with
  | none => False
  | some (.nx s') => ∀ σ' P' H', Stt G.K E P' H' σ' s' → Pk P H P' H' → N.nx σ' H'
  | some (.bk s') => ∀ σ' P' H', Stt G.K E P' H' σ' s' → Pk P H P' H' → N.bk σ' H'
  | some (.ct s') => ∀ σ' P' H', Stt G.K E P' H' σ' s' → Pk P H P' H' → N.ct σ' H'
  | some (.rt d s') => ∀ v σ' P' H', Stt G.K E P' H' σ' s' → RtOk G E P' H' v d → N.rt v H'
  | some (.ex c) => ∀ H', (∀ a o, E.H0 a = some o → ¬ E.M a → H' a = some o) → ∃ C, G.mg c = some (.ref C) ∧ G.E (.ref C) none H'
theorem pos_pk {G : Gam} {E : En} {P P1 : Pr} {H H1 : Hp} {r : Option Ou} {N : Ends} (h : PoS G E P H r N) (k : Pk P H P1 H1) : PoS G E P1 H1 r N := by
  cases r with
  | none => exact h
  | some r =>
    cases r with
    | nx s' => exact fun σ' P' H' st q => h σ' P' H' st (k.trans q)
    | bk s' => exact fun σ' P' H' st q => h σ' P' H' st (k.trans q)
    | ct s' => exact fun σ' P' H' st q => h σ' P' H' st (k.trans q)
    | rt d s' => exact h
    | ex c => exact h
def TSok (G : Gam) (t : TS) (f : DeS) : Prop := ∀ E P H σ s N, Stt G.K E P H σ s → PoS G E P H (f s) N → t N σ H
def SS (G : Gam) (st : Stmt) (f : DeS) : Prop := ∃ t, (∀ X, Cls G X → PS X st t) ∧ TSok G t f
def SB (G : Gam) (st : List Stmt) (f : DeS) : Prop := ∃ t, (∀ X, Cls G X → PSs X st t) ∧ TSok G t f
def sNil : DeS := fun s => some (.nx s)
def sSeq (f g : DeS) : DeS := fun s =>
  match f s with
  | some (.nx s1) => g s1
  | r => r
/-- an expression's end, as a statement's -/
def sE {α : Type} (f : De α) (g : α → S → Option Ou) : DeS := fun s =>
  match f s with
  | none => none
  | some (.ok a s1) => g a s1
  | some (.ex c) => some (.ex c)
section
variable {G : Gam} {a b c e : Expr} {es : List Expr} {fa fb fc : De D} {ga : De Bool} {fs : FS} {fl : De (List D)} {pos p : Pos} {x : Str} {st1 : Stmt} {sts as bs : List Stmt} {f g h : DeS}
theorem pos_e {α : Type} {E : En} {P : Pr} {H : Hp} {σ : L2.St} {s : S} {N : Ends} {f : De α} {g : α → S → Option Ou} {R : α → S → Pr → Hp → Prop} (st : Stt G.K E P H σ s) (h : PoS G E P H (sE f g s) N)
    (k : ∀ d s1 P1 H1, Stt G.K E P1 H1 σ s1 → Gr E σ s s1 P H P1 H1 → PoS G E P1 H1 (g d s1) N → R d s1 P1 H1) : Po G E P H σ s (f s) R := by
  unfold sE at h
  cases e : f s with
  | none => rw [e] at h; exact h
  | some r =>
    rw [e] at h
    cases r with
    | ex c => exact h
    | ok d s1 => exact fun P1 H1 st1 gr1 => k d s1 P1 H1 st1 gr1 (pos_pk h (gr1.pk st))
theorem b_nil : SB G [] sNil := ⟨_, fun X h => pss_nil, fun E P H σ s N st h => h σ P H st Pk.refl⟩
theorem b_cons : SS G st1 f → SB G sts g → SB G (st1 :: sts) (sSeq f g) := by
  rintro ⟨t, p1, h1⟩ ⟨u, p2, h2⟩
  refine ⟨_, fun X h => pss_cons (p1 X h) (p2 X h), fun E P H σ s N st h => h1 E P H σ s _ st ?_⟩
  unfold sSeq at h
  cases e : f s with
  | none => rw [e] at h; exact h
  | some r =>
    rw [e] at h
    cases r with
    | nx s1 => exact fun σ' P' H' st' k => h2 E P' H' σ' s1 N st' (pos_pk h k)
    | bk s1 => exact h
    | ct s1 => exact h
    | rt d s1 => exact h
    | ex c => exact h
theorem b_one : SS G st1 f → SB G [st1] f := by
  rintro ⟨t, p1, h1⟩
  exact ⟨_, fun X h => pss_one (p1 X h), h1⟩
theorem s_pass : SS G (.Pass pos) sNil := ⟨_, fun X h => ps_pass, fun E P H σ s N st h => h σ P H st Pk.refl⟩
def sBk : DeS := fun s => some (.bk s)
def sCt : DeS := fun s => some (.ct s)
theorem s_break : SS G (.Break pos) sBk := ⟨_, fun X h => ps_break, fun E P H σ s N st h => h σ P H st Pk.refl⟩
theorem s_continue : SS G (.Continue pos) sCt := ⟨_, fun X h => ps_continue, fun E P H σ s N st h => h σ P H st Pk.refl⟩
def sDrop (f : De D) : DeS := sE f fun _ s => some (.nx s)
theorem s_expr (hh1 : SE G e fa) (hs : ∀ X : Cx, swapsWith e none pos.line X.env = pure false := by intro _; rfl) :
    SS G (.Expr e pos) (sDrop fa) := by
  revert hh1
 
  rintro ⟨te, pe, he⟩
  refine ⟨_, fun X h => ps_expr (pe X h) (hs X), fun E P H σ s N st hp => he E P H σ s _ st (pos_e st hp fun d s1 P1 H1 st1 gr1 h1 v dv => h1 σ P1 H1 st1 Pk.refl)⟩
def sRet (f : De D) : DeS := sE f fun d s => some (.rt d s)
theorem s_ret (ho : G.own = false) : SE G e fa → SS G (.Return (some e) pos) (sRet fa) := by
  rintro ⟨te, pe, he⟩
  refine ⟨_, fun X h => ps_ret (pe X h), fun E P H σ s N st hp => he E P H σ s _ st (pos_e st hp fun d s1 P1 H1 st1 gr1 h1 v dv => h1 v σ P1 H1 st1 ?_)⟩
  unfold RtOk
  rw [ho, if_neg (by decide)]
  exact dv
theorem s_retO (ho : G.own = true) : SO G e fa → SS G (.Return (some e) pos) (sRet fa) := by
  rintro ⟨te, pe, he⟩
  refine ⟨_, fun X h => ps_ret (pe X h), fun E P H σ s N st hp => he E P H σ s _ st (pos_e st hp fun d s1 P1 H1 st1 gr1 h1 a n1 n2 ow => h1 _ σ P1 H1 st1 ?_)⟩
  unfold RtOk
  rw [ho, if_pos rfl]
  exact ⟨a, rfl, st.h0 n1, n2, ow⟩
/-- a new object of a slot, handed out -/
def sRetN (i : Nat) : DeS := fun s =>
  match s[i]? with
  | some (.ow d) => some (.rt d s)
  | _ => none
theorem s_retN (i : Nat) {y : Str} {py : Pos} (ho : G.own = true) (hN : G.N[i]? = some y := by rfl) (hv : Vis G.sc y := by first | exact Or.inl rfl | exact Or.inr (Or.inl rfl) | exact Or.inr (Or.inr rfl))
    (hd : (y == ("__debug__" : Str)) = false := by decide) (hcd : (y == ("__classdict__" : Str)) = false := by decide) : SS G (.Return (some (.Name y py)) pos) (sRetN i) := by
  refine ⟨_, fun X h => ps_ret (pe_var (i := i) (by rw [h.N]; exact hN) (by rw [h.sc]; exact hv) hd hcd), fun E P H σ s N st hp => ?_⟩
  unfold sRetN at hp
  cases hx : s[i]? with
  | none => rw [hx] at hp; exact hp.elim
  | some x =>
    rw [hx] at hp
    cases x <;> first | exact hp.elim | skip
    rename_i d
    obtain ⟨b, h1, h2, h3, h4⟩ := st.sl i _ hx
    refine ⟨.ref b, h1, hp _ σ P H st ?_⟩
    unfold RtOk
    rw [ho, if_pos rfl]
    exact ⟨b, rfl, h3, h2, h4⟩
/-- .. where the promise does not say that it is new -/
def sRetL (i : Nat) : DeS := fun s =>
  match s[i]? with
  | some (.ow (.list ds)) => some (.rt (.list ds) s)
  | _ => none
def sRetNo : DeS := fun s => some (.rt .none s)
theorem s_retNo (ho : G.own = false) : SS G (.Return none pos) sRetNo := by
  refine ⟨_, fun X h => ps_retN, fun E P H σ s N st hp => hp _ σ P H st ?_⟩
  unfold RtOk
  rw [ho, if_neg (by decide)]
  exact .non
def sIf (c : De Bool) (f g : DeS) : DeS := sE c fun b => match b with
  | true => f
  | false => g
theorem s_if : ST G c ga → SB G as f → SB G bs g → SS G (.If c as bs pos) (sIf ga f g) := by
  rintro ⟨tc, pc, hc⟩ ⟨t, p1, h1⟩ ⟨u, p2, h2⟩
  refine ⟨_, fun X h => ps_if (pc X h) (p1 X h) (p2 X h), fun E P H σ s N st hp => hc E P H σ s _ st (pos_e st hp fun d s1 P1 H1 st1 gr1 hd => ?_)⟩
  cases d with
  | true => rw [if_pos rfl]; exact h1 E P1 H1 σ s1 N st1 hd
  | false => rw [if_neg (by decide)]; exact h2 E P1 H1 σ s1 N st1 hd

/-! ### targets -/
def SG (G : Gam) (tg : Expr) (ts : List Nat) (bd : D → S → Option S) : Prop := ∃ g, (∀ X, Cls G X → PG X tg g) ∧
  ∀ E P H σ s v d s1 Q, Stt G.K E P H σ s → Dat G.K H P v d → bd d s = some s1 → (∀ σ1, Stt G.K E P H σ1 s1 → (∀ j, j ∉ ts → σ1[j]? = σ[j]?) → (∀ a, Owns σ1 s1 a → Owns σ s a) → σ1.length = σ.length → Q σ1 H) → g v σ H Q
def bName (i : Nat) : D → S → Option S := fun d s => some (s.set i (.sh d))
theorem g_name (i : Nat) {y : Str} {py : Pos} (hN : G.N[i]? = some y := by rfl) (hl : Loc G.sc y := by first | exact Or.inl rfl | exact Or.inr rfl) (hf : G.fn y = true ∨ G.sc.names.lookup y = some .local := by first | exact Or.inl rfl | exact Or.inr rfl) : SG G (.Name y py) [i] (bName i) := by
  refine ⟨_, fun X h => pg_name (i := i) h.nd (by rw [h.N]; exact hN) (by rw [h.sc]; exact hl) ?_, fun E P H σ s v d s1 Q st dv e k => ?_⟩
  · rcases hf with z | z
    · exact .inl (h.fn y z)
    · rw [h.sc]; exact .inr z
  · cases e
    exact k _ (st.setSh dv) (fun j hj => set_off fun z => hj (by simp [z])) (fun a ⟨j, o⟩ => ⟨j, own_setSh o⟩) (by rw [List.length_set])
def SGs (G : Gam) (tgs : List Expr) (ts : List Nat) (bd : List D → S → Option S) : Prop := ∃ g, (∀ X, Cls G X → PGs X tgs g) ∧
  ∀ E P H σ s vs ds s1 Q, Stt G.K E P H σ s → DatL G.K H P vs ds → bd ds s = some s1 → (∀ σ1, Stt G.K E P H σ1 s1 → (∀ j, j ∉ ts → σ1[j]? = σ[j]?) → (∀ a, Owns σ1 s1 a → Owns σ s a) → σ1.length = σ.length → Q σ1 H) → g vs σ H Q
def bNil : List D → S → Option S := fun ds s => match ds with
  | [] => some s
  | _ :: _ => none
def bCons (f : D → S → Option S) (g : List D → S → Option S) : List D → S → Option S := fun ds s => match ds with
  | [] => none
  | d :: r => (f d s).bind fun s1 => g r s1
theorem gs_nil : SGs G [] [] bNil := by
  refine ⟨_, fun X h => pgs_nil, fun E P H σ s vs ds s1 Q st dv e k => ?_⟩
  cases dv with
  | nil => cases e; exact ⟨rfl, k σ st (fun _ _ => rfl) (fun _ o => o) rfl⟩
  | cons _ _ => cases e
theorem gs_cons {tgs : List Expr} {t1 t2 : List Nat} {bd : D → S → Option S} {bds : List D → S → Option S} (hh1 : SG G e t1 bd) (hh2 : SGs G tgs t2 bds) (hs : ∀ X : Cx, (assignEach (e :: tgs) X.env).map (·.2) = assign e X.env :: (assignEach tgs X.env).map (·.2) := by intro _; rfl) :
    SGs G (e :: tgs) (t1 ++ t2) (bCons bd bds) := by
  revert hh1 hh2
 
  rintro ⟨g1, p1, h1⟩ ⟨g2, p2, h2⟩
  refine ⟨_, fun X h => pgs_cons (p1 X h) (p2 X h) (hs X), fun E P H σ s vs ds s1 Q st dv e k => ?_⟩
  cases dv with
  | nil => cases e
  | cons d1 d2 =>
    obtain ⟨s2, e1, e2⟩ := Option.bind_eq_some_iff.mp (show Option.bind _ _ = some s1 from e)
    exact ⟨_, _, rfl, h1 E P H σ s _ _ s2 _ st d1 e1 fun σ1 st1 l1 o1 n1 => h2 E P H σ1 s2 _ _ s1 Q st1 d2 e2 fun σ2 st2 l2 o2 n2 => k σ2 st2 (fun j hj => (l2 j fun z => hj (List.mem_append_right _ z)).trans (l1 j fun z => hj (List.mem_append_left _ z))) (fun a o => o1 a (o2 a o)) (n2.trans n1)⟩
def bTup (n : Nat) (bds : List D → S → Option S) : D → S → Option S := fun d s => match d with
  | .tuple ds => if ds.length = n then bds ds s else none
  | _ => none
theorem g_tup {tgs : List Expr} {ts : List Nat} {k n : Nat} {bds : List D → S → Option S} (hh1 : SGs G tgs ts bds) (hn : ∀ X : Cx, (assignEach tgs X.env).length = n := by intro _; rfl) (hst : ∀ X : Cx, (assignEach tgs X.env).findIdx? (·.1) = none := by intro _; rfl) :
    SG G (.Tuple tgs k pos) ts (bTup n bds) := by
  revert hh1
 
  rintro ⟨g1, p1, h1⟩
  refine ⟨gTup G.K n g1, fun X h => by have z := pg_tup (k := k) (pos := pos) h.calm (p1 X h) (hn X) (hst X); rw [h.K] at z; exact z, fun E P H σ s v d s1 Q st dv e k => ?_⟩
  cases d <;> first | (cases e; done) | skip
  unfold bTup at e
  dsimp only at e
  split at e
  · rename_i hl
    obtain ⟨q, xs, rfl, w1, w2, w3⟩ := dv.tupOf
    exact ⟨q, xs, rfl, .of w2, by rw [w3.len]; exact hl, h1 E P H σ s xs _ s1 Q st w3 e k⟩
  · cases e
def sAsg (f : De D) (bd : D → S → Option S) : DeS := sE f fun d s => (bd d s).map .nx
theorem s_set (i : Nat) {y : Str} {py : Pos} (hh1 : SE G e fa) (hN : G.N[i]? = some y := by rfl) (hl : Loc G.sc y := by first | exact Or.inl rfl | exact Or.inr rfl) (hf : G.fn y = true ∨ G.sc.names.lookup y = some .local := by first | exact Or.inl rfl | exact Or.inr rfl) (hs : ∀ X : Cx, Cls G X → swapsWith e (some (.Name y py)) pos.line X.env = pure false := by intro _ _; rfl) :
    SS G (.Assign [.Name y py] e pos) (sAsg fa (bName i)) := by
  revert hh1
 
  rintro ⟨te, pe, he⟩
  refine ⟨_, fun X h => ps_set (i := i) h.nd (by rw [h.N]; exact hN) (by rw [h.sc]; exact hl) (pe X h) (hs X h) ?_, fun E P H σ s N st hp => he E P H σ s _ st (pos_e st hp fun d s1 P1 H1 st1 gr1 h1 v dv => ?_)⟩
  · rcases hf with z | z
    · exact .inl (h.fn y z)
    · rw [h.sc]; exact .inr z
  · exact h1 _ P1 H1 (st1.setSh dv) Pk.refl
def sSetO (i : Nat) (f : De D) : DeS := sE f fun d s => some (.nx (s.set i (.ow d)))
theorem s_setO (i : Nat) {y : Str} {py : Pos} (hh1 : SO G e fa) (hN : G.N[i]? = some y := by rfl) (hl : Loc G.sc y := by first | exact Or.inl rfl | exact Or.inr rfl) (hf : G.fn y = true ∨ G.sc.names.lookup y = some .local := by first | exact Or.inl rfl | exact Or.inr rfl) (hs : ∀ X : Cx, Cls G X → swapsWith e (some (.Name y py)) pos.line X.env = pure false := by intro _ _; rfl) :
    SS G (.Assign [.Name y py] e pos) (sSetO i fa) := by
  revert hh1
 
  rintro ⟨te, pe, he⟩
  refine ⟨_, fun X h => ps_set (i := i) h.nd (by rw [h.N]; exact hN) (by rw [h.sc]; exact hl) (pe X h) (hs X h) ?_, fun E P H σ s N st hp => he E P H σ s _ st (pos_e st hp fun d s1 P1 H1 st1 gr1 h1 b n1 n2 ow => ?_)⟩
  · rcases hf with z | z
    · exact .inl (h.fn y z)
    · rw [h.sc]; exact .inr z
  · exact h1 _ P1 H1 (st1.setOw n2 (st.h0 n1) (fun z => st.noOwn n1 (gr1.ow b z)) ow) Pk.refl
/-- any target -/
theorem s_asg {tg : Expr} {ts : List Nat} {bd : D → S → Option S} (hh1 : SE G e fa) (hh2 : SG G tg ts bd) (hs : ∀ X : Cx, swapsWithSole [tg] e pos.line X.env = pure false := by intro _; rfl) (hw : ∀ X : Cx, swappedStores [tg] e X.env = pure none := by intro _; rfl) (h1 : ∀ X : Cx, (assignEach [tg] X.env).map (·.2) = [assign tg X.env] := by intro _; rfl) :
    SS G (.Assign [tg] e pos) (sAsg fa bd) := by
  revert hh1 hh2
 
  rintro ⟨te, pe, he⟩ ⟨g1, pg, hg⟩
  refine ⟨_, fun X h => ps_asg (pe X h) (pg X h) (hs X) (hw X) (h1 X), fun E P H σ s N st hp => he E P H σ s _ st (pos_e st hp fun d s1 P1 H1 st1 gr1 h1 v dv => ?_)⟩
  cases eb : bd d s1 with
  | none => rw [eb] at h1; exact h1.elim
  | some s2 =>
    rw [eb] at h1
    exact hg E P1 H1 σ s1 v d s2 _ st1 dv eb fun σ1 st2 l o n => h1 σ1 P1 H1 st2 Pk.refl
end
end Od

namespace Od
open PySem PySem.Spec PyProof.Rows L2

/-! ### dicts by data -/
def keyOf : D → Option Key
  | .int i => some (.inl i)
  | .str x => some (.inr x)
  | _ => none
def keysOf : List D → Option (List Key)
  | [] => some []
  | d :: r => (keyOf d).bind fun k => (keysOf r).map (k :: ·)
def lookK (k : Key) : List (D × D) → Option D
  | [] => none
  | (x, v) :: r => if keyOf x = some k then some v else lookK k r
def lookT (k : List Key) : List (D × D) → Option D
  | [] => none
  | (.tuple x, v) :: r => if keysOf x = some k then some v else lookT k r
  | _ :: r => lookT k r
def putDK (k : Key) (v : D) (kvs : List (D × D)) : List (D × D) :=
  if (lookK k kvs).isSome = true then kvs.map fun p => if keyOf p.1 = some k then (p.1, v) else p else kvs ++ [(kD k, v)]
def tupKeys : D → Option (List Key)
  | .tuple x => keysOf x
  | _ => none
def putDT (k : List Key) (v : D) (kvs : List (D × D)) : List (D × D) :=
  if (lookT k kvs).isSome = true then kvs.map fun p => if tupKeys p.1 = some k then (p.1, v) else p else kvs ++ [(.tuple (k.map kD), v)]
theorem keyOf_kD (k : Key) : keyOf (kD k) = some k := by cases k <;> rfl
theorem keysOf_kD : ∀ ks : List Key, keysOf (ks.map kD) = some ks
  | [] => rfl
  | k :: ks => by
    show (keyOf (kD k)).bind _ = _
    rw [keyOf_kD]
    show (keysOf (ks.map kD)).map _ = _
    rw [keysOf_kD ks]
    rfl
theorem keyOf_some {d : D} {k : Key} (e : keyOf d = some k) : d = kD k := by
  cases d <;> first | (cases e; done) | (cases e; rfl)
theorem keysOf_some : ∀ {ds : List D} {ks : List Key}, keysOf ds = some ks → ds = ks.map kD
  | [], ks, e => by cases e; rfl
  | d :: r, ks, e => by
    obtain ⟨k, e1, e2⟩ := Option.bind_eq_some_iff.mp (show Option.bind _ _ = some ks from e)
    obtain ⟨kr, e3, e4⟩ := Option.map_eq_some_iff.mp e2
    subst e4
    rw [keyOf_some e1, keysOf_some e3]
    rfl
section
variable {K : PySem.W.Frag} {H : Hp} {P : Pr}
theorem Dat.kv {v : V} {k : Key} (h : Dat K H P v (kD k)) : v = kV k := by
  cases k with
  | inl i => exact h.intOf
  | inr x => exact h.strOf
theorem DatL.kvs : ∀ {vs : List V} {ks : List Key}, DatL K H P vs (ks.map kD) → vs = ks.map kV
  | vs, [], h => by cases h; rfl
  | vs, k :: ks, h => by
    cases h with
    | cons a t => rw [a.kv, DatL.kvs t]; rfl
theorem DatK.get : ∀ {l : List (Key × V)} {kvs : List (D × D)} {k : Key}, DatK K H P l kvs → (valV l k).isSome = (lookK k kvs).isSome ∧ ∀ d, lookK k kvs = some d → ∃ v, valV l k = some v ∧ Dat K H P v d
  | _, _, k, .nil => ⟨rfl, nofun⟩
  | _, _, k, .cons (k := k') (v := v) (d := d') (l := l) (kvs := kvs) a b => by
    obtain ⟨i1, i2⟩ := DatK.get (k := k) b
    have e1 : lookK k ((kD k', d') :: kvs) = if k' = k then some d' else lookK k kvs := by
      show (if keyOf (kD k') = some k then _ else _) = _
      rw [keyOf_kD]
      by_cases q : k' = k
      · rw [if_pos q, if_pos (congrArg some q)]
      · rw [if_neg q, if_neg fun z => q (Option.some.inj z)]
    rw [e1]
    by_cases q : k' = k
    · rw [if_pos q, valV_pos (p := (k', v)) q]
      exact ⟨rfl, fun d e => by cases e; exact ⟨v, rfl, a⟩⟩
    · rw [if_neg q, valV_neg (p := (k', v)) q]
      exact ⟨i1, i2⟩
theorem DatT.get : ∀ {l : List (List Key × V)} {kvs : List (D × D)} {k : List Key}, DatT K H P l kvs → (valV l k).isSome = (lookT k kvs).isSome ∧ ∀ d, lookT k kvs = some d → ∃ v, valV l k = some v ∧ Dat K H P v d
  | _, _, k, .nil => ⟨rfl, nofun⟩
  | _, _, k, .cons (k := k') (v := v) (d := d') (l := l) (kvs := kvs) a b => by
    obtain ⟨i1, i2⟩ := DatT.get (k := k) b
    have e1 : lookT k ((.tuple (k'.map kD), d') :: kvs) = if k' = k then some d' else lookT k kvs := by
      show (if keysOf (k'.map kD) = some k then _ else _) = _
      rw [keysOf_kD]
      by_cases q : k' = k
      · rw [if_pos q, if_pos (congrArg some q)]
      · rw [if_neg q, if_neg fun z => q (Option.some.inj z)]
    rw [e1]
    by_cases q : k' = k
    · rw [if_pos q, valV_pos (p := (k', v)) q]
      exact ⟨rfl, fun d e => by cases e; exact ⟨v, rfl, a⟩⟩
    · rw [if_neg q, valV_neg (p := (k', v)) q]
      exact ⟨i1, i2⟩
theorem DatK.app : ∀ {l m : List (Key × V)} {kvs kws : List (D × D)}, DatK K H P l kvs → DatK K H P m kws → DatK K H P (l ++ m) (kvs ++ kws)
  | _, _, _, _, .nil, h => h
  | _, _, _, _, .cons a b, h => .cons a (b.app h)
theorem DatT.app : ∀ {l m : List (List Key × V)} {kvs kws : List (D × D)}, DatT K H P l kvs → DatT K H P m kws → DatT K H P (l ++ m) (kvs ++ kws)
  | _, _, _, _, .nil, h => h
  | _, _, _, _, .cons a b, h => .cons a (b.app h)
theorem DatK.repl {v : V} {d : D} (dv : Dat K H P v d) {k : Key} : ∀ {l : List (Key × V)} {kvs : List (D × D)}, DatK K H P l kvs →
    DatK K H P (l.map fun kv => if kv.1 = k then (kv.1, v) else kv) (kvs.map fun p => if keyOf p.1 = some k then (p.1, d) else p)
  | _, _, .nil => .nil
  | _, _, .cons (k := k') a b => by
    rw [List.map_cons, List.map_cons]
    dsimp only
    rw [keyOf_kD]
    by_cases q : k' = k
    · rw [if_pos q, if_pos (congrArg some q)]; exact .cons dv (b.repl dv)
    · rw [if_neg q, if_neg fun z => q (Option.some.inj z)]; exact .cons a (b.repl dv)
theorem DatT.repl {v : V} {d : D} (dv : Dat K H P v d) {k : List Key} : ∀ {l : List (List Key × V)} {kvs : List (D × D)}, DatT K H P l kvs →
    DatT K H P (l.map fun kv => if kv.1 = k then (kv.1, v) else kv) (kvs.map fun p => if tupKeys p.1 = some k then (p.1, d) else p)
  | _, _, .nil => .nil
  | _, _, .cons (k := k') a b => by
    rw [List.map_cons, List.map_cons]
    dsimp only
    have e : tupKeys (.tuple (k'.map kD)) = some k' := keysOf_kD k'
    rw [e]
    by_cases q : k' = k
    · rw [if_pos q, if_pos (congrArg some q)]; exact .cons dv (b.repl dv)
    · rw [if_neg q, if_neg fun z => q (Option.some.inj z)]; exact .cons a (b.repl dv)
theorem DatK.put {l : List (Key × V)} {kvs : List (D × D)} {k : Key} {v : V} {d : D} (h : DatK K H P l kvs) (dv : Dat K H P v d) : DatK K H P (putK l k v) (putDK k d kvs) := by
  unfold putK putDK
  rw [valV_any, (h.get (k := k)).1]
  split
  · exact h.repl dv
  · exact h.app (.cons dv .nil)
theorem DatT.put {l : List (List Key × V)} {kvs : List (D × D)} {k : List Key} {v : V} {d : D} (h : DatT K H P l kvs) (dv : Dat K H P v d) : DatT K H P (putK l k v) (putDT k d kvs) := by
  unfold putK putDT
  rw [valV_any, (h.get (k := k)).1]
  split
  · exact h.repl dv
  · exact h.app (.cons dv .nil)
theorem DatK.len : ∀ {l : List (Key × V)} {kvs : List (D × D)}, DatK K H P l kvs → l.length = kvs.length
  | _, _, .nil => rfl
  | _, _, .cons _ b => congrArg (· + 1) b.len
theorem DatT.len : ∀ {l : List (List Key × V)} {kvs : List (D × D)}, DatT K H P l kvs → l.length = kvs.length
  | _, _, .nil => rfl
  | _, _, .cons _ b => congrArg (· + 1) b.len
/-- a dict that may be looked at -/
theorem Vw.dicOf {v : V} {kvs : List (D × D)} (h : Vw K H P v (.dict kvs)) (n : ∀ ds, kvs ≠ [(.none, .list ds)]) :
    ∃ a, v = .ref a ∧ ((∃ l, H a = some (.dK l) ∧ DatK K H P l kvs) ∨ ∃ l m, kvs = (.none, .none) :: m ∧ H a = some (.dT l) ∧ DatT K H P l m) := by
  rcases h with h | ⟨a, e, h⟩
  · cases h with
    | scr q l => exact (n _ rfl).elim
    | dcK p r l => exact ⟨_, rfl, .inl ⟨_, r, l⟩⟩
    | dcT p r l => exact ⟨_, rfl, .inr ⟨_, _, rfl, r, l⟩⟩
  · exact ⟨a, e, h⟩
end
/-- kvs[k]: what stands there, if anything -/
def dGet : List (D × D) → D → Option (Option D)
  | (.none, .none) :: m, .tuple ks => (keysOf ks).map fun k => lookT k m
  | (.none, _) :: _, _ => none
  | kvs, d => (keyOf d).map fun k => lookK k kvs
theorem dGet_of {K : PySem.W.Frag} {H : Hp} {P : Pr} {x y : V} {kvs : List (D × D)} {d : D} {o : Option D} (hx : Vw K H P x (.dict kvs)) (hy : Vw K H P y d) (e : dGet kvs d = some o) :
    ∃ a r, x = .ref a ∧ DGet H a y r ∧ r.isSome = o.isSome ∧ ∀ z, o = some z → ∃ v, r = some v ∧ Dat K H P v z := by
  have low : ∀ k, keyOf d = some k → o = lookK k kvs → (∀ ds, kvs ≠ [(.none, .list ds)]) → (∀ m, kvs ≠ (.none, .none) :: m) →
      ∃ a r, x = .ref a ∧ DGet H a y r ∧ r.isSome = o.isSome ∧ ∀ z, o = some z → ∃ v, r = some v ∧ Dat K H P v z := by
    intro k ek eo n1 n2
    obtain ⟨a, rfl, ⟨l, h1, h2⟩ | ⟨l, m, h0, _⟩⟩ := hx.dicOf n1
    · have ed := keyOf_some ek
      subst ed
      have ey : y = kV k := by
        have q : Dat K H P y (kD k) := hy.dat (fun ds => by cases k <;> exact nofun) (fun ds => by cases k <;> exact nofun)
        exact q.kv
      subst ey
      subst eo
      obtain ⟨i1, i2⟩ := h2.get (k := k)
      exact ⟨a, _, rfl, .k h1, i1, i2⟩
    · exact (n2 m h0).elim
  unfold dGet at e
  split at e
  · rename_i m ks
    obtain ⟨k, ek, eo⟩ := Option.map_eq_some_iff.mp e
    obtain ⟨a, rfl, ⟨l, h1, h2⟩ | ⟨l, m', h0, h1, h2⟩⟩ := hx.dicOf fun ds => by intro z; cases z
    · generalize hk : (PyData.none, PyData.none) :: m = kk at h2
      cases h2 with
      | nil => cases hk
      | cons _ _ =>
        injection hk with q1 q2
        injection q1 with q3 q4
        exact (kD_none q3.symm).elim
    · cases h0
      have eks := keysOf_some ek
      subst eks
      obtain ⟨b, xs, rfl, _, w1, w2⟩ := hy.tupOf
      have ex := w2.kvs
      subst ex
      subst eo
      obtain ⟨i1, i2⟩ := h2.get (k := k)
      exact ⟨a, _, rfl, .t h1 w1, i1, i2⟩
  · cases e
  · rename_i n1 n2
    obtain ⟨k, ek, eo⟩ := Option.map_eq_some_iff.mp e
    refine low k ek eo.symm (fun ds z => ?_) (fun m z => ?_)
    · first | exact n2 _ _ z | exact n1 _ _ z
    · first | exact n2 _ _ z | exact n1 _ _ z
def oDix : D → D → Option D
  | .dict kvs, d => (dGet kvs d).bind id
  | _, _ => none
def oDin (neg : Bool) : D → D → Option D
  | d, .dict kvs => (dGet kvs d).map fun o => .bool (if neg = true then !o.isSome else o.isSome)
  | _, _ => none
section
variable {G : Gam} {a b c e : Expr} {es : List Expr} {fa fb fc : De D} {ga : De Bool} {fs : FS} {fl : De (List D)} {pos p : Pos} {x : Str} {st1 : Stmt} {sts as bs : List Stmt} {f g h : DeS} {oa ob : Opd}
theorem Cls.u1 {X : Cx} (h : Cls G X) : X.A.units + 1 < cLine := hu_of h.rm
theorem e_dix (hh1 : SV G a oa) (hh2 : SV G b ob) (hs : NoSl b := by exact fun _ _ => rfl) :
    SE G (.Subscript a b pos) (d2 oa ob oDix) := by
  revert hh1 hh2
 
  rintro ⟨ta, pa, ha⟩ ⟨tb, pb, hb⟩
  refine ⟨tOp (fun x y H Q => ∃ a v, x = .ref a ∧ DGet H a y (some v) ∧ Q v H) ta tb, fun X h => pe_dget h.u1 (pa X h) (pb X h) hs, te_2 ha hb fun E P H σ s x y dx dy d Q st hx hy e k => ?_⟩
  cases dx <;> first | (cases e; done) | skip
  obtain ⟨o, e1, e2⟩ := Option.bind_eq_some_iff.mp (show Option.bind _ _ = some d from e)
  have e2 : o = some d := e2
  obtain ⟨q, r, rfl, g1, g2, g3⟩ := dGet_of hx hy e1
  obtain ⟨v, rfl, dv⟩ := g3 d e2
  exact ⟨q, v, rfl, g1, k v P H st Gr.refl dv⟩
theorem t_din (hh1 : SV G a oa) (hh2 : SV G b ob) (hm : behindInMarks .In b = false := by first | exact nobehind _ (by decide) (by decide) | rfl) :
    ST G (.Compare a [.In] [b] pos) (dB (d2 oa ob (oDin false))) := by
  revert hh1 hh2
 
  rintro ⟨ta, pa, ha⟩ ⟨tb, pb, hb⟩
  refine ⟨_, fun X h => pt_cmp (t := tOp (fun y x H Q => ∃ a o, x = .ref a ∧ DGet H a y o ∧ Q (.bl o.isSome) H) ta tb) (pc_din h.u1 (pa X h) (pb X h)) hm, fun E P H σ s Q st hp => te_2 ha hb (op := oDin false) (fun E P H σ s x y dx dy d Q st hx hy e k => ?_) E P H σ s _ st (po_step hp fun d s1 P1 H1 ee st1 gr1 h1 v hv => ?_)⟩
  · cases dy <;> first | (cases e; done) | skip
    obtain ⟨o, e1, rfl⟩ := Option.map_eq_some_iff.mp (show Option.map _ _ = some d from e)
    obtain ⟨q, r, rfl, g1, g2, g3⟩ := dGet_of hy hx e1
    refine ⟨q, r, rfl, g1, ?_⟩
    rw [g2]
    exact k _ P H st Gr.refl (.bl _)
  · cases d <;> first | exact h1.elim | skip
    rename_i b
    exact ⟨b, hv.blOf, h1 P1 H1 st1 Gr.refl⟩
theorem t_dni (hh1 : SV G a oa) (hh2 : SV G b ob) (hm : behindInMarks .NotIn b = false := by first | exact nobehind _ (by decide) (by decide) | rfl) :
    ST G (.Compare a [.NotIn] [b] pos) (dB (d2 oa ob (oDin true))) := by
  revert hh1 hh2
 
  rintro ⟨ta, pa, ha⟩ ⟨tb, pb, hb⟩
  refine ⟨_, fun X h => pt_cmp (t := tOp (fun y x H Q => ∃ a o, x = .ref a ∧ DGet H a y o ∧ Q (.bl (!o.isSome)) H) ta tb) (pc_dnotin h.u1 (pa X h) (pb X h)) hm, fun E P H σ s Q st hp => te_2 ha hb (op := oDin true) (fun E P H σ s x y dx dy d Q st hx hy e k => ?_) E P H σ s _ st (po_step hp fun d s1 P1 H1 ee st1 gr1 h1 v hv => ?_)⟩
  · cases dy <;> first | (cases e; done) | skip
    obtain ⟨o, e1, rfl⟩ := Option.map_eq_some_iff.mp (show Option.map _ _ = some d from e)
    obtain ⟨q, r, rfl, g1, g2, g3⟩ := dGet_of hy hx e1
    refine ⟨q, r, rfl, g1, ?_⟩
    rw [g2]
    exact k _ P H st Gr.refl (.bl _)
  · cases d <;> first | exact h1.elim | skip
    rename_i b
    exact ⟨b, hv.blOf, h1 P1 H1 st1 Gr.refl⟩
theorem e_din (hh1 : SV G a oa) (hh2 : SV G b ob) (hm : behindInMarks .In b = false := by first | exact nobehind _ (by decide) (by decide) | rfl) :
    SE G (.Compare a [.In] [b] pos) (d2 oa ob (oDin false)) := by
  revert hh1 hh2
 
  rintro ⟨ta, pa, ha⟩ ⟨tb, pb, hb⟩
  refine ⟨tOp (fun y x H Q => ∃ a o, x = .ref a ∧ DGet H a y o ∧ Q (.bl o.isSome) H) ta tb, fun X h => pe_cmp (pc_din h.u1 (pa X h) (pb X h)) hm, te_2 ha hb fun E P H σ s x y dx dy d Q st hx hy e k => ?_⟩
  cases dy <;> first | (cases e; done) | skip
  obtain ⟨o, e1, rfl⟩ := Option.map_eq_some_iff.mp (show Option.map _ _ = some d from e)
  obtain ⟨q, r, rfl, g1, g2, g3⟩ := dGet_of hy hx e1
  refine ⟨q, r, rfl, g1, ?_⟩
  rw [g2]
  exact k _ P H st Gr.refl (.bl _)

/-! ### objects of one's own, changed -/
/-- the object of slot i: what is done with the arguments -/
def mutC (i : Nat) (fl : De (List D)) (g : D → List D → Option D) : DeS := sE fl fun ds s => (ownD s i).bind fun d => (g d ds).map fun n => .nx (putO s i n)
def sMut (i : Nat) (fl : De (List D)) (g : D → List D → Option D) : DeS := fun s0 =>
  match ownD s0 i with
  | some (.list _) => mutC i fl g s0
  | _ => none
def sMutD (i : Nat) (fl : De (List D)) (g : D → List D → Option D) : DeS := fun s0 =>
  match ownD s0 i with
  | some (.dict _) => mutC i fl g s0
  | _ => none
theorem sMut_some {E : En} {P : Pr} {H : Hp} {s : S} {N : Ends} {i : Nat} {fl : De (List D)} {gm : D → List D → Option D} {G : Gam} (hp : PoS G E P H (sMut i fl gm s) N) : ∃ l, ownD s i = some (.list l) ∧ PoS G E P H (mutC i fl gm s) N := by
  unfold sMut at hp
  split at hp
  · rename_i e; exact ⟨_, e, hp⟩
  · exact hp.elim
theorem sMutD_some {E : En} {P : Pr} {H : Hp} {s : S} {N : Ends} {i : Nat} {fl : De (List D)} {gm : D → List D → Option D} {G : Gam} (hp : PoS G E P H (sMutD i fl gm s) N) : ∃ l, ownD s i = some (.dict l) ∧ PoS G E P H (mutC i fl gm s) N := by
  unfold sMutD at hp
  split at hp
  · rename_i e; exact ⟨_, e, hp⟩
  · exact hp.elim
theorem pos_mut {E : En} {P : Pr} {H : Hp} {σ : L2.St} {s : S} {N : Ends} {i : Nat} {gm : D → List D → Option D} (st : Stt G.K E P H σ s) {d0 : D} (e0 : ownD s i = some d0) (hp : PoS G E P H (mutC i fl gm s) N) (R : V → List V → Hp → Prop)
    (k : ∀ (q : Addr) vs ds P1 H1 d n, σ[i]? = some (some (.ref q)) → ¬ P1 q → OwA G.K H1 P1 q d → DatL G.K H1 P1 vs ds → gm d ds = some n →
      (∀ o, OwA G.K (upd H1 q o) P1 q n → N.nx σ (upd H1 q o)) → R (.ref q) vs H1) : ∃ q, σ[i]? = some (some (.ref q)) ∧ OwA G.K H P q d0 ∧ Po G E P H σ s (fl s) (fun ds _ P' H' => ∀ vs, DatL G.K H' P' vs ds → R (.ref q) vs H') := by
  obtain ⟨q, hq, n0, w0, _, _⟩ := st.ownOf e0
  refine ⟨q, hq, w0, pos_e st hp fun ds s1 P1 H1 st1 gr1 h1 vs hv => ?_⟩
  have h1 : PoS G E P1 H1 ((ownD s1 i).bind fun d => (gm d ds).map fun n => .nx (putO s1 i n)) N := h1
  · skip
    cases e1 : ownD s1 i with
    | none => rw [e1] at h1; exact h1.elim
    | some d1 =>
      rw [e1] at h1
      obtain ⟨q', hq', np, ow, own, hm⟩ := st1.ownOf e1
      rw [hq] at hq'; cases hq'
      have h1 : PoS G E P1 H1 ((gm d1 ds).map fun n => .nx (putO s1 i n)) N := h1
      cases eg : gm d1 ds with
      | none => rw [eg] at h1; exact h1.elim
      | some n =>
        rw [eg] at h1
        refine k q vs ds P1 H1 d1 n hq np ow hv eg fun o wo => ?_
        have ke : ∀ b u, H1 b = some u → b ≠ q → (upd H1 q o) b = some u := fun b u z nb => by rw [upd_ne nb]; exact z
        obtain ⟨st2, gr2⟩ := st1.mutO e1 hq (fun _ z => z) (fun _ z => .inl z) (fun b z => by
          obtain ⟨u, z2⟩ := st1.pal b z
          exact ⟨u, ke b u z2 fun w => by subst w; exact np z⟩) ke (fun b z => by
            by_cases w : b = q
            · subst w; rw [upd_same] at z; cases z
            · rw [upd_ne w] at z; exact z) np wo
        exact h1 σ P1 _ st2 (gr2.pk st1)
def gApp : D → List D → Option D
  | .list ds, [d] => if ds.length < 100000 then some (.list (ds ++ [d])) else none
  | _, _ => none
theorem lt5 {n : Nat} (h : n < 100000) : n < sizeLine := Nat.lt_of_lt_of_le h (by decide)
theorem tyV_own {q : Addr} {d : D} {P : Pr} {H : Hp} (w : OwA G.K H P q d) {ds : List D} (e : d = .list ds) : tyV G.K "list" (.ref q) H := by
  subst e
  obtain ⟨xs, h1, _⟩ := w
  exact .inl ⟨rfl, xs, .of h1⟩
variable {y : Str} {py apos cpos : Pos} {id : String} {m : Str}
/-- y.m(..) of a list of one's own, the value dropped -/
theorem s_mut (i : Nat) {r : V → List V → Hp → VK → Prop} {gm : D → List D → Option D} (slot : Slot "list" m id) (hty : typeOf (.builtin id) = pure (.type "method_descriptor")) (hm : ∀ X, Cls G X → MtR X id r) (hi : ∀ d ds n, gm d ds = some n → ∃ l, d = .list l)
    (k : ∀ q vs ds (P : Pr) H d n Q, ¬ P q → OwA G.K H P q d → DatL G.K H P vs ds → gm d ds = some n → (∀ o v, OwA G.K (upd H q o) P q n → Q v (upd H q o)) → r (.ref q) vs H Q)
    (hN : G.N[i]? = some y) (hv : Vis G.sc y) (hd : (y == ("__debug__" : Str)) = false) (hcd : (y == ("__classdict__" : Str)) = false)
    (hbase : ∀ X : Cx, attributeBase (.Name y py) m X.env (eval (.Name y py) X.env) = eval (.Name y py) X.env)
    (hfew : ∀ X : Cx, ((backTo cpos (starEach (e :: es) X.env)).all (fun x => !x.1) && (backToKw cpos (keywordEach [] X.env)).all (fun x => x.1.isSome)
      && decide ((e :: es).length + ([] : List Keyword).length + (if ([] : List Keyword).isEmpty then 0 else 1) < 30)) = true)
    (hline : (apos.endLine == cpos.line) = true) (hs : ∀ X : Cx, starEach (e :: es) X.env = (false, eval e X.env) :: starEach es X.env) (hpl : ∀ X : Cx, (backTo cpos (starEach es X.env)).any (·.1) = false)
    (hsw : ∀ X : Cx, swapsWith (.Call (.Attribute (.Name y py) m apos) (e :: es) [] cpos) none pos.line X.env = pure false) :
    SA G (e :: es) fl → SS G (.Expr (.Call (.Attribute (.Name y py) m apos) (e :: es) [] cpos) pos) (sMut i fl gm) := by
  rintro ⟨ta, pa, ha⟩
  refine ⟨tDrop (tBM G.K "list" r (tVar i) ta), fun X h => ps_expr ?_ (hsw X), fun E P H σ s N st hp => ?_⟩
  · have z := pe_bm PySem.F.plainAttrs_list slot hty (hm X h) (pe_var (i := i) (pos := py) (by rw [h.N]; exact hN) (by rw [h.sc]; exact hv) hd hcd) (pa X h) (hbase X) (hfew X) hline (hs X) (hpl X)
    rw [h.K] at z
    exact z
  · obtain ⟨l0, e0, hp⟩ := sMut_some hp
    obtain ⟨q, hq, w0, hr⟩ := pos_mut st e0 hp (fun x vs H1 => r x vs H1 fun _ H2 => N.nx σ H2) fun q vs ds P1 H1 d n hq np ow dv eg kk => k q vs ds P1 H1 d n _ np ow dv eg fun o v wo => kk o wo
    exact ⟨_, hq, tyV_own w0 rfl, ha E P H σ s _ st hr⟩
/-- y.append(e) -/
theorem r_app : ∀ q vs ds (P : Pr) H d n Q, ¬ P q → OwA G.K H P q d → DatL G.K H P vs ds → gApp d ds = some n → (∀ o v, OwA G.K (upd H q o) P q n → Q v (upd H q o)) → rAppend (.ref q) vs H Q := by
  intro q vs ds P H d n Q np ow dv eg k
  unfold gApp at eg
  split at eg
  · split at eg
    · rename_i hl
      cases eg
      obtain ⟨xs, h1, h2⟩ := ow
      cases dv with
      | cons d1 d2 =>
        cases d2
        have pk : ∀ o, Pk P H P (upd H q o) := fun o => ⟨fun _ z => z, fun b u z w => by rw [upd_ne fun v => np (by subst v; exact z)]; exact w⟩
        exact ⟨q, xs, _, rfl, rfl, h1, by rw [h2.len]; exact lt5 hl, k _ _ ⟨_, upd_same, (h2.app (.cons d1 .nil)).k (pk _)⟩⟩
    · cases eg
  · cases eg
theorem s_app (i : Nat) (hh1 : SE G e fa) (hN : G.N[i]? = some y := by rfl) (hv : Vis G.sc y := by first | exact Or.inl rfl | exact Or.inr (Or.inl rfl) | exact Or.inr (Or.inr rfl)) (hd : (y == ("__debug__" : Str)) = false := by decide) (hcd : (y == ("__classdict__" : Str)) = false := by decide) (hbase : ∀ X : Cx, attributeBase (.Name y py) ("append" : Str) X.env (eval (.Name y py) X.env) = eval (.Name y py) X.env := by intro _; rfl) (hfew : ∀ X : Cx, ((backTo cpos (starEach [e] X.env)).all (fun x => !x.1) && (backToKw cpos (keywordEach [] X.env)).all (fun x => x.1.isSome)
      && decide (([e] : List Expr).length + ([] : List Keyword).length + (if ([] : List Keyword).isEmpty then 0 else 1) < 30)) = true := by intro _; rfl) (hline : (apos.endLine == cpos.line) = true := by rfl) (hs : ∀ X : Cx, starEach [e] X.env = [(false, eval e X.env)] := by intro _; rfl) (hsw : ∀ X : Cx, swapsWith (.Call (.Attribute (.Name y py) ("append" : Str) apos) [e] [] cpos) none pos.line X.env = pure false := by intro _; rfl) :
    SS G (.Expr (.Call (.Attribute (.Name y py) ("append" : Str) apos) [e] [] cpos) pos) (sMut i (dCons fa dNil) gApp) :=
  (fun he =>
  s_mut i PySem.F.slot_list_append PySem.F.type_list_append (fun X h => mt_append) (fun d ds n eg => by
    unfold gApp at eg
    split at eg
    · exact ⟨_, rfl⟩
    · cases eg) r_app hN hv hd hcd hbase hfew hline hs (fun _ => rfl) hsw (a_cons (hs := hs) he a_nil)) hh1
/-- y.insert(k, e) -/
def gIns : D → List D → Option D
  | .list ds, [.int i, d] => if ds.length < 100000 ∧ 0 ≤ i ∧ i < 2 ^ 63 then some (.list (ds.take i.toNat ++ [d] ++ ds.drop i.toNat)) else none
  | _, _ => none
def rIns : V → List V → Hp → VK → Prop := fun x vs H Q => ∃ (l : Addr) (xs : List V) (i : Int) (y : V), x = .ref l ∧ vs = [.int i, y] ∧ H l = some (.lst xs) ∧ xs.length < sizeLine ∧ 0 ≤ i ∧ i < 2 ^ 63 ∧
    Q .non (upd H l (.lst (xs.take i.toNat ++ [y] ++ xs.drop i.toNat)))
theorem r_ins : ∀ q vs ds (P : Pr) H d n Q, ¬ P q → OwA G.K H P q d → DatL G.K H P vs ds → gIns d ds = some n → (∀ o v, OwA G.K (upd H q o) P q n → Q v (upd H q o)) → rIns (.ref q) vs H Q := by
  intro q vs ds P H d n Q np ow dv eg k
  unfold gIns at eg
  split at eg
  · split at eg
    · rename_i hl
      cases eg
      obtain ⟨xs, h1, h2⟩ := ow
      cases dv with
      | cons d0 d3 =>
        cases d3 with
        | cons d1 d2 =>
          cases d2
          cases d0
          have pk : ∀ o, Pk P H P (upd H q o) := fun o => ⟨fun _ z => z, fun b u z w => by rw [upd_ne fun v => np (by subst v; exact z)]; exact w⟩
          exact ⟨q, xs, _, _, rfl, rfl, h1, by rw [h2.len]; exact lt5 hl.1, hl.2.1, hl.2.2, k _ _ ⟨_, upd_same, (((h2.take _).app (.cons d1 .nil)).app (h2.drop _)).k (pk _)⟩⟩
    · cases eg
  · cases eg
theorem s_ins (i : Nat) {e2 : Expr} {fa2 : De D} (hh1 : SE G e fa) (hh2 : SE G e2 fa2) (hN : G.N[i]? = some y := by rfl) (hv : Vis G.sc y := by first | exact Or.inl rfl | exact Or.inr (Or.inl rfl) | exact Or.inr (Or.inr rfl)) (hd : (y == ("__debug__" : Str)) = false := by decide) (hcd : (y == ("__classdict__" : Str)) = false := by decide) (hbase : ∀ X : Cx, attributeBase (.Name y py) ("insert" : Str) X.env (eval (.Name y py) X.env) = eval (.Name y py) X.env := by intro _; rfl) (hfew : ∀ X : Cx, ((backTo cpos (starEach [e, e2] X.env)).all (fun x => !x.1) && (backToKw cpos (keywordEach [] X.env)).all (fun x => x.1.isSome)
      && decide (([e, e2] : List Expr).length + ([] : List Keyword).length + (if ([] : List Keyword).isEmpty then 0 else 1) < 30)) = true := by intro _; rfl) (hline : (apos.endLine == cpos.line) = true := by rfl) (hs : ∀ X : Cx, starEach [e, e2] X.env = (false, eval e X.env) :: starEach [e2] X.env := by intro _; rfl) (hs2 : ∀ X : Cx, starEach [e2] X.env = [(false, eval e2 X.env)] := by intro _; rfl) (hpl : ∀ X : Cx, (backTo cpos (starEach [e2] X.env)).any (·.1) = false := by intro _; rfl) (hsw : ∀ X : Cx, swapsWith (.Call (.Attribute (.Name y py) ("insert" : Str) apos) [e, e2] [] cpos) none pos.line X.env = pure false := by intro _; rfl) :
    SS G (.Expr (.Call (.Attribute (.Name y py) ("insert" : Str) apos) [e, e2] [] cpos) pos) (sMut i (dCons fa (dCons fa2 dNil)) gIns) :=
  (fun he he2 =>
  s_mut i PySem.F.slot_list_insert PySem.F.type_list_insert (fun X h => mt_insert) (fun d ds n eg => by
    unfold gIns at eg
    split at eg
    · exact ⟨_, rfl⟩
    · cases eg) r_ins hN hv hd hcd hbase hfew hline hs hpl hsw (a_cons (hs := hs) he (a_cons (hs := hs2) he2 a_nil))) hh1 hh2
/-- y[k] = e, y a list of one's own -/
def gSet : D → List D → Option D
  | .list ds, [d, .int i] => (ixN ds.length i).map fun j => .list (ds.set j d)
  | _, _ => none
theorem s_setIx (i : Nat) {k : Expr} {fk : De D} {tpos : Pos} (hh1 : SE G e fa) (hh2 : SE G k fk) (hN : G.N[i]? = some y := by rfl) (hv : Vis G.sc y := by first | exact Or.inl rfl | exact Or.inr (Or.inl rfl) | exact Or.inr (Or.inr rfl)) (hd : (y == ("__debug__" : Str)) = false := by decide) (hcd : (y == ("__classdict__" : Str)) = false := by decide) (ha : ∀ (X : Cx) v, assign (.Subscript (.Name y py) k tpos) X.env v = (do
      let ov ← holding [v] (eval (.Name y py) X.env)
      let iv ← holding [v, ov] (eval k X.env)
      standAt tpos
      holding [v, ov, iv] (setItem ov iv v)
      release [v, ov, iv] []) := by intro _ _; rfl) (hs : ∀ X : Cx, swapsWithSole [.Subscript (.Name y py) k tpos] e pos.line X.env = pure false := by intro _; rfl) (hw : ∀ X : Cx, swappedStores [.Subscript (.Name y py) k tpos] e X.env = pure none := by intro _; rfl) (h1 : ∀ X : Cx, (assignEach [.Subscript (.Name y py) k tpos] X.env).map (·.2) = [assign (.Subscript (.Name y py) k tpos) X.env] := by intro _; rfl) :
    SS G (.Assign [.Subscript (.Name y py) k tpos] e pos) (sMut i (dCons fa (dCons fk dNil)) gSet) := by
  revert hh1 hh2
 
  rintro ⟨te, pe, he⟩ ⟨tk, pk, hk⟩
  refine ⟨tAsg te (gSub (tVar i) tk rSetL), fun X h => ps_asg (pe X h) (pg_sub (pe_var (i := i) (pos := py) (by rw [h.N]; exact hN) (by rw [h.sc]; exact hv) hd hcd) (pk X h) set_list (ha X)) (hs X) (hw X) (h1 X), fun E P H σ s N st hp => ?_⟩
  obtain ⟨l0, e0, hp⟩ := sMut_some hp
  obtain ⟨q, hq, w0, hr⟩ := pos_mut st e0 hp (fun x vs H1 => ∃ v w, vs = [v, w] ∧ rSetL x w v H1 fun H2 => N.nx σ H2) fun q vs ds P1 H1 d n hq np ow dv eg kk => by
    unfold gSet at eg
    split at eg
    · rename_i ds0 d0 j
      obtain ⟨jj, ej, rfl⟩ := Option.map_eq_some_iff.mp eg
      obtain ⟨xs, h1, h2⟩ := ow
      cases dv with
      | cons da db =>
        cases db with
        | cons dc dd =>
          cases dd
          cases dc
          have pk : ∀ o, Pk P1 H1 P1 (upd H1 q o) := fun o => ⟨fun _ z => z, fun b u z w => by rw [upd_ne fun v => np (by subst v; exact z)]; exact w⟩
          exact ⟨_, _, rfl, q, xs, j, jj, rfl, rfl, h1, by rw [h2.len]; exact ej, kk _ ⟨_, upd_same, (h2.set da jj).k (pk _)⟩⟩
    · cases eg
  refine he E P H σ s _ st (po_step hr fun d s1 P1 H1 ee st1 gr1 h1 v hv => ⟨_, hq, ?_⟩)
  refine hk E P1 H1 σ s1 _ st1 (po_step (po_step (R1 := fun ds s2 P2 H2 => Po G E P2 H2 σ s2 (rtn (d :: ds) s2) _) h1 fun ds s2 P2 H2 ee2 st2 gr2 h2 => h2) fun d2 s2 P2 H2 ee2 st2 gr2 h2 w hw => ?_)
  obtain ⟨_, _, e1, hh⟩ := po_rtn (po_rtn h2 st2) st2 _ (.cons (hv.k (gr2.pk st1)) (.cons hw .nil))
  cases e1
  exact hh
end
end Od

namespace Od
open PySem PySem.Spec PyProof.Rows L2

section
variable {G : Gam} {a b c e : Expr} {es : List Expr} {fa fb fc : De D} {ga : De Bool} {fs : FS} {fl : De (List D)} {pos p : Pos} {x : Str} {st1 : Stmt} {sts as bs : List Stmt} {f g h : DeS} {oa ob : Opd}
variable {y : Str} {py apos cpos : Pos} {id : String} {m : Str}
/-! ### y[k] = e, y a dict of one's own -/
def gPut : D → List D → Option D
  | .dict ((.none, .none) :: m), [v, .tuple ks] => (keysOf ks).bind fun k => if m.length < 100000 then some (.dict ((.none, .none) :: putDT k v m)) else none
  | .dict ((.none, _) :: _), _ => none
  | .dict kvs, [v, d] => (keyOf d).bind fun k => if kvs.length < 100000 then some (.dict (putDK k v kvs)) else none
  | _, _ => none
theorem keep_upd {P : Pr} {H : Hp} {q : Addr} (np : ¬ P q) (o : HO) : Pk P H P (upd H q o) := ⟨fun _ z => z, fun b u z w => by rw [upd_ne fun v => np (by subst v; exact z)]; exact w⟩
theorem gPut_of {K : PySem.W.Frag} {H : Hp} {P : Pr} {q : Addr} {d n dv dk : D} {v y : V} (np : ¬ P q) (ow : OwA K H P q d) (hv : Dat K H P v dv) (hy : Dat K H P y dk) (e : gPut d [dv, dk] = some n) : ∃ o, DPut H q y v (upd H q o) ∧ OwA K (upd H q o) P q n := by
  unfold gPut at e
  split at e
  · rename_i m v0 ks heq
    cases heq
    obtain ⟨k, ek, e⟩ := Option.bind_eq_some_iff.mp e
    split at e
    · rename_i hl
      cases e
      have eks := keysOf_some ek
      subst eks
      rcases ow with ⟨l, h1, h2⟩ | ⟨l, m', h0, h1, h2⟩
      · generalize hk : (PyData.none, PyData.none) :: m = kk at h2
        cases h2 with
        | nil => cases hk
        | cons _ _ =>
          injection hk with q1 q2
          injection q1 with q3 q4
          exact (kD_none q3.symm).elim
      · cases h0
        obtain ⟨b, xs, rfl, _, w1, w2⟩ := hy.tupOf
        have ex := w2.kvs
        subst ex
        exact ⟨_, .t h1 w1 (by rw [h2.len]; exact lt5 hl), .inr ⟨_, _, rfl, upd_same, (h2.put hv).k (keep_upd np _)⟩⟩
    · cases e
  · cases e
  · rename_i kvs v0 d0 n1 n2 heq
    cases heq
    obtain ⟨k, ek, e⟩ := Option.bind_eq_some_iff.mp e
    split at e
    · rename_i hl
      cases e
      have ed := keyOf_some ek
      subst ed
      have ey := hy.kv
      subst ey
      rcases ow with ⟨l, h1, h2⟩ | ⟨l, m', h0, h1, h2⟩
      · exact ⟨_, .k h1 (by rw [h2.len]; exact lt5 hl), .inl ⟨_, upd_same, (h2.put hv).k (keep_upd np _)⟩⟩
      · subst h0
        first | exact (n1 _ _ rfl).elim | exact (n2 _ _ rfl).elim
    · cases e
  · cases e
theorem gPut_two {d n : D} {ds : List D} (e : gPut d ds = some n) : ∃ dv dk, ds = [dv, dk] := by
  unfold gPut at e
  split at e
  · exact ⟨_, _, rfl⟩
  · cases e
  · exact ⟨_, _, rfl⟩
  · cases e
theorem s_put (i : Nat) {k : Expr} {fk : De D} {tpos : Pos} (hh1 : SE G e fa) (hh2 : SE G k fk) (hN : G.N[i]? = some y := by rfl) (hv : Vis G.sc y := by first | exact Or.inl rfl | exact Or.inr (Or.inl rfl) | exact Or.inr (Or.inr rfl)) (hd : (y == ("__debug__" : Str)) = false := by decide) (hcd : (y == ("__classdict__" : Str)) = false := by decide) (hs : ∀ X : Cx, swapsWith e (some (.Subscript (.Name y py) k tpos)) pos.line X.env = pure false := by intro _; rfl) :
    SS G (.Assign [.Subscript (.Name y py) k tpos] e pos) (sMutD i (dCons fa (dCons fk dNil)) gPut) := by
  revert hh1 hh2
 
  rintro ⟨te, pe, he⟩ ⟨tk, pk, hk⟩
  refine ⟨_, fun X h => ps_dput h.u1 (pe_var (i := i) (pos := py) (by rw [h.N]; exact hN) (by rw [h.sc]; exact hv) hd hcd) (pk X h) (pe X h) (hs X), fun E P H σ s N st hp => ?_⟩
  obtain ⟨l0, e0, hp⟩ := sMutD_some hp
  obtain ⟨q, hq, w0, hr⟩ := pos_mut st e0 hp (fun x vs H1 => ∃ v w, vs = [v, w] ∧ ∃ a H4, x = .ref a ∧ DPut H1 a w v H4 ∧ N.nx σ H4) fun q vs ds P1 H1 d n hq np ow dv eg kk => by
    obtain ⟨d1, d2, rfl⟩ := gPut_two eg
    cases dv with
    | cons da db =>
      cases db with
      | cons dc dd =>
        cases dd
        obtain ⟨o, z1, z2⟩ := gPut_of np ow da dc eg
        exact ⟨_, _, rfl, q, _, rfl, z1, kk o z2⟩
  refine he E P H σ s _ st (po_step hr fun d s1 P1 H1 ee st1 gr1 h1 v hv => ⟨_, hq, ?_⟩)
  refine hk E P1 H1 σ s1 _ st1 (po_step (po_step (R1 := fun ds s2 P2 H2 => Po G E P2 H2 σ s2 (rtn (d :: ds) s2) _) h1 fun ds s2 P2 H2 ee2 st2 gr2 h2 => h2) fun d2 s2 P2 H2 ee2 st2 gr2 h2 w hw => ?_)
  obtain ⟨_, _, e1, hh⟩ := po_rtn (po_rtn h2 st2) st2 _ (.cons (hv.k (gr2.pk st1)) (.cons hw .nil))
  cases e1
  exact hh
/-! ### y.pop() as a value -/
def dPop (i : Nat) : De D := fun s =>
  match ownD s i with
  | some (.list ds) => (ds[ds.length - 1]?).map fun d => .ok d (putO s i (.list ds.dropLast))
  | _ => none
theorem e_pop (i : Nat) (hN : G.N[i]? = some y := by rfl) (hv : Vis G.sc y := by first | exact Or.inl rfl | exact Or.inr (Or.inl rfl) | exact Or.inr (Or.inr rfl))
    (hd : (y == ("__debug__" : Str)) = false := by decide) (hcd : (y == ("__classdict__" : Str)) = false := by decide)
    (hbase : ∀ X : Cx, attributeBase (.Name y py) ("pop" : Str) X.env (eval (.Name y py) X.env) = eval (.Name y py) X.env := by intro _; rfl) (hline : (apos.endLine == cpos.line) = true := by rfl) :
    SE G (.Call (.Attribute (.Name y py) ("pop" : Str) apos) [] [] cpos) (dPop i) := by
  refine ⟨tBM0 G.K "list" rPop (tVar i), fun X h => ?_, fun E P H σ s Q st hp => ?_⟩
  · have z := pe_bm0 (X := X) (cpos := cpos) (apos := apos) PySem.F.plainAttrs_list PySem.F.slot_list_pop PySem.F.type_list_pop mt_pop (pe_var (i := i) (pos := py) (by rw [h.N]; exact hN) (by rw [h.sc]; exact hv) hd hcd) (hbase X) hline
    rw [h.K] at z
    exact z
  · unfold dPop at hp
    split at hp
    · rename_i ds e0
      cases eg : ds[ds.length - 1]? with
      | none => rw [eg] at hp; exact hp.elim
      | some d =>
        rw [eg] at hp
        obtain ⟨q, hq, np, ow, own, hm⟩ := st.ownOf e0
        obtain ⟨xs, h1, h2⟩ := ow
        obtain ⟨v, hv2, dv⟩ := h2.get eg
        refine ⟨.ref q, hq, .inl ⟨rfl, xs, .of h1⟩, q, xs, v, rfl, rfl, h1, by rw [h2.len]; exact hv2, ?_⟩
        have ke : ∀ b u, H b = some u → b ≠ q → (upd H q (.lst xs.dropLast)) b = some u := fun b u z nb => by rw [upd_ne nb]; exact z
        have pk := keep_upd np (H := H) (.lst xs.dropLast)
        have wo : OwA G.K (upd H q (.lst xs.dropLast)) P q (.list ds.dropLast) := ⟨_, upd_same, by
          have z := (h2.take (ds.length - 1)).k pk
          rw [← List.dropLast_eq_take, ← h2.len, ← List.dropLast_eq_take] at z
          exact z⟩
        obtain ⟨st2, gr2⟩ := st.mutO e0 hq (fun _ z => z) (fun _ z => .inl z) (fun b z => by
          obtain ⟨u, z2⟩ := st.pal b z
          exact ⟨u, ke b u z2 fun w => by subst w; exact np z⟩) ke (fun b z => by
            by_cases w : b = q
            · subst w; rw [upd_same] at z; cases z
            · rw [upd_ne w] at z; exact z) np wo
        exact hp P _ st2 gr2 v (dv.k pk)
    · exact hp.elim
/-! ### an object of one's own, from here on as data that stay -/
def dDem (i : Nat) : De D := fun s =>
  match s[i]? with
  | some (.ow (.list ds)) => some (.ok (.list ds) (s.set i (.sh (.list ds))))
  | some (.ow (.dict kvs)) => some (.ok (.dict kvs) (s.set i (.sh (.dict kvs))))
  | _ => none
theorem OwA.dat {K : PySem.W.Frag} {H : Hp} {P : Pr} {a : Addr} {d : D} (w : OwA K H P a d) : Dat K H (fun b => P b ∨ b = a) (.ref a) d := by
  have pk : Pk P H (fun b => P b ∨ b = a) H := ⟨fun _ q => .inl q, fun _ _ _ q => q⟩
  cases d with
  | list ds => obtain ⟨xs, h1, h2⟩ := w; exact .lst (.inr rfl) h1 (h2.k pk)
  | dict kvs =>
    rcases w with ⟨l, h1, h2⟩ | ⟨l, m, rfl, h1, h2⟩
    · exact .dcK (.inr rfl) h1 (h2.k pk)
    · exact .dcT (.inr rfl) h1 (h2.k pk)
  | none => exact w.elim
  | bool _ => exact w.elim
  | int _ => exact w.elim
  | str _ => exact w.elim
  | tuple _ => exact w.elim
theorem Stt.dem {K : PySem.W.Frag} {E : En} {P : Pr} {H : Hp} {σ : L2.St} {s : S} (st : Stt K E P H σ s) {i : Nat} {d : D} {q : Addr} (e0 : s[i]? = some (.ow d)) (hq : σ[i]? = some (some (.ref q))) :
    Stt K E (fun b => P b ∨ b = q) H σ (s.set i (.sh d)) ∧ Gr E σ s (s.set i (.sh d)) P H (fun b => P b ∨ b = q) H ∧ Dat K H (fun b => P b ∨ b = q) (.ref q) d := by
  obtain ⟨q', hq', np, n0, ow⟩ := st.sl i _ e0
  rw [hq] at hq'; cases hq'
  have own0 : Own σ s i q := ⟨hq, _, e0, rfl⟩
  have pk : Pk P H (fun b => P b ∨ b = q) H := ⟨fun _ q => .inl q, fun _ _ _ q => q⟩
  have own : ∀ j b, Own σ (s.set i (.sh d)) j b → j ≠ i ∧ Own σ s j b := by
    rintro j b ⟨h1, x, h2, h3⟩
    rcases getset h2 with ⟨e, z⟩ | ⟨e, z⟩
    · subst z; cases h3
    · exact ⟨e, h1, x, z, h3⟩
  have np' : ∀ j b, j ≠ i → Own σ s j b → ¬ (P b ∨ b = q) := fun j b nj o z => by
    rcases z with z | z
    · exact st.own_np ⟨j, o⟩ z
    · subst z; exact nj (st.dj _ _ _ o own0)
  have mp' : ∀ b, E.M b → ¬ (P b ∨ b = q) := fun b m z => by
    rcases z with z | z
    · exact st.mp b m z
    · subst z
      obtain ⟨o, w⟩ := st.m0 b m
      rw [n0] at w; cases w
  refine ⟨⟨by rw [List.length_set]; exact st.len, fun j x hj => ?_, fun j k b o1 o2 => st.dj j k b (own j b o1).2 (own k b o2).2, fun b z => .inl (st.pg b z), fun b z => ?_, fun b z => ?_, st.kp, st.mx, mp', st.m0, st.tk.set rfl⟩,
    ⟨fun _ z => .inl z, fun _ _ z _ _ => z, fun b z => ?_, fun b ⟨j, o⟩ => ⟨j, (own j b o).2⟩, fun _ z => z⟩, ow.dat⟩
  · rcases getset hj with ⟨e, z⟩ | ⟨e, z⟩
    · subst e; subst z
      exact ⟨_, hq, ow.dat⟩
    · have w := st.sl j x z
      cases x with
      | un => trivial
      | sh d' => obtain ⟨v, w1, w2⟩ := w; exact ⟨v, w1, w2.k pk⟩
      | ow d' => obtain ⟨b, w1, w2, w3, w4⟩ := w; exact ⟨b, w1, np' j b e ⟨w1, _, z, rfl⟩, w3, w4.keep pk fun _ z => z⟩
      | io d' => obtain ⟨b, w1, w2, w3, w4⟩ := w; exact ⟨b, w1, np' j b e ⟨w1, _, z, rfl⟩, w3, w4.keep pk fun _ z => z⟩
      | tk d' => obtain ⟨b, m, w1, w2⟩ := w; exact ⟨b, m, w1, w2.keep pk fun _ _ _ z => z⟩
  · rcases z with z | z
    · exact st.pn b z
    · subst z; exact .inr n0
  · rcases z with z | z
    · exact st.pal b z
    · subst z; exact ow.ex
  · rcases z with z | z
    · exact .inl z
    · subst z; exact .inr (.inr ⟨i, own0⟩)
theorem e_dem (i : Nat) (hN : G.N[i]? = some y := by rfl) (hv : Vis G.sc y := by first | exact Or.inl rfl | exact Or.inr (Or.inl rfl) | exact Or.inr (Or.inr rfl))
    (hd : (y == ("__debug__" : Str)) = false := by decide) (hcd : (y == ("__classdict__" : Str)) = false := by decide) : SE G (.Name y pos) (dDem i) := by
  refine ⟨_, fun X h => pe_var (i := i) (by rw [h.N]; exact hN) (by rw [h.sc]; exact hv) hd hcd, fun E P H σ s Q st hp => ?_⟩
  unfold dDem at hp
  split at hp
  · rename_i ds e0
    obtain ⟨q, hq, _⟩ := st.sl i _ e0
    obtain ⟨st2, gr2, dv⟩ := st.dem e0 hq
    exact ⟨_, hq, hp _ H st2 gr2 _ dv⟩
  · rename_i ds e0
    obtain ⟨q, hq, _⟩ := st.sl i _ e0
    obtain ⟨st2, gr2, dv⟩ := st.dem e0 hq
    exact ⟨_, hq, hp _ H st2 gr2 _ dv⟩
  · exact hp.elim

/-! ### what a loop walks over -/
def ItOk (G : Gam) (J : It) (P : Pr) (H : Hp) (ds : List D) : Prop := ∀ P' H', Pk P H P' H' → (∀ i d, ds[i]? = some d → J.go i H' ∧ ∀ x H'', J.yld i H' x H'' → ∀ E σ s, Stt G.K E P' H' σ s →
  ∃ P'', Stt G.K E P'' H'' σ s ∧ Gr E σ s s P' H' P'' H'' ∧ Dat G.K H'' P'' x d) ∧ ∀ i, ds.length ≤ i → J.stop i H'
def TIok (G : Gam) (wi : TI) (f : De (List D)) : Prop := ∀ E P H σ s R, Stt G.K E P H σ s → Po G E P H σ s (f s) (fun ds _ P1 H1 => ∀ J, ItOk G J P1 H1 ds → R J H1) → wi σ H R
def SI (G : Gam) (tg iter : Expr) (f : De (List D)) : Prop := ∃ wi, (∀ X, Cls G X → PI X tg iter wi) ∧ TIok G wi f
def dItL (f : De D) : De (List D) := bnd f fun d s => match d with
  | .list ds => some (.ok ds s)
  | _ => none
def dItT (f : De D) : De (List D) := bnd f fun d s => match d with
  | .tuple ds => some (.ok ds s)
  | _ => none
theorem DatL.geti {K : PySem.W.Frag} {H : Hp} {P : Pr} {xs : List V} {ds : List D} (h : DatL K H P xs ds) {i : Nat} {x : V} (e : xs[i]? = some x) {d : D} (e2 : ds[i]? = some d) : Dat K H P x d := by
  obtain ⟨v, h1, h2⟩ := h.get e2
  rw [e] at h1; cases h1
  exact h2
theorem i_list {tg : Expr} : SE G e fa → SI G tg e (dItL fa) := by
  rintro ⟨te, pe, he⟩
  refine ⟨iList G.K te, fun X h => by have z := pi_list (tg := tg) (pe X h); rw [h.K] at z; exact z, fun E P H σ s R st hp => he E P H σ s _ st (po_step hp fun d s1 P1 H1 ee st1 gr1 h1 v hv => ?_)⟩
  cases d <;> first | exact h1.elim | skip
  rename_i ds
  obtain ⟨q, xs, rfl, pq, w1, w2⟩ := hv.lstOf
  refine ⟨q, rfl, ⟨xs, .of w1⟩, h1 P1 H1 st1 Gr.refl _ fun P' H' pk => ⟨fun i d hd => ?_, fun i hi => ?_⟩⟩
  · have w1' : H' q = some (.lst xs) := pk.kp _ _ pq w1
    obtain ⟨v, hv1, hv2⟩ := (w2.k pk).get hd
    refine ⟨⟨xs, v, .of w1', hv1⟩, fun x H'' hy E σ s st => ?_⟩
    obtain ⟨rfl, hy⟩ := hy
    have hx := hy xs (.of w1')
    exact ⟨P', st, Gr.refl, (w2.k pk).geti hx hd⟩
  · exact ⟨xs, .of (pk.kp _ _ pq w1), by rw [w2.len]; exact hi⟩
theorem i_tup {tg : Expr} : SE G e fa → SI G tg e (dItT fa) := by
  rintro ⟨te, pe, he⟩
  refine ⟨iTup G.K te, fun X h => by have z := pi_tup (tg := tg) (pe X h); rw [h.K] at z; exact z, fun E P H σ s R st hp => he E P H σ s _ st (po_step hp fun d s1 P1 H1 ee st1 gr1 h1 v hv => ?_)⟩
  cases d <;> first | exact h1.elim | skip
  rename_i ds
  obtain ⟨q, xs, rfl, pq, w1, w2⟩ := hv.tupOf
  refine ⟨q, rfl, ⟨xs, .of w1⟩, h1 P1 H1 st1 Gr.refl _ fun P' H' pk => ⟨fun i d hd => ?_, fun i hi => ?_⟩⟩
  · have w1' : H' q = some (.tup xs) := pk.kp _ _ pq w1
    obtain ⟨v, hv1, hv2⟩ := (w2.k pk).get hd
    refine ⟨⟨xs, v, .of w1', hv1⟩, fun x H'' hy E σ s st => ?_⟩
    obtain ⟨rfl, hy⟩ := hy
    have hx := hy xs (.of w1')
    exact ⟨P', st, Gr.refl, (w2.k pk).geti hx hd⟩
  · exact ⟨xs, .of (pk.kp _ _ pq w1), by rw [w2.len]; exact hi⟩
def rngD (lo : Int) (n : Nat) : List D := (List.range n).map fun i => .int (lo + (i : Nat))
theorem it_range (lo : Int) (n : Nat) {P : Pr} {H : Hp} : ItOk G (Itr lo n) P H (rngD lo n) := fun P' H' pk => ⟨fun i d hd => by
    unfold rngD at hd
    rw [List.getElem?_map] at hd
    obtain ⟨j, hj, rfl⟩ := Option.map_eq_some_iff.mp hd
    obtain ⟨hlt, ej⟩ := List.getElem?_eq_some_iff.mp hj
    rw [List.getElem_range] at ej
    subst ej
    rw [List.length_range] at hlt
    refine ⟨hlt, fun x H'' hy E σ s st => ?_⟩
    obtain ⟨rfl, rfl⟩ := hy
    exact ⟨P', st, Gr.refl, .int _⟩, fun i hi => by
    unfold rngD at hi
    rw [List.length_map, List.length_range] at hi
    exact hi⟩
/-- small enough; told by the logarithm, which stands still where the number is unknown -/
def okR (j : Int) : Bool := decide (j.natAbs.log2 < 61)
theorem okR_ok {j : Int} (h : okR j = true) : -(2 ^ 62) ≤ j ∧ j < 2 ^ 62 := by
  unfold okR at h
  have h := of_decide_eq_true h
  have z : j.natAbs < 2 ^ 61 := by
    by_cases e : j.natAbs = 0
    · rw [e]; exact Nat.two_pow_pos 61
    · exact (Nat.log2_lt e).mp h
  omega
theorem okR_nat {n : Nat} (h : n < 2 ^ 60) : okR (n : Int) = true := by
  unfold okR
  refine decide_eq_true ?_
  rw [Int.natAbs_natCast]
  by_cases e : n = 0
  · subst e; decide
  · exact Nat.lt_trans ((Nat.log2_lt e).mpr h) (by decide)
def dR1 (f : De D) : De (List D) := bnd f fun d s => match d with
  | .int j => if okR j = true then some (.ok (rngD 0 j.toNat) s) else none
  | _ => none
def dR2 (f g : De D) : De (List D) := bnd f fun d => bnd g fun d2 s => match d, d2 with
  | .int i, .int j => if (okR i && okR j) = true then some (.ok (rngD i (j - i).toNat) s) else none
  | _, _ => none
theorem i_r1 {tg : Expr} (hm : G.mg ("range" : Str) = none) (hh1 : SE G a fa) (hg : G.sc.names.lookup ("range" : Str) = some .globalImplicit := by rfl) (hs : ∀ X : Cx, starEach [a] X.env = [(false, eval a X.env)] := by intro _; rfl) :
    SI G tg (.Call (.Name "range" p) [a] [] pos) (dR1 fa) := by
  revert hh1
 
  rintro ⟨te, pe, he⟩
  refine ⟨_, fun X h => pi_range1 (h.gl hg) (h.mn hm) (pa_cons (pe X h) pa_nil (hs X)) (hs X), fun E P H σ s R st hp => he E P H σ s _ st (po_step hp fun d s1 P1 H1 ee st1 gr1 h1 v hv => ?_)⟩
  cases d <;> first | exact h1.elim | skip
  rename_i j
  have ev := hv.intOf
  subst ev
  have h1 : Po G E P1 H1 σ s1 (if okR j = true then some (.ok (rngD 0 j.toNat) s1) else none) _ := h1
  split at h1
  · rename_i ho
    exact ⟨j, rfl, (okR_ok ho).1, (okR_ok ho).2, h1 P1 H1 st1 Gr.refl _ (it_range _ _)⟩
  · exact h1.elim
theorem i_r2 {tg : Expr} (hm : G.mg ("range" : Str) = none) (hh1 : SE G a fa) (hh2 : SE G b fb) (hg : G.sc.names.lookup ("range" : Str) = some .globalImplicit := by rfl) (hs : ∀ X : Cx, starEach [a, b] X.env = [(false, eval a X.env), (false, eval b X.env)] := by intro _; rfl) (hs2 : ∀ X : Cx, starEach [b] X.env = [(false, eval b X.env)] := by intro _; rfl) :
    SI G tg (.Call (.Name "range" p) [a, b] [] pos) (dR2 fa fb) := by
  revert hh1 hh2
 
  rintro ⟨te, pe, he⟩ ⟨tb, pb, hb⟩
  refine ⟨_, fun X h => pi_range2 (h.gl hg) (h.mn hm) (pa_cons (pe X h) (pa_cons (pb X h) pa_nil (hs2 X)) (by rw [hs X, hs2 X])) (hs X) (hs2 X), fun E P H σ s R st hp => he E P H σ s _ st (po_step hp fun d s1 P1 H1 ee st1 gr1 h1 v hv => ?_)⟩
  refine hb E P1 H1 σ s1 _ st1 (po_step h1 fun d2 s2 P2 H2 ee2 st2 gr2 h2 w hw => ?_)
  cases d <;> first | exact h2.elim | skip
  cases d2 <;> first | exact h2.elim | skip
  rename_i i j
  have ev := hv.intOf
  have ew := hw.intOf
  subst ev ew
  have h2 : Po G E P2 H2 σ s2 (if (okR i && okR j) = true then some (.ok (rngD i (j - i).toNat) s2) else none) _ := h2
  split at h2
  · rename_i ho
    have ho := Bool.and_eq_true_iff.mp ho
    exact ⟨i, j, rfl, ⟨(okR_ok ho.1).1, (okR_ok ho.1).2, (okR_ok ho.2).1, (okR_ok ho.2).2⟩, h2 P2 H2 st2 Gr.refl _ (it_range _ _)⟩
  · exact h2.elim

/-! ### for, while -/
def forL (bd : D → S → Option S) (f : DeS) : List D → DeS
  | [], s => some (.nx s)
  | d :: ds, s =>
    match bd d s with
    | none => none
    | some s1 =>
      match f s1 with
      | some (.nx s2) => forL bd f ds s2
      | some (.ct s2) => forL bd f ds s2
      | some (.bk s2) => some (.nx s2)
      | r => r
def sFor (it : De (List D)) (bd : D → S → Option S) (f : DeS) : DeS := sE it fun ds s => forL bd f ds s
theorem s_for {tg iter : Expr} {it : De (List D)} {ts : List Nat} {bd : D → S → Option S} {body : List Stmt} (hh1 : SI G tg iter it) (hh2 : SG G tg ts bd) (hh3 : SB G body f) (hs : ∀ (X : Cx) x, foldedSetIterable iter X.env x = pure x := by intro _ _; rfl) :
    SS G (.For tg iter body [] pos) (sFor it bd f) := by
  revert hh1 hh2 hh3
 
  rintro ⟨wi, pi, hi⟩ ⟨g1, pg, hg⟩ ⟨t, pb, hb⟩
  refine ⟨_, fun X h => ps_for h.po h.calm (pi X h) (pg X h) (pb X h) (hs X), fun E P H σ s N st hp => hi E P H σ s _ st (pos_e st hp fun ds s1 P1 H1 st1 gr1 h1 J ok => ?_)⟩
  refine ⟨fun i m σ' H' => m = ds.length - i ∧ ∃ s' P', Stt G.K E P' H' σ' s' ∧ Pk P1 H1 P' H' ∧ PoS G E P' H' (forL bd f (ds.drop i) s') N, ⟨_, rfl, s1, P1, st1, Pk.refl, h1⟩, ?_⟩
  rintro i m σ' H' ⟨rfl, s', P', st', pk, hq⟩
  obtain ⟨go, stop⟩ := ok P' H' pk
  by_cases hlt : i < ds.length
  · right
    have hd : ds[i]? = some ds[i] := List.getElem?_eq_getElem hlt
    obtain ⟨g1', yl⟩ := go i _ hd
    have edr : ds.drop i = ds[i] :: ds.drop (i + 1) := List.drop_eq_getElem_cons hlt
    rw [edr] at hq
    refine ⟨g1', fun σ'' H'' => ∃ s'' P'', Stt G.K E P'' H'' σ'' s'' ∧ Pk P1 H1 P'' H'' ∧ PoS G E P'' H'' (forL bd f (ds.drop (i + 1)) s'') N, fun σ'' H'' z => ⟨ds.length - (i + 1), by omega, rfl, z⟩, fun x H'' hy => ?_⟩
    obtain ⟨P'', st2, gr2, dx⟩ := yl x H'' hy E σ' s' st'
    unfold forL at hq
    cases eb : bd ds[i] s' with
    | none => rw [eb] at hq; exact hq.elim
    | some s2 =>
      rw [eb] at hq
      refine hg E P'' H'' σ' s' x _ s2 _ st2 dx eb fun σ1 st3 _ _ _ => hb E P'' H'' σ1 s2 _ st3 ?_
      have hq := pos_pk hq (gr2.pk st')
      have pk2 := pk.trans (gr2.pk st')
      dsimp only at hq
      cases ef : f s2 with
      | none => rw [ef] at hq; exact hq.elim
      | some r =>
        rw [ef] at hq
        cases r with
        | nx s3 => exact fun σ3 P3 H3 st4 pk3 => ⟨s3, P3, st4, pk2.trans pk3, pos_pk hq pk3⟩
        | ct s3 => exact fun σ3 P3 H3 st4 pk3 => ⟨s3, P3, st4, pk2.trans pk3, pos_pk hq pk3⟩
        | bk s3 => exact hq
        | rt d s3 => exact hq
        | ex c => exact hq
  · left
    rw [List.drop_eq_nil_of_le (by omega)] at hq
    exact ⟨stop i (by omega), hq σ' P' H' st' Pk.refl⟩
def whileN (c : De Bool) (f : DeS) : Nat → DeS
  | 0, _ => none
  | n + 1, s =>
    match c s with
    | none => none
    | some (.ex c) => some (.ex c)
    | some (.ok false s1) => some (.nx s1)
    | some (.ok true s1) =>
      match f s1 with
      | some (.nx s2) => whileN c f n s2
      | some (.ct s2) => whileN c f n s2
      | some (.bk s2) => some (.nx s2)
      | r => r
theorem s_while (n : Nat) {body : List Stmt} : ST G c ga → SB G body f → SS G (.While c body [] pos) (whileN ga f n) := by
  rintro ⟨tc, pc, hc⟩ ⟨t, pb, hb⟩
  refine ⟨_, fun X h => ps_while h.po (pc X h) (pb X h), fun E P H σ s N st hp => ?_⟩
  refine ⟨fun m σ' H' => ∃ s' P', Stt G.K E P' H' σ' s' ∧ Pk P H P' H' ∧ PoS G E P' H' (whileN ga f m s') N, ⟨n, s, P, st, Pk.refl, hp⟩, ?_⟩
  rintro m σ' H' ⟨s', P', st', pk, hq⟩
  cases m with
  | zero => exact hq.elim
  | succ m =>
    unfold whileN at hq
    refine hc E P' H' σ' s' _ st' ?_
    cases ec : ga s' with
    | none => rw [ec] at hq; exact hq.elim
    | some r =>
      rw [ec] at hq
      cases r with
      | ex c => exact hq
      | ok b s1 =>
        intro P1 H1 st1 gr1
        have pk1 := pk.trans (gr1.pk st')
        have hq := pos_pk hq (gr1.pk st')
        cases b with
        | false =>
          rw [if_neg (by decide)]
          exact hq σ' P1 H1 st1 Pk.refl
        | true =>
          rw [if_pos rfl]
          refine ⟨fun σ'' H'' => ∃ s'' P'', Stt G.K E P'' H'' σ'' s'' ∧ Pk P H P'' H'' ∧ PoS G E P'' H'' (whileN ga f m s'') N, fun σ'' H'' z => ⟨m, Nat.lt_succ_self m, z⟩, hb E P1 H1 σ' s1 _ st1 ?_⟩
          have hq : PoS G E P1 H1 (match f s1 with | some (.nx s2) => whileN ga f m s2 | some (.ct s2) => whileN ga f m s2 | some (.bk s2) => some (.nx s2) | r => r) N := hq
          cases ef : f s1 with
          | none => rw [ef] at hq; exact hq.elim
          | some r =>
            rw [ef] at hq
            cases r with
            | nx s3 => exact fun σ3 P3 H3 st4 pk3 => ⟨s3, P3, st4, pk1.trans pk3, pos_pk hq pk3⟩
            | ct s3 => exact fun σ3 P3 H3 st4 pk3 => ⟨s3, P3, st4, pk1.trans pk3, pos_pk hq pk3⟩
            | bk s3 => exact hq
            | rt d s3 => exact hq
            | ex c => exact hq

/-! ### raise -/
structure ExD (G : Gam) (x : Str) : Prop where
  ex : ∃ C B newId initId bmB, G.mg x = some (.ref C) ∧ ExcBaseFacts B newId initId bmB ∧ PySem.W.excIn G.K C bmB newId = true ∧ PySem.W.keepIn G.K (.ref C) = true ∧
    PySem.W.subIn G.K (.ref C) (.type "BaseException") = some true ∧ PySem.W.typeIn G.K (.ref C) = some (.type "type")
def sRaise (x : Str) : DeS := fun _ => some (.ex x)
theorem s_raise {msg : Str} {j : Nat} {p2 : Pos} (T : ExD G x) (hg : G.sc.names.lookup x = some .globalImplicit := by rfl) (hdb : (x == ("__debug__" : Str)) = false := by decide) :
    SS G (.Raise (some (.Call (.Name x p) [.Constant (.str msg) j p2] [] cpos)) none pos) (sRaise x) := by
  obtain ⟨C, B, newId, initId, bmB, h1, h2, h3, h4, h5, h6⟩ := T.ex
  refine ⟨_, fun X h => ps_raise h.calm h.tk (pmk_own h2 (by rw [h.K]; exact h3) (by rw [h.mg]; exact h1) (by rw [h.K]; exact h4) (raises_own (by rw [h.K]; exact h5) (by rw [h.K]; exact h6)) (h.gl hg) hdb), fun E P H σ s N st hp => ?_⟩
  obtain ⟨C', e1, e2⟩ := hp H fun a o z m => st.kp a o z m
  rw [h1] at e1; cases e1
  exact e2
end
end Od

namespace Od
open PySem PySem.Spec PyProof.Rows L2

/-! ### a comprehension's block -/
def wipeS (s : S) : List Nat → S
  | [] => s
  | v :: vs => (wipeS s vs).set v .un
def restS (s0 s : S) : List Nat → S
  | [] => s
  | v :: vs => (restS s0 s vs).set v (s0.getD v .un)
def noOwnAt (s : S) (vs : List Nat) : Bool := vs.all fun v => !isOwn (s.getD v .un) && !isTk (s.getD v .un)
section
variable {K : PySem.W.Frag} {E : En} {P P' : Pr} {H H' : Hp} {σ σ' : L2.St} {s s' s0 : S} {vs : List Nat}
theorem wipeS_len : ∀ vs : List Nat, (wipeS s vs).length = s.length
  | [] => rfl
  | v :: vs => by unfold wipeS; rw [List.length_set, wipeS_len vs]
theorem restS_len : ∀ vs : List Nat, (restS s0 s vs).length = s.length
  | [] => rfl
  | v :: vs => by unfold restS; rw [List.length_set, restS_len vs]
theorem wipeS_out {j : Nat} : ∀ {vs : List Nat}, j ∉ vs → (wipeS s vs)[j]? = s[j]?
  | [], _ => rfl
  | v :: vs, h => by
    unfold wipeS
    rw [List.getElem?_set_ne fun z => h (by simp [z]), wipeS_out fun z => h (by simp [z])]
theorem wipeS_in {j : Nat} {x : Sl} : ∀ {vs : List Nat}, j ∈ vs → (wipeS s vs)[j]? = some x → x = .un
  | [], h, _ => by simp at h
  | v :: vs, h, e => by
    unfold wipeS at e
    rcases getset e with ⟨_, q⟩ | ⟨n, q⟩
    · exact q
    · exact wipeS_in (by simpa [n] using h) q
theorem restS_out {j : Nat} : ∀ {vs : List Nat}, j ∉ vs → (restS s0 s vs)[j]? = s[j]?
  | [], _ => rfl
  | v :: vs, h => by
    unfold restS
    rw [List.getElem?_set_ne fun z => h (by simp [z]), restS_out fun z => h (by simp [z])]
theorem restS_in {j : Nat} {x : Sl} : ∀ {vs : List Nat}, j ∈ vs → (restS s0 s vs)[j]? = some x → x = s0.getD j .un
  | [], h, _ => by simp at h
  | v :: vs, h, e => by
    unfold restS at e
    rcases getset e with ⟨n, q⟩ | ⟨n, q⟩
    · subst n; exact q
    · exact restS_in (by simpa [n] using h) q
theorem wipe_off {j : Nat} {vs : List Nat} (h : j ∉ vs) : (wipe σ vs)[j]? = σ[j]? := wipe_out h
theorem Stt.wipe (st : Stt K E P H σ s) (vs : List Nat) : Stt K E P H (L2.wipe σ vs) (wipeS s vs) := by
  have own : ∀ j a, Own (L2.wipe σ vs) (wipeS s vs) j a → Own σ s j a := by
    rintro j a ⟨h1, x, h2, h3⟩
    by_cases q : j ∈ vs
    · rw [wipeS_in q h2] at h3; cases h3
    · rw [wipe_off q] at h1
      rw [wipeS_out q] at h2
      exact ⟨h1, x, h2, h3⟩
  refine ⟨by rw [wipe_length, wipeS_len]; exact st.len, fun j x hj => ?_, fun j k a o1 o2 => st.dj j k a (own j a o1) (own k a o2), st.pg, st.pn, st.pal, st.kp, st.mx, st.mp, st.m0, st.tk.sub fun j d hj => ?_⟩
  rotate_left
  · by_cases q : j ∈ vs
    · cases wipeS_in q hj
    · rw [wipeS_out q] at hj
      exact ⟨d, hj⟩
  by_cases q : j ∈ vs
  · rw [wipeS_in q hj]; trivial
  · rw [wipe_off q]
    rw [wipeS_out q] at hj
    exact st.sl j x hj
theorem owns_wipe {a : Addr} (h : Owns (L2.wipe σ vs) (wipeS s vs) a) : Owns σ s a := by
  obtain ⟨j, h1, x, h2, h3⟩ := h
  by_cases q : j ∈ vs
  · rw [wipeS_in q h2] at h3; cases h3
  · rw [wipe_off q] at h1
    rw [wipeS_out q] at h2
    exact ⟨j, h1, x, h2, h3⟩
/-- back to the slots ahead of the block's turn -/
theorem Stt.rest (st : Stt K E P H σ s) (hn : noOwnAt s vs = true) (st' : Stt K E P' H' σ' s') (pk : Pk P H P' H') (hσ : ∀ j, j ∉ vs → σ'[j]? = σ[j]?) (hl : s'.length = s.length) : Stt K E P' H' σ (restS s s' vs) := by
  have nown : ∀ j, j ∈ vs → isOwn (s.getD j .un) = false := fun j h => by
    unfold noOwnAt at hn
    have z := List.all_eq_true.mp hn j h
    simp only [Bool.and_eq_true, Bool.not_eq_true'] at z
    exact z.1
  have ntk : ∀ j, j ∈ vs → isTk (s.getD j .un) = false := fun j h => by
    unfold noOwnAt at hn
    have z := List.all_eq_true.mp hn j h
    simp only [Bool.and_eq_true, Bool.not_eq_true'] at z
    exact z.2
  have own : ∀ j a, Own σ (restS s s' vs) j a → Own σ' s' j a := by
    rintro j a ⟨h1, x, h2, h3⟩
    by_cases q : j ∈ vs
    · rw [restS_in q h2, nown j q] at h3; cases h3
    · rw [restS_out q] at h2
      exact ⟨(hσ j q).trans h1, x, h2, h3⟩
  refine ⟨by rw [restS_len, hl]; exact st.len, fun j x hj => ?_, fun j k a o1 o2 => st'.dj j k a (own j a o1) (own k a o2), st'.pg, st'.pn, st'.pal, st'.kp, st'.mx, st'.mp, st'.m0, st'.tk.sub fun j d hj => ?_⟩
  rotate_left
  · by_cases q : j ∈ vs
    · have e := restS_in q hj
      have z := ntk j q
      rw [← e] at z
      cases z
    · rw [restS_out q] at hj
      exact ⟨d, hj⟩
  by_cases q : j ∈ vs
  · have e := restS_in q hj
    have hlt : j < s.length := by
      have z := (List.getElem?_eq_some_iff.mp hj).1
      rw [restS_len, hl] at z
      exact z
    have es : s[j]? = some x := by
      rw [e, List.getD_eq_getElem?_getD, List.getElem?_eq_getElem hlt]
      rfl
    have w := st.sl j x es
    have no := nown j q
    rw [← e] at no
    cases x with
    | un => trivial
    | sh d => obtain ⟨v, w1, w2⟩ := w; exact ⟨v, w1, w2.k pk⟩
    | ow d => cases no
    | io d => cases no
    | tk d =>
      have z := ntk j q
      rw [← e] at z
      cases z
  · rw [restS_out q] at hj
    rw [← hσ j q]
    exact st'.sl j x hj
theorem owns_rest {a : Addr} (hn : noOwnAt s vs = true) (hσ : ∀ j, j ∉ vs → σ'[j]? = σ[j]?) (h : Owns σ (restS s s' vs) a) : Owns σ' s' a := by
  obtain ⟨j, h1, x, h2, h3⟩ := h
  by_cases q : j ∈ vs
  · have z : isOwn (s.getD j .un) = false := by
      unfold noOwnAt at hn
      have z := List.all_eq_true.mp hn j q
      simp only [Bool.and_eq_true, Bool.not_eq_true'] at z
      exact z.1
    rw [restS_in q h2, z] at h3; cases h3
  · rw [restS_out q] at h2
    exact ⟨j, (hσ j q).trans h1, x, h2, h3⟩
end
def GB (G : Gam) (scope : Scope) : Gam := { G with sc := relS scope G.sc, E := fun _ _ _ => False, fn := fun x => scope.names.lookup x == some .cell }
theorem Cls.blk {G : Gam} {X : Cx} (h : Cls G X) (scope : Scope) (s : Shared) (H : Hp) (C : Addr) (cl : List (Str × Addr)) (fp : List Addr) : Cls (GB G scope) (X.blk s H scope (compEnvC scope cl C X.env) fp) where
  prog := h.prog
  w := h.w
  K := h.K
  mg := h.mg
  base := h.base
  N := h.N
  nd := h.nd
  sc := by
    show relS scope X.env.scope = relS scope G.sc
    rw [h.sc]
  calm := h.calm
  rm := h.rm
  gd := h.gd
  pass := fun _ _ _ _ _ _ _ c => by
    obtain ⟨_, _, _, _, _, _, _, _, _, _, _, _, z⟩ := c
    exact z.elim
  po := PassesOwn.never
  tk := fun u s' x => by
    obtain ⟨_, _, _, _, _, _, _, _, _, _, _, _, _, _, _, _, w⟩ := x
    exact w.elim
  fn := fun x z => z
/-- one clause: what a turn does -/
def lcStep (vs : List Nat) (bd : D → S → Option S) (tt : De Bool) (el : De D) (d : D) (acc : List D) (s : S) : Option (List D × S) :=
  if noOwnAt s vs = true ∧ acc.length < 100000 then
    (bd d (wipeS s vs)).bind fun s1 =>
      match tt s1 with
      | some (.ok true s2) => (match el s2 with
        | some (.ok y s3) => if s3.length = s.length then some (acc ++ [y], restS s s3 vs) else none
        | _ => none)
      | some (.ok false s2) => if s2.length = s.length then some (acc, restS s s2 vs) else none
      | _ => none
  else none
def lcL (vs : List Nat) (bd : D → S → Option S) (tt : De Bool) (el : De D) : List D → List D → S → Option (List D × S)
  | [], acc, s => some (acc, s)
  | d :: ds, acc, s => (lcStep vs bd tt el d acc s).bind fun p => lcL vs bd tt el ds p.1 p.2
def dLc (it : De (List D)) (vs : List Nat) (bd : D → S → Option S) (tt : De Bool) (el : De D) : De D := bnd it fun ds s =>
  match lcL vs bd tt el ds [] s with
  | some (acc, s') => some (.ok (.list acc) s')
  | none => none
def STs (G : Gam) (ifs : List Expr) (f : De Bool) : Prop := ∃ te, (∀ X, Cls G X → PTs X ifs te) ∧ TTok G te f
section
variable {G : Gam} {a b c e elt tg iter : Expr} {ifs : List Expr} {fa fb fc el : De D} {ga tt : De Bool} {pos : Pos} {it : De (List D)} {bd : D → S → Option S} {scope : Scope} {own : List (Str × Nat)} {ts : List Nat}
def dYes : De Bool := rtn true
theorem ts_nil : STs G [] dYes := ⟨_, fun X h => pts_nil, fun E P H σ s Q st hp => po_rtn hp st⟩
theorem ts_one : ST G c ga → STs G [c] ga := by
  rintro ⟨tc, pc, hc⟩
  exact ⟨_, fun X h => pts_one (pc X h), hc⟩
theorem Stt.updX {K : PySem.W.Frag} {E : En} {P : Pr} {H : Hp} {σ : L2.St} {s : S} (st : Stt K E P H σ s) {q : Addr} {o : HO} (np : ¬ P q) (no : ¬ Owns σ s q) (e0 : E.H0 q = none) (nI : ∀ d, ¬ TkAt K E.M H P q d) : Stt K E P (upd H q o) σ s := by
  have pk := keep_upd np (H := H) o
  have ke : ∀ b u, H b = some u → b ≠ q → (upd H q o) b = some u := fun b u z nb => by rw [upd_ne nb]; exact z
  refine ⟨st.len, fun j x hj => ?_, st.dj, st.pg, st.pn, fun b z => ?_, fun b u z m => ke b u (st.kp b u z m) fun w => (by subst w; rw [e0] at z; cases z), fun b m => ?_, st.mp, st.m0, st.tk⟩
  · have w := st.sl j x hj
    cases x with
    | un => trivial
    | sh d => obtain ⟨v, w1, w2⟩ := w; exact ⟨v, w1, w2.k pk⟩
    | ow d => obtain ⟨b, w1, w2, w3, w4⟩ := w; exact ⟨b, w1, w2, w3, w4.keep pk fun u z => ke b u z fun v => no ⟨j, by subst v; exact w1, _, hj, rfl⟩⟩
    | io d => obtain ⟨b, w1, w2, w3, w4⟩ := w; exact ⟨b, w1, w2, w3, w4.keep pk fun u z => ke b u z fun v => no ⟨j, by subst v; exact w1, _, hj, rfl⟩⟩
    | tk d =>
      obtain ⟨b, m, w1, w2⟩ := w
      refine ⟨b, m, w1, w2.keep pk fun c u hc z => ke c u z fun v => ?_⟩
      rcases hc with hc | hc
      · subst v
        exact nI _ (hc ▸ w2)
      · subst v
        obtain ⟨u, w⟩ := st.m0 c hc
        rw [e0] at w; cases w
  · obtain ⟨u, z2⟩ := st.pal b z
    exact ⟨u, ke b u z2 fun w => by subst w; exact np z⟩
  · by_cases w : b = q
    · subst w; exact ⟨_, upd_same⟩
    · obtain ⟨u, z⟩ := st.mx b m
      exact ⟨u, ke b u z w⟩
theorem wipe_eq {σ1 σ : L2.St} {vs : List Nat} (hl : σ1.length = σ.length) (h : ∀ j, j ∉ vs → σ1[j]? = (L2.wipe σ vs)[j]?) : L2.wipe σ1 vs = L2.wipe σ vs := by
  apply List.ext_getElem?
  intro j
  by_cases q : j ∈ vs
  · have w : ∀ (ρ : L2.St), (L2.wipe ρ vs)[j]? = if j < ρ.length then some none else none := by
      intro ρ
      by_cases hj : j < ρ.length
      · rw [if_pos hj]
        have hj' : j < (L2.wipe ρ vs).length := by rw [wipe_length]; exact hj
        rw [List.getElem?_eq_getElem hj']
        cases e : (L2.wipe ρ vs)[j] with
        | none => rfl
        | some v =>
          have e2 : (L2.wipe ρ vs)[j]? = some (some v) := by rw [List.getElem?_eq_getElem hj', e]
          exact ((wipe_some e2).2 q).elim
      · rw [if_neg hj, List.getElem?_eq_none (by rw [wipe_length]; omega)]
    rw [w, w, hl]
  · rw [wipe_off q, h j q]
/-- what a walk meets at (P, H) -/
def ItAt (G : Gam) (J : It) (P : Pr) (H : Hp) (ds : List D) : Prop := (∀ i d, ds[i]? = some d → J.go i H ∧ ∀ x H'', J.yld i H x H'' → ∀ E σ s, Stt G.K E P H σ s →
  ∃ P'', Stt G.K E P'' H'' σ s ∧ Gr E σ s s P H P'' H'' ∧ Dat G.K H'' P'' x d) ∧ ∀ i, ds.length ≤ i → J.stop i H
theorem lc_core {te : TE} {tb : TT} {g1 : TG} (vs : List Nat) (hts : ∀ t ∈ ts, t ∈ vs)
    (hg : ∀ E P H σ s v d s1 Q, Stt G.K E P H σ s → Dat G.K H P v d → bd d s = some s1 → (∀ σ1, Stt G.K E P H σ1 s1 → (∀ j, j ∉ ts → σ1[j]? = σ[j]?) → (∀ a, Owns σ1 s1 a → Owns σ s a) → σ1.length = σ.length → Q σ1 H) → g1 v σ H Q)
    (ht : TTok (GB G scope) tb tt) (he : TEok (GB G scope) te el) {E : En} {P1 : Pr} {H1 : Hp} {σ : L2.St} {s1 sF : S} {Q : VK} {J : It} {ds accF : List D} (st1 : Stt G.K E P1 H1 σ s1)
    (ok : ∀ s' P' H', Stt G.K E P' H' σ s' → Gr E σ s1 s' P1 H1 P' H' → ItAt G J P' H' ds) (er : lcL vs bd tt el ds [] s1 = some (accF, sF))
    (h1 : ∀ P' H' D, Stt G.K E P' H' σ sF → Gr E σ s1 sF P1 H1 P' H' → H1 D = none → ¬ P' D → OwA G.K H' P' D (.list accF) → Q (.ref D) H') : tLc (fun _ H R => R J H) g1 tb te vs σ H1 Q := by
  intro D hD
  obtain ⟨stD, grD⟩ := st1.layO (o := .lst []) hD
  refine ⟨fun i m H' => m = ds.length - i ∧ ∃ acc s' P', Stt G.K E P' H' σ s' ∧ Gr E σ s1 s' P1 H1 P' H' ∧ ¬ P' D ∧ OwA G.K H' P' D (.list acc) ∧ lcL vs bd tt el (ds.drop i) acc s' = some (accF, sF),
    ⟨_, rfl, [], s1, P1, stD, grD, st1.noP hD, ⟨[], upd_same, .nil⟩, er⟩, ?_⟩
  rintro i m H' ⟨rfl, acc, s', P', st', gr', np, ow, hr⟩
  have nownD : ∀ s2, (∀ z, Owns σ s2 z → Owns σ s1 z) → ¬ Owns σ s2 D := fun s2 z q => st1.noOwn hD (z D q)
  have gr0 := gr'
  obtain ⟨go, stop⟩ := ok s' P' H' st' gr0
  by_cases hlt : i < ds.length
  · right
    have hd : ds[i]? = some ds[i] := List.getElem?_eq_getElem hlt
    obtain ⟨go1, yl⟩ := go i _ hd
    have edr : ds.drop i = ds[i] :: ds.drop (i + 1) := List.drop_eq_getElem_cons hlt
    rw [edr] at hr
    unfold lcL at hr
    obtain ⟨p1, hs1, hr⟩ := Option.bind_eq_some_iff.mp hr
    refine ⟨go1, fun H3 => ∃ acc s3 P3, Stt G.K E P3 H3 σ s3 ∧ Gr E σ s1 s3 P1 H1 P3 H3 ∧ ¬ P3 D ∧ OwA G.K H3 P3 D (.list acc) ∧ lcL vs bd tt el (ds.drop (i + 1)) acc s3 = some (accF, sF),
      fun H3 z => ⟨ds.length - (i + 1), by omega, rfl, z⟩, fun x H'' hy => ?_⟩
    obtain ⟨P'', st2, gr2, dx⟩ := yl x H'' hy E σ s' st'
    have nD1 : ¬ Owns σ s' D := nownD s' gr'.ow
    have np2 : ¬ P'' D := fun z => by
      rcases gr2.nw D z with z | z | z
      · exact np z
      · obtain ⟨o, eo⟩ := ow.ex; rw [eo] at z; cases z
      · exact nD1 z
    have ow2 : OwA G.K H'' P'' D (.list acc) := ow.keep (gr2.pk st') fun o eo => gr2.kp D o eo nD1 (st1.noM hD)
    have hs1' := hs1
    unfold lcStep at hs1
    split at hs1
    · rename_i hok
      obtain ⟨sb, eb, hs1⟩ := Option.bind_eq_some_iff.mp hs1
      refine hg E P'' H'' _ _ x _ sb _ (st2.wipe vs) dx eb fun σ1 st3 hσ hown hlen => ?_
      have hσ' : ∀ j, j ∉ vs → σ1[j]? = (L2.wipe σ vs)[j]? := fun j hj => hσ j fun z => hj (hts j z)
      have hσ2 : ∀ j, j ∉ vs → σ1[j]? = σ[j]? := fun j hj => (hσ' j hj).trans (wipe_off hj)
      have hl1 : σ1.length = σ.length := hlen.trans (wipe_length σ vs)
      refine ⟨wipe_eq hl1 hσ', ?_⟩
      have nD3 : ¬ Owns σ1 sb D := fun z => nD1 (owns_wipe (hown D z))
      -- from a state of the block back to the slots ahead
      have back : ∀ s3 P3 H5 H3 acc2, Stt G.K E P3 H3 σ1 s3 → Gr E σ1 sb s3 P'' H'' P3 H5 → (∀ b, b ≠ D → H3 b = H5 b) → s3.length = s'.length → (∃ xs, H3 D = some (.lst xs) ∧ DatL G.K H3 P3 xs acc2) → ¬ P3 D →
          lcL vs bd tt el (ds.drop (i + 1)) acc2 (restS s' s3 vs) = some (accF, sF) →
          ∃ acc s4 P4, Stt G.K E P4 H3 σ s4 ∧ Gr E σ s1 s4 P1 H1 P4 H3 ∧ ¬ P4 D ∧ OwA G.K H3 P4 D (.list acc) ∧ lcL vs bd tt el (ds.drop (i + 1)) acc s4 = some (accF, sF) := by
        intro s3 P3 H5 H3 acc2 st4 gr4 hne hl wo np4 hr4
        have pk4 : Pk P' H' P3 H3 := by
          have z := (gr2.pk st').trans (gr4.pk st3)
          exact ⟨z.le, fun b o q w => by rw [hne b fun v => np (by subst v; exact q)]; exact z.kp b o q w⟩
        have st5 := st'.rest hok.1 st4 pk4 hσ2 hl
        have grA := gr'.trans gr2
        refine ⟨acc2, _, P3, st5, ⟨fun b z => gr4.le b (grA.le b z), fun b o z no nm => ?_, fun b z => ?_, fun b w => ?_, fun b z => ?_⟩, np4, wo, hr4⟩
        · have nb : b ≠ D := fun v => by subst v; rw [hD] at z; cases z
          rw [hne b nb]
          exact gr4.kp b o (grA.kp b o z no nm) (fun w => no (grA.ow b (owns_wipe (hown b w)))) nm
        · rcases gr4.nw b z with q | q | q
          · exact grA.nw b q
          · exact .inr (.inl (grA.ex b q))
          · exact .inr (.inr (grA.ow b (owns_wipe (hown b q))))
        · exact grA.ow b (owns_wipe (hown b (gr4.ow b (owns_rest hok.1 hσ2 w))))
        · by_cases nb : b = D
          · subst nb; exact hD
          · rw [hne b nb] at z
            exact grA.ex b (gr4.ex b z)
      refine ht E P'' H'' σ1 sb _ st3 ?_
      cases et : tt sb with
      | none => rw [et] at hs1; cases hs1
      | some rt =>
        rw [et] at hs1
        cases rt with
        | ex c => cases hs1
        | ok bb s2b =>
          intro P4 H4 st4 gr4
          have nD4 : ¬ P4 D := fun z => by
            rcases gr4.nw D z with q | q | q
            · exact np2 q
            · obtain ⟨o, eo⟩ := ow2.ex; rw [eo] at q; cases q
            · exact nD3 q
          have ow4 : OwA G.K H4 P4 D (.list acc) := ow2.keep (gr4.pk st3) fun o eo => gr4.kp D o eo nD3 (st1.noM hD)
          cases bb with
          | false =>
            rw [if_neg (by decide)]
            have hs1 : (if s2b.length = s'.length then some (acc, restS s' s2b vs) else none) = some p1 := hs1
            split at hs1
            · rename_i hl
              cases hs1
              exact back s2b P4 H4 H4 acc st4 gr4 (fun _ _ => rfl) hl ow4 nD4 hr
            · cases hs1
          | true =>
            rw [if_pos rfl]
            have hs1 : (match el s2b with | some (.ok y s3) => if s3.length = s'.length then some (acc ++ [y], restS s' s3 vs) else none | _ => none) = some p1 := hs1
            refine he E P4 H4 σ1 s2b _ st4 ?_
            cases ee : el s2b with
            | none => rw [ee] at hs1; cases hs1
            | some re =>
              rw [ee] at hs1
              cases re with
              | ex c => cases hs1
              | ok yd s3 =>
                intro P5 H5 st5 gr5 yv hy5
                have hs1 : (if s3.length = s'.length then some (acc ++ [yd], restS s' s3 vs) else none) = some p1 := hs1
                split at hs1
                · rename_i hl
                  cases hs1
                  have nD4' : ¬ Owns σ1 s2b D := fun z => nD3 (gr4.ow D z)
                  have nD5 : ¬ P5 D := fun z => by
                    rcases gr5.nw D z with q | q | q
                    · exact nD4 q
                    · obtain ⟨o, eo⟩ := ow4.ex; rw [eo] at q; cases q
                    · exact nD4' q
                  obtain ⟨xs, w1, w2⟩ := ow4.keep (gr5.pk st4) fun o eo => gr5.kp D o eo nD4' (st1.noM hD)
                  refine ⟨xs, w1, by rw [w2.len]; exact lt5 hok.2, ?_⟩
                  have nD5' : ¬ Owns σ1 s3 D := fun z => nD4' (gr5.ow D z)
                  have pkD : Pk P5 H5 P5 (upd H5 D (.lst (xs ++ [yv]))) := keep_upd nD5 _
                  have stU : Stt G.K E P5 (upd H5 D (.lst (xs ++ [yv]))) σ1 s3 := st5.updX nD5 nD5' (st1.h0 hD) fun d z => z.notOw (n := .list _) ⟨xs, w1, w2⟩ rfl
                  exact back s3 P5 H5 _ _ stU (gr4.trans gr5) (fun b nb => upd_ne nb) hl ⟨_, upd_same, (w2.app (.cons hy5 .nil)).k pkD⟩ nD5 hr
                · cases hs1
    · cases hs1
  · left
    rw [List.drop_eq_nil_of_le (by omega)] at hr
    cases hr
    exact ⟨stop i (by omega), h1 P' H' D st' gr0 hD np ow⟩

theorem o_lc {te : TE} {tb : TT} {wi : TI} {g1 : TG} (vs : List Nat) (hts : ∀ t ∈ ts, t ∈ vs)
    (hi : TIok G wi it) (hg : ∀ E P H σ s v d s1 Q, Stt G.K E P H σ s → Dat G.K H P v d → bd d s = some s1 → (∀ σ1, Stt G.K E P H σ1 s1 → (∀ j, j ∉ ts → σ1[j]? = σ[j]?) → (∀ a, Owns σ1 s1 a → Owns σ s a) → σ1.length = σ.length → Q σ1 H) → g1 v σ H Q)
    (ht : TTok (GB G scope) tb tt) (he : TEok (GB G scope) te el) : TOok G (tLc wi g1 tb te vs) (dLc it vs bd tt el) := by
  intro E P H σ s Q st hp
  refine hi E P H σ s _ st (po_step hp fun ds s1 P1 H1 ee st1 gr1 h1 J ok => ?_)
  cases er : lcL vs bd tt el ds [] s1 with
  | none => rw [er] at h1; exact h1.elim
  | some r =>
    obtain ⟨accF, sF⟩ := r
    rw [er] at h1
    have h1 : Po G E P1 H1 σ s1 (some (.ok (.list accF) sF)) (RO G H Q) := h1
    exact lc_core vs hts hg ht he st1 (fun s' P' H' st' gr' => ok P' H' (gr'.pk st1)) er fun P' H' D st' gr' hD np ow => h1 P' H' st' gr' D (gr1.ex D hD) np ow
theorem o_comp (own : List (Str × Nat)) (hh1 : SI G tg iter it) (hh2 : SG (GB G scope) tg ts bd) (hh3 : STs (GB G scope) ifs tt) (hh4 : SE (GB G scope) elt el) (hok : blkC G.N G.sc scope own = true := by first | kernel_rfl | rfl) (hts : ∀ t ∈ ts, t ∈ own.map (·.2) := by decide) (hs : ∀ (X : Cx) x, foldedSetIterable iter X.env x = pure x := by intro _ _; rfl) :
    SO G (.ListComp elt [⟨tg, iter, ifs, 0⟩] scope pos) (dLc it (own.map (·.2)) bd tt el) := by
  revert hh1 hh2 hh3 hh4
 
  rintro ⟨wi, pi, hi⟩ ⟨g1, pg, hg⟩ ⟨tb, pt, ht⟩ ⟨te, pe, he⟩
  refine ⟨_, fun X h => pe_lc (own := own) h.calm h.nd (pi X h) (blkOk_by (by rw [h.N, h.sc]; exact hok)) (fun s H C cl fp => pg _ (h.blk scope s H C cl fp)) (fun s H C cl fp => pt _ (h.blk scope s H C cl fp)) (fun s H C cl fp => pe _ (h.blk scope s H C cl fp)) (hs X), ?_⟩
  exact o_lc _ hts hi hg ht he
variable {y : Str} {py spos : Pos}
/-- y = [..] on one line, y a local name: data that stay | an object of one's own -/
theorem s_setLc (i : Nat) (own : List (Str × Nat)) (hh1 : SI G tg iter it) (hh2 : SG (GB G scope) tg ts bd) (hh3 : STs (GB G scope) ifs tt) (hh4 : SE (GB G scope) elt el) (hN : G.N[i]? = some y := by rfl) (hl : G.sc.names.lookup y = some .local := by rfl) (hk : G.sc.kind = .function := by rfl) (hln : (py.line == pos.line) = true := by rfl) (hna : (scope.names.any fun (n, k) => n == y && (k == .local || k == .cell)) = false := by decide +kernel) (hok : blkC G.N G.sc scope own = true := by first | kernel_rfl | rfl) (hts : ∀ t ∈ ts, t ∈ own.map (·.2) := by decide) (hs : ∀ (X : Cx) x, foldedSetIterable iter X.env x = pure x := by intro _ _; rfl) :
    SS G (.Assign [.Name y py] (.ListComp elt [⟨tg, iter, ifs, 0⟩] scope pos) spos) (sAsg (dSh (dLc it (own.map (·.2)) bd tt el)) (bName i)) := by
  revert hh1 hh2 hh3 hh4
 
  rintro ⟨wi, pi, hi⟩ ⟨g1, pg, hg⟩ ⟨tb, pt, ht⟩ ⟨te, pe, he⟩
  refine ⟨_, fun X h => ps_setLc (i := i) (own := own) h.calm h.nd (by rw [h.N]; exact hN) (by rw [h.sc]; exact hl) (sw_true (by rw [h.sc]; exact hk) (by rw [h.sc]; exact hl) hln hna) (pi X h) (blkOk_by (by rw [h.N, h.sc]; exact hok))
    (fun s H C cl fp => pg _ (h.blk scope s H C cl fp)) (fun s H C cl fp => pt _ (h.blk scope s H C cl fp)) (fun s H C cl fp => pe _ (h.blk scope s H C cl fp)) (hs X), fun E P H σ s N st hp => ?_⟩
  have core : TOok G (tLc wi g1 tb te (own.map (·.2))) (dLc it (own.map (·.2)) bd tt el) := o_lc _ hts hi hg ht he
  have sh : TEok G (tLc wi g1 tb te (own.map (·.2))) (dSh (dLc it (own.map (·.2)) bd tt el)) := te_sh core
  exact sh E P H σ s _ st (pos_e st hp fun d s1 P1 H1 st1 gr1 h1 v dv => h1 _ P1 H1 (st1.setSh dv) Pk.refl)
theorem s_setLcO (i : Nat) (own : List (Str × Nat)) (hh1 : SI G tg iter it) (hh2 : SG (GB G scope) tg ts bd) (hh3 : STs (GB G scope) ifs tt) (hh4 : SE (GB G scope) elt el) (hN : G.N[i]? = some y := by rfl) (hl : G.sc.names.lookup y = some .local := by rfl) (hk : G.sc.kind = .function := by rfl) (hln : (py.line == pos.line) = true := by rfl) (hna : (scope.names.any fun (n, k) => n == y && (k == .local || k == .cell)) = false := by decide +kernel) (hok : blkC G.N G.sc scope own = true := by first | kernel_rfl | rfl) (hts : ∀ t ∈ ts, t ∈ own.map (·.2) := by decide) (hs : ∀ (X : Cx) x, foldedSetIterable iter X.env x = pure x := by intro _ _; rfl) :
    SS G (.Assign [.Name y py] (.ListComp elt [⟨tg, iter, ifs, 0⟩] scope pos) spos) (sSetO i (dLc it (own.map (·.2)) bd tt el)) := by
  revert hh1 hh2 hh3 hh4
 
  rintro ⟨wi, pi, hi⟩ ⟨g1, pg, hg⟩ ⟨tb, pt, ht⟩ ⟨te, pe, he⟩
  refine ⟨_, fun X h => ps_setLc (i := i) (own := own) h.calm h.nd (by rw [h.N]; exact hN) (by rw [h.sc]; exact hl) (sw_true (by rw [h.sc]; exact hk) (by rw [h.sc]; exact hl) hln hna) (pi X h) (blkOk_by (by rw [h.N, h.sc]; exact hok))
    (fun s H C cl fp => pg _ (h.blk scope s H C cl fp)) (fun s H C cl fp => pt _ (h.blk scope s H C cl fp)) (fun s H C cl fp => pe _ (h.blk scope s H C cl fp)) (hs X), fun E P H σ s N st hp => ?_⟩
  have core : TOok G (tLc wi g1 tb te (own.map (·.2))) (dLc it (own.map (·.2)) bd tt el) := o_lc _ hts hi hg ht he
  exact core E P H σ s _ st (pos_e st hp fun d s1 P1 H1 st1 gr1 h1 b n1 n2 ow => h1 _ P1 H1 (st1.setOw n2 (st.h0 n1) (fun z => st.noOwn n1 (gr1.ow b z)) ow) Pk.refl)
/-- a comprehension whose target is a cell: stored as any value -/
theorem sw_false (hl : G.sc.names.lookup y ≠ some .local) : ∀ X : Cx, Cls G X → swapsWith (.ListComp elt [⟨tg, iter, ifs, 0⟩] scope pos) (some (.Name y py)) spos.line X.env = pure false := by
  intro X h
  have ky : X.env.kindOf y ≠ some .local := by
    show X.env.scope.names.lookup y ≠ _
    rw [h.sc]
    exact hl
  have kb : (X.env.kindOf y == some NameKind.local) = false := by
    cases e : X.env.kindOf y with
    | none => rfl
    | some k =>
      rw [e] at ky
      cases k <;> first | rfl | exact (ky rfl).elim
  unfold swapsWith
  simp only [kb, Bool.and_false, Bool.false_and]
end
end Od

namespace Od
open PySem PySem.Spec PyProof.Rows L2

/-! ### a constant of the module -/
section
variable {G : Gam} {pos : Pos} {x : Str}
theorem e_glob {i : Int} (hm : ∃ t, G.mg x = some (.int i t)) (hg : G.sc.names.lookup x = some .globalImplicit := by rfl) (hdb : (x == ("__debug__" : Str)) = false := by decide) : SE G (.Name x pos) (dC (.int i)) := by
  obtain ⟨t, e⟩ := hm
  exact ⟨_, fun X h => pe_glob (v := V.int i) (h.gl hg) (by rw [h.mg]; exact e) (show ∃ t', _ = Value.int i t' from ⟨t, rfl⟩) hdb, fun E P H σ s Q st h => po_rtn h st _ (.int i)⟩
end

/-! ### a def by its body -/
def startS (io : Bool) (n : Nat) (ds : List D) : S :=
  match io, ds with
  | true, d :: r => .io d :: r.map .sh ++ List.replicate (n - ds.length) .un
  | _, ds => ds.map .sh ++ List.replicate (n - ds.length) .un
def runs (io own : Bool) (n : Nat) (g : DeS) (ds : List D) : Option FR :=
  match g (startS io n ds) with
  | some (.rt d s') => (match io with
    | false => some (.ret d .none)
    | true => (match (s'[0]? : Option Sl) with
      | some (.io m) => some (.ret d m)
      | _ => none))
  | some (.nx s') => (match own with
    | true => none
    | false => (match io with
      | false => some (.ret .none .none)
      | true => (match (s'[0]? : Option Sl) with
        | some (.io m) => some (.ret .none m)
        | _ => none)))
  | some (.ex c) => some (.ex c)
  | _ => none
theorem start_len {N : List Str} {vs : List V} (h : vs.length ≤ N.length) : (L2.start N vs).length = N.length := by
  unfold L2.start
  rw [List.length_append, List.length_map, List.length_replicate]
  omega
theorem start_at {N : List Str} {vs : List V} {i : Nat} {v : V} (h : vs[i]? = some v) : (L2.start N vs)[i]? = some (some v) := by
  have hl := (List.getElem?_eq_some_iff.mp h).1
  unfold L2.start
  rw [List.getElem?_append_left (by rw [List.length_map]; exact hl), List.getElem?_map, h]
  rfl
theorem shs_at {K : PySem.W.Frag} {H : Hp} {P : Pr} {vs : List V} {ds : List D} (h : DatL K H P vs ds) {i : Nat} {x : Sl} {m : Nat} (e : (ds.map Sl.sh ++ List.replicate m Sl.un)[i]? = some x) :
    x = .un ∨ ∃ d v, x = .sh d ∧ vs[i]? = some v ∧ Dat K H P v d := by
  by_cases q : i < ds.length
  · rw [List.getElem?_append_left (by rw [List.length_map]; exact q), List.getElem?_map] at e
    obtain ⟨d, e1, e2⟩ := Option.map_eq_some_iff.mp e
    obtain ⟨v, h1, h2⟩ := h.get e1
    exact .inr ⟨d, v, e2.symm, h1, h2⟩
  · rw [List.getElem?_append_right (by rw [List.length_map]; omega), List.getElem?_replicate] at e
    split at e
    · exact .inl (Option.some.inj e).symm
    · cases e
theorem stt_start {K : PySem.W.Frag} {H : Hp} {P : Pr} {io : Bool} {N : List Str} {vs : List V} {ds : List D} (pal : ∀ a, P a → ∃ o, H a = some o) (ha : ArgsOk K H P io vs ds) (hn : ds.length ≤ N.length) :
    Stt K ⟨H, IoR io vs, P, none⟩ P H (L2.start N vs) (startS io N.length ds) ∧ vs.length = ds.length := by
  cases io with
  | false =>
    have hv : DatL K H P vs ds := ha
    have e : startS false N.length ds = ds.map .sh ++ List.replicate (N.length - ds.length) .un := by cases ds <;> rfl
    rw [e]
    have noO : ∀ i a, ¬ Own (L2.start N vs) (ds.map Sl.sh ++ List.replicate (N.length - ds.length) Sl.un) i a := by
      rintro i a ⟨_, x, h2, h3⟩
      rcases shs_at hv h2 with z | ⟨d, v, z, _⟩
      · subst z; cases h3
      · subst z; cases h3
    refine ⟨⟨?_, fun i x hx => ?_, fun i j a o => (noO i a o).elim, fun _ z => z, fun _ z => .inl z, pal, fun _ _ z _ => z, fun a z => (nomatch z.1), fun a z => (nomatch z.1), fun a z => (nomatch z.1), fun i j d e h1 _ => ?_⟩, hv.len⟩
    rotate_left 2
    · rcases shs_at hv h1 with z | ⟨_, _, z, _⟩ <;> cases z
    · rw [start_len (by rw [hv.len]; exact hn), List.length_append, List.length_map, List.length_replicate]
      omega
    · rcases shs_at hv hx with z | ⟨d, v, z, h1, h2⟩
      · subst z; trivial
      · subst z; exact ⟨v, start_at h1, h2⟩
  | true =>
    obtain ⟨a, vs', d, ds', rfl, rfl, np, ow, hv⟩ := ha
    have e : startS true N.length (d :: ds') = .io d :: (ds'.map .sh ++ List.replicate (N.length - (d :: ds').length) .un) := rfl
    rw [e]
    have hl : (V.ref a :: vs').length = (d :: ds').length := congrArg (· + 1) hv.len
    have at0 : (L2.start N (V.ref a :: vs'))[0]? = some (some (.ref a)) := start_at rfl
    have own0 : ∀ i b, Own (L2.start N (V.ref a :: vs')) (.io d :: (ds'.map Sl.sh ++ List.replicate (N.length - (d :: ds').length) Sl.un)) i b → i = 0 := by
      rintro i b ⟨_, x, h2, h3⟩
      cases i with
      | zero => rfl
      | succ i =>
        rw [List.getElem?_cons_succ] at h2
        rcases shs_at hv h2 with z | ⟨d, v, z, _⟩
        · subst z; cases h3
        · subst z; cases h3
    have mx : ∀ b, IoR true (V.ref a :: vs') b → b = a := fun b z => by
      have z := z.2
      simp at z
      exact z.symm
    refine ⟨⟨?_, fun i x hx => ?_, fun i j b o1 o2 => (own0 i b o1).trans (own0 j b o2).symm, fun _ z => z, fun _ z => .inl z, pal, fun _ _ z _ => z, fun b z => ?_, fun b z => ?_, fun b z => ?_, fun i j d e h1 _ => ?_⟩, hl⟩
    rotate_left 3
    · rw [mx b z]; exact np
    · rw [mx b z]; exact ow.ex
    · cases i with
      | zero => cases h1
      | succ i =>
        rw [List.getElem?_cons_succ] at h1
        rcases shs_at hv h1 with z | ⟨_, _, z, _⟩ <;> cases z
    · rw [start_len (by rw [hl]; exact hn), List.length_cons, List.length_append, List.length_map, List.length_replicate]
      rw [List.length_cons] at hn ⊢
      omega
    · cases i with
      | zero =>
        cases hx
        exact ⟨a, at0, np, ⟨⟨rfl, rfl⟩, rfl⟩, ow⟩
      | succ i =>
        rw [List.getElem?_cons_succ] at hx
        rcases shs_at hv hx with z | ⟨d, v, z, h1, h2⟩
        · subst z; trivial
        · subst z
          exact ⟨v, start_at (by rw [List.getElem?_cons_succ]; exact h1), h2⟩
    · have z := z.2
      simp at z
      subst z
      exact ow.ex
/-- where a def's body stands -/
abbrev gam (P : Program) (w : World) (K : PySem.W.Frag) (mg : Str → Option Value) (base : Heap) (N : List Str) (sc : Scope) (k : Nat) (own : Bool) (E : XK) : Gam := ⟨P, w, K, mg, base, N, sc, k, E, own, fun _ => true⟩
section
variable {P : Program} {w : World} {K : PySem.W.Frag} {mg : Str → Option Value} {base : Heap} {N ps : List Str} {k : Nat}
theorem cls_body {qual : Str} {scope : Scope} {f : Addr} {cdv : Value} {A : Around} {outer : List Env} {s : Shared} {H : Hp} {E : XK} {own : Bool} (nd : N.Nodup) (rm : Room k (A.deeper (envOfC qual scope s.heap.objs.size f cdv))) (gd : A.guards = some []) :
    Cls (gam P w K mg base N scope k own E) (cxOf (L2.CX P w) P w K mg base N qual scope f cdv A outer s H E) := by
  have tk : L2.Takes (cxOf (L2.CX P w) P w K mg base N qual scope f cdv A outer s H E) (fun c d _ H => E c d H) := takes_of rfl rfl rfl rfl
  exact ⟨rfl, rfl, rfl, rfl, rfl, rfl, nd, rfl, rfl, rm, gd, passes_call tk fun _ _ _ _ z => z, passes_of rfl, tk, fun _ _ => rfl⟩
/-- THE RULE: the body does what the promise says of data -/
theorem def_of {fs : FS} {x qual : Str} {params : Arguments} {body : List Stmt} {scope : Scope} {kws : List (Str × V)} {f : Addr} {fd : FuncData} {g : DeS} (F : FunD K x qual params body scope [] kws f fd) (Sc : FnScope N ps scope) (hps : ps.length = fs.n) (hN : fs.n ≤ N.length)
    (hb : ∀ E : XK, SB (gam P w K mg base N scope k fs.own E) body g)
    (hr : ∀ ds r, ds.length = fs.n → fs.f ds = some r → runs fs.io fs.own N.length g ds = some r) : FnG P w K mg base (k + 1) f fd ps (spOf K mg fs) := by
  obtain ⟨oc, od, dV, kV, doc, pm, an, cdv, ct, osl, rfl, lk, hcd, _, _⟩ := F.ex
  refine fng_of lk hcd Sc (fun vs H Q E h => h.1.trans hps.symm) fun A outer s H vs Q E rm gd want => ?_
  obtain ⟨hlen, Pa, ds, pal, ha, hw⟩ := want
  obtain ⟨t, pt, ht⟩ := hb E
  refine ⟨t, pt _ (cls_body Sc.nd rm gd), ?_⟩
  have hvd : vs.length = ds.length := by
    cases hio : fs.io with
    | false => rw [hio] at ha; exact DatL.len ha
    | true =>
      rw [hio] at ha
      obtain ⟨a, vs', d, ds', rfl, rfl, _, _, hv⟩ := ha
      exact congrArg (· + 1) hv.len
  obtain ⟨st, _⟩ := stt_start (N := N) pal ha (by rw [← hvd, hlen]; exact hN)
  refine ht ⟨H, IoR fs.io vs, Pa, none⟩ Pa H _ _ _ st ?_
  cases ef : fs.f ds with
  | none => rw [ef] at hw; exact hw.elim
  | some r =>
    rw [ef] at hw
    have hrun := hr ds r (hvd.symm.trans hlen) ef
    -- what is so at every end
    have fin : ∀ {d m : D} {v : V} {σ' : L2.St} {P' : Pr} {H' : Hp} {s' : S}, r = .ret d m → Stt K ⟨H, IoR fs.io vs, Pa, none⟩ P' H' σ' s' →
        (if fs.own = true then ∃ b, v = .ref b ∧ H b = none ∧ ¬ P' b ∧ OwA K H' P' b d else Dat K H' P' v d) → (fs.io = true → s'[0]? = some (.io m)) → Q v H' := by
      intro d m v σ' P' H' s' er st' hv hi
      subst er
      refine hw v P' H' ⟨st'.pg, fun a z => st'.pn a z, st'.pal, fun a o z q => st'.kp a o z q, fun a z => ?_, hv, fun hio => ?_⟩
      · exact st'.h0 z
      · obtain ⟨b, h1, h2, h3, h4⟩ := st'.sl 0 _ (hi hio)
        exact ⟨b, h3.1.2, h2, h4⟩
    unfold runs at hrun
    cases eg : g (startS fs.io N.length ds) with
    | none => rw [eg] at hrun; cases hrun
    | some o =>
      rw [eg] at hrun
      cases o with
      | bk s' => cases hrun
      | ct s' => cases hrun
      | ex c =>
        cases hrun
        exact fun H' q => hw H' fun a o z m => q a o z m
      | rt d s' =>
        intro v σ' P' H' st' hv
        have hrun : (match fs.io with | false => some (FR.ret d .none) | true => (match (s'[0]? : Option Sl) with | some (.io m) => some (.ret d m) | _ => none)) = some r := hrun
        cases hio : fs.io with
        | false =>
          rw [hio] at hrun
          cases hrun
          exact fin rfl st' hv fun z => by rw [hio] at z; cases z
        | true =>
          rw [hio] at hrun
          dsimp only at hrun
          split at hrun
          · rename_i m e0
            cases hrun
            exact fin rfl st' hv fun _ => e0
          · cases hrun
      | nx s' =>
        intro σ' P' H' st' pk
        have hrun : (match fs.own with | true => none | false => (match fs.io with | false => some (FR.ret .none .none) | true => (match (s'[0]? : Option Sl) with | some (.io m) => some (.ret .none m) | _ => none))) = some r := hrun
        have hown : fs.own = false := by
          cases e : fs.own with
          | false => rfl
          | true => rw [e] at hrun; cases hrun
        rw [hown] at hrun
        dsimp only at hrun
        have hv : if fs.own = true then ∃ b, V.non = .ref b ∧ H b = none ∧ ¬ P' b ∧ OwA K H' P' b .none else Dat K H' P' V.non .none := by
          rw [hown, if_neg (by decide)]
          exact .non
        cases hio : fs.io with
        | false =>
          rw [hio] at hrun
          cases hrun
          exact fin rfl st' hv fun z => by rw [hio] at z; cases z
        | true =>
          rw [hio] at hrun
          dsimp only at hrun
          split at hrun
          · rename_i m e0
            cases hrun
            exact fin rfl st' hv fun _ => e0
          · cases hrun
theorem defG_of {fs : FS} {x qual : Str} {params : Arguments} {body : List Stmt} {scope : Scope} {kws : List (Str × V)} {f : Addr} {fd : FuncData} {g : DeS} (hm : mg x = some (.ref f)) (F : FunD K x qual params body scope [] kws f fd) (hb0 : Binds K fd ps []) (Sc : FnScope N ps scope) (hps : ps.length = fs.n) (hN : fs.n ≤ N.length)
    (hb : ∀ E : XK, SB (gam P w K mg base N scope k fs.own E) body g)
    (hr : ∀ ds r, ds.length = fs.n → fs.f ds = some r → runs fs.io fs.own N.length g ds = some r) : DefG P w K mg base (k + 1) x fs :=
  ⟨f, fd, ps, hm, F.kp, hb0, hps, def_of F Sc hps hN hb hr⟩
end

/-! ### isinstance -/
inductive Ty where
  | int | bool | tuple | list | str
  deriving DecidableEq
def Ty.nm : Ty → String
  | .int => "int"
  | .bool => "bool"
  | .tuple => "tuple"
  | .list => "list"
  | .str => "str"
def tyD : D → Option String
  | .none => some "NoneType"
  | .bool _ => some "bool"
  | .int _ => some "int"
  | .str _ => some "str"
  | .list _ => some "list"
  | .tuple _ => some "tuple"
  | .dict _ => none
def isiB : D → Ty → Bool
  | .int _, .int => true
  | .bool _, .int => true
  | .bool _, .bool => true
  | .tuple _, .tuple => true
  | .list _, .list => true
  | .str _, .str => true
  | _, _ => false
theorem kit_D {K : PySem.W.Frag} {d : D} {t : String} (T : Ty) (e : tyD d = some t) : PySem.W.kitOne K (.type t) (.type T.nm) = some (isiB d T) := by
  cases d <;> cases e <;> cases T <;> first | exact kit_ty (r := true) (by decide +kernel) | exact kit_ty (r := false) (by decide +kernel)
theorem Vw.ty {K : PySem.W.Frag} {H : Hp} {P : Pr} {v : V} {d : D} {t : String} (h : Vw K H P v d) (e : tyD d = some t) : TyX K H v (.type t) := by
  cases d with
  | none => cases e; rw [h.nonOf]; exact .base .non
  | bool b => cases e; rw [h.blOf]; exact .base (.bl b)
  | int i => cases e; rw [h.intOf]; exact .base (.int i)
  | str x => cases e; rw [h.strOf]; exact .base (.str x)
  | list ds => cases e; obtain ⟨a, xs, rfl, h1, _⟩ := h.lstOf; exact .base (.lst h1)
  | tuple ds => cases e; obtain ⟨a, xs, rfl, _, h1, _⟩ := h.tupOf; exact .base (.tup h1)
  | dict kvs => cases e
def fIsi (T : Ty) : D → Option D := fun d => (tyD d).map fun _ => .bool (isiB d T)
def fIsi2 (T U : Ty) : D → Option D := fun d => (tyD d).map fun _ => .bool (isiB d T || isiB d U)
section
variable {G : Gam} {a : Expr} {oa : Opd} {pos p p2 p3 p4 : Pos} {x y : Str}
theorem e_isi (T : Ty) (hm : G.mg ("isinstance" : Str) = none) (hmT : G.mg x = none) (hh1 : SV G a oa) (hg : G.sc.names.lookup ("isinstance" : Str) = some .globalImplicit := by rfl) (hgT : G.sc.names.lookup x = some .globalImplicit := by rfl) (hvT : bootBuiltins x = some (.type T.nm) := by decide +kernel) (hnT : x ≠ "__name__" := by decide) (hdT : (x == ("__debug__" : Str)) = false := by decide) (hs : ∀ X : Cx, starEach [a, .Name x p2] X.env = (false, eval a X.env) :: starEach [.Name x p2] X.env := by intro _; rfl) :
    SE G (.Call (.Name "isinstance" p) [a, .Name x p2] [] pos) (d1 oa (fIsi T)) := by
  revert hh1
 
  rintro ⟨ta, pa, ha⟩
  refine ⟨tCB (rIsi G.K) (tCons ta (tCons (tC (.ty T.nm)) tNil)), fun X h => ?_, fun E P H σ s Q st hp => ?_⟩
  · have z := pe_callB (X := X) (pos := pos) (p := p) call_isi (h.gl hg) (h.mn hm) (by decide +kernel) (pa_cons (pa X h) (pa_cons (pe_bltn (v := .ty T.nm) (pos := p2) (h.gl hgT) (h.mn hmT) hvT rfl hnT hdT) pa_nil rfl) (hs X)) (by decide) (by decide) (hs X) rfl
    rw [h.K] at z
    exact z
  · exact po_1 (r := fun xs H Q => rIsi G.K (xs ++ [.ty T.nm]) H Q) ha st hp fun s2 P2 H2 v dv d st2 gr2 hx ed k => by
      obtain ⟨t, et, rfl⟩ := Option.map_eq_some_iff.mp ed
      exact ⟨v, .ty T.nm, .type t, .type T.nm, _, rfl, .ty _, hx.ty et, kit_D T et, k P2 H2 st2 Gr.refl _ (.bl _)⟩
theorem e_isi2 (T U : Ty) {k0 : Nat} (hm : G.mg ("isinstance" : Str) = none) (hmT : G.mg x = none) (hmU : G.mg y = none) (hh1 : SV G a oa) (hg : G.sc.names.lookup ("isinstance" : Str) = some .globalImplicit := by rfl) (hgT : G.sc.names.lookup x = some .globalImplicit := by rfl) (hgU : G.sc.names.lookup y = some .globalImplicit := by rfl) (hvT : bootBuiltins x = some (.type T.nm) := by decide +kernel) (hnT : x ≠ "__name__" := by decide) (hdT : (x == ("__debug__" : Str)) = false := by decide) (hvU : bootBuiltins y = some (.type U.nm) := by decide +kernel) (hnU : y ≠ "__name__" := by decide) (hdU : (y == ("__debug__" : Str)) = false := by decide) (hs : ∀ X : Cx, starEach [a, .Tuple [.Name x p2, .Name y p3] k0 p4] X.env = (false, eval a X.env) :: starEach [.Tuple [.Name x p2, .Name y p3] k0 p4] X.env := by intro _; rfl) :
    SE G (.Call (.Name "isinstance" p) [a, .Tuple [.Name x p2, .Name y p3] k0 p4] [] pos) (d1 oa (fIsi2 T U)) := by
  revert hh1
 
  rintro ⟨ta, pa, ha⟩
  refine ⟨tCB (rIsiT G.K) (tCons ta (tCons (tTup (tCons (tC (.ty T.nm)) (tCons (tC (.ty U.nm)) tNil))) tNil)), fun X h => ?_, fun E P H σ s Q st hp => ?_⟩
  · have z := pe_callB (X := X) (pos := pos) (p := p) call_isiT (h.gl hg) (h.mn hm) (by decide +kernel) (pa_cons (pa X h) (pa_cons (pe_tup (x1 := k0) (pos := p4) (pa_cons (pe_bltn (v := .ty T.nm) (pos := p2) (h.gl hgT) (h.mn hmT) hvT rfl hnT hdT) (pa_cons (pe_bltn (v := .ty U.nm) (pos := p3) (h.gl hgU) (h.mn hmU) hvU rfl hnU hdU) pa_nil rfl) rfl)) pa_nil rfl) (hs X)) (by decide) (by decide) (hs X) rfl
    rw [h.K] at z
    exact z
  · refine po_1 (r := fun xs H Q => tTup (tCons (tC (.ty T.nm)) (tCons (tC (.ty U.nm)) tNil)) σ H fun w H2 => rIsiT G.K (xs ++ [w]) H2 Q) ha st hp fun s2 P2 H2 v dv d st2 gr2 hx ed k => ?_
    obtain ⟨t, et, rfl⟩ := Option.map_eq_some_iff.mp ed
    refine ⟨by show 2 ≤ sizeLine; decide, fun q hq => ?_⟩
    obtain ⟨st3, gr3⟩ := st2.lay (o := .tup [.ty T.nm, .ty U.nm]) hq
    have pk := gr3.pk st2
    have hx' : Vw G.K (upd H2 q (.tup [.ty T.nm, .ty U.nm])) (fun a => P2 a ∨ a = q) v dv := by
      rcases hx with z | ⟨a, rfl, z⟩
      · exact .inl (z.k pk)
      · refine .inr ⟨a, rfl, z.keep pk fun o eo => ?_⟩
        rw [upd_ne (ne_of_none eo hq)]; exact eo
    refine ⟨v, q, [.ty T.nm, .ty U.nm], .type t, [.type T.nm, .type U.nm], _, rfl, upd_same, .cons (.ty _) (.cons (.ty _) .nil), hx'.ty et, ?_, k _ _ st3 gr3 _ (.bl (isiB dv T || isiB dv U))⟩
    refine kitAny_cons (b := isiB dv T) (kit_D T et) (fun e1 => ?_) (fun e1 => by rw [e1]; rfl)
    refine kitAny_cons (b := isiB dv U) (kit_D U et) (fun e2 => by rw [e1, e2]; exact kitAny_nil) (fun e2 => by rw [e2, Bool.or_true])
end
end Od

namespace Od
open PySem PySem.Spec PyProof.Rows L2
abbrev oAdd := oI fun i j => .int (i + j)
abbrev oSub := oI fun i j => .int (i - j)
abbrev oLt := oI fun i j => .bool (decide (i < j))
abbrev oLe := oI fun i j => .bool (decide (i ≤ j))
abbrev oGt := oI fun i j => .bool (decide (j < i))
abbrev oGe := oI fun i j => .bool (decide (j ≤ i))
abbrev oMul := oIc cMul fun i j => .int (i * j)
abbrev oDiv := oIc cDiv fun i j => .int (i / j)
abbrev oMod := oIc cMod fun i j => .int (i % j)
abbrev oPow := oIc cPow fun i j => .int (i ^ j.toNat)
/-- the built-in names that no program here binds -/
structure Bi (mg : Str → Option Value) : Prop where
  isinstance : mg "isinstance" = none
  int : mg "int" = none
  bool : mg "bool" = none
  tuple : mg "tuple" = none
  list : mg "list" = none
  str : mg "str" = none
  len : mg "len" = none
  range : mg "range" = none
  all : mg "all" = none
  any : mg "any" = none
  sorted : mg "sorted" = none
  max : mg "max" = none
  min : mg "min" = none
  repr : mg "repr" = none
  zip : mg "zip" = none
  enumerate : mg "enumerate" = none
end Od

namespace Od
open PySem PySem.Spec PyProof.Rows L2

/-! ### ints in order -/
def insI (x : Int) : List Int → List Int
  | [] => [x]
  | y :: ys => if x ≤ y then x :: y :: ys else y :: insI x ys
def srtI : List Int → List Int
  | [] => []
  | x :: xs => insI x (srtI xs)
theorem insI_perm (x : Int) : ∀ ys : List Int, (insI x ys).Perm (x :: ys)
  | [] => .refl _
  | y :: ys => by
    unfold insI
    split
    · exact .refl _
    · exact ((insI_perm x ys).cons y).trans (.swap x y ys)
theorem srtI_perm : ∀ xs : List Int, (srtI xs).Perm xs
  | [] => .refl _
  | x :: xs => (insI_perm x _).trans ((srtI_perm xs).cons x)
theorem insI_sorted (x : Int) : ∀ {ys : List Int}, ys.Pairwise (· ≤ ·) → (insI x ys).Pairwise (· ≤ ·)
  | [], _ => by unfold insI; exact .cons (fun _ h => nomatch h) .nil
  | y :: ys, h => by
    unfold insI
    cases h with
    | cons h1 h2 =>
      split
      · rename_i hxy
        exact .cons (fun z hz => by
          rcases List.mem_cons.mp hz with e | e
          · subst e; exact hxy
          · exact Int.le_trans hxy (h1 z e)) (.cons h1 h2)
      · rename_i hxy
        exact .cons (fun z hz => by
          rcases List.mem_cons.mp ((insI_perm x ys).mem_iff.mp hz) with e | e
          · subst e; omega
          · exact h1 z e) (insI_sorted x h2)
theorem srtI_sorted : ∀ xs : List Int, (srtI xs).Pairwise (· ≤ ·)
  | [] => .nil
  | x :: xs => insI_sorted x (srtI_sorted xs)
theorem sorted_one : ∀ {xs ys : List Int}, xs.Perm ys → xs.Pairwise (· ≤ ·) → ys.Pairwise (· ≤ ·) → xs = ys
  | [], ys, h, _, _ => by rw [List.Perm.nil_eq h]
  | x :: xs, [], h, _, _ => by have := h.length_eq; cases this
  | x :: xs, y :: ys, h, h1, h2 => by
    have e : x = y := by
      cases h1 with
      | cons a1 b1 =>
        cases h2 with
        | cons a2 b2 =>
          have m1 : x ∈ y :: ys := h.mem_iff.mp (List.mem_cons_self)
          have m2 : y ∈ x :: xs := h.mem_iff.mpr (List.mem_cons_self)
          rcases List.mem_cons.mp m1 with e | e
          · exact e
          · rcases List.mem_cons.mp m2 with e2 | e2
            · exact e2.symm
            · have z1 := a2 x e
              have z2 := a1 y e2
              omega
    subst e
    cases h1 with
    | cons a1 b1 =>
      cases h2 with
      | cons a2 b2 => rw [sorted_one (List.Perm.cons_inv h) b1 b2]
theorem srtI_only {xs ys : List Int} (h : ys.Perm xs) (s : ys.Pairwise (· ≤ ·)) : ys = srtI xs := sorted_one (h.trans (srtI_perm xs).symm) s (srtI_sorted xs)

section
variable {G : Gam} {a b c e : Expr} {es : List Expr} {fa fb fc : De D} {ga : De Bool} {fl : De (List D)} {pos p : Pos} {x : Str} {oa ob : Opd}

/-! ### a list or a tuple, walked -/
def dItS (f : De D) : De (List D) := bnd f fun d s => match d with
  | .list ds => some (.ok ds s)
  | .tuple ds => some (.ok ds s)
  | _ => none
theorem i_seq {tg : Expr} (h : SE G e fa) : SI G tg e (dItS fa) := by
  obtain ⟨wl, pl, hl⟩ := i_list (tg := tg) h
  obtain ⟨wt, pt, ht⟩ := i_tup (tg := tg) h
  refine ⟨fun σ H R => wl σ H R ∨ wt σ H R, fun X h => ⟨fun pins s σ H R I q => ?_⟩, fun E P H σ s R st hp => ?_⟩
  · rcases q with q | q
    · exact (pl X h).run pins s σ H R I q
    · exact (pt X h).run pins s σ H R I q
  · have z : dItS fa s = dItL fa s ∨ dItS fa s = dItT fa s := by
      unfold dItS dItL dItT bnd
      cases fa s with
      | none => exact .inl rfl
      | some r =>
        cases r with
        | ex c => exact .inl rfl
        | ok d s1 => cases d <;> first | exact .inl rfl | exact .inr rfl
    rcases z with z | z
    · rw [z] at hp; exact .inl (hl E P H σ s R st hp)
    · rw [z] at hp; exact .inr (ht E P H σ s R st hp)

/-! ### truth of data -/
def truD : D → Option Bool
  | .none => some false
  | .bool b => some b
  | .int i => some (i != 0)
  | .list ds => some (!ds.isEmpty)
  | .tuple ds => some (!ds.isEmpty)
  | .dict [] => some false
  | .dict ((.int _, _) :: _) => some true
  | .dict ((.str _, _) :: _) => some true
  | _ => none
theorem DatL.empty {K : PySem.W.Frag} {H : Hp} {P : Pr} {xs : List V} {ds : List D} (h : DatL K H P xs ds) : (!xs.isEmpty) = !ds.isEmpty := by
  cases h <;> rfl
theorem DatK.empty {K : PySem.W.Frag} {H : Hp} {P : Pr} {l : List (Key × V)} {kvs : List (D × D)} (h : DatK K H P l kvs) : (!l.isEmpty) = !kvs.isEmpty := by
  cases h <;> rfl
theorem Vw.dckOf {K : PySem.W.Frag} {H : Hp} {P : Pr} {v : V} {kvs : List (D × D)} (h : Vw K H P v (.dict kvs)) (n : ∀ d m, kvs ≠ (.none, d) :: m) : ∃ a l, v = .ref a ∧ H a = some (.dK l) ∧ DatK K H P l kvs := by
  rcases h with h | ⟨a, e, h⟩
  · generalize hd : PyData.dict kvs = dd at h
    cases h with
    | non => cases hd
    | bl _ => cases hd
    | int _ => cases hd
    | str _ => cases hd
    | lst _ _ _ => cases hd
    | tup _ _ _ => cases hd
    | dcK p r l => cases hd; exact ⟨_, _, rfl, r, l⟩
    | dcT p r l => cases hd; exact (n _ _ rfl).elim
    | scr q l => cases hd; exact (n _ _ rfl).elim
  · rcases h with ⟨l, h1, h2⟩ | ⟨l, m, h0, h1, h2⟩
    · exact ⟨a, l, e, h1, h2⟩
    · subst h0; exact (n _ _ rfl).elim
theorem truV_of {K : PySem.W.Frag} {H : Hp} {P : Pr} {v : V} {d : D} {k : Bool} (h : Vw K H P v d) (e : truD d = some k) : TruV K v H k := by
  unfold truD at e
  split at e
  · cases e; rw [h.nonOf]; rfl
  · cases e; rw [h.blOf]; rfl
  · cases e; rw [h.intOf]; rfl
  · cases e
    obtain ⟨a, xs, rfl, h1, h2⟩ := h.lstOf
    exact .inl ⟨xs, .of h1, h2.empty.symm⟩
  · cases e
    obtain ⟨a, xs, rfl, _, h1, h2⟩ := h.tupOf
    exact .inr (.inl ⟨xs, .of h1, h2.empty.symm⟩)
  · cases e
    obtain ⟨a, l, rfl, h1, h2⟩ := h.dckOf (fun _ _ z => nomatch z)
    exact .inr (.inr ⟨l, h1, h2.empty.symm⟩)
  · cases e
    obtain ⟨a, l, rfl, h1, h2⟩ := h.dckOf (fun _ _ z => nomatch z)
    exact .inr (.inr ⟨l, h1, h2.empty.symm⟩)
  · cases e
    obtain ⟨a, l, rfl, h1, h2⟩ := h.dckOf (fun _ _ z => nomatch z)
    exact .inr (.inr ⟨l, h1, h2.empty.symm⟩)
  · cases e
def dTru (o : Opd) : De Bool := bnd o.f fun x s => lft ((o.rd x s).bind truD) s
theorem t_tru (hh1 : SV G e oa) (he : ∀ (X : Cx) whole, isTrue e X.env whole = (do let v ← whole; standAt e.pos; holding [v] (truthy v)) := by intro _ _; rfl) :
    ST G e (dTru oa) := by
  revert hh1
 
  rintro ⟨te, pe, h⟩
  refine ⟨fun σ H Q => te σ H fun x H' => ∃ k, TruV G.K x H' k ∧ Q k H', fun X c => by have z := pt_truth (pe X c) (he X); rw [c.K] at z; exact z, fun E P H σ s Q st hp => h E P H σ s _ st (po_step hp fun x s1 P1 H1 ee st1 gr1 h1 v hv => ?_)⟩
  obtain ⟨k, ek, h2⟩ := po_lft h1
  obtain ⟨d, ed, ek⟩ := Option.bind_eq_some_iff.mp ek
  exact ⟨k, truV_of (hv s1 P1 H1 st1 Gr.refl d ed) ek, h2 P1 H1 st1 Gr.refl⟩

/-! ### int(x), sorted(x), list(d) -/
def fInt : D → Option D
  | .int i => some (.int i)
  | .bool b => some (.int (if b then 1 else 0))
  | _ => none
theorem f_int : Op1 G (.type "int") fInt := by
  refine ⟨_, fun X h => call_int1, fun E P H σ s x dx d Q st hx e h => ?_⟩
  cases dx <;> first | (cases e; done) | skip
  · cases e; exact .inr ⟨_, by rw [hx.blOf], h _ P H st Gr.refl (.int _)⟩
  · cases e; exact .inl ⟨_, by rw [hx.intOf], h _ P H st Gr.refl (.int _)⟩
def fSorted : D → Option D
  | .list ds => (intsOf ds).map fun ns => .list ((srtI ns).map .int)
  | _ => none
theorem f_sorted : Op1o G (.builtin "sorted") fSorted := by
  refine ⟨_, fun X h => by have z := cr_sortedI (X := X); rw [h.K] at z; exact z, fun E P H σ s x dx d Q st hx e h => ?_⟩
  cases dx <;> first | (cases e; done) | skip
  obtain ⟨ns, en, rfl⟩ := Option.map_eq_some_iff.mp (show _ = some d from e)
  have e2 := intsOf_some en
  obtain ⟨a, xs, rfl, h1, h2⟩ := hx.lstOf
  rw [e2] at h2
  have e3 := h2.ints
  subst e3
  refine ⟨a, ns, rfl, .of h1, fun ys l hp hs hl => ?_⟩
  rw [srtI_only hp hs]
  obtain ⟨st', gr', np, ow⟩ := lay_lst st hl (DatL.ofInts (K := G.K) (H := H) (P := P) (srtI ns))
  exact h l _ _ st' gr' hl np ow
def keysD : List (D × D) → Option (List D)
  | [] => some []
  | (.int i, _) :: r => (keysD r).map (.int i :: ·)
  | (.str i, _) :: r => (keysD r).map (.str i :: ·)
  | _ :: _ => none
theorem datKV {K : PySem.W.Frag} {H : Hp} {P : Pr} : ∀ k : Key, Dat K H P (kV k) (kD k)
  | .inl i => .int i
  | .inr x => .str x
theorem keysD_of {K : PySem.W.Frag} {H : Hp} {P : Pr} : ∀ {l : List (Key × V)} {kvs : List (D × D)} {ds : List D}, DatK K H P l kvs → keysD kvs = some ds → DatL K H P (l.map fun kv => kV kv.1) ds ∧ ds = l.map (fun kv => kD kv.1)
  | [], _, ds, .nil, e => by cases e; exact ⟨.nil, rfl⟩
  | (k, v) :: l, _, ds, .cons a b, e => by
    cases k with
    | inl i =>
      obtain ⟨r, e1, rfl⟩ := Option.map_eq_some_iff.mp (show Option.map _ _ = some ds from e)
      obtain ⟨z1, z2⟩ := keysD_of b e1
      exact ⟨.cons (.int i) z1, by rw [z2]; rfl⟩
    | inr i =>
      obtain ⟨r, e1, rfl⟩ := Option.map_eq_some_iff.mp (show Option.map _ _ = some ds from e)
      obtain ⟨z1, z2⟩ := keysD_of b e1
      exact ⟨.cons (.str i) z1, by rw [z2]; rfl⟩
theorem keysD_n {kvs : List (D × D)} {ds : List D} (e : keysD kvs = some ds) : ∀ d m, kvs ≠ (.none, d) :: m := by
  rintro d m rfl
  cases e
def fListD : D → Option D
  | .dict kvs => (keysD kvs).map .list
  | _ => none
theorem f_listD : Op1o G (.type "list") fListD := by
  refine ⟨_, fun X h => call_listD h.calm, fun E P H σ s x dx d Q st hx e h => ?_⟩
  cases dx <;> first | (cases e; done) | skip
  rename_i kvs
  obtain ⟨ds, en, rfl⟩ := Option.map_eq_some_iff.mp (show _ = some d from e)
  obtain ⟨a, l, rfl, h1, h2⟩ := hx.dckOf (keysD_n en)
  refine ⟨a, l, rfl, .inl h1, fun q hq => ?_⟩
  obtain ⟨st', gr', np, ow⟩ := lay_lst st hq (keysD_of h2 en).1
  exact h q _ _ st' gr' hq np ow
theorem keys_inl : ∀ {l : List (Key × V)} {ns : List Int}, ns.map PyData.int = l.map (fun kv => kD kv.1) → l.map (·.1) = ns.map Sum.inl
  | [], [], _ => rfl
  | [], _ :: _, z => nomatch z
  | _ :: _, [], z => nomatch z
  | (k, v) :: l, n :: ns, z => by
    rw [List.map_cons, List.map_cons] at z
    injection z with q1 q2
    rw [List.map_cons, List.map_cons, keys_inl q2]
    cases k with
    | inl i => cases q1; rfl
    | inr i => cases q1
/-- sorted(d), d a dict of fewer than 64 ints -/
def fSortedD : D → Option D
  | .dict kvs => (keysD kvs).bind fun ds => (intsOf ds).bind fun ns => if ns.length < 64 then some (.list ((srtI ns).map .int)) else none
  | _ => none
theorem f_sortedD : Op1o G (.builtin "sorted") fSortedD := by
  refine ⟨_, fun X h => call_sortedDI h.calm, fun E P H σ s x dx d Q st hx e h => ?_⟩
  cases dx <;> first | (cases e; done) | skip
  rename_i kvs
  obtain ⟨ds, ed, e⟩ := Option.bind_eq_some_iff.mp (show Option.bind _ _ = some d from e)
  obtain ⟨ns, en, e⟩ := Option.bind_eq_some_iff.mp e
  split at e
  · rename_i hl
    cases e
    obtain ⟨a, l, rfl, h1, h2⟩ := hx.dckOf (keysD_n ed)
    obtain ⟨z1, z2⟩ := keysD_of h2 ed
    have e2 := intsOf_some en
    have ek : l.map (·.1) = ns.map Sum.inl := by
      rw [e2] at z2
      exact keys_inl z2
    refine ⟨a, l, ns, rfl, .inl h1, ek, hl, fun ys q hp hs hq => ?_⟩
    rw [srtI_only hp hs]
    obtain ⟨st', gr', np, ow⟩ := lay_lst st hq (DatL.ofInts (K := G.K) (H := H) (P := P) (srtI ns))
    exact h q _ _ st' gr' hq np ow
  · cases e
end
end Od

namespace Od
open PySem PySem.Spec PyProof.Rows L2

/-! ### an object of one's own, read alone for a while -/
/-- the object at q stands as u while it is read: as one that stood at the entry -/
def hideE (E : En) (q : Addr) (u : HO) : En := ⟨upd E.H0 q u, fun b => E.M b ∧ b ≠ q, E.P0, E.tka⟩
section
variable {K : PySem.W.Frag} {E : En} {P P' : Pr} {H H' : Hp} {σ : L2.St} {s s' : S}
theorem upd_upd {H : Hp} {q : Addr} {u w : HO} : upd (upd H q u) q w = upd H q w := by
  funext b
  by_cases e : b = q
  · subst e; rw [upd_same, upd_same]
  · rw [upd_ne e, upd_ne e, upd_ne e]
theorem upd_self {H : Hp} {q : Addr} {u : HO} (h : H q = some u) : upd H q u = H := by
  funext b
  by_cases e : b = q
  · subst e; rw [upd_same, h]
  · rw [upd_ne e]
theorem own_wipe {i j : Nat} {a : Addr} (h : Own σ (s.set i .un) j a) : j ≠ i ∧ Own σ s j a := by
  obtain ⟨h1, x, h2, h3⟩ := h
  rcases getset h2 with ⟨e, z⟩ | ⟨e, z⟩
  · subst z; cases h3
  · exact ⟨e, h1, x, z, h3⟩
theorem Stt.hide (st : Stt K E P H σ s) {i : Nat} {d : D} {q : Addr} (e0 : ownD s i = some d) (hq : σ[i]? = some (some (.ref q))) (u : HO) : Stt K (hideE E q u) P (upd H q u) σ (s.set i .un) := by
  obtain ⟨q', hq', np, ow, own0, hm⟩ := st.ownOf e0
  rw [hq] at hq'; cases hq'
  have pk : Pk P H P (upd H q u) := keep_upd np u
  have nq : ∀ j b, j ≠ i → Own σ s j b → b ≠ q := fun j b nj o z => by subst z; exact nj (st.dj _ _ _ o own0)
  refine ⟨by rw [List.length_set]; exact st.len, fun j x hj => ?_, fun j k b o1 o2 => st.dj j k b (own_wipe o1).2 (own_wipe o2).2, st.pg, fun b z => ?_, fun b z => ?_, fun b o z m => ?_, fun b m => ?_, fun b m => st.mp b m.1, fun b m => ?_, st.tk.set rfl⟩
  rotate_right
  · obtain ⟨o, w⟩ := st.m0 b m.1
    exact ⟨o, by show upd E.H0 q u b = _; rw [upd_ne m.2]; exact w⟩
  · rcases getset hj with ⟨e, z⟩ | ⟨e, z⟩
    · subst z; trivial
    · have w := st.sl j x z
      cases x with
      | un => trivial
      | sh d' => obtain ⟨v, w1, w2⟩ := w; exact ⟨v, w1, w2.k pk⟩
      | ow d' =>
        obtain ⟨b, w1, w2, w3, w4⟩ := w
        have n := nq j b e ⟨w1, _, z, rfl⟩
        exact ⟨b, w1, w2, by show upd E.H0 q u b = none; rw [upd_ne n]; exact w3, w4.keep pk fun o eo => by rw [upd_ne n]; exact eo⟩
      | io d' =>
        obtain ⟨b, w1, w2, w3, w4⟩ := w
        have n := nq j b e ⟨w1, _, z, rfl⟩
        exact ⟨b, w1, w2, ⟨⟨w3.1, n⟩, w3.2⟩, w4.keep pk fun o eo => by rw [upd_ne n]; exact eo⟩
      | tk d' =>
        obtain ⟨b, m, w1, s0, h0, m0, t0, et, w⟩ := w
        have nM : ∀ c, E.M c → c ≠ q := fun c hc z => by
          subst z
          rcases hm with q5 | q5
          · obtain ⟨o, w⟩ := st.m0 c hc
            rw [q5] at w; cases w
          · rw [m] at q5; exact nomatch q5.2
        have nb : b ≠ q := TkAt.notOw ⟨s0, h0, m0, t0, et, w⟩ ow
        exact ⟨b, m, w1, s0, h0, m0, t0, et, w.keep pk (fun c o hc eo => by
          have n : c ≠ q := by
            rcases hc with hc | hc
            · rw [hc]; exact nb
            · exact nM c hc
          rw [upd_ne n]; exact eo) (fun z => w.na z.1) fun c hc => ⟨hc, nM c hc⟩⟩
  · have n : b ≠ q := fun w => np (by subst w; exact z)
    rcases st.pn b z with w | w
    · exact .inl w
    · exact .inr (by show upd E.H0 q u b = none; rw [upd_ne n]; exact w)
  · have n : b ≠ q := fun w => np (by subst w; exact z)
    obtain ⟨o, w⟩ := st.pal b z
    exact ⟨o, by rw [upd_ne n]; exact w⟩
  · by_cases n : b = q
    · subst n
      have z : upd E.H0 b u b = some o := z
      rw [upd_same] at z ⊢; exact z
    · have z : upd E.H0 q u b = some o := z
      rw [upd_ne n] at z ⊢
      exact st.kp b o z fun w => m ⟨w, n⟩
  · obtain ⟨o, w⟩ := st.mx b m.1
    exact ⟨o, by rw [upd_ne m.2]; exact w⟩
theorem Stt.unhide (st : Stt K E P H σ s) {i : Nat} {d : D} {x : Sl} {q : Addr} {u o : HO} (ex : s[i]? = some x) (e0 : ownD s i = some d) (hq : σ[i]? = some (some (.ref q))) (st' : Stt K (hideE E q u) P' H' σ s') (gr' : Gr (hideE E q u) σ (s.set i .un) s' P (upd H q u) P' H') (un : s'[i]? = some .un) (nu : ∀ C dx fs, u ≠ .ins C dx fs)
    (ow : ∀ P' H', Pk P H P' H' → H' q = some o → OwA K H' P' q d) : H' q = some u ∧ Stt K E P' (upd H' q o) σ (s'.set i x) ∧ Gr E σ s (s'.set i x) P H P' (upd H' q o) := by
  obtain ⟨q', hq', np, ow0, own0, hm⟩ := st.ownOf e0
  rw [hq] at hq'; cases hq'
  have hu : H' q = some u := st'.kp q u upd_same fun w => w.2 rfl
  have npq : ¬ P' q := fun z => by
    rcases st'.pn q z with w | w
    · exact np (st.pg q w)
    · have w : upd E.H0 q u q = none := w
      rw [upd_same] at w; cases w
  have nq : ∀ j b, Own σ s' j b → b ≠ q := by
    rintro j b ⟨h1, y, h2, h3⟩ z
    subst z
    have w := st'.sl j y h2
    cases y with
    | un => cases h3
    | sh _ => cases h3
    | ow d' =>
      obtain ⟨b', w1, w2, w3, w4⟩ := w
      rw [h1] at w1; cases w1
      have w3 : upd E.H0 b u b = none := w3
      rw [upd_same] at w3; cases w3
    | io d' =>
      obtain ⟨b', w1, w2, w3, w4⟩ := w
      rw [h1] at w1; cases w1
      exact w3.1.2 rfl
    | tk _ => cases h3
  have own' : ∀ j b, Own σ (s'.set i x) j b → (j = i ∧ b = q) ∨ (j ≠ i ∧ Own σ s' j b) := by
    rintro j b ⟨h1, y, h2, h3⟩
    rcases getset h2 with ⟨e, z⟩ | ⟨e, z⟩
    · subst e; rw [hq] at h1; cases h1; exact .inl ⟨rfl, rfl⟩
    · exact .inr ⟨e, h1, y, z, h3⟩
  have pk' : Pk P' H' P' (upd H' q o) := keep_upd npq o
  have pk1 : Pk P H P' (upd H' q o) := ((keep_upd np u).trans (gr'.pk (st.hide e0 hq u))).trans pk'
  have mp' : ∀ b, E.M b → ¬ P' b := fun b m => by
    by_cases n : b = q
    · subst n; exact npq
    · exact st'.mp b ⟨m, n⟩
  have nx : isTk x = false := by
    unfold ownD at e0
    rw [ex] at e0
    cases x <;> first | rfl | cases e0
  refine ⟨hu, ⟨by rw [List.length_set]; exact st'.len, fun j y hj => ?_, fun j k b o1 o2 => ?_, st'.pg, fun b z => ?_, fun b z => ?_, fun b w z m => ?_, fun b m => ?_, mp', st.m0, st'.tk.set nx⟩, ⟨gr'.le, fun b w z no nm => ?_, fun b z => ?_, fun b ⟨j, w⟩ => ?_, fun b z => ?_⟩⟩
  · rcases getset hj with ⟨e, z⟩ | ⟨e, z⟩
    · subst e; subst z
      have w := st.sl j y ex
      unfold ownD at e0
      rw [ex] at e0
      cases y with
      | un => cases e0
      | sh _ => cases e0
      | ow d' =>
        cases e0
        obtain ⟨b, w1, w2, w3, w4⟩ := w
        rw [hq] at w1; cases w1
        exact ⟨q, hq, npq, w3, ow _ _ pk1 upd_same⟩
      | io d' =>
        cases e0
        obtain ⟨b, w1, w2, w3, w4⟩ := w
        rw [hq] at w1; cases w1
        exact ⟨q, hq, npq, w3, ow _ _ pk1 upd_same⟩
      | tk _ => cases e0
    · have w := st'.sl j y z
      cases y with
      | un => trivial
      | sh d' => obtain ⟨v, w1, w2⟩ := w; exact ⟨v, w1, w2.k pk'⟩
      | ow d' =>
        obtain ⟨b, w1, w2, w3, w4⟩ := w
        have n := nq j b ⟨w1, _, z, rfl⟩
        have w3 : upd E.H0 q u b = none := w3
        rw [upd_ne n] at w3
        exact ⟨b, w1, w2, w3, w4.keep pk' fun o' eo => by rw [upd_ne n]; exact eo⟩
      | io d' =>
        obtain ⟨b, w1, w2, w3, w4⟩ := w
        have n := nq j b ⟨w1, _, z, rfl⟩
        exact ⟨b, w1, w2, ⟨w3.1.1, w3.2⟩, w4.keep pk' fun o' eo => by rw [upd_ne n]; exact eo⟩
      | tk d' =>
        obtain ⟨b, m, w1, s0, h0, m0, t0, et, w⟩ := w
        have m5 : E.tka = some b := m
        have nM : ∀ c, E.M c → c ≠ q := fun c hc z => by
          subst z
          rcases hm with q5 | q5
          · obtain ⟨o, w⟩ := st.m0 c hc
            rw [q5] at w; cases w
          · rw [m5] at q5; exact nomatch q5.2
        have nb : b ≠ q := fun e => by
          subst e
          obtain ⟨dx, bv, cv, e, _⟩ := w.ob
          rw [hu] at e
          exact nu _ _ _ (Option.some.inj e)
        exact ⟨b, m, w1, s0, h0, m0, t0, et, w.keep pk' (fun c o' hc eo => by
          have n : c ≠ q := by
            rcases hc with hc | hc
            · rw [hc]; exact nb
            · exact hc.2
          rw [upd_ne n]; exact eo) (fun z => w.na ⟨z, nM _ z⟩) fun c hc => hc.1⟩
  · rcases own' j b o1 with ⟨e1, z1⟩ | ⟨e1, z1⟩ <;> rcases own' k b o2 with ⟨e2, z2⟩ | ⟨e2, z2⟩
    · rw [e1, e2]
    · exact (nq k b z2 z1).elim
    · exact (nq j b z1 z2).elim
    · exact st'.dj j k b z1 z2
  · rcases st'.pn b z with w | w
    · exact .inl w
    · have n : b ≠ q := fun e => npq (by subst e; exact z)
      have w : upd E.H0 q u b = none := w
      rw [upd_ne n] at w
      exact .inr w
  · have n : b ≠ q := fun e => npq (by subst e; exact z)
    obtain ⟨w, e⟩ := st'.pal b z
    exact ⟨w, by rw [upd_ne n]; exact e⟩
  · by_cases n : b = q
    · subst n
      rcases hm with e | e
      · rw [e] at z; cases z
      · exact (m e.1).elim
    · rw [upd_ne n]
      exact st'.kp b w (by show upd E.H0 q u b = some w; rw [upd_ne n]; exact z) fun w => m w.1
  · by_cases n : b = q
    · subst n; exact ⟨_, upd_same⟩
    · obtain ⟨w, e⟩ := st'.mx b ⟨m, n⟩
      exact ⟨w, by rw [upd_ne n]; exact e⟩
  · have n : b ≠ q := fun e => no ⟨i, by subst e; exact own0⟩
    rw [upd_ne n]
    exact gr'.kp b w (by rw [upd_ne n]; exact z) (fun ⟨j, w⟩ => no ⟨j, (own_wipe w).2⟩) fun m => nm m.1
  · rcases gr'.nw b z with w | w | ⟨j, w⟩
    · exact .inl w
    · have n : b ≠ q := fun e => by subst e; rw [upd_same] at w; cases w
      rw [upd_ne n] at w
      exact .inr (.inl w)
    · exact .inr (.inr ⟨j, (own_wipe w).2⟩)
  · rcases own' j b w with ⟨e1, z1⟩ | ⟨e1, z1⟩
    · subst z1; exact ⟨i, own0⟩
    · obtain ⟨k, w2⟩ := gr'.ow b ⟨j, z1⟩
      exact ⟨k, (own_wipe w2).2⟩
  · by_cases n : b = q
    · subst n; rw [upd_same] at z; cases z
    · rw [upd_ne n] at z
      have z2 := gr'.ex b z
      rw [upd_ne n] at z2
      exact z2
end
/-! ### [.. for .. in y], y an object of one's own -/
def isUn : Option Sl → Bool
  | some .un => true
  | _ => false
/-- the rows that y has -/
def rowsD : D → Option (List D)
  | .list ds => some ds
  | _ => none
def rowsK : D → Option (List D)
  | .dict kvs => keysD kvs
  | _ => none
def dLcO (rw' : D → Option (List D)) (i : Nat) (vs : List Nat) (bd : D → S → Option S) (tt : De Bool) (el : De D) : De D := fun s =>
  match ownD s i, s[i]? with
  | some d, some x => (rw' d).bind fun ds =>
    match lcL vs bd tt el ds [] (s.set i .un) with
    | some (acc, s') => if isUn s'[i]? = true then some (.ok (.list acc) (s'.set i x)) else none
    | none => none
  | _, _ => none
theorem dLcO_some {rw' : D → Option (List D)} {i : Nat} {vs : List Nat} {bd : D → S → Option S} {tt : De Bool} {el : De D} {G : Gam} {E : En} {P : Pr} {H : Hp} {σ : L2.St} {s : S} {R : D → S → Pr → Hp → Prop} (h : Po G E P H σ s (dLcO rw' i vs bd tt el s) R) :
    ∃ d x ds acc s', ownD s i = some d ∧ s[i]? = some x ∧ rw' d = some ds ∧ lcL vs bd tt el ds [] (s.set i .un) = some (acc, s') ∧ s'[i]? = some .un ∧ Po G E P H σ s (some (.ok (.list acc) (s'.set i x))) R := by
  unfold dLcO at h
  cases e0 : ownD s i with
  | none => rw [e0] at h; exact h.elim
  | some d =>
    cases ex : s[i]? with
    | none => rw [e0, ex] at h; exact h.elim
    | some x =>
      rw [e0, ex] at h
      dsimp only at h
      cases er : rw' d with
      | none => rw [er] at h; exact h.elim
      | some ds =>
        rw [er] at h
        dsimp only [Option.bind] at h
        cases el' : lcL vs bd tt el ds [] (s.set i .un) with
        | none => rw [el'] at h; exact h.elim
        | some r =>
          obtain ⟨acc, s'⟩ := r
          rw [el'] at h
          dsimp only at h
          by_cases hu : isUn s'[i]? = true
          · rw [if_pos hu] at h
            refine ⟨d, x, ds, acc, s', rfl, rfl, er, el', ?_, h⟩
            cases z : s'[i]? with
            | none => rw [z] at hu; cases hu
            | some y => rw [z] at hu; cases y <;> first | rfl | cases hu
          · rw [if_neg hu] at h; exact h.elim
section
variable {G : Gam} {a b c e elt tg iter : Expr} {ifs : List Expr} {fa fb fc el : De D} {ga tt : De Bool} {pos p : Pos} {it : De (List D)} {bd : D → S → Option S} {scope : Scope} {own : List (Str × Nat)} {ts : List Nat} {y : Str} {py : Pos}
theorem to_compO {te : TE} {tb : TT} {g1 : TG} (i : Nat) (vs : List Nat) (hts : ∀ t ∈ ts, t ∈ vs)
    (hg : ∀ E P H σ s v d s1 Q, Stt G.K E P H σ s → Dat G.K H P v d → bd d s = some s1 → (∀ σ1, Stt G.K E P H σ1 s1 → (∀ j, j ∉ ts → σ1[j]? = σ[j]?) → (∀ a, Owns σ1 s1 a → Owns σ s a) → σ1.length = σ.length → Q σ1 H) → g1 v σ H Q)
    (ht : TTok (GB G scope) tb tt) (he : TEok (GB G scope) te el) : TOok G (tLc (iList G.K (tVar i)) g1 tb te vs) (dLcO rowsD i vs bd tt el) := by
  intro E P H σ s Q st hp
  obtain ⟨d, x, ds, acc, s', e0, ex, er, ell, eu, h1⟩ := dLcO_some hp
  cases d <;> first | (cases er; done) | skip
  cases er
  obtain ⟨q, hq, np, ow, own0, hm⟩ := st.ownOf e0
  obtain ⟨xs, w1, w2⟩ := ow
  have st1 := st.hide e0 hq (.lst xs)
  refine ⟨.ref q, hq, q, rfl, ⟨xs, .of w1⟩, ?_⟩
  have core := lc_core (G := G) (scope := scope) (Q := Q) (J := Itl G.K q) _ hts hg ht he st1 (fun s2 P2 H2 st2 gr2 => ?_) ell (fun P' H' D st' gr' hD npD owD => ?_)
  · rw [upd_self w1] at core
    exact core
  · have hq2 : H2 q = some (.lst xs) := st2.kp q _ upd_same fun w => w.2 rfl
    have pk2 : Pk P H P2 H2 := (keep_upd np (.lst xs)).trans (gr2.pk st1)
    refine ⟨fun j d hd => ?_, fun j hj => ?_⟩
    · obtain ⟨v, hv1, hv2⟩ := (w2.k pk2).get hd
      refine ⟨⟨xs, v, .of hq2, hv1⟩, fun z H'' hy E' σ' s'' st'' => ?_⟩
      obtain ⟨rfl, hy⟩ := hy
      have hx := hy xs (.of hq2)
      exact ⟨P2, st'', Gr.refl, (w2.k pk2).geti hx hd⟩
    · exact ⟨xs, .of hq2, by rw [w2.len]; exact hj⟩
  · obtain ⟨hqu, st3, gr3⟩ := st.unhide (o := .lst xs) ex e0 hq st' gr' eu (fun _ _ _ z => nomatch z) fun P4 H4 pk4 h4 => ⟨xs, h4, w2.k pk4⟩
    rw [upd_self hqu] at st3 gr3
    have nD : D ≠ q := fun z => by subst z; rw [upd_same] at hD; cases hD
    rw [upd_ne nD] at hD
    exact h1 P' H' st3 gr3 D hD npD owD
theorem to_compD {te : TE} {tb : TT} {g1 : TG} (i : Nat) (vs : List Nat) (hts : ∀ t ∈ ts, t ∈ vs)
    (hg : ∀ E P H σ s v d s1 Q, Stt G.K E P H σ s → Dat G.K H P v d → bd d s = some s1 → (∀ σ1, Stt G.K E P H σ1 s1 → (∀ j, j ∉ ts → σ1[j]? = σ[j]?) → (∀ a, Owns σ1 s1 a → Owns σ s a) → σ1.length = σ.length → Q σ1 H) → g1 v σ H Q)
    (ht : TTok (GB G scope) tb tt) (he : TEok (GB G scope) te el) : TOok G (tLockE (tLc (iKeys (tVar i)) g1 tb te vs)) (dLcO rowsK i vs bd tt el) := by
  intro E P H σ s Q st hp
  obtain ⟨d, x, ds, acc, s', e0, ex, er, ell, eu, h1⟩ := dLcO_some hp
  cases d <;> first | (cases er; done) | skip
  rename_i kvs
  have er : keysD kvs = some ds := er
  obtain ⟨q, hq, np, ow, own0, hm⟩ := st.ownOf e0
  rcases ow with ⟨l, w1, w2⟩ | ⟨l, m, h0, w1, w2⟩
  · refine ⟨q, .dK l, w1, trivial, fun od => ?_⟩
    have st1 := st.hide e0 hq (.frz od (.dK l))
    refine ⟨.ref q, hq, q, od, rfl, .inl ⟨l, upd_same, ?_⟩⟩
    refine lc_core (G := G) (scope := scope) (Q := fun v H' => H' q = some (.frz od (.dK l)) ∧ Q v (upd H' q (.dK l))) (J := Itk q od l) _ hts hg ht he st1 (fun s2 P2 H2 st2 gr2 => ?_) ell (fun P' H' D st' gr' hD npD owD => ?_)
    · have hq2 : H2 q = some (.frz od (.dK l)) := st2.kp q _ upd_same fun w => w.2 rfl
      have pk2 : Pk P H P2 H2 := (keep_upd np (.frz od (.dK l))).trans (gr2.pk st1)
      obtain ⟨kd, _⟩ := keysD_of (w2.k pk2) er
      have hlen : l.length = ds.length := by rw [← kd.len, List.length_map]
      refine ⟨fun j d hd => ?_, fun j hj => ⟨hq2, by rw [hlen]; exact hj⟩⟩
      have hj := (List.getElem?_eq_some_iff.mp hd).1
      refine ⟨⟨hq2, by rw [hlen]; exact hj⟩, fun z H'' hy E' σ' s'' st'' => ?_⟩
      obtain ⟨rfl, k, v, hk, rfl⟩ := hy
      refine ⟨P2, st'', Gr.refl, kd.geti (i := j) ?_ hd⟩
      rw [List.getElem?_map, hk]
      rfl
    · obtain ⟨hqu, st3, gr3⟩ := st.unhide (o := .dK l) ex e0 hq st' gr' eu (fun _ _ _ z => nomatch z) fun P4 H4 pk4 h4 => .inl ⟨l, h4, w2.k pk4⟩
      have nD : D ≠ q := fun z => by subst z; rw [upd_same] at hD; cases hD
      rw [upd_ne nD] at hD
      have npq : ¬ P' q := fun z => by
        rcases st'.pn q z with w | w
        · exact np (st.pg q w)
        · have w : upd E.H0 q (.frz od (.dK l)) q = none := w
          rw [upd_same] at w; cases w
      exact ⟨hqu, h1 P' _ st3 gr3 D hD npD (owD.keep (keep_upd npq _) fun o eo => by rw [upd_ne nD]; exact eo)⟩
  · subst h0; cases er
theorem o_compO (i : Nat) (own : List (Str × Nat)) (hh2 : SG (GB G scope) tg ts bd) (hh3 : STs (GB G scope) ifs tt) (hh4 : SE (GB G scope) elt el) (hN : G.N[i]? = some y := by rfl) (hv : Vis G.sc y := by first | exact Or.inl rfl | exact Or.inr (Or.inl rfl) | exact Or.inr (Or.inr rfl))
    (hd : (y == ("__debug__" : Str)) = false := by decide) (hcd : (y == ("__classdict__" : Str)) = false := by decide) (hok : blkC G.N G.sc scope own = true := by first | kernel_rfl | rfl) (hts : ∀ t ∈ ts, t ∈ own.map (·.2) := by decide) (hs : ∀ (X : Cx) x, foldedSetIterable (.Name y py) X.env x = pure x := by intro _ _; rfl) :
    SO G (.ListComp elt [⟨tg, .Name y py, ifs, 0⟩] scope pos) (dLcO rowsD i (own.map (·.2)) bd tt el) := by
  revert hh2 hh3 hh4
 
  rintro ⟨g1, pg, hg⟩ ⟨tb, pt, ht⟩ ⟨te, pe, he⟩
  refine ⟨tLc (iList G.K (tVar i)) g1 tb te (own.map (·.2)), fun X h => ?_, ?_⟩
  · have z := pe_lc (own := own) (pos := pos) h.calm h.nd (pi_list (X := X) (tg := tg) (pe_var (i := i) (pos := py) (by rw [h.N]; exact hN) (by rw [h.sc]; exact hv) hd hcd)) (blkOk_by (by rw [h.N, h.sc]; exact hok)) (fun s H C cl fp => pg _ (h.blk scope s H C cl fp)) (fun s H C cl fp => pt _ (h.blk scope s H C cl fp)) (fun s H C cl fp => pe _ (h.blk scope s H C cl fp)) (hs X)
    rw [h.K] at z
    exact z
  · exact to_compO i _ hts hg ht he
theorem o_compD (i : Nat) (own : List (Str × Nat)) (hh2 : SG (GB G scope) tg ts bd) (hh3 : STs (GB G scope) ifs tt) (hh4 : SE (GB G scope) elt el) (hN : G.N[i]? = some y := by rfl) (hv : Vis G.sc y := by first | exact Or.inl rfl | exact Or.inr (Or.inl rfl) | exact Or.inr (Or.inr rfl))
    (hd : (y == ("__debug__" : Str)) = false := by decide) (hcd : (y == ("__classdict__" : Str)) = false := by decide) (hok : blkC G.N G.sc scope own = true := by first | kernel_rfl | rfl) (hts : ∀ t ∈ ts, t ∈ own.map (·.2) := by decide) (hs : ∀ (X : Cx) x, foldedSetIterable (.Name y py) X.env x = pure x := by intro _ _; rfl) :
    SO G (.ListComp elt [⟨tg, .Name y py, ifs, 0⟩] scope pos) (dLcO rowsK i (own.map (·.2)) bd tt el) := by
  revert hh2 hh3 hh4
 
  rintro ⟨g1, pg, hg⟩ ⟨tb, pt, ht⟩ ⟨te, pe, he⟩
  refine ⟨tLockE (tLc (iKeys (tVar i)) g1 tb te (own.map (·.2))), fun X h => pe_lock ?_, ?_⟩
  · exact pe_lc (own := own) (pos := pos) h.calm h.nd (pi_keys (X := X) (tg := tg) (pe_var (i := i) (pos := py) (by rw [h.N]; exact hN) (by rw [h.sc]; exact hv) hd hcd)) (blkOk_by (by rw [h.N, h.sc]; exact hok)) (fun s H C cl fp => pg _ (h.blk scope s H C cl fp)) (fun s H C cl fp => pt _ (h.blk scope s H C cl fp)) (fun s H C cl fp => pe _ (h.blk scope s H C cl fp)) (hs X)
  · exact to_compD i _ hts hg ht he
variable {z : Str} {pz spos : Pos}
/-! z = [..] on one line -/
theorem s_setLcS (j i : Nat) (own : List (Str × Nat)) (hh2 : SG (GB G scope) tg ts bd) (hh3 : STs (GB G scope) ifs tt) (hh4 : SE (GB G scope) elt el) (hNj : G.N[j]? = some z := by rfl) (hl : G.sc.names.lookup z = some .local := by rfl) (hk : G.sc.kind = .function := by rfl) (hln : (pz.line == pos.line) = true := by rfl) (hna : (scope.names.any fun (n, k) => n == z && (k == .local || k == .cell)) = false := by decide +kernel) (hN : G.N[i]? = some y := by rfl) (hv : Vis G.sc y := by first | exact Or.inl rfl | exact Or.inr (Or.inl rfl) | exact Or.inr (Or.inr rfl))
    (hd : (y == ("__debug__" : Str)) = false := by decide) (hcd : (y == ("__classdict__" : Str)) = false := by decide) (hok : blkC G.N G.sc scope own = true := by first | kernel_rfl | rfl) (hts : ∀ t ∈ ts, t ∈ own.map (·.2) := by decide) (hs : ∀ (X : Cx) x, foldedSetIterable (.Name y py) X.env x = pure x := by intro _ _; rfl) :
    SS G (.Assign [.Name z pz] (.ListComp elt [⟨tg, .Name y py, ifs, 0⟩] scope pos) spos) (sAsg (dSh (dLcO rowsD i (own.map (·.2)) bd tt el)) (bName j)) := by
  revert hh2 hh3 hh4
 
  rintro ⟨g1, pg, hg⟩ ⟨tb, pt, ht⟩ ⟨te, pe, he⟩
  refine ⟨_, fun X h => (by have w := ps_setLc (i := j) (own := own) (spos := spos) (pos := pos) h.calm h.nd (by rw [h.N]; exact hNj) (by rw [h.sc]; exact hl) (sw_true (by rw [h.sc]; exact hk) (by rw [h.sc]; exact hl) hln hna) (pi_list (X := X) (tg := tg) (pe_var (i := i) (pos := py) (by rw [h.N]; exact hN) (by rw [h.sc]; exact hv) hd hcd)) (blkOk_by (by rw [h.N, h.sc]; exact hok)) (fun s H C cl fp => pg _ (h.blk scope s H C cl fp)) (fun s H C cl fp => pt _ (h.blk scope s H C cl fp)) (fun s H C cl fp => pe _ (h.blk scope s H C cl fp)) (hs X); rw [h.K] at w; exact w), fun E P H σ s N st hp => ?_⟩
  have core := to_compO (G := G) (scope := scope) i (own.map (·.2)) hts hg ht he
  have sh := te_sh core
  exact sh E P H σ s (fun v H1 => N.nx (σ.set j (some v)) H1) st (pos_e st hp fun d s1 P1 H1 st1 gr1 h1 v dv => h1 _ P1 H1 (st1.setSh dv) Pk.refl)
theorem s_setLcSO (j i : Nat) (own : List (Str × Nat)) (hh2 : SG (GB G scope) tg ts bd) (hh3 : STs (GB G scope) ifs tt) (hh4 : SE (GB G scope) elt el) (hNj : G.N[j]? = some z := by rfl) (hl : G.sc.names.lookup z = some .local := by rfl) (hk : G.sc.kind = .function := by rfl) (hln : (pz.line == pos.line) = true := by rfl) (hna : (scope.names.any fun (n, k) => n == z && (k == .local || k == .cell)) = false := by decide +kernel) (hN : G.N[i]? = some y := by rfl) (hv : Vis G.sc y := by first | exact Or.inl rfl | exact Or.inr (Or.inl rfl) | exact Or.inr (Or.inr rfl))
    (hd : (y == ("__debug__" : Str)) = false := by decide) (hcd : (y == ("__classdict__" : Str)) = false := by decide) (hok : blkC G.N G.sc scope own = true := by first | kernel_rfl | rfl) (hts : ∀ t ∈ ts, t ∈ own.map (·.2) := by decide) (hs : ∀ (X : Cx) x, foldedSetIterable (.Name y py) X.env x = pure x := by intro _ _; rfl) :
    SS G (.Assign [.Name z pz] (.ListComp elt [⟨tg, .Name y py, ifs, 0⟩] scope pos) spos) (sSetO j (dLcO rowsD i (own.map (·.2)) bd tt el)) := by
  revert hh2 hh3 hh4
 
  rintro ⟨g1, pg, hg⟩ ⟨tb, pt, ht⟩ ⟨te, pe, he⟩
  refine ⟨_, fun X h => (by have w := ps_setLc (i := j) (own := own) (spos := spos) (pos := pos) h.calm h.nd (by rw [h.N]; exact hNj) (by rw [h.sc]; exact hl) (sw_true (by rw [h.sc]; exact hk) (by rw [h.sc]; exact hl) hln hna) (pi_list (X := X) (tg := tg) (pe_var (i := i) (pos := py) (by rw [h.N]; exact hN) (by rw [h.sc]; exact hv) hd hcd)) (blkOk_by (by rw [h.N, h.sc]; exact hok)) (fun s H C cl fp => pg _ (h.blk scope s H C cl fp)) (fun s H C cl fp => pt _ (h.blk scope s H C cl fp)) (fun s H C cl fp => pe _ (h.blk scope s H C cl fp)) (hs X); rw [h.K] at w; exact w), fun E P H σ s N st hp => ?_⟩
  have core := to_compO (G := G) (scope := scope) i (own.map (·.2)) hts hg ht he
  exact core E P H σ s (fun v H1 => N.nx (σ.set j (some v)) H1) st (pos_e st hp fun d s1 P1 H1 st1 gr1 h1 b n1 n2 ow => h1 _ P1 H1 (st1.setOw n2 (st.h0 n1) (fun z => st.noOwn n1 (gr1.ow b z)) ow) Pk.refl)
theorem s_setLcD (j i : Nat) (own : List (Str × Nat)) (hh2 : SG (GB G scope) tg ts bd) (hh3 : STs (GB G scope) ifs tt) (hh4 : SE (GB G scope) elt el) (hNj : G.N[j]? = some z := by rfl) (hl : G.sc.names.lookup z = some .local := by rfl) (hk : G.sc.kind = .function := by rfl) (hln : (pz.line == pos.line) = true := by rfl) (hna : (scope.names.any fun (n, k) => n == z && (k == .local || k == .cell)) = false := by decide +kernel) (hN : G.N[i]? = some y := by rfl) (hv : Vis G.sc y := by first | exact Or.inl rfl | exact Or.inr (Or.inl rfl) | exact Or.inr (Or.inr rfl))
    (hd : (y == ("__debug__" : Str)) = false := by decide) (hcd : (y == ("__classdict__" : Str)) = false := by decide) (hok : blkC G.N G.sc scope own = true := by first | kernel_rfl | rfl) (hts : ∀ t ∈ ts, t ∈ own.map (·.2) := by decide) (hs : ∀ (X : Cx) x, foldedSetIterable (.Name y py) X.env x = pure x := by intro _ _; rfl) :
    SS G (.Assign [.Name z pz] (.ListComp elt [⟨tg, .Name y py, ifs, 0⟩] scope pos) spos) (sAsg (dSh (dLcO rowsK i (own.map (·.2)) bd tt el)) (bName j)) := by
  revert hh2 hh3 hh4
 
  rintro ⟨g1, pg, hg⟩ ⟨tb, pt, ht⟩ ⟨te, pe, he⟩
  refine ⟨_, fun X h => ps_lock (ps_setLc (i := j) (own := own) (spos := spos) (pos := pos) h.calm h.nd (by rw [h.N]; exact hNj) (by rw [h.sc]; exact hl) (sw_true (by rw [h.sc]; exact hk) (by rw [h.sc]; exact hl) hln hna) (pi_keys (X := X) (tg := tg) (pe_var (i := i) (pos := py) (by rw [h.N]; exact hN) (by rw [h.sc]; exact hv) hd hcd)) (blkOk_by (by rw [h.N, h.sc]; exact hok)) (fun s H C cl fp => pg _ (h.blk scope s H C cl fp)) (fun s H C cl fp => pt _ (h.blk scope s H C cl fp)) (fun s H C cl fp => pe _ (h.blk scope s H C cl fp)) (hs X)), fun E P H σ s N st hp => ?_⟩
  have core := to_compD (G := G) (scope := scope) i (own.map (·.2)) hts hg ht he
  have sh := te_sh core
  exact sh E P H σ s (fun v H1 => N.nx (σ.set j (some v)) H1) st (pos_e st hp fun d s1 P1 H1 st1 gr1 h1 v dv => h1 _ P1 H1 (st1.setSh dv) Pk.refl)
theorem s_setLcDO (j i : Nat) (own : List (Str × Nat)) (hh2 : SG (GB G scope) tg ts bd) (hh3 : STs (GB G scope) ifs tt) (hh4 : SE (GB G scope) elt el) (hNj : G.N[j]? = some z := by rfl) (hl : G.sc.names.lookup z = some .local := by rfl) (hk : G.sc.kind = .function := by rfl) (hln : (pz.line == pos.line) = true := by rfl) (hna : (scope.names.any fun (n, k) => n == z && (k == .local || k == .cell)) = false := by decide +kernel) (hN : G.N[i]? = some y := by rfl) (hv : Vis G.sc y := by first | exact Or.inl rfl | exact Or.inr (Or.inl rfl) | exact Or.inr (Or.inr rfl))
    (hd : (y == ("__debug__" : Str)) = false := by decide) (hcd : (y == ("__classdict__" : Str)) = false := by decide) (hok : blkC G.N G.sc scope own = true := by first | kernel_rfl | rfl) (hts : ∀ t ∈ ts, t ∈ own.map (·.2) := by decide) (hs : ∀ (X : Cx) x, foldedSetIterable (.Name y py) X.env x = pure x := by intro _ _; rfl) :
    SS G (.Assign [.Name z pz] (.ListComp elt [⟨tg, .Name y py, ifs, 0⟩] scope pos) spos) (sSetO j (dLcO rowsK i (own.map (·.2)) bd tt el)) := by
  revert hh2 hh3 hh4
 
  rintro ⟨g1, pg, hg⟩ ⟨tb, pt, ht⟩ ⟨te, pe, he⟩
  refine ⟨_, fun X h => ps_lock (ps_setLc (i := j) (own := own) (spos := spos) (pos := pos) h.calm h.nd (by rw [h.N]; exact hNj) (by rw [h.sc]; exact hl) (sw_true (by rw [h.sc]; exact hk) (by rw [h.sc]; exact hl) hln hna) (pi_keys (X := X) (tg := tg) (pe_var (i := i) (pos := py) (by rw [h.N]; exact hN) (by rw [h.sc]; exact hv) hd hcd)) (blkOk_by (by rw [h.N, h.sc]; exact hok)) (fun s H C cl fp => pg _ (h.blk scope s H C cl fp)) (fun s H C cl fp => pt _ (h.blk scope s H C cl fp)) (fun s H C cl fp => pe _ (h.blk scope s H C cl fp)) (hs X)), fun E P H σ s N st hp => ?_⟩
  have core := to_compD (G := G) (scope := scope) i (own.map (·.2)) hts hg ht he
  exact core E P H σ s (fun v H1 => N.nx (σ.set j (some v)) H1) st (pos_e st hp fun d s1 P1 H1 st1 gr1 h1 b n1 n2 ow => h1 _ P1 H1 (st1.setOw n2 (st.h0 n1) (fun z => st.noOwn n1 (gr1.ow b z)) ow) Pk.refl)
end
end Od

namespace Od
open PySem PySem.Spec PyProof.Rows L2
section
variable {G : Gam} {a b c e : Expr} {es : List Expr} {fa fb fc : De D} {ga : De Bool} {fs : FS} {fl : De (List D)} {pos p p2 p3 : Pos} {x y : Str} {oa ob : Opd}
/-! ### zip -/
def zipD : List D → List D → List D
  | x :: xs, y :: ys => .tuple [x, y] :: zipD xs ys
  | _, _ => []
theorem zipD_at : ∀ {xs ys : List D} {i : Nat} {d : D}, (zipD xs ys)[i]? = some d → ∃ u v, xs[i]? = some u ∧ ys[i]? = some v ∧ d = .tuple [u, v]
  | [], _, i, d, h => by simp [zipD] at h
  | _ :: _, [], i, d, h => by simp [zipD] at h
  | x :: xs, y :: ys, 0, d, h => by simp [zipD] at h; exact ⟨x, y, rfl, rfl, h.symm⟩
  | x :: xs, y :: ys, i + 1, d, h => by
    unfold zipD at h
    rw [List.getElem?_cons_succ] at h
    obtain ⟨u, v, h1, h2, h3⟩ := zipD_at h
    exact ⟨u, v, by rw [List.getElem?_cons_succ]; exact h1, by rw [List.getElem?_cons_succ]; exact h2, h3⟩
theorem zipD_len : ∀ {xs ys : List D} {i : Nat}, (zipD xs ys).length ≤ i → xs.length ≤ i ∨ ys.length ≤ i
  | [], _, i, _ => .inl (Nat.zero_le _)
  | _ :: _, [], i, _ => .inr (Nat.zero_le _)
  | x :: xs, y :: ys, 0, h => by simp [zipD] at h
  | x :: xs, y :: ys, i + 1, h => by
    unfold zipD at h
    rw [List.length_cons] at h
    rcases zipD_len (xs := xs) (ys := ys) (i := i) (by omega) with z | z
    · exact .inl (by rw [List.length_cons]; omega)
    · exact .inr (by rw [List.length_cons]; omega)
def dZip (f g : De D) : De (List D) := bnd f fun d => bnd g fun d2 s => match d, d2 with
  | .list xs, .list ys => some (.ok (zipD xs ys) s)
  | .tuple xs, .tuple ys => some (.ok (zipD xs ys) s)
  | _, _ => none
theorem lay_pair {E : En} {P : Pr} {H : Hp} {σ : L2.St} {s : S} (st : Stt G.K E P H σ s) {T : Addr} {x y : V} {u v : D} (hT : H T = none) (hx : Dat G.K H P x u) (hy : Dat G.K H P y v) :
    ∃ P'', Stt G.K E P'' (upd H T (.tup [x, y])) σ s ∧ Gr E σ s s P H P'' (upd H T (.tup [x, y])) ∧ Dat G.K (upd H T (.tup [x, y])) P'' (.ref T) (.tuple [u, v]) :=
  lay_tup st hT (.cons hx (.cons hy .nil))
theorem i_zip {elts : List Expr} {kk : Nat} {tpos : Pos} (hm : G.mg ("zip" : Str) = none) (hh1 : SE G a fa) (hh2 : SE G b fb) (hg : G.sc.names.lookup ("zip" : Str) = some .globalImplicit := by rfl) (hs : ∀ X : Cx, starEach [a, b] X.env = (false, eval a X.env) :: starEach [b] X.env := by intro _; rfl) (hs2 : ∀ X : Cx, starEach [b] X.env = [(false, eval b X.env)] := by intro _; rfl) (hpl : ∀ X : Cx, (backTo pos (starEach [b] X.env)).any (·.1) = false := by intro _; rfl) :
    SI G (.Tuple elts kk tpos) (.Call (.Name "zip" p) [a, b] [] pos) (dZip fa fb) := by
  revert hh1 hh2
 
  rintro ⟨te, pe, he⟩ ⟨tb, pb, hb⟩
  refine ⟨RZ.iZipA G.K (tCons te (tCons tb tNil)), fun X h => by have z := RZ.pi_zipA (elts := elts) (kk := kk) (tpos := tpos) (p := p) (h.gl hg) (h.mn hm) (pa_cons (pe X h) (pa_cons (pb X h) pa_nil (hs2 X)) (hs X)) (hs X) (hpl X); rw [h.K] at z; exact z,
    fun E P H σ s R st hp => he E P H σ s _ st (po_step hp fun d s1 P1 H1 ee st1 gr1 h1 v hv => ?_)⟩
  refine hb E P1 H1 σ s1 _ st1 (po_step h1 fun d2 s2 P2 H2 ee2 st2 gr2 h2 w hw => ?_)
  have hv2 := hv.k (gr2.pk st1)
  cases d <;> first | exact h2.elim | skip
  · cases d2 <;> first | exact h2.elim | skip
    rename_i xd yd
    obtain ⟨q, xs, rfl, pq, w1, w2⟩ := hv2.lstOf
    obtain ⟨r, ys, rfl, pr, w3, w4⟩ := hw.lstOf
    refine ⟨q, r, xs, ys, rfl, .inl ⟨.of w1, .of w3, h2 P2 H2 st2 Gr.refl _ fun P' H' pk => ?_⟩⟩
    have k1 : H' q = some (.lst xs) := pk.kp _ _ pq w1
    have k3 : H' r = some (.lst ys) := pk.kp _ _ pr w3
    refine ⟨fun i d hd => ?_, fun i hi => ?_⟩
    · obtain ⟨u, v, e1, e2, rfl⟩ := zipD_at hd
      obtain ⟨u', f1, f2⟩ := (w2.k pk).get e1
      obtain ⟨v', f3, f4⟩ := (w4.k pk).get e2
      refine ⟨⟨xs, ys, u', v', .of k1, .of k3, f1, f3⟩, fun x H'' hy E σ s st => ?_⟩
      obtain ⟨T, a1, b1, rfl, hT, rfl, z1, z2⟩ := hy
      exact lay_pair st hT ((w2.k pk).geti (z1 xs (.of k1)) e1) ((w4.k pk).geti (z2 ys (.of k3)) e2)
    · refine ⟨xs, ys, .of k1, .of k3, ?_⟩
      rw [w2.len, w4.len]
      exact zipD_len hi
  · cases d2 <;> first | exact h2.elim | skip
    rename_i xd yd
    obtain ⟨q, xs, rfl, pq, w1, w2⟩ := hv2.tupOf
    obtain ⟨r, ys, rfl, pr, w3, w4⟩ := hw.tupOf
    refine ⟨q, r, xs, ys, rfl, .inr ⟨.of w1, .of w3, h2 P2 H2 st2 Gr.refl _ fun P' H' pk => ?_⟩⟩
    have k1 : H' q = some (.tup xs) := pk.kp _ _ pq w1
    have k3 : H' r = some (.tup ys) := pk.kp _ _ pr w3
    refine ⟨fun i d hd => ?_, fun i hi => ?_⟩
    · obtain ⟨u, v, e1, e2, rfl⟩ := zipD_at hd
      obtain ⟨u', f1, f2⟩ := (w2.k pk).get e1
      obtain ⟨v', f3, f4⟩ := (w4.k pk).get e2
      refine ⟨⟨xs, ys, u', v', .of k1, .of k3, f1, f3⟩, fun x H'' hy E σ s st => ?_⟩
      obtain ⟨T, a1, b1, rfl, hT, rfl, z1, z2⟩ := hy
      exact lay_pair st hT ((w2.k pk).geti (z1 xs (.of k1)) e1) ((w4.k pk).geti (z2 ys (.of k3)) e2)
    · refine ⟨xs, ys, .of k1, .of k3, ?_⟩
      rw [w2.len, w4.len]
      exact zipD_len hi

/-! ### x, y = a, b -/
/-- data that stay, or an object that nobody holds -/
def Fr (K : PySem.W.Frag) (E : En) (σ : L2.St) (s : S) (P : Pr) (H : Hp) : Bool → V → D → Prop
  | false, v, d => Dat K H P v d
  | true, v, d => ∃ q, v = .ref q ∧ E.H0 q = none ∧ ¬ P q ∧ ¬ Owns σ s q ∧ OwA K H P q d
def Apt : Bool → V → Bool → V → Prop
  | true, v, true, w => v ≠ w
  | _, _, _, _ => True
def slM : Bool → D → Sl
  | false, d => .sh d
  | true, d => .ow d
def TMok (G : Gam) (m : Bool) (te : TE) (f : De D) : Prop := ∀ E P H σ s Q, Stt G.K E P H σ s → Po G E P H σ s (f s) (fun d s' P' H' => ∀ v, Fr G.K E σ s' P' H' m v d → (m = true → ∃ q, v = .ref q ∧ H q = none) → Q v H') → te σ H Q
def SM (G : Gam) (m : Bool) (e : Expr) (f : De D) : Prop := ∃ te, (∀ X, Cls G X → PE X e te) ∧ TMok G m te f
theorem m_e : SE G e fa → SM G false e fa := by
  rintro ⟨te, pe, he⟩
  exact ⟨te, pe, fun E P H σ s Q st hp => he E P H σ s Q st (po_mono hp fun d s1 P1 H1 st1 gr1 h1 v dv => h1 v dv nofun)⟩
theorem m_o : SO G e fa → SM G true e fa := by
  rintro ⟨te, pe, he⟩
  exact ⟨te, pe, fun E P H σ s Q st hp => he E P H σ s Q st (po_mono hp fun d s1 P1 H1 st1 gr1 h1 q hq np ow => h1 _ ⟨q, rfl, st.h0 hq, np, fun z => st.noOwn hq (gr1.ow q z), ow⟩ fun _ => ⟨q, rfl, hq⟩)⟩
theorem Fr.k {K : PySem.W.Frag} {E : En} {σ : L2.St} {s s' : S} {P P' : Pr} {H H' : Hp} {m : Bool} {v : V} {d : D} (st : Stt K E P H σ s) (gr : Gr E σ s s' P H P' H') (h : Fr K E σ s P H m v d) : Fr K E σ s' P' H' m v d := by
  cases m with
  | false => exact Dat.k h (gr.pk st)
  | true =>
    obtain ⟨q, rfl, h1, h2, h3, h4⟩ := h
    refine ⟨q, rfl, h1, fun z => ?_, fun z => h3 (gr.ow q z), h4.keep (gr.pk st) fun o eo => gr.kp q o eo h3 fun m => let ⟨o, w⟩ := st.m0 q m; nomatch h1.symm.trans w⟩
    rcases gr.nw q z with w | w | w
    · exact h2 w
    · obtain ⟨o, eo⟩ := h4.ex; rw [eo] at w; cases w
    · exact h3 w
theorem Fr.at {K : PySem.W.Frag} {E : En} {σ : L2.St} {s : S} {P : Pr} {H : Hp} {m : Bool} {v : V} {d : D} (h : Fr K E σ s P H m v d) (e : m = true) : ∃ q o, v = .ref q ∧ H q = some o := by
  subst e
  obtain ⟨q, rfl, _, _, _, h4⟩ := h
  obtain ⟨o, eo⟩ := h4.ex
  exact ⟨q, o, rfl, eo⟩
theorem apt_of {K : PySem.W.Frag} {E : En} {σ : L2.St} {s : S} {P : Pr} {H : Hp} {m m2 : Bool} {v w : V} {d : D} (h : Fr K E σ s P H m v d) (k : m2 = true → ∃ q, w = .ref q ∧ H q = none) : Apt m v m2 w := by
  cases m with
  | false => cases m2 <;> trivial
  | true =>
    cases m2 with
    | false => trivial
    | true =>
      obtain ⟨q, o, rfl, e1⟩ := h.at rfl
      obtain ⟨r, rfl, e2⟩ := k rfl
      intro z
      cases z
      rw [e1] at e2; cases e2
theorem Stt.setM {K : PySem.W.Frag} {E : En} {σ : L2.St} {s : S} {P : Pr} {H : Hp} {m : Bool} {v : V} {d : D} {i : Nat} (st : Stt K E P H σ s) (h : Fr K E σ s P H m v d) : Stt K E P H (σ.set i (some v)) (s.set i (slM m d)) := by
  cases m with
  | false => exact st.setSh h
  | true =>
    obtain ⟨q, rfl, h1, h2, h3, h4⟩ := h
    exact st.setOw h2 h1 h3 h4
theorem owns_setM {σ : L2.St} {s : S} {m : Bool} {v : V} {d : D} {i : Nat} {b : Addr} (hl : σ.length = s.length) (h : Owns (σ.set i (some v)) (s.set i (slM m d)) b) : Owns σ s b ∨ (m = true ∧ v = .ref b) := by
  obtain ⟨j, h1, x, h2, h3⟩ := h
  rcases getset h2 with ⟨e, z⟩ | ⟨e, z⟩
  · subst e; subst z
    cases m with
    | false => cases h3
    | true =>
      rw [set_at hl h2] at h1
      cases h1
      exact .inr ⟨rfl, rfl⟩
  · rw [set_off e] at h1
    exact .inl ⟨j, h1, x, z, h3⟩
theorem Fr.set {K : PySem.W.Frag} {E : En} {σ : L2.St} {s : S} {P : Pr} {H : Hp} {m m2 : Bool} {v w : V} {d d2 : D} {i : Nat} (hl : σ.length = s.length) (h : Fr K E σ s P H m v d) (a : Apt m2 w m v) : Fr K E (σ.set i (some w)) (s.set i (slM m2 d2)) P H m v d := by
  cases m with
  | false => exact h
  | true =>
    obtain ⟨q, rfl, h1, h2, h3, h4⟩ := h
    refine ⟨q, rfl, h1, h2, fun z => ?_, h4⟩
    rcases owns_setM hl z with z | ⟨rfl, rfl⟩
    · exact h3 z
    · exact a rfl
def sPar (m m2 : Bool) (i j : Nat) (f g : De D) : DeS := sE (bnd f fun d => bnd g fun d2 => rtn (d, d2)) fun p s => some (.nx ((s.set i (slM m p.1)).set j (slM m2 p.2)))
theorem s_par {m m2 : Bool} (i j : Nat) {px py pt : Pos} {kt k2 : Nat} {pt2 : Pos} (hh1 : SM G m a fa) (hh2 : SM G m2 b fb) (hi : G.N[i]? = some x := by rfl) (hj : G.N[j]? = some y := by rfl) (hij : i ≠ j := by decide) (hx : G.sc.names.lookup x = some .local := by rfl) (hy : G.sc.names.lookup y = some .local := by rfl)
    (hw : ∀ env : Env, swappedStores [.Tuple [.Name x px, .Name y py] kt pt] (.Tuple [a, b] k2 pt2) { env with scope := G.sc } = pure (some [x, y]) := by intro _; rfl)
    (hs : ∀ X : Cx, starEach [a, b] X.env = (false, eval a X.env) :: starEach [b] X.env := by intro _; rfl) (hs2 : ∀ X : Cx, starEach [b] X.env = [(false, eval b X.env)] := by intro _; rfl) (hss : ∀ X : Cx, swapsWithSole [.Tuple [.Name x px, .Name y py] kt pt] (.Tuple [a, b] k2 pt2) pos.line X.env = pure false := by intro _; rfl) :
    SS G (.Assign [.Tuple [.Name x px, .Name y py] kt pt] (.Tuple [a, b] k2 pt2) pos) (sPar m m2 i j fa fb) := by
  revert hh1 hh2
 
  rintro ⟨te, pe, he⟩ ⟨tb, pb, hb⟩
  refine ⟨tPar i j (tCons te (tCons tb tNil)), fun X h => ps_par h.calm h.nd (by rw [h.N]; exact hi) (by rw [h.N]; exact hj) hij (by rw [h.sc]; exact hx) (by rw [h.sc]; exact hy) (pa_cons (pe X h) (pa_cons (pb X h) pa_nil (hs2 X)) (hs X)) (by have z := hw X.env; rw [← h.sc] at z; exact z) (hss X), fun E P H σ s N st hp => ?_⟩
  refine he E P H σ s _ st (po_step (pos_e st hp (R := fun p s' P' H' => Stt G.K E P' H' σ s' ∧ PoS G E P' H' (some (.nx ((s'.set i (slM m p.1)).set j (slM m2 p.2)))) N) fun p s' P' H' st' gr' h' => ⟨st', h'⟩) fun d s1 P1 H1 ee st1 gr1 h1 v hv hv' => ?_)
  refine hb E P1 H1 σ s1 _ st1 (po_step h1 fun d2 s2 P2 H2 ee2 st2 gr2 h2 w hw hw' => ⟨v, w, rfl, ?_⟩)
  obtain ⟨st3, h3⟩ := po_rtn h2 st2
  have fv := hv.k st1 gr2
  exact h3 _ P2 H2 ((st2.setM fv).setM (hw.set st2.len (apt_of hv hw'))) Pk.refl
def sPar3 (m m2 m3 : Bool) (i j l : Nat) (f g h : De D) : DeS := sE (bnd f fun d => bnd g fun d2 => bnd h fun d3 => rtn (d, d2, d3)) fun p s => some (.nx (((s.set i (slM m p.1)).set j (slM m2 p.2.1)).set l (slM m3 p.2.2)))
theorem s_par3 {z : Str} {m m2 m3 : Bool} (i j l : Nat) {px py pz pt : Pos} {kt k2 : Nat} {pt2 : Pos} (hh1 : SM G m a fa) (hh2 : SM G m2 b fb) (hh3 : SM G m3 c fc) (hi : G.N[i]? = some x := by rfl) (hj : G.N[j]? = some y := by rfl) (hl : G.N[l]? = some z := by rfl) (hij : i ≠ j := by decide) (hil : i ≠ l := by decide) (hjl : j ≠ l := by decide) (hx : G.sc.names.lookup x = some .local := by rfl) (hy : G.sc.names.lookup y = some .local := by rfl) (hz : G.sc.names.lookup z = some .local := by rfl)
    (hw : ∀ env : Env, swappedStores [.Tuple [.Name x px, .Name y py, .Name z pz] kt pt] (.Tuple [a, b, c] k2 pt2) { env with scope := G.sc } = pure (some [x, y, z]) := by intro _; rfl)
    (hs : ∀ X : Cx, starEach [a, b, c] X.env = (false, eval a X.env) :: starEach [b, c] X.env := by intro _; rfl) (hs2 : ∀ X : Cx, starEach [b, c] X.env = (false, eval b X.env) :: starEach [c] X.env := by intro _; rfl) (hs3 : ∀ X : Cx, starEach [c] X.env = [(false, eval c X.env)] := by intro _; rfl) (hss : ∀ X : Cx, swapsWithSole [.Tuple [.Name x px, .Name y py, .Name z pz] kt pt] (.Tuple [a, b, c] k2 pt2) pos.line X.env = pure false := by intro _; rfl) :
    SS G (.Assign [.Tuple [.Name x px, .Name y py, .Name z pz] kt pt] (.Tuple [a, b, c] k2 pt2) pos) (sPar3 m m2 m3 i j l fa fb fc) := by
  revert hh1 hh2 hh3
 
  rintro ⟨te, pe, he⟩ ⟨tb, pb, hb⟩ ⟨tc, pc, hc⟩
  refine ⟨tPar3 i j l (tCons te (tCons tb (tCons tc tNil))), fun X h => ps_par3 h.calm h.nd (by rw [h.N]; exact hi) (by rw [h.N]; exact hj) (by rw [h.N]; exact hl) hij hil hjl (by rw [h.sc]; exact hx) (by rw [h.sc]; exact hy) (by rw [h.sc]; exact hz) (pa_cons (pe X h) (pa_cons (pb X h) (pa_cons (pc X h) pa_nil (hs3 X)) (hs2 X)) (hs X)) (by have z := hw X.env; rw [← h.sc] at z; exact z) (hss X), fun E P H σ s N st hp => ?_⟩
  refine he E P H σ s _ st (po_step (pos_e st hp (R := fun p s' P' H' => Stt G.K E P' H' σ s' ∧ PoS G E P' H' (some (.nx (((s'.set i (slM m p.1)).set j (slM m2 p.2.1)).set l (slM m3 p.2.2)))) N) fun p s' P' H' st' gr' h' => ⟨st', h'⟩) fun d s1 P1 H1 ee st1 gr1 h1 v hv hv' => ?_)
  refine hb E P1 H1 σ s1 _ st1 (po_step h1 fun d2 s2 P2 H2 ee2 st2 gr2 h2 w hw hw' => ?_)
  refine hc E P2 H2 σ s2 _ st2 (po_step h2 fun d3 s3 P3 H3 ee3 st3 gr3 h3 u hu hu' => ⟨v, w, u, rfl, ?_⟩)
  obtain ⟨st4, h4⟩ := po_rtn h3 st3
  have fv2 := hv.k st1 gr2
  have fv := fv2.k st2 gr3
  have fw := hw.k st2 gr3
  have stA := st3.setM (i := i) fv
  have fwA := fw.set (i := i) (d2 := d) st3.len (apt_of hv hw')
  have fuA := hu.set (i := i) (d2 := d) st3.len (apt_of fv2 hu')
  exact h4 _ P3 H3 ((stA.setM fwA).setM (fuA.set stA.len (apt_of hw hu'))) Pk.refl
/-- any target, what is stored not being swapped by what the scope tells -/
theorem s_asgC {tg : Expr} {ts : List Nat} {bd : D → S → Option S} (hh1 : SE G e fa) (hh2 : SG G tg ts bd) (hw : ∀ env : Env, swappedStores [tg] e { env with scope := G.sc } = pure none := by intro _; rfl) (hs : ∀ X : Cx, swapsWithSole [tg] e pos.line X.env = pure false := by intro _; rfl) (h1 : ∀ X : Cx, (assignEach [tg] X.env).map (·.2) = [assign tg X.env] := by intro _; rfl) :
    SS G (.Assign [tg] e pos) (sAsg fa bd) := by
  revert hh1 hh2
 
  rintro ⟨te, pe, he⟩ ⟨g1, pg, hg⟩
  refine ⟨_, fun X h => ps_asg (pe X h) (pg X h) (hs X) (by have z := hw X.env; rw [← h.sc] at z; exact z) (h1 X), fun E P H σ s N st hp => he E P H σ s _ st (pos_e st hp fun d s1 P1 H1 st1 gr1 h1 v dv => ?_)⟩
  cases eb : bd d s1 with
  | none => rw [eb] at h1; exact h1.elim
  | some s2 =>
    rw [eb] at h1
    exact hg E P1 H1 σ s1 v d s2 _ st1 dv eb fun σ1 st2 l o n => h1 σ1 P1 H1 st2 Pk.refl

/-! ### f([..], ..), f changing its first argument, which nobody sees again -/
def dFnT (fs : FS) (f0 : De D) (fl : De (List D)) : De D := bnd f0 fun d0 => bnd fl fun ds s => if ds.length + 1 = fs.n then
    match fs.f (d0 :: ds) with
    | some (.ret d _) => some (.ok d s)
    | some (.ex c) => some (.ex c)
    | none => none
  else none
theorem te_fnT (hi : fs.io = true) {t0 : TE} {ta : TA} {f0 : De D} (h0 : TOok G t0 f0) (ha : TAok G ta fl) {E : En} {P : Pr} {H : Hp} {σ : L2.St} {s : S} {Q : VK} {R : D → S → Pr → Hp → Prop} (st : Stt G.K E P H σ s) (h : Po G E P H σ s (dFnT fs f0 fl s) R)
    (k : ∀ vs1 s1 P1 H1 d n v P' H', Gr E σ s s1 P H P1 H1 → R d s1 P' H' → Beh G.K fs vs1 P1 H1 d n v P' H' → Q v H') :
    (t0 σ H fun v H1 => ta σ H1 fun vs H2 => spOf G.K G.mg fs (v :: vs) H2 Q G.E) := by
  unfold dFnT bnd at h
  refine h0 E P H σ s _ st ?_
  cases e0 : f0 s with
  | none => rw [e0] at h; exact h
  | some r0 =>
    rw [e0] at h
    cases r0 with
    | ex c => exact h
    | ok d0 s1 =>
      intro P1 H1 st1 gr1 q hq np ow
      refine ha E P1 H1 σ s1 _ st1 ?_
      dsimp only at h
      cases e1 : fl s1 with
      | none => rw [e1] at h; exact h
      | some r1 =>
        rw [e1] at h
        cases r1 with
        | ex c => exact h
        | ok ds s2 =>
          intro P2 H2 st2 gr2 vs hv
          dsimp only at h
          split at h
          · rename_i hl
            have nq1 : ¬ Owns σ s1 q := fun z => st.noOwn hq (gr1.ow q z)
            have nq2 : ¬ Owns σ s2 q := fun z => nq1 (gr2.ow q z)
            have ow2 : OwA G.K H2 P2 q d0 := ow.keep (gr2.pk st1) fun o eo => gr2.kp q o eo nq1 (st.noM hq)
            have np2 : ¬ P2 q := fun z => by
              rcases gr2.nw q z with w | w | w
              · exact np w
              · obtain ⟨o, eo⟩ := ow.ex; rw [eo] at w; cases w
              · exact nq1 w
            have h0q : E.H0 q = none := st.h0 hq
            refine ⟨by rw [List.length_cons, hv.len]; exact hl, P2, d0 :: ds, st2.pal, ?_, ?_⟩
            · unfold ArgsOk
              rw [hi]
              exact ⟨q, vs, d0, ds, rfl, rfl, np2, ow2, hv⟩
            · cases ef : fs.f (d0 :: ds) with
              | none => rw [ef] at h; exact h.elim
              | some rr =>
                rw [ef] at h
                cases rr with
                | ex c =>
                  refine fun H' z => h H' fun a o e m => z a o (st2.kp a o e m) fun w => ?_
                  have w2 : a = q := by have w2 := w.2; simp at w2; exact w2.symm
                  subst w2
                  rw [h0q] at e; cases e
                | ret d n =>
                  intro v P' H' be
                  have io : ∀ a, IoR fs.io (.ref q :: vs) a → a = q := fun a w => by have w2 := w.2; simp at w2; exact w2.symm
                  have kq : ∀ b o, H2 b = some o → b ≠ q → H' b = some o := fun b o z n => be.kp b o z fun w => n (io b w)
                  have pk : Pk P2 H2 P' H' := ⟨be.le, fun b o z w => kq b o w fun w2 => np2 (by subst w2; exact z)⟩
                  have npO : ∀ b, Owns σ s2 b → ¬ P' b := fun b o z => by
                    rcases be.nw b z with w | w
                    · exact st2.own_np o w
                    · exact st2.noOwn w o
                  have gr12 := gr1.trans gr2
                  have mp' : ∀ b, E.M b → ¬ P' b := fun b m o => by
                    rcases be.nw b o with z | z
                    · exact st2.mp b m z
                    · exact st2.noM z m
                  refine k (.ref q :: vs) s2 P2 H2 d n v P' H' gr12 (h P' H' ⟨st2.len, fun j x z => ?_, st2.dj, fun b z => be.le b (st2.pg b z), fun b z => ?_, be.pal, fun b o z m => kq b o (st2.kp b o z m) fun w => (by subst w; rw [h0q] at z; cases z), fun b m => ?_, mp', st2.m0, st2.tk⟩
                    ⟨fun b z => be.le b (gr12.le b z), fun b o z no nm => kq b o (gr12.kp b o z no nm) fun w => (by subst w; rw [hq] at z; cases z), fun b z => ?_, gr12.ow, fun b z => gr12.ex b (be.ex b z)⟩) be
                  · have w := st2.sl j x z
                    cases x with
                    | un => trivial
                    | sh d' => obtain ⟨v, w1, w2⟩ := w; exact ⟨v, w1, w2.k pk⟩
                    | ow d' =>
                      obtain ⟨b, w1, w2, w3, w4⟩ := w
                      have o : Owns σ s2 b := ⟨j, w1, _, z, rfl⟩
                      exact ⟨b, w1, npO b o, w3, w4.keep pk fun u z => kq b u z fun w => nq2 (by subst w; exact o)⟩
                    | io d' =>
                      obtain ⟨b, w1, w2, w3, w4⟩ := w
                      have o : Owns σ s2 b := ⟨j, w1, _, z, rfl⟩
                      exact ⟨b, w1, npO b o, w3, w4.keep pk fun u z => kq b u z fun w => nq2 (by subst w; exact o)⟩
                    | tk d' =>
                      obtain ⟨b, m, w1, w2⟩ := w
                      refine ⟨b, m, w1, w2.keep pk fun c u hc z => kq c u z fun w => ?_⟩
                      rcases hc with hc | hc
                      · exact w2.notOw ow2 (hc.symm.trans w)
                      · subst w
                        exact st.noM hq hc
                  · rcases be.nw b z with w | w
                    · exact st2.pn b w
                    · exact .inr (st2.h0 w)
                  · cases z : H' b with
                    | some o => exact ⟨o, rfl⟩
                    | none =>
                      obtain ⟨o, w⟩ := st2.mx b m
                      rw [be.ex b z] at w; cases w
                  · rcases be.nw b z with w | w
                    · exact gr12.nw b w
                    · exact .inr (.inl (gr12.ex b w))
          · exact h.elim
theorem e_fnT (F : DefG G.P G.w G.K G.mg G.base G.k x fs) (hi : fs.io = true) (ho : fs.own = false) (hh1 : SO G e fa) (hh2 : SA G es fl) (hg : G.sc.names.lookup x = some .globalImplicit := by rfl) (hdb : (x == ("__debug__" : Str)) = false := by decide) (he : ∀ X : Cx, starEach (e :: es) X.env = (false, eval e X.env) :: starEach es X.env := by intro _; rfl) (hpl : ∀ X : Cx, (backTo pos (starEach es X.env)).any (·.1) = false := by intro _; rfl) :
    SE G (.Call (.Name x p) (e :: es) [] pos) (dFnT fs fa fl) := by
  revert hh1 hh2
 
  rintro ⟨te, pe, h0⟩ ⟨ta, pa, ha⟩
  refine ⟨_, fun X h => h.call F hg (pa_cons (pe X h) (pa X h) (he X)) hdb (he X) (hpl X), fun E P H σ s Q st hp => ?_⟩
  refine te_fnT hi h0 ha st hp fun vs1 s1 P1 H1 d n v P' H' gr r be => r v ?_
  have z := be.val
  rw [ho, if_neg (by decide)] at z
  exact z
theorem o_fnT (F : DefG G.P G.w G.K G.mg G.base G.k x fs) (hi : fs.io = true) (ho : fs.own = true) (hh1 : SO G e fa) (hh2 : SA G es fl) (hg : G.sc.names.lookup x = some .globalImplicit := by rfl) (hdb : (x == ("__debug__" : Str)) = false := by decide) (he : ∀ X : Cx, starEach (e :: es) X.env = (false, eval e X.env) :: starEach es X.env := by intro _; rfl) (hpl : ∀ X : Cx, (backTo pos (starEach es X.env)).any (·.1) = false := by intro _; rfl) :
    SO G (.Call (.Name x p) (e :: es) [] pos) (dFnT fs fa fl) := by
  revert hh1 hh2
 
  rintro ⟨te, pe, h0⟩ ⟨ta, pa, ha⟩
  refine ⟨_, fun X h => h.call F hg (pa_cons (pe X h) (pa X h) (he X)) hdb (he X) (hpl X), fun E P H σ s Q st hp => ?_⟩
  refine te_fnT hi h0 ha st hp fun vs1 s1 P1 H1 d n v P' H' gr r be => ?_
  have z := be.val
  rw [ho, if_pos rfl] at z
  obtain ⟨b, rfl, n1, n2, n3⟩ := z
  exact r b (gr.ex b n1) n2 n3
end
end Od

namespace Od
open PySem PySem.Spec PyProof.Rows L2
/-! ### repr(x) -/
def shwOk (d : D) : Bool := noDic d && d.showable && decide (d.hasDict = false) && decide (d.depth ≤ 64) && decide (d.shown.length ≤ sizeLine)
theorem cr_shown {X : Cx} (hg : X.A.guards = some []) (hu : X.A.units + 65 < cLine) : CallR X (.builtin "repr") (fun xs H Q => ∃ v d, xs = [v] ∧ Dp X.K H v d ∧ shwOk d = true ∧ Q (.str d.shown) H) := by
  intro pins s σ H xs us Q I r h
  obtain ⟨v, d, rfl, hd, ok, q⟩ := h
  unfold shwOk at ok
  simp only [Bool.and_eq_true, decide_eq_true_eq] at ok
  have o1 := ok.1.1.1.2
  have o2 := ok.1.1.2
  have o3 := ok.1.2
  have o4 := ok.2
  clear ok
  obtain ⟨u, rfl, rv⟩ := vals1 r
  cases hd with
  | non => cases rv; exact PySem.P.repr_of_none ⟨.str _, H, I.tok _, ⟨_, rfl⟩, q⟩
  | bl b => cases rv; exact PySem.P.repr_of_bool ⟨.str _, H, I.tok _, ⟨_, rfl⟩, q⟩
  | int i =>
    obtain ⟨t, rfl⟩ := rv
    exact PySem.P.repr_of_int (by unfold PyData.showable at o1; exact of_decide_eq_true o1) ⟨.str _, H, I.tok _, ⟨_, rfl⟩, q⟩
  | str x =>
    obtain ⟨t, rfl⟩ := rv
    exact PySem.P.repr_of_str ⟨.str _, H, I.tok _, ⟨_, rfl⟩, q⟩ (hsz := by unfold PyData.shown at o4; exact o4)
  | lst h1 h2 =>
    rename_i a xs ds
    cases rv
    obtain ⟨as, rd⟩ := Dp.reads I (.list ds) (.ref a) _ (.lst h1 h2) rfl
    exact repr_of_reads' rd o1 (PyData.noDict_hsm o2) hg (by omega) (fun _ _ e => e) (fun h' u tk hk => ⟨.str _, H, I.kept hk, ⟨_, rfl⟩, q⟩) o4
  | tup h1 h2 =>
    rename_i a xs ds
    cases rv
    obtain ⟨as, rd⟩ := Dp.reads I (.tuple ds) (.ref a) _ (.tup h1 h2) rfl
    exact repr_of_reads' rd o1 (PyData.noDict_hsm o2) hg (by omega) (fun _ _ e => e) (fun h' u tk hk => ⟨.str _, H, I.kept hk, ⟨_, rfl⟩, q⟩) o4
def fRepr (d : D) : Option D := if shwOk d = true then some (.str d.shown) else none
section
variable {G : Gam} {a b c e : Expr} {es : List Expr} {fa fb fc : De D} {ga : De Bool} {fs : FS} {fl : De (List D)} {pos p p2 p3 : Pos} {x y : Str} {oa ob : Opd}
theorem f_repr : Op1 G (.builtin "repr") fRepr := by
  refine ⟨_, fun X h => by have z := cr_shown (X := X) h.gd h.u65; rw [h.K] at z; exact z, fun E P H σ s x dx d Q st hx e h => ?_⟩
  unfold fRepr at e
  split at e
  · rename_i ok
    cases e
    have nd : noDic dx = true := by
      unfold shwOk at ok
      simp only [Bool.and_eq_true] at ok
      exact ok.1.1.1.1
    exact ⟨x, dx, rfl, hx.dp nd, ok, h _ P H st Gr.refl (.str _)⟩
  · cases e
/-! ### xs * n, tuples -/
def oRepT : D → D → Option D
  | .tuple ds, .int k => if (!ds.isEmpty && decide (2 ≤ k) && decide (k ≤ 1000) && decide (ds.length ≤ 1000)) = true then some (.tuple (List.replicate k.toNat ds).flatten) else none
  | _, _ => none
theorem DatL.rep {K : PySem.W.Frag} {H : Hp} {P : Pr} {xs : List V} {ds : List D} (h : DatL K H P xs ds) : ∀ n : Nat, DatL K H P (List.replicate n xs).flatten (List.replicate n ds).flatten
  | 0 => .nil
  | n + 1 => by
    rw [List.replicate_succ, List.replicate_succ, List.flatten_cons, List.flatten_cons]
    exact h.app (h.rep n)
theorem o_repT : Op2 G (binaryOp .Mult) oRepT := by
  refine ⟨_, fun X h => by have z := op_repT (X := X); rw [h.K] at z; exact z, fun E P H σ s x y dx dy d Q st hx hy e h => ?_⟩
  cases dx <;> first | (cases e; done) | skip
  cases dy <;> first | (cases e; done) | skip
  rename_i ds k
  unfold oRepT at e
  dsimp only at e
  split at e
  · rename_i ok
    simp only [Bool.and_eq_true, decide_eq_true_eq, Bool.not_eq_true', List.isEmpty_eq_false_iff] at ok
    cases e
    obtain ⟨a, xs, rfl, _, h1, h2⟩ := hx.tupOf
    cases hy.intOf
    refine ⟨a, k, xs, rfl, rfl, .of h1, fun z => ?_, ok.1.1.2, ok.1.2, by rw [h2.len]; exact ok.2, fun p hp => ?_⟩
    · subst z
      cases h2
      exact ok.1.1.1 rfl
    · obtain ⟨P', st', gr', dv⟩ := lay_tup st hp (h2.rep k.toNat)
      exact h _ P' _ st' gr' dv
  · cases e
end
end Od

namespace Od
open PySem PySem.Spec PyProof.Rows L2
section
variable {G : Gam} {a b c e : Expr} {es : List Expr} {fa fb fc : De D} {ga : De Bool} {fs : FS} {fl : De (List D)} {pos p p2 p3 : Pos} {x y : Str} {oa ob : Opd}
theorem gr_upd {E : En} {σ : L2.St} {s s' : S} {P P' : Pr} {H H' : Hp} {q : Addr} {o : HO} (hq : H q = none) (g : Gr E σ s s' P H P' H') : Gr E σ s s' P H P' (upd H' q o) :=
  ⟨g.le, fun b u e n m => by rw [upd_ne (ne_of_none e hq)]; exact g.kp b u e n m, g.nw, g.ow, fun b e => by
    by_cases n : b = q
    · subst n; rw [upd_same] at e; cases e
    · rw [upd_ne n] at e; exact g.ex b e⟩
/-- {k: v} -/
def dDic1 (f g : De D) : De D := bnd f fun dk => bnd g fun dv s => match keyOf dk with
  | some _ => some (.ok (.dict [(dk, dv)]) s)
  | none => none
theorem o_dic1 : SE G a fa → SE G b fb → SO G (.Dict [some a] [b] pos) (dDic1 fa fb) := by
  rintro ⟨ta, pa, ha⟩ ⟨tb, pb, hb⟩
  refine ⟨tDisp [(ta, tb)], fun X h => pe_disp (pps_cons (pa X h) (pb X h) pps_nil) rfl rfl (by simp) (by show 1 ≤ 15; decide), fun E P H σ s Q st hp p hn => ?_⟩
  obtain ⟨st0, gr0⟩ := st.layO (o := .dK []) hn
  have h0 : E.H0 p = none := st.h0 hn
  have np : ¬ P p := st.noP hn
  have no : ¬ Owns σ s p := st.noOwn hn
  unfold dDic1 bnd at hp
  refine ha E P _ σ s _ st0 ?_
  cases e0 : fa s with
  | none => rw [e0] at hp; exact hp
  | some r0 =>
    rw [e0] at hp
    cases r0 with
    | ex c => exact hp
    | ok dk s1 =>
      intro P1 H1 st1 gr1 v hv
      refine hb E P1 H1 σ s1 _ st1 ?_
      dsimp only at hp
      cases e1 : fb s1 with
      | none => rw [e1] at hp; exact hp
      | some r1 =>
        rw [e1] at hp
        cases r1 with
        | ex c => exact hp
        | ok dv s2 =>
          intro P2 H2 st2 gr2 w hw
          dsimp only at hp
          cases ek : keyOf dk with
          | none => rw [ek] at hp; exact hp.elim
          | some k =>
            rw [ek] at hp
            have edk := keyOf_some ek
            subst edk
            have no1 : ¬ Owns σ s1 p := fun z => no (gr1.ow p z)
            have no2 : ¬ Owns σ s2 p := fun z => no1 (gr2.ow p z)
            have g12 := gr1.trans gr2
            have hp2 : H2 p = some (.dK []) := g12.kp p _ upd_same no (st.noM hn)
            have np2 : ¬ P2 p := fun z => by
              rcases g12.nw p z with q | q | q
              · exact np q
              · rw [upd_same] at q; cases q
              · exact no q
            refine ⟨hp2, [(k, w)], by rw [(hv.k (gr2.pk st1)).kv]; rfl, by show 1 ≤ 15; omega, ?_⟩
            have g02 : Gr E σ s s2 P H P2 H2 := gr0.trans g12
            have pk : Pk P2 H2 P2 (upd H2 p (.dK [(k, w)])) := keep_upd np2 _
            exact hp P2 _ (st2.updX np2 no2 h0 fun d z => z.notOw (n := .dict []) (.inl ⟨[], hp2, .nil⟩) rfl) (gr_upd hn g02) p hn np2 (.inl ⟨[(k, w)], upd_same, .cons (hw.k pk) .nil⟩)
end
end Od

namespace Od
open PySem PySem.Spec PyProof.Rows L2
/-! ### a tuple once, or no time -/
theorem tuple_mul_same (l : Addr) (items : Array Value) (n : Nat) (dd : Option Addr) (sl : Array (Option Value)) (x : Int) (u : Tok) (c0 : (decide (x < -(2 ^ 63)) || decide (x ≥ 2 ^ 63)) = false) (c1 : (items.isEmpty || x == 1) = true) :
    Meets (Builtin.«tuple.__mul__» ⟨[.ref l, .int x u], []⟩) (fun _ R s => s.heap.get? l = some { cls := .type "tuple", dict := dd, data := .seq items n, slots := sl } ∧ R (.ok (.ret (Value.ref l))) s) :=
  .of_wp fun prog w A R s h => by
    obtain ⟨hp, g, d, tk, os⟩ := s
    obtain ⟨hl, h⟩ := h
    have f1 := AutoSeq1.idx_int
    wp_walk using AutoSeq1.wpAny_loadPart' hl
    repeat (first
      | (refine wpAny_ite_false (decide_eq_false (by rw [c0]; exact Bool.false_ne_true)) ?_; wp_walk using AutoSeq1.wpAny_loadPart' hl)
      | (refine wpAny_ite_true (decide_eq_true c1) ?_; wp_walk using AutoSeq1.wpAny_loadPart' hl))
    exact ⟨_, rfl, h⟩
theorem tuple_mul_none (l : Addr) (items : Array Value) (n : Nat) (dd : Option Addr) (sl : Array (Option Value)) (x : Int) (u : Tok) (c0 : (decide (x < -(2 ^ 63)) || decide (x ≥ 2 ^ 63)) = false) (c1 : (items.isEmpty || x == 1) = false) (c2 : (decide (x ≤ 0) || items.isEmpty) = true) :
    Meets (Builtin.«tuple.__mul__» ⟨[.ref l, .int x u], []⟩) (fun _ R s => s.heap.get? l = some { cls := .type "tuple", dict := dd, data := .seq items n, slots := sl } ∧
      R (.ok (.ret (Value.ref s.heap.objs.size))) { s with heap := s.heap.push { cls := Value.type "tuple", data := Data.seq #[] }, toks := s.toks }) :=
  .of_wp fun prog w A R s h => by
    obtain ⟨hp, g, d, tk, os⟩ := s
    obtain ⟨hl, h⟩ := h
    have f1 := AutoSeq1.idx_int
    wp_walk using AutoSeq1.wpAny_loadPart' hl
    repeat (first
      | (refine wpAny_ite_false (decide_eq_false (by rw [c0]; exact Bool.false_ne_true)) ?_; wp_walk using AutoSeq1.wpAny_loadPart' hl)
      | (refine wpAny_ite_false (decide_eq_false (by rw [c1]; exact Bool.false_ne_true)) ?_; wp_walk using AutoSeq1.wpAny_loadPart' hl)
      | (refine wpAny_ite_true (decide_eq_true c2) ?_; wp_walk using AutoSeq1.wpAny_loadPart' hl))
    exact ⟨_, rfl, h⟩
def rRepS (K : PySem.W.Frag) : R2 := fun x y H Q => ∃ l k xs, x = .ref l ∧ y = .int k ∧ SqT K H l xs ∧ -(2 ^ 62) ≤ k ∧ k ≤ 1000 ∧ ((xs = [] ∨ k = 1) ∧ Q (.ref l) H ∨ (xs ≠ [] ∧ k ≤ 0) ∧ ∀ p, H p = none → Q (.ref p) (upd H p (.tup [])))
theorem op_repS {X : Cx} : OpR X (binaryOp .Mult) (rRepS X.K) := by
  intro pins s σ H x y v u Q I rx ry h
  obtain ⟨l, k, xs, rfl, rfl, hT, h1, h2, q⟩ := h
  cases rx
  obtain ⟨t, rfl⟩ := ry
  obtain ⟨its, r, ⟨⟨cls, dd, data, sl⟩, ho, hc, n, hd⟩, hs⟩ := I.tuple hT
  simp only at hc hd
  subst hc hd
  have hle : its.length = xs.length := r.length.symm
  have c0 : (decide (k < -(2 ^ 63)) || decide (k ≥ 2 ^ 63)) = false := by
    rw [decide_eq_false (by omega), decide_eq_false (by omega)] <;> rfl
  rcases q with ⟨c, q⟩ | ⟨⟨c, d⟩, q⟩
  · have c1 : (its.toArray.isEmpty || k == 1) = true := by
      rcases c with c | c
      · subst c
        have : its = [] := List.eq_nil_of_length_eq_zero hle
        subst this
        rfl
      · subst c
        rw [Bool.or_eq_true]; exact .inr rfl
    exact wpAny_binaryOp_repeat_ref (T := "tuple") (U := "int") (by decide) ⟨_, ho, rfl⟩ (fun s' => typeIs_int s' k t) noFill_tuple_mul F.fills_int_mul F.slot_int_rmul repeat_tuple F.slot_int_index.lookup
      (call_meets F.slot_int_rmul (typeIs_int s k t) F.entry_int_rmul (F.args_int_rmul_2 _ _) (int_rmul_tuple k t l its.toArray n dd sl)
        ⟨ho, rfl, ⟨_, ho, rfl⟩, call_meets F.slot_tuple_mul ⟨_, ho, rfl⟩ F.entry_tuple_mul (F.args_tuple_mul_2 _ _) (tuple_mul_same l its.toArray n dd sl k t c0 c1) ⟨ho, ⟨.ref l, H, I.tok _, rfl, q⟩⟩⟩)
  · have hn : its ≠ [] := fun e => c (by rw [e] at hle; exact List.eq_nil_of_length_eq_zero hle.symm)
    have hi : its.toArray.isEmpty = false := by
      cases its with
      | nil => exact absurd rfl hn
      | cons a b => rfl
    have c1 : (its.toArray.isEmpty || k == 1) = false := by
      rw [hi, Bool.false_or]
      exact beq_eq_false_iff_ne.mpr (by omega)
    have c2 : (decide (k ≤ 0) || its.toArray.isEmpty) = true := by
      rw [decide_eq_true d]; rfl
    refine wpAny_binaryOp_repeat_ref (T := "tuple") (U := "int") (by decide) ⟨_, ho, rfl⟩ (fun s' => typeIs_int s' k t) noFill_tuple_mul F.fills_int_mul F.slot_int_rmul repeat_tuple F.slot_int_index.lookup
      (call_meets F.slot_int_rmul (typeIs_int s k t) F.entry_int_rmul (F.args_int_rmul_2 _ _) (int_rmul_tuple k t l its.toArray n dd sl)
        ⟨ho, rfl, ⟨_, ho, rfl⟩, call_meets F.slot_tuple_mul ⟨_, ho, rfl⟩ F.entry_tuple_mul (F.args_tuple_mul_2 _ _) (tuple_mul_none l its.toArray n dd sl k t c0 c1 c2) ⟨ho, ?_⟩⟩)
    refine ⟨.ref s.heap.objs.size, _, I.laid (t' := s.toks) (o := .tup []) (fun b ob q => Heap.get?_push_of_some _ q) (Nat.le_refl _) ?_, rfl, q _ (I.hok.fresh (Nat.le_refl _))⟩
    exact ⟨by show 0 ≤ sizeLine; omega, [], .nil, IsTup.new _ _⟩
section
variable {G : Gam} {a b c e : Expr} {es : List Expr} {fa fb fc : De D} {pos p : Pos} {x y : Str} {oa ob : Opd}
/-- xs * n, tuples -/
def oRepA : D → D → Option D
  | .tuple ds, .int k => if (decide (-(2 ^ 62) ≤ k) && decide (k ≤ 1000) && decide (ds.length ≤ 1000)) = true then some (.tuple (List.replicate k.toNat ds).flatten) else none
  | _, _ => none
theorem flat_nil : ∀ n : Nat, (List.replicate n ([] : List D)).flatten = []
  | 0 => rfl
  | n + 1 => by rw [List.replicate_succ, List.flatten_cons, flat_nil n]; rfl
theorem o_repA : Op2 G (binaryOp .Mult) oRepA := by
  refine ⟨_, fun X h => by have z := (op_repS (X := X)).or op_repT; rw [h.K] at z; exact z, fun E P H σ s x y dx dy d Q st hx hy e h => ?_⟩
  cases dx <;> first | (cases e; done) | skip
  cases dy <;> first | (cases e; done) | skip
  rename_i ds k
  unfold oRepA at e
  dsimp only at e
  split at e
  · rename_i ok
    simp only [Bool.and_eq_true, decide_eq_true_eq] at ok
    cases e
    have dv := hx.dat (fun _ => nofun) (fun _ => nofun)
    obtain ⟨a, xs, rfl, _, h1, h2⟩ := hx.tupOf
    cases hy.intOf
    by_cases c : ds = [] ∨ k = 1
    · refine .inl ⟨a, k, xs, rfl, rfl, .of h1, ok.1.1, ok.1.2, .inl ⟨?_, ?_⟩⟩
      · rcases c with c | c
        · subst c; cases h2; exact .inl rfl
        · exact .inr c
      · have e : (List.replicate k.toNat ds).flatten = ds := by
          rcases c with c | c
          · subst c; exact flat_nil _
          · subst c
            show ds ++ [] = ds
            rw [List.append_nil]
        rw [e] at h
        exact h _ P H st Gr.refl dv
    · have c1 : ds ≠ [] := fun z => c (.inl z)
      have c2 : k ≠ 1 := fun z => c (.inr z)
      have c3 : xs ≠ [] := fun z => by
        subst z
        cases h2
        exact c1 rfl
      by_cases d : k ≤ 0
      · refine .inl ⟨a, k, xs, rfl, rfl, .of h1, ok.1.1, ok.1.2, .inr ⟨⟨c3, d⟩, fun p hp => ?_⟩⟩
        obtain ⟨P', st', gr', dv⟩ := lay_tup st hp (.nil : DatL G.K H P [] [])
        have e : (List.replicate k.toNat ds).flatten = [] := by rw [Int.toNat_of_nonpos d]; rfl
        rw [e] at h
        exact h _ P' _ st' gr' dv
      · refine .inr ⟨a, k, xs, rfl, rfl, .of h1, c3, by omega, ok.1.2, by rw [h2.len]; exact ok.2, fun p hp => ?_⟩
        obtain ⟨P', st', gr', dv⟩ := lay_tup st hp (h2.rep k.toNat)
        exact h _ P' _ st' gr' dv
  · cases e
/-- xs * n, lists -/
def oRepL : D → D → Option D
  | .list ds, .int k => if (decide (-(2 ^ 62) ≤ k) && decide (k ≤ 1000) && decide (ds.length ≤ 1000)) = true then some (.list (List.replicate k.toNat ds).flatten) else none
  | _, _ => none
theorem o_repL : Op2o G (binaryOp .Mult) oRepL := by
  refine ⟨_, fun X h => op_rep, fun E P H σ s x y dx dy d Q st hx hy e h => ?_⟩
  cases dx <;> first | (cases e; done) | skip
  cases dy <;> first | (cases e; done) | skip
  rename_i ds k
  unfold oRepL at e
  dsimp only at e
  split at e
  · rename_i ok
    simp only [Bool.and_eq_true, decide_eq_true_eq] at ok
    cases e
    obtain ⟨a, xs, rfl, h1, h2⟩ := hx.lstOf
    cases hy.intOf
    refine ⟨a, k, xs, rfl, rfl, h1, by omega, by omega, ?_, fun p hp => ?_⟩
    · rw [h2.len, sizeLine_eq]
      have z : ds.length * k.toNat ≤ 1000 * 1000 := Nat.mul_le_mul ok.2 (by omega)
      omega
    · obtain ⟨st', gr', np, ow⟩ := lay_lst st hp (h2.rep k.toNat)
      exact h p _ _ st' gr' hp np ow
  · cases e
/-- -x -/
def dNeg (f : De D) : De D := bnd f fun d s => match d with
  | .int i => some (.ok (.int (-i)) s)
  | _ => none
theorem e_neg : SE G a fa → SE G (.UnaryOp .USub a pos) (dNeg fa) := by
  rintro ⟨ta, pa, ha⟩
  refine ⟨tUn (rU fun i => .int (-i)) ta, fun X h => pe_un un_neg (pa X h), fun E P H σ s Q st hp => ha E P H σ s _ st (po_step hp fun d s1 P1 H1 ee st1 gr1 h1 v hv => ?_)⟩
  cases d <;> first | exact h1.elim | skip
  rename_i i
  exact ⟨i, hv.intOf, h1 P1 H1 st1 Gr.refl _ (.int _)⟩
end
end Od

namespace Od
open PySem PySem.Spec PyProof.Rows L2
/-! ### the law's end, for promises where no guard stands around -/
def EndG (t : Shared) : Except Value Flow → Shared → Prop := fun r t' => r = .ok (.ret (.bool true)) ∧ OldK t.heap t'.heap ∧ t'.os = t.os ∧ AllBare t'.gens
section
variable {P : Program} {w : World} {K : PySem.W.Frag} {mg mb : Str → Option Value} {k : Nat} {fa q : Addr} {fd : FuncData} {x : Str} {sp : Sp} {t : Shared} {us : List Value} {zs : List Int}
theorem end_core (KX : K.In t.heap) (n1 : t.heap.Ns mainGlobals mg) (n2 : t.heap.Ns builtinsNs mb) (n3 : ∀ y : Str, y ≠ "__name__" → mb y = bootBuiltins y) (n4 : t.heap.NoLimit) (n5 : t.gens = #[])
    (at_q : t.heap.get? q = some { cls := .type "list", data := .seq us.toArray }) (rm : Room k callerA) (F : ∀ base : Heap, K.In base → base.Ns mainGlobals mg → FnG P w K mg base k fa fd [x] sp)
    (bd : ∀ (s : Shared) (u : Value), BindsTo s fd ⟨[u], []⟩ [(x, u)]) {H : Hp} (only : Only H) (ok : HOk P w H t.heap) (hA : ∀ b, H b ≠ none → b = q) (hK : H q ≠ none → K.lookup q = none)
    (want : sp [.ref q] H (fun v _ => v = .bl true) fun _ _ _ => False) : codeAny (model P w) callerA (.call (.ref fa) ⟨[.ref q], []⟩) (EndG t) t := by
  have free : ∀ {b : Addr} {o : Obj} {es : Array DictEntry} {ep : Nat}, t.heap.get? b = some o → o.data = .dict es ep → H b = none := fun {b o es ep} e d => by
    by_cases z : H b = none
    · exact z
    · have eb := hA b z
      subst eb
      rw [at_q] at e
      cases e
      exact nomatch (show Data.seq us.toArray _ = Data.dict es ep from d)
  have keepNs : ∀ {b : Addr} {m : Str → Option Value}, t.heap.Ns b m → (hidT t.heap H).Ns b m := fun {b m} ⟨o, es, ep, e, d, r⟩ => ⟨o, es, ep, hidT_get e (free e d), d, r⟩
  have KB : K.In (hidT t.heap H) := fun b o e => by
    refine hidT_get (KX b o e) ?_
    by_cases z : H b = none
    · exact z
    · have eb := hA b z
      subst eb
      rw [hK z] at e
      cases e
  have md : Mod K mg (hidT t.heap H) := by
    obtain ⟨mc, c1, c2⟩ := n4
    exact ⟨KB, keepNs n1, ⟨mb, keepNs n2, n3⟩, ⟨mc, keepNs c1, c2⟩⟩
  have env : Env0 P w K mg (hidT t.heap H) callerA [] t H :=
    ⟨rfl, md, fun b o e => of_hidT e, Nat.le_of_eq (hidT_size _ _), trivial, fun b z => (List.not_mem_nil (show b ∈ ([] : List Addr) from z)).elim, ok, .of_eq n5⟩
  refine codeAny_mono ((F _ KB (keepNs n1)).run callerA [] t H ⟨[.ref q], []⟩ [.ref q] [.ref q] _ _ rm rfl env (bd t (.ref q)) (.cons rfl .nil) want) fun r t' h => ?_
  match r, h with
  | .error e, h =>
    obtain ⟨_, _, _, _, _, _, _, _, _, _, _, _, z⟩ := h
    exact z.elim
  | .ok .next, h => exact (show False from h).elim
  | .ok .brk, h => exact (show False from h).elim
  | .ok .cont, h => exact (show False from h).elim
  | .ok (.ret u), ⟨v, H', o1, o2, un, ok', rv, ev⟩ =>
    have ev : v = .bl true := ev
    subst ev
    have eu : u = Value.bool true := rv
    subst eu
    refine ⟨rfl, OldK.of_keep fun b o e => ?_, o1, o2⟩
    rcases only b with z | ⟨ob, xs, z⟩
    · exact un.keep b o e z (fun y => (List.not_mem_nil (show b ∈ ([] : List Addr) from y)).elim) (by simp)
    · obtain ⟨e1, _⟩ := ok b _ z
      obtain ⟨e2, _⟩ := ok' b _ (un.frzs b ob _ z)
      rw [e] at e1
      cases e1
      exact e2
theorem end_call (KX : K.In t.heap) (n1 : t.heap.Ns mainGlobals mg) (n2 : t.heap.Ns builtinsNs mb) (n3 : ∀ y : Str, y ≠ "__name__" → mb y = bootBuiltins y) (n4 : t.heap.NoLimit) (n5 : t.gens = #[])
    (at_q : t.heap.get? q = some { cls := .type "list", data := .seq us.toArray }) (hz : IntsAre us zs) (hl : zs.length ≤ sizeLine) (rm : Room k callerA) (F : ∀ base : Heap, K.In base → base.Ns mainGlobals mg → FnG P w K mg base k fa fd [x] sp)
    (bd : ∀ (s : Shared) (u : Value), BindsTo s fd ⟨[u], []⟩ [(x, u)]) (want : ∀ H : Hp, Only H → SqL K H q (zs.map V.int) → sp [.ref q] H (fun v _ => v = .bl true) fun _ _ _ => False) :
    codeAny (model P w) callerA (.call (.ref fa) ⟨[.ref q], []⟩) (EndG t) t := by
  have rv := vals_ints hz
  cases hk : K.lookup q with
  | some o =>
    have e := KX q o hk
    rw [at_q] at e
    cases e
    have only : Only (fun _ => none) := fun _ => .inl rfl
    refine end_core KX n1 n2 n3 n4 n5 at_q rm F bd only (fun b u z => nomatch (show (none : Option HO) = some u from z)) (fun b z => (z rfl).elim) (fun z => (z rfl).elim) (want _ only (.inr ⟨_, us.toArray, _, hk, rfl, rfl, rfl, ?_, by simpa using rv⟩))
    rw [List.size_toArray, hz.length]
    exact hl
  | none =>
    let ob : Obj := { cls := .type "list", data := .seq us.toArray }
    let G : Hp := fun b => if b = q then some (.frz ob (.lst (zs.map V.int))) else none
    have g1 : G q = some (.frz ob (.lst (zs.map V.int))) := if_pos rfl
    have g2 : ∀ b, b ≠ q → G b = none := fun b n => if_neg n
    have only : Only G := fun b => by
      by_cases n : b = q
      · subst n; exact .inr ⟨_, _, g1⟩
      · exact .inl (g2 b n)
    refine end_core KX n1 n2 n3 n4 n5 at_q rm F bd only (fun b u z => ?_) (fun b z => ?_) (fun _ => hk) (want _ only (.inl (.inr ⟨_, g1⟩)))
    · by_cases n : b = q
      · subst n
        rw [g1] at z
        cases z
        exact ⟨at_q, by rw [List.length_map]; exact hl, us, _, rv, at_q⟩
      · rw [g2 b n] at z; cases z
    · by_cases n : b = q
      · exact n
      · exact (z (g2 b n)).elim
theorem walk_ofG {l : PySem.W.OpenLaw} {n : Nat} {qp : Program} {loose : List Str} {XP : (Str → Option Value) → Heap → Prop} {YP : World → Heap → Prop} {d : DefRec} (hn : l.most = some n) (hn2 : n ≤ sizeLine) (hdf : d.params.defaults = []) (rm : Room k callerA)
    (F : ∀ (w : World) (mg : Str → Option Value) (fa : Addr) (h : Heap), YP w h → h.Ns mainGlobals mg → mg d.name = some (.ref fa) →
      ∃ (K : PySem.W.Frag) (fd : FuncData) (sp : Sp), K.In h ∧ (∀ (s : Shared) (u : Value), BindsTo s fd ⟨[u], []⟩ [(x, u)]) ∧
        (∀ (H : Hp) (a : Addr) (ns : List Int), ns.length ≤ n → Only H → SqL K H a (ns.map V.int) → sp [.ref a] H (fun v _ => v = .bl true) fun _ _ _ => False) ∧ ∀ base : Heap, K.In base → base.Ns mainGlobals mg → FnG l.prog w K mg base k fa fd [x] sp) :
    PySem.W.WalkO qp loose XP YP l.row.toRowW d [] (fun f vs => PySem.call f vs) := by
  refine Att.attach_call hn hdf fun w s₀ t mg mb fa o pm cd doc a us zs G Y ho hd hcd hmg hobj hints hlen hg => ?_
  obtain ⟨K, fd, sp, KX, hb, hsp, hF⟩ := F w mg fa _ Y G.T.g hmg
  exact end_call KX G.T.g G.T.b G.T.builtins G.T.nolimit hg hobj hints (Nat.le_trans hlen hn2) rm hF hb fun H hO hS => hsp H a zs hlen hO hS
end
end Od

namespace Od
open PySem PySem.Spec PyProof.Rows L2
def scrD (ns : List Int) : D := .dict [(.none, .list (ns.map .int))]
theorem oEq_int (i j : Int) : oEq (.int i) (.int j) = some (.bool (decide (i = j))) := by
  show (if eqOk (.int i) (.int j) = true then some (PyData.bool (PyData.eqv (.int i) (.int j))) else none) = _
  rw [if_pos (by rfl)]
  by_cases h : i = j
  · subst h; rw [decide_eq_true rfl]; simp [PyData.eqv]
  · rw [decide_eq_false h]; simp [PyData.eqv, h]
theorem oNe_int (i j : Int) : oNe (.int i) (.int j) = some (.bool (!decide (i = j))) := by
  show (if eqOk (.int i) (.int j) = true then some (PyData.bool (!PyData.eqv (.int i) (.int j))) else none) = _
  rw [if_pos (by rfl)]
  by_cases h : i = j
  · subst h; rw [decide_eq_true rfl]; simp [PyData.eqv]
  · rw [decide_eq_false h]; simp [PyData.eqv, h]
theorem oEq_str (x y : Str) : oEq (.str x) (.str y) = some (.bool (decide (x = y))) := rfl
theorem oNe_str (x y : Str) : oNe (.str x) (.str y) = some (.bool (!decide (x = y))) := rfl
theorem ixN_lit (n k : Nat) : ixN n (@OfNat.ofNat Int k instOfNat) = if k < n then some k else none := by
  unfold ixN
  have e : (@OfNat.ofNat Int k instOfNat) = (k : Int) := rfl
  rw [e, if_pos (by omega)]
  by_cases h : k < n
  · rw [if_pos (by omega), if_pos h]; simp
  · rw [if_neg (by omega), if_neg h]
theorem ixN_of {n : Nat} {i : Int} (h0 : 0 ≤ i) (h1 : i < n) : ixN n i = some i.toNat := by
  unfold ixN
  rw [if_pos h0, if_pos h1]
theorem atD_lit (ds : List D) (k : Nat) : atD ds (@OfNat.ofNat Int k instOfNat) = ds[k]? := by
  unfold atD
  rw [ixN_lit]
  by_cases h : k < ds.length
  · rw [if_pos h]; rfl
  · rw [if_neg h, List.getElem?_eq_none (by omega)]; rfl
theorem atD_of {ds : List D} {i : Int} (h0 : 0 ≤ i) (h1 : i < ds.length) : atD ds i = some (ds[i.toNat]'(by omega)) := by
  unfold atD
  rw [ixN_of h0 h1]
  exact List.getElem?_eq_getElem _
theorem atD_nat {ds : List D} {k : Nat} : atD ds (k : Int) = ds[k]? := by
  by_cases h : k < ds.length
  · rw [atD_of (by omega) (by omega), List.getElem?_eq_getElem h]; simp
  · unfold atD ixN
    rw [if_pos (by omega), if_neg (by omega), List.getElem?_eq_none (by omega)]
    rfl
theorem atD_0 (ds : List D) : atD ds 0 = ds[0]? := atD_lit ds 0
theorem ixN_0 (n : Nat) : ixN n 0 = if 0 < n then some 0 else none := ixN_lit n 0
theorem atD_1 (ds : List D) : atD ds 1 = ds[1]? := atD_lit ds 1
theorem ixN_1 (n : Nat) : ixN n 1 = if 1 < n then some 1 else none := ixN_lit n 1
theorem atD_2 (ds : List D) : atD ds 2 = ds[2]? := atD_lit ds 2
theorem ixN_2 (n : Nat) : ixN n 2 = if 2 < n then some 2 else none := ixN_lit n 2
theorem atD_3 (ds : List D) : atD ds 3 = ds[3]? := atD_lit ds 3
theorem ixN_3 (n : Nat) : ixN n 3 = if 3 < n then some 3 else none := ixN_lit n 3
theorem atD_4 (ds : List D) : atD ds 4 = ds[4]? := atD_lit ds 4
theorem ixN_4 (n : Nat) : ixN n 4 = if 4 < n then some 4 else none := ixN_lit n 4
theorem atD_5 (ds : List D) : atD ds 5 = ds[5]? := atD_lit ds 5
theorem ixN_5 (n : Nat) : ixN n 5 = if 5 < n then some 5 else none := ixN_lit n 5
theorem atD_6 (ds : List D) : atD ds 6 = ds[6]? := atD_lit ds 6
theorem ixN_6 (n : Nat) : ixN n 6 = if 6 < n then some 6 else none := ixN_lit n 6
/-! ### bounds -/
theorem log2_le {x a : Nat} (h : x < 2 ^ a) : x.log2 ≤ a := by
  by_cases z : x = 0
  · subst z; exact Nat.zero_le _
  · exact Nat.le_of_lt ((Nat.log2_lt z).mpr h)
theorem cMul_of {i j : Int} (a b : Nat) (hi : i.natAbs < 2 ^ a) (hj : j.natAbs < 2 ^ b) (h : a + b < 1000000) : cMul i j = true := by
  unfold cMul
  have h1 := log2_le hi
  have h2 := log2_le hj
  exact decide_eq_true (by omega)
theorem cMod_of {i j : Int} (h : 0 < j) : cMod i j = true := decide_eq_true h
theorem cDiv_of {i j : Int} (h : 0 < j) (h2 : j < 2 ^ 64) : cDiv i j = true := by
  unfold cDiv
  have h1 := log2_le (x := j.natAbs) (a := 64) (by omega)
  rw [decide_eq_true h, decide_eq_true (by omega)]
  rfl
/-! ### loops -/
theorem forL_inv {bd : D → S → Option S} {f : DeS} (R : Nat → S → Prop) : ∀ (ds : List D) (i : Nat) (s : S), R i s →
    (∀ j d, ds[j]? = some d → ∀ s, R (i + j) s → ∃ s1 s2, bd d s = some s1 ∧ (f s1 = some (.nx s2) ∨ f s1 = some (.ct s2)) ∧ R (i + j + 1) s2) → ∃ s', forL bd f ds s = some (.nx s') ∧ R (i + ds.length) s'
  | [], i, s, h, _ => ⟨s, rfl, h⟩
  | d :: ds, i, s, h, st => by
    obtain ⟨s1, s2, e1, e2, h2⟩ := st 0 d rfl s h
    obtain ⟨s', e3, h3⟩ := forL_inv R ds (i + 1) s2 h2 fun j d' e s hs => by
      have z := st (j + 1) d' (by rw [List.getElem?_cons_succ]; exact e) s (by rw [show i + (j + 1) = i + 1 + j by omega]; exact hs)
      rw [show i + (j + 1) + 1 = i + 1 + j + 1 by omega] at z
      exact z
    refine ⟨s', ?_, by rw [List.length_cons, show i + (ds.length + 1) = i + 1 + ds.length by omega]; exact h3⟩
    unfold forL
    rw [e1]
    rcases e2 with e2 | e2
    · dsimp only; rw [e2]; exact e3
    · dsimp only; rw [e2]; exact e3
theorem rngD_len (lo : Int) (n : Nat) : (rngD lo n).length = n := by
  unfold rngD
  rw [List.length_map, List.length_range]
theorem rngD_at {lo : Int} {n j : Nat} {d : D} (h : (rngD lo n)[j]? = some d) : j < n ∧ d = .int (lo + j) := by
  unfold rngD at h
  rw [List.getElem?_map] at h
  obtain ⟨i, e, rfl⟩ := Option.map_eq_some_iff.mp h
  obtain ⟨hl, e2⟩ := List.getElem?_eq_some_iff.mp e
  rw [List.getElem_range] at e2
  subst e2
  rw [List.length_range] at hl
  exact ⟨hl, rfl⟩
theorem lcL_inv {vs : List Nat} {bd : D → S → Option S} {tt : De Bool} {el : De D} (R : Nat → List D → S → Prop) : ∀ (ds : List D) (i : Nat) (acc : List D) (s : S), R i acc s →
    (∀ j d, ds[j]? = some d → ∀ acc s, R (i + j) acc s → ∃ acc' s', lcStep vs bd tt el d acc s = some (acc', s') ∧ R (i + j + 1) acc' s') → ∃ acc' s', lcL vs bd tt el ds acc s = some (acc', s') ∧ R (i + ds.length) acc' s'
  | [], i, acc, s, h, _ => ⟨acc, s, rfl, h⟩
  | d :: ds, i, acc, s, h, st => by
    obtain ⟨a1, s1, e1, h1⟩ := st 0 d rfl acc s h
    obtain ⟨a2, s2, e2, h2⟩ := lcL_inv R ds (i + 1) a1 s1 h1 fun j d' e a s hs => by
      have z := st (j + 1) d' (by rw [List.getElem?_cons_succ]; exact e) a s (by rw [show i + (j + 1) = i + 1 + j by omega]; exact hs)
      rw [show i + (j + 1) + 1 = i + 1 + j + 1 by omega] at z
      exact z
    refine ⟨a2, s2, ?_, by rw [List.length_cons, show i + (ds.length + 1) = i + 1 + ds.length by omega]; exact h2⟩
    unfold lcL
    rw [e1]
    exact e2
end Od

namespace Od
open PySem PySem.Spec PyProof.Rows L2
/-! ### what code comes to, by what is wanted behind it -/
def Wp (r : Option Ou) (Q : Ou → Prop) : Prop := ∃ o, r = some o ∧ Q o
def We {α : Type} (r : Option (Rs α)) (Q : α → S → Prop) : Prop := ∃ a s, r = some (.ok a s) ∧ Q a s
section
variable {f g : DeS} {s s1 s2 : S} {Q : Ou → Prop} {e : De D} {d : D} {c : De Bool} {b : Bool} {bd : D → S → Option S} {it : De (List D)} {ds : List D}
theorem we_i {α : Type} {e : De α} {a : α} {Q : α → S → Prop} (h : e s = some (.ok a s1)) (q : Q a s1) : We (e s) Q := ⟨_, _, h, q⟩
theorem wp_nil (q : Q (.nx s)) : Wp (sNil s) Q := ⟨_, rfl, q⟩
theorem wp_seq (h : Wp (f s) fun o => match o with | .nx s1 => Wp (g s1) Q | o => Q o) : Wp (sSeq f g s) Q := by
  obtain ⟨o, h1, h2⟩ := h
  unfold sSeq
  rw [h1]
  cases o with
  | nx s1 => exact h2
  | rt d s1 => exact ⟨_, rfl, h2⟩
  | bk s1 => exact ⟨_, rfl, h2⟩
  | ct s1 => exact ⟨_, rfl, h2⟩
  | ex c => exact ⟨_, rfl, h2⟩
theorem wp_cut (M : S → Prop) (h : Wp (f s) fun o => match o with | .nx s1 => M s1 | o => Q o) (k : ∀ s1, M s1 → Wp (g s1) Q) : Wp (sSeq f g s) Q := by
  refine wp_seq ?_
  obtain ⟨o, h1, h2⟩ := h
  refine ⟨o, h1, ?_⟩
  cases o with
  | nx s1 => exact k s1 h2
  | rt d s1 => exact h2
  | bk s1 => exact h2
  | ct s1 => exact h2
  | ex c => exact h2
theorem wp_asg (h : We (e s) fun d s1 => ∃ s2, bd d s1 = some s2 ∧ Q (.nx s2)) : Wp (sAsg e bd s) Q := by
  obtain ⟨d, s1, h1, s2, h2, q⟩ := h
  refine ⟨_, ?_, q⟩
  unfold sAsg sE
  rw [h1]
  dsimp only
  rw [h2]
  rfl
theorem wp_setO {i : Nat} (h : We (e s) fun d s1 => Q (.nx (s1.set i (.ow d)))) : Wp (sSetO i e s) Q := by
  obtain ⟨d, s1, h1, q⟩ := h
  refine ⟨_, ?_, q⟩
  unfold sSetO sE
  rw [h1]
theorem wp_ret (h : We (e s) fun d s1 => Q (.rt d s1)) : Wp (sRet e s) Q := by
  obtain ⟨d, s1, h1, q⟩ := h
  refine ⟨_, ?_, q⟩
  unfold sRet sE
  rw [h1]
theorem wp_if (h : We (c s) fun b s1 => match b with | true => Wp (f s1) Q | false => Wp (g s1) Q) : Wp (sIf c f g s) Q := by
  obtain ⟨b, s1, h1, q⟩ := h
  unfold sIf sE
  rw [h1]
  cases b <;> exact q
theorem wp_for (R : Nat → S → Prop) (h : We (it s) fun ds s1 => R 0 s1 ∧ (∀ j d, ds[j]? = some d → ∀ s, R j s → ∃ s1, bd d s = some s1 ∧ Wp (f s1) fun o => match o with | .nx s2 => R (j + 1) s2 | .ct s2 => R (j + 1) s2 | .bk s2 => Q (.nx s2) | o => Q o) ∧ ∀ s, R ds.length s → Q (.nx s)) : Wp (sFor it bd f s) Q := by
  obtain ⟨ds, s1, h1, r0, st, fin⟩ := h
  have go : ∀ (n : Nat) (i : Nat) (s : S), i + n = ds.length → R i s → Wp (forL bd f (ds.drop i) s) Q := by
    intro n
    induction n with
    | zero =>
      intro i s hi r
      rw [List.drop_eq_nil_of_le (by omega)]
      have e : i = ds.length := by omega
      subst e
      exact ⟨_, rfl, fin s r⟩
    | succ n ih =>
      intro i s hi r
      have hl : i < ds.length := by omega
      rw [List.drop_eq_getElem_cons hl]
      obtain ⟨s1, e1, o, e2, q⟩ := st i _ (List.getElem?_eq_getElem hl) s r
      unfold forL
      rw [e1]
      dsimp only
      rw [e2]
      cases o with
      | nx s2 => exact ih (i + 1) s2 (by omega) q
      | ct s2 => exact ih (i + 1) s2 (by omega) q
      | bk s2 => exact ⟨_, rfl, q⟩
      | rt d s2 => exact ⟨_, rfl, q⟩
      | ex c => exact ⟨_, rfl, q⟩
  unfold sFor sE
  rw [h1]
  exact go ds.length 0 s1 (by omega) r0
theorem wp_mono {r : Option Ou} {Q Q' : Ou → Prop} (h : Wp r Q) (k : ∀ o, Q o → Q' o) : Wp r Q' := by
  obtain ⟨o, h1, h2⟩ := h
  exact ⟨o, h1, k o h2⟩
/-- a call's end -/
theorem run_f {own : Bool} {n : Nat} {args : List D} {Z : D → Prop} (h : Wp (f (startS false n args)) fun o => match o with | .rt d _ => Z d | .nx _ => own = false ∧ Z .none | _ => False) : ∃ d, runs false own n f args = some (.ret d .none) ∧ Z d := by
  obtain ⟨o, h1, h2⟩ := h
  unfold runs
  rw [h1]
  cases o with
  | rt d s' => exact ⟨d, rfl, h2⟩
  | nx s' => obtain ⟨rfl, z⟩ := h2; exact ⟨_, rfl, z⟩
  | bk _ => exact h2.elim
  | ct _ => exact h2.elim
  | ex _ => exact h2.elim
theorem run_t {own : Bool} {n : Nat} {args : List D} {Z : D → D → Prop} (h : Wp (f (startS true n args)) fun o => match o with | .rt d s' => ∃ m, s'[0]? = some (.io m) ∧ Z d m | .nx s' => own = false ∧ ∃ m, s'[0]? = some (.io m) ∧ Z .none m | _ => False) : ∃ d m, runs true own n f args = some (.ret d m) ∧ Z d m := by
  obtain ⟨o, h1, h2⟩ := h
  unfold runs
  rw [h1]
  cases o with
  | rt d s' =>
    obtain ⟨m, e, z⟩ := h2
    refine ⟨d, m, ?_, z⟩
    dsimp only
    rw [e]
  | nx s' =>
    obtain ⟨rfl, m, e, z⟩ := h2
    refine ⟨_, m, ?_, z⟩
    dsimp only
    rw [e]
  | bk _ => exact h2.elim
  | ct _ => exact h2.elim
  | ex _ => exact h2.elim
end
/-! ### comprehensions that change nothing -/
theorem lcL_pure {vs : List Nat} {bd : D → S → Option S} {tt : De Bool} {el : De D} {s : S} {out : D → List D} (ho : ∀ d, (out d).length ≤ 1) : ∀ (ds acc : List D), acc.length + ds.length ≤ 100000 →
    (∀ d ∈ ds, ∀ acc : List D, acc.length < 100000 → lcStep vs bd tt el d acc s = some (acc ++ out d, s)) → lcL vs bd tt el ds acc s = some (acc ++ ds.flatMap out, s)
  | [], acc, _, _ => by
    unfold lcL
    rw [List.flatMap_nil, List.append_nil]
  | d :: ds, acc, hl, h => by
    unfold lcL
    rw [List.length_cons] at hl
    rw [h d List.mem_cons_self acc (by omega)]
    have hd := ho d
    have z := lcL_pure ho ds (acc ++ out d) (by rw [List.length_append]; omega) fun d' m => h d' (List.mem_cons_of_mem _ m)
    rw [List.flatMap_cons, ← List.append_assoc]
    exact z
theorem dLc_pure {it : De (List D)} {vs : List Nat} {bd : D → S → Option S} {tt : De Bool} {el : De D} {s : S} {ds : List D} (out : D → List D) (ho : ∀ d, (out d).length ≤ 1) (hi : it s = some (.ok ds s)) (hl : ds.length ≤ 100000)
    (h : ∀ d ∈ ds, ∀ acc : List D, acc.length < 100000 → lcStep vs bd tt el d acc s = some (acc ++ out d, s)) : dLc it vs bd tt el s = some (.ok (.list (ds.flatMap out)) s) := by
  unfold dLc bnd
  rw [hi]
  dsimp only
  rw [lcL_pure ho ds [] (by rw [List.length_nil]; omega) h]
  rfl
theorem lcStep_of {vs : List Nat} {bd : D → S → Option S} {tt : De Bool} {el : De D} {s s1 s2 s3 s' : S} {d y : D} {acc : List D} (ha : acc.length < 100000) (hn : noOwnAt s vs = true) (hb : bd d (wipeS s vs) = some s1) (ht : tt s1 = some (.ok true s2)) (he : el s2 = some (.ok y s3)) (hl : s3.length = s.length) (hr : restS s s3 vs = s') :
    lcStep vs bd tt el d acc s = some (acc ++ [y], s') := by
  unfold lcStep
  rw [if_pos ⟨hn, ha⟩, hb]
  dsimp only [Option.bind]
  rw [ht]
  dsimp only
  rw [he]
  dsimp only
  rw [if_pos hl, hr]
theorem lcStep_no {vs : List Nat} {bd : D → S → Option S} {tt : De Bool} {el : De D} {s s1 s2 s' : S} {d : D} {acc : List D} (ha : acc.length < 100000) (hn : noOwnAt s vs = true) (hb : bd d (wipeS s vs) = some s1) (ht : tt s1 = some (.ok false s2)) (hl : s2.length = s.length) (hr : restS s s2 vs = s') :
    lcStep vs bd tt el d acc s = some (acc, s') := by
  unfold lcStep
  rw [if_pos ⟨hn, ha⟩, hb]
  dsimp only [Option.bind]
  rw [ht]
  dsimp only
  rw [if_pos hl, hr]
theorem flat_one {ds : List D} {y : D} : ds.flatMap (fun _ => [y]) = List.replicate ds.length y := by
  induction ds with
  | nil => rfl
  | cons d ds ih => rw [List.flatMap_cons, ih, List.length_cons, List.replicate_succ]; rfl
theorem flat_map {α : Type} {xs : List α} {f : α → D} {g : D → List D} : (xs.map f).flatMap g = xs.flatMap fun x => g (f x) := by
  induction xs with
  | nil => rfl
  | cons x xs ih => rw [List.map_cons, List.flatMap_cons, List.flatMap_cons, ih]
theorem flat_sing {α : Type} {xs : List α} {f : α → D} : xs.flatMap (fun x => [f x]) = xs.map f := by
  induction xs with
  | nil => rfl
  | cons x xs ih => rw [List.flatMap_cons, ih]; rfl
theorem boolsOf_map {α : Type} (xs : List α) (f : α → Bool) : boolsOf (xs.map fun x => .bool (f x)) = some (xs.map f) := by
  induction xs with
  | nil => rfl
  | cons x xs ih =>
    rw [List.map_cons, List.map_cons]
    unfold boolsOf
    rw [ih]
    rfl
theorem fAll_map {α : Type} (xs : List α) (f : α → Bool) : fAll (.list (xs.map fun x => .bool (f x))) = some (.bool (xs.all f)) := by
  unfold fAll
  dsimp only
  rw [boolsOf_map]
  simp
theorem fAny_map {α : Type} (xs : List α) (f : α → Bool) : fAny (.list (xs.map fun x => .bool (f x))) = some (.bool (xs.any f)) := by
  unfold fAny
  dsimp only
  rw [boolsOf_map]
  simp
/-- [f(x) for x in ..], each worth h x -/
theorem dLc_each {α : Type} {it : De (List D)} {vs : List Nat} {bd : D → S → Option S} {el : De D} {s : S} {xs : List α} {enc : α → D} (h : α → D) (hi : it s = some (.ok (xs.map enc) s)) (hl : xs.length ≤ 100000)
    (k : ∀ x ∈ xs, ∀ acc : List D, acc.length < 100000 → lcStep vs bd dYes el (enc x) acc s = some (acc ++ [h x], s)) : dLc it vs bd dYes el s = some (.ok (.list (xs.map h)) s) := by
  have go : ∀ (xs : List α) (acc : List D), acc.length + xs.length ≤ 100000 → (∀ x ∈ xs, ∀ acc : List D, acc.length < 100000 → lcStep vs bd dYes el (enc x) acc s = some (acc ++ [h x], s)) → lcL vs bd dYes el (xs.map enc) acc s = some (acc ++ xs.map h, s) := by
    intro xs
    induction xs with
    | nil => intro acc _ _; rw [List.map_nil, List.map_nil, List.append_nil]; rfl
    | cons x xs ih =>
      intro acc hl k
      rw [List.length_cons] at hl
      rw [List.map_cons, List.map_cons]
      unfold lcL
      rw [k x List.mem_cons_self acc (by omega)]
      have z := ih (acc ++ [h x]) (by rw [List.length_append, List.length_singleton]; omega) fun y m => k y (List.mem_cons_of_mem _ m)
      rw [List.append_assoc] at z
      exact z
  unfold dLc bnd
  rw [hi]
  dsimp only
  rw [go xs [] (by rw [List.length_nil]; omega) k]
  rfl
theorem d1_of {a : De D} {op : D → Option D} {s s1 : S} {d e : D} (h : a s = some (.ok d s1)) (ho : op d = some e) : d1 (opE a) op s = some (.ok e s1) := by
  unfold d1 bnd opE
  dsimp only
  rw [h]
  dsimp only [Option.bind]
  rw [ho]
  rfl
theorem fAll_true {α : Type} (xs : List α) : fAll (.list (xs.map fun _ => .bool true)) = some (.bool true) := by
  rw [fAll_map xs fun _ => true]
  simp
theorem dAndV_t {f g : De D} {s s1 : S} (h : f s = some (.ok (.bool true) s1)) : dAndV f g s = g s1 := by
  unfold dAndV bnd
  rw [h]
theorem dAndV_f {f g : De D} {s s1 : S} (h : f s = some (.ok (.bool false) s1)) : dAndV f g s = some (.ok (.bool false) s1) := by
  unfold dAndV bnd
  rw [h]
theorem run_ret {own : Bool} {n : Nat} {args : List D} {e : De D} {d : D} {s1 : S} (h : e (startS false n args) = some (.ok d s1)) : runs false own n (sRet e) args = some (.ret d .none) := by
  unfold runs sRet sE
  rw [h]
theorem dFn_of {fs : FS} {fl : De (List D)} {s s1 : S} {ds : List D} {d n : D} (h : fl s = some (.ok ds s1)) (hn : ds.length = fs.n) (hf : fs.f ds = some (.ret d n)) : dFn fs fl s = some (.ok d s1) := by
  unfold dFn bnd
  rw [h]
  dsimp only
  rw [if_pos hn, hf]
theorem wp_drop {f : De D} {s s1 : S} {d : D} {Q : Ou → Prop} (h : f s = some (.ok d s1)) (q : Q (.nx s1)) : Wp (sDrop f s) Q := by
  refine ⟨_, ?_, q⟩
  unfold sDrop sE
  rw [h]
theorem dB_of {f : De D} {s s1 : S} {b : Bool} (h : f s = some (.ok (.bool b) s1)) : dB f s = some (.ok b s1) := by
  unfold dB bnd
  rw [h]
theorem dNot_of {f : De Bool} {s s1 : S} {b : Bool} (h : f s = some (.ok b s1)) : dNot f s = some (.ok (!b) s1) := by
  unfold dNot bnd
  rw [h]
  rfl
theorem dOr_f {f g : De Bool} {s s1 : S} (h : f s = some (.ok false s1)) : dOr f g s = g s1 := by
  unfold dOr bnd
  rw [h]
theorem dOr_t {f g : De Bool} {s s1 : S} (h : f s = some (.ok true s1)) : dOr f g s = some (.ok true s1) := by
  unfold dOr bnd
  rw [h]
theorem dAnd_t {f g : De Bool} {s s1 : S} (h : f s = some (.ok true s1)) : dAnd f g s = g s1 := by
  unfold dAnd bnd
  rw [h]
theorem dAnd_f {f g : De Bool} {s s1 : S} (h : f s = some (.ok false s1)) : dAnd f g s = some (.ok false s1) := by
  unfold dAnd bnd
  rw [h]
theorem dNotV_of {f : De D} {s s1 : S} {b : Bool} (h : f s = some (.ok (.bool b) s1)) : dNotV f s = some (.ok (.bool (!b)) s1) := by
  unfold dNotV bnd
  rw [h]
theorem d2_of {f g : De D} {op : D → D → Option D} {s s1 s2 : S} {x y z : D} (hf : f s = some (.ok x s1)) (hg : g s1 = some (.ok y s2)) (ho : op x y = some z) : d2 (opE f) (opE g) op s = some (.ok z s2) := by
  unfold d2 bnd opE
  dsimp only
  rw [hf]
  dsimp only
  rw [hg]
  dsimp only [Option.bind]
  rw [ho]
  rfl
theorem dCons_of {f : De D} {g : De (List D)} {s s1 s2 : S} {d : D} {ds : List D} (hf : f s = some (.ok d s1)) (hg : g s1 = some (.ok ds s2)) : dCons f g s = some (.ok (d :: ds) s2) := by
  unfold dCons bnd rtn
  rw [hf]
  dsimp only
  rw [hg]
theorem wp_i {f : DeS} {s s1 : S} {Q : Ou → Prop} (h : f s = some (.nx s1)) (q : Q (.nx s1)) : Wp (f s) Q := ⟨_, h, q⟩
theorem wp_r1 {a : De D} {bd : D → S → Option S} {f : DeS} {s s1 : S} {Q : Ou → Prop} {n : Nat} (R : Nat → S → Prop) (hn : n < 2 ^ 60) (h : a s = some (.ok (.int n) s1)) (r0 : R 0 s1)
    (st : ∀ j : Nat, j < n → ∀ s, R j s → ∃ s1, bd (.int j) s = some s1 ∧ Wp (f s1) fun o => match o with | .nx s2 => R (j + 1) s2 | .ct s2 => R (j + 1) s2 | .bk s2 => Q (.nx s2) | o => Q o) (fin : ∀ s, R n s → Q (.nx s)) : Wp (sFor (dR1 a) bd f s) Q := by
  refine wp_for R ⟨rngD 0 n, s1, ?_, r0, ?_, ?_⟩
  · unfold dR1 bnd
    rw [h]
    dsimp only
    have e : okR (n : Int) = true := okR_nat hn
    rw [if_pos e]
    simp
  · intro j d hd s r
    obtain ⟨hj, rfl⟩ := rngD_at hd
    have z := st j hj s r
    rw [Int.zero_add]
    exact z
  · intro s r
    rw [rngD_len] at r
    exact fin s r
theorem dFnI_of {fs : FS} {i : Nat} {fl : De (List D)} {s s1 : S} {x d0 d n : D} {ds : List D} (h0 : ownD s i = some x) (h : fl s = some (.ok ds s1)) (h1 : ownD s1 i = some d0) (hn : ds.length + 1 = fs.n) (hf : fs.f (d0 :: ds) = some (.ret d n)) : dFnI fs i fl s = some (.ok d (putO s1 i n)) := by
  unfold dFnI bnd
  rw [h0]
  dsimp only
  rw [h]
  dsimp only
  rw [if_pos hn, h1]
  dsimp only
  rw [hf]
theorem sMut_of {i : Nat} {fl : De (List D)} {g : D → List D → Option D} {s s1 : S} {l ds : List D} {d n : D} (h0 : ownD s i = some (.list l)) (h : fl s = some (.ok ds s1)) (h1 : ownD s1 i = some d) (hg : g d ds = some n) : sMut i fl g s = some (.nx (putO s1 i n)) := by
  unfold sMut mutC sE
  rw [h0]
  dsimp only
  rw [h]
  dsimp only
  rw [h1]
  dsimp only [Option.bind]
  rw [hg]
  rfl
theorem gApp_of {l : List D} {d : D} (h : l.length < 100000) : gApp (.list l) [d] = some (.list (l ++ [d])) := by
  unfold gApp
  dsimp only
  rw [if_pos h]
theorem dLst_of {fl : De (List D)} {s s1 : S} {ds : List D} (h : fl s = some (.ok ds s1)) (hl : ds.length ≤ 1000) : dLst fl s = some (.ok (.list ds) s1) := by
  unfold dLst bnd
  rw [h]
  dsimp only
  rw [if_pos hl]
theorem dTup_of {fl : De (List D)} {s s1 : S} {ds : List D} (h : fl s = some (.ok ds s1)) (hl : ds.length ≤ 1000) : dTup fl s = some (.ok (.tuple ds) s1) := by
  unfold dTup bnd
  rw [h]
  dsimp only
  rw [if_pos hl]
/-- .. over an object of one's own -/
theorem dLcO_each {α : Type} {rw' : D → Option (List D)} {i : Nat} {vs : List Nat} {bd : D → S → Option S} {el : De D} {s : S} {xs : List α} {enc : α → D} {d : D} {x : Sl} (h : α → D) (h0 : ownD s i = some d) (hx : s[i]? = some x) (hr : rw' d = some (xs.map enc)) (hl : xs.length ≤ 100000)
    (k : ∀ y ∈ xs, ∀ acc : List D, acc.length < 100000 → lcStep vs bd dYes el (enc y) acc (s.set i .un) = some (acc ++ [h y], s.set i .un)) (hs : (s.set i .un).set i x = s) : dLcO rw' i vs bd dYes el s = some (.ok (.list (xs.map h)) s) := by
  have z := dLc_each (it := fun _ => some (.ok (xs.map enc) (s.set i .un))) (vs := vs) (bd := bd) (el := el) (s := s.set i .un) h rfl hl k
  unfold dLc bnd at z
  dsimp only at z
  have hi : i < s.length := (List.getElem?_eq_some_iff.mp hx).1
  unfold dLcO
  rw [h0, hx]
  dsimp only
  rw [hr]
  dsimp only [Option.bind]
  cases e : lcL vs bd dYes el (xs.map enc) [] (s.set i .un) with
  | none => rw [e] at z; cases z
  | some r =>
    obtain ⟨acc, s'⟩ := r
    rw [e] at z
    injection z with z
    injection z with z1 z2
    injection z1 with z1
    subst z1 z2
    dsimp only
    rw [if_pos (by rw [List.getElem?_set_self hi]; rfl), hs]
/-- [h(x) for x in .. if p(x)] -/
theorem dLc_filt {α : Type} {it : De (List D)} {vs : List Nat} {bd : D → S → Option S} {tt : De Bool} {el : De D} {s s0 : S} {xs : List α} {enc : α → D} (p : α → Bool) (h : α → D) (hi : it s0 = some (.ok (xs.map enc) s)) (hl : xs.length ≤ 100000)
    (k : ∀ x ∈ xs, ∀ acc : List D, acc.length < 100000 → lcStep vs bd tt el (enc x) acc s = some (if p x = true then acc ++ [h x] else acc, s)) : dLc it vs bd tt el s0 = some (.ok (.list ((xs.filter p).map h)) s) := by
  have go : ∀ (xs : List α) (acc : List D), acc.length + xs.length ≤ 100000 → (∀ x ∈ xs, ∀ acc : List D, acc.length < 100000 → lcStep vs bd tt el (enc x) acc s = some (if p x = true then acc ++ [h x] else acc, s)) → lcL vs bd tt el (xs.map enc) acc s = some (acc ++ (xs.filter p).map h, s) := by
    intro xs
    induction xs with
    | nil => intro acc _ _; rw [List.filter_nil, List.map_nil, List.map_nil, List.append_nil]; rfl
    | cons x xs ih =>
      intro acc hl k
      rw [List.length_cons] at hl
      rw [List.map_cons]
      unfold lcL
      rw [k x List.mem_cons_self acc (by omega)]
      dsimp only [Option.bind]
      by_cases hp : p x = true
      · rw [if_pos hp, List.filter_cons_of_pos hp, List.map_cons]
        have z := ih (acc ++ [h x]) (by rw [List.length_append, List.length_singleton]; omega) fun y m => k y (List.mem_cons_of_mem _ m)
        rw [List.append_assoc] at z
        exact z
      · rw [if_neg hp, List.filter_cons_of_neg hp]
        exact ih acc (by omega) fun y m => k y (List.mem_cons_of_mem _ m)
  unfold dLc bnd
  rw [hi]
  dsimp only
  rw [go xs [] (by rw [List.length_nil]; omega) k]
  rfl
theorem dR1_nat {a : De D} {s s1 : S} {n : Nat} (h : a s = some (.ok (.int n) s1)) (hn : n < 2 ^ 60) : dR1 a s = some (.ok ((List.range n).map fun k => .int (k : Nat)) s1) := by
  unfold dR1 bnd
  rw [h]
  dsimp only
  have e : okR (n : Int) = true := okR_nat hn
  rw [if_pos e]
  unfold rngD
  simp
theorem dLc_run {it : De (List D)} {vs : List Nat} {bd : D → S → Option S} {tt : De Bool} {el : De D} {s0 s s' : S} {ds acc : List D} (hi : it s0 = some (.ok ds s)) (h : lcL vs bd tt el ds [] s = some (acc, s')) : dLc it vs bd tt el s0 = some (.ok (.list acc) s') := by
  unfold dLc bnd
  rw [hi]
  dsimp only
  rw [h]
/-! ### books -/
def oD : Option Nat → D
  | none => .none
  | some n => .int n
structure Bk where
  m : Nat
  ks : List (Bool × List (Option Nat))
def whoD (b : Bool) : D := .str (if b then "deed" else "out")
def kindD (k : Bool × List (Option Nat)) : D := .tuple [whoD k.1, .tuple (k.2.map oD)]
def bkD (b : Bk) : D := .tuple [.int b.m, .tuple (b.ks.map kindD)]
def nD (n : Nat) : D := .int n
def natL (r : List Nat) : List D := r.map nD
structure Bk.Ok (b : Bk) : Prop where
  m0 : 1 ≤ b.m
  m1 : b.m ≤ 10
  k0 : 1 ≤ b.ks.length
  k1 : b.ks.length ≤ 10
  len : ∀ k ∈ b.ks, k.2.length = b.m
  lt : ∀ k ∈ b.ks, ∀ n, some n ∈ k.2 → n < b.m
def Bk.at (b : Bk) (s k : Nat) : Option Nat := ((b.ks[k]?).bind fun q => q.2[s]?).bind id
def Bk.deed (b : Bk) (d : Nat) : Bool := (b.ks[d]?).map (·.1) == some true
def Bk.led (b : Bk) : Nat → List Nat → Option Nat
  | s, [] => some s
  | s, k :: r => (b.at s k).bind fun t => b.led t r
theorem zipD_map {α β : Type} (f : α → D) (g : β → D) : ∀ (xs : List α) (ys : List β), zipD (xs.map f) (ys.map g) = (xs.zip ys).map fun p => .tuple [f p.1, g p.2]
  | [], ys => by cases ys <;> rfl
  | _ :: _, [] => rfl
  | x :: xs, y :: ys => by
    rw [List.map_cons, List.map_cons, List.zip_cons_cons, List.map_cons, ← zipD_map f g xs ys]
    rfl
theorem cut_from1 (ds : List D) : cutD ds (some 1) none = ds.drop 1 := by
  unfold cutD HT.sIx
  cases ds with
  | nil => rfl
  | cons d ds => simp
def markD (r : List Nat) : D := .tuple (natL r)
def marksD (ms : List (List Nat)) : D := .tuple (ms.map markD)
def Asc (r : List Nat) : Prop := ∀ p ∈ r.zip (r.drop 1), p.1 < p.2
structure MarksOk (b : Bk) (ms : List (List Nat)) : Prop where
  len : ms.length = b.ks.length
  lt : ∀ r ∈ ms, ∀ k ∈ r, k < b.ks.length
  asc : ∀ r ∈ ms, Asc r
  out : ∀ p ∈ b.ks.zip ms, p.1.1 = false → p.2 = []
  sm : ∀ r ∈ ms, r.length ≤ 1000
end Od

namespace Od
open PySem PySem.Spec PyProof.Rows L2
/-! ### the layer of plain functions: what a def does to data, without slots -/
/-- a mark on an argument: simp leaves what it is on alone -/
@[reducible] def Tg {α : Type} (_ : α) : Type := Unit
def _root_.Option.bd {α β : Type} (o : Option α) (f : α → Option β) (_ : Tg f := ()) : Option β := o.bind f
theorem bs {α β : Type} {o : Option α} {f : α → Option β} {r : β} (h : o.bd f = some r) : ∃ a, o = some a ∧ f a = some r := Option.bind_eq_some_iff.mp h
theorem bsB {α β : Type} {o : Option α} {f : α → Option β} {r : β} (h : o.bind f = some r) : ∃ a, o = some a ∧ f a = some r := Option.bind_eq_some_iff.mp h
theorem ifT {α : Type} {b : Bool} {x y : Option α} {r : α} (h : (if b = true then x else y) = some r) (hb : b = true) : x = some r := by
  rw [if_pos hb] at h; exact h
theorem ifF {α : Type} {b : Bool} {x y : Option α} {r : α} (h : (if b = true then x else y) = some r) (hb : b = false) : y = some r := by
  rw [if_neg (by rw [hb]; exact Bool.false_ne_true)] at h; exact h
def cF (fs : FS) (ds : List D) : Option D :=
  match fs.f ds with
  | some (.ret d _) => some d
  | _ => none
def cI (fs : FS) (ds : List D) : Option (D × D) :=
  match fs.f ds with
  | some (.ret d n) => some (d, n)
  | _ => none
theorem cF_f {fs : FS} {ds : List D} {d : D} (h : cF fs ds = some d) : ∃ n, fs.f ds = some (.ret d n) := by
  unfold cF at h
  split at h
  · rename_i d' n e; cases h; exact ⟨n, e⟩
  · cases h
theorem cI_f {fs : FS} {ds : List D} {q : D × D} (h : cI fs ds = some q) : fs.f ds = some (.ret q.1 q.2) := by
  unfold cI at h
  split at h
  · rename_i d' n e; cases h; exact e
  · cases h
theorem cF_ok {fs : FS} {ds : List D} {d n : D} (h : fs.f ds = some (.ret d n)) : cF fs ds = some d := by
  unfold cF; rw [h]
theorem cI_ok {fs : FS} {ds : List D} {d n : D} (h : fs.f ds = some (.ret d n)) : cI fs ds = some (d, n) := by
  unfold cI; rw [h]
def asB : D → Option Bool
  | .bool b => some b
  | _ => none
def asI : D → Option Int
  | .int b => some b
  | _ => none
def lSh : D → Option Unit
  | .list _ => some ()
  | .dict _ => some ()
  | _ => none
def lL : D → Option (List D)
  | .list ds => some ds
  | _ => none
def lT : D → Option (List D)
  | .tuple ds => some ds
  | _ => none
def lS : D → Option (List D)
  | .list ds => some ds
  | .tuple ds => some ds
  | _ => none
def lR1 : D → Option (List D)
  | .int j => if okR j = true then some (rngD 0 j.toNat) else none
  | _ => none
def lR2 : D → D → Option (List D)
  | .int i, .int j => if (okR i && okR j) = true then some (rngD i (j - i).toNat) else none
  | _, _ => none
def lZip : D → D → Option (List D)
  | .list xs, .list ys => some (zipD xs ys)
  | .tuple xs, .tuple ys => some (zipD xs ys)
  | _, _ => none
def lNeg : D → Option D
  | .int i => some (.int (-i))
  | _ => none
def lTup2 : D → Option (D × D)
  | .tuple [a, b] => some (a, b)
  | _ => none
def lTup3 : D → Option (D × D × D)
  | .tuple [a, b, c] => some (a, b, c)
  | _ => none
def lAndV (v : D) (q : Option D) : Option D :=
  match v with
  | .bool true => q
  | .bool false => some (.bool false)
  | _ => none
def lOrV (v : D) (q : Option D) : Option D :=
  match v with
  | .bool true => some (.bool true)
  | .bool false => q
  | _ => none
def lAnd (b : Bool) (q : Option Bool) : Option Bool :=
  match b with
  | true => q
  | false => some false
def lOr (b : Bool) (q : Option Bool) : Option Bool :=
  match b with
  | true => some true
  | false => q
def lAndE (b : Bool) (m : D) (q : Option (Bool × D)) : Option (Bool × D) :=
  match b with
  | true => q
  | false => some (false, m)
def lOrE (b : Bool) (m : D) (q : Option (Bool × D)) : Option (Bool × D) :=
  match b with
  | true => some (true, m)
  | false => q
def lAndVE (v : D) (m : D) (q : Option (D × D)) : Option (D × D) :=
  match v with
  | .bool true => q
  | .bool false => some (.bool false, m)
  | _ => none
def lOrVE (v : D) (m : D) (q : Option (D × D)) : Option (D × D) :=
  match v with
  | .bool true => some (.bool true, m)
  | .bool false => q
  | _ => none
theorem asB_eq {v : D} {b : Bool} (h : asB v = some b) : v = .bool b := by
  unfold asB at h; split at h
  · cases h; rfl
  · cases h
theorem asI_eq {v : D} {b : Int} (h : asI v = some b) : v = .int b := by
  unfold asI at h; split at h
  · cases h; rfl
  · cases h
theorem lTup2_eq {v : D} {q : D × D} (h : lTup2 v = some q) : v = .tuple [q.1, q.2] := by
  unfold lTup2 at h; split at h
  · cases h; rfl
  · cases h
theorem lTup3_eq {v : D} {q : D × D × D} (h : lTup3 v = some q) : v = .tuple [q.1, q.2.1, q.2.2] := by
  unfold lTup3 at h; split at h
  · cases h; rfl
  · cases h
inductive LO (τ ρ : Type) where
  | nx (t : τ) | bk (t : τ) | rt (r : ρ)
def foldG {τ : Type} (step : D → τ → Option τ) : List D → τ → Option τ
  | [], t => some t
  | d :: ds, t => (step d t).bind fun t' => foldG step ds t'
def foldRG {τ ρ : Type} (step : D → τ → Option (LO τ ρ)) : List D → τ → Option (τ ⊕ ρ)
  | [], t => some (.inl t)
  | d :: ds, t => (step d t).bind fun o => match o with
    | .nx t' => foldRG step ds t'
    | .bk t' => some (.inl t')
    | .rt r => some (.inr r)
def whlG {τ : Type} (c : τ → Option Bool) (f : τ → Option τ) : Nat → τ → Option τ
  | 0, _ => none
  | n + 1, t => (c t).bind fun b => if b = true then (f t).bind fun t' => whlG c f n t' else some t
def whlRG {τ ρ : Type} (c : τ → Option Bool) (f : τ → Option (LO τ ρ)) : Nat → τ → Option (τ ⊕ ρ)
  | 0, _ => none
  | n + 1, t => (c t).bind fun b => if b = true then (f t).bind fun o => (match o with
    | .nx t' => whlRG c f n t'
    | .bk t' => some (.inl t')
    | .rt r => some (.inr r)) else some (.inl t)
def lcM (f : D → Option (List D)) : List D → Option (List D)
  | [] => some []
  | d :: ds => (f d).bind fun ys => (lcM f ds).bind fun zs => some (ys ++ zs)
def lcSM (f : D → D → Option (List D × D)) : List D → D → Option (List D × D)
  | [], m => some ([], m)
  | d :: ds, m => (f d m).bind fun q => (lcSM f ds q.2).bind fun z => some (q.1 ++ z.1, z.2)
def fold {τ : Type} (step : D → τ → Option τ) (ds : List D) (t : τ) (_ : Tg step := ()) : Option τ := foldG step ds t
def foldR {τ ρ : Type} (step : D → τ → Option (LO τ ρ)) (ds : List D) (t : τ) (_ : Tg step := ()) : Option (τ ⊕ ρ) := foldRG step ds t
def whl {τ : Type} (c : τ → Option Bool) (f : τ → Option τ) (n : Nat) (t : τ) (_ : Tg c := ()) (_ : Tg f := ()) : Option τ := whlG c f n t
def whlR {τ ρ : Type} (c : τ → Option Bool) (f : τ → Option (LO τ ρ)) (n : Nat) (t : τ) (_ : Tg c := ()) (_ : Tg f := ()) : Option (τ ⊕ ρ) := whlRG c f n t
def lc (f : D → Option (List D)) (ds : List D) (_ : Tg f := ()) : Option (List D) := if ds.length ≤ 100000 then lcM f ds else none
def lcS (f : D → D → Option (List D × D)) (ds : List D) (m : D) (_ : Tg f := ()) : Option (List D × D) := if ds.length ≤ 100000 then lcSM f ds m else none
/-- a slot that nobody reads any more -/
def jk : Option D → Sl
  | none => .un
  | some d => .sh d
section
variable {f g k : DeS} {s s1 s2 s3 : S} {Q : Ou → Prop} {d v w n : D} {b : Bool} {ds : List D}
/-! expressions -/
theorem e1E {e : De D} {op : D → Option D} {a : D} (h : e s = some (.ok v s1)) (ho : op v = some a) : d1 (opE e) op s = some (.ok a s1) := by
  unfold d1 bnd opE
  dsimp only
  rw [h]
  dsimp only [Option.bind]
  rw [ho]; rfl
theorem opB_f {i : Nat} (h : rdS i s = some v) : (opB i).f s = some (.ok .none s) := by
  unfold opB
  dsimp only
  rw [h]
theorem e1B {i : Nat} {op : D → Option D} {a : D} (h : rdS i s = some v) (ho : op v = some a) : d1 (opB i) op s = some (.ok a s) := by
  unfold d1 bnd
  rw [opB_f h]
  dsimp only
  show lft ((rdS i s).bind op) s = _
  rw [h]
  dsimp only [Option.bind]
  rw [ho]; rfl
theorem e2EE {e e' : De D} {op : D → D → Option D} {a : D} (h : e s = some (.ok v s1)) (h' : e' s1 = some (.ok w s2)) (ho : op v w = some a) : d2 (opE e) (opE e') op s = some (.ok a s2) := d2_of h h' ho
theorem e2BE {i : Nat} {e' : De D} {op : D → D → Option D} {a z : D} (h : rdS i s = some z) (h' : e' s = some (.ok w s2)) (hv : rdS i s2 = some v) (ho : op v w = some a) : d2 (opB i) (opE e') op s = some (.ok a s2) := by
  unfold d2 bnd
  rw [opB_f h]
  dsimp only
  have h'' : (opE e').f s = some (.ok w s2) := h'
  rw [h'']
  dsimp only
  show lft ((rdS i s2).bind fun dx => (some w).bind fun dy => op dx dy) s2 = _
  rw [hv]
  dsimp only [Option.bind]
  rw [ho]; rfl
theorem e2EB {i : Nat} {e : De D} {op : D → D → Option D} {a : D} (h : e s = some (.ok v s1)) (hw : rdS i s1 = some w) (ho : op v w = some a) : d2 (opE e) (opB i) op s = some (.ok a s1) := by
  unfold d2 bnd
  dsimp only [opE]
  rw [h]
  dsimp only
  rw [opB_f hw]
  dsimp only
  show lft ((some v).bind fun dx => (rdS i s1).bind fun dy => op dx dy) s1 = _
  rw [hw]
  dsimp only [Option.bind]
  rw [ho]; rfl
theorem e2BB {i j : Nat} {op : D → D → Option D} {a : D} (h : rdS i s = some v) (hw : rdS j s = some w) (ho : op v w = some a) : d2 (opB i) (opB j) op s = some (.ok a s) := by
  unfold d2 bnd
  rw [opB_f h]
  dsimp only
  rw [opB_f hw]
  dsimp only
  show lft ((rdS i s).bind fun dx => (rdS j s).bind fun dy => op dx dy) s = _
  rw [h, hw]
  dsimp only [Option.bind]
  rw [ho]; rfl
theorem eChain {e1 e2 e3 : De D} {op op' : D → D → Option D} {x y t a : D} {q : Option D} (h1 : e1 s = some (.ok x s1)) (h2 : e2 s1 = some (.ok y s2)) (ho : op x y = some t) (hq : lAndV t q = some a)
    (h3 : ∀ r, q = some r → ∃ z, e3 s2 = some (.ok z s2) ∧ op' y z = some r) : dChain (opE e1) (opE e2) (opE e3) op op' s = some (.ok a s2) := by
  unfold dChain bnd
  dsimp only [opE]
  rw [h1]
  dsimp only
  rw [h2]
  dsimp only [Option.bind]
  rw [ho]
  unfold lAndV at hq
  split at hq
  · obtain ⟨z, e, ez⟩ := h3 _ hq
    dsimp only
    rw [e]
    dsimp only
    rw [ez]; rfl
  · cases hq; rfl
  · cases hq
theorem eAndV {e1 e2 : De D} {t a : D} {q : Option D} (h1 : e1 s = some (.ok t s1)) (hq : lAndV t q = some a) (h2 : ∀ r, q = some r → e2 s1 = some (.ok r s1)) : dAndV e1 e2 s = some (.ok a s1) := by
  unfold dAndV bnd
  rw [h1]
  unfold lAndV at hq
  split at hq
  · exact h2 _ hq
  · cases hq; rfl
  · cases hq
theorem eOrV {e1 e2 : De D} {t a : D} {q : Option D} (h1 : e1 s = some (.ok t s1)) (hq : lOrV t q = some a) (h2 : ∀ r, q = some r → e2 s1 = some (.ok r s1)) : dOrV e1 e2 s = some (.ok a s1) := by
  unfold dOrV bnd
  rw [h1]
  unfold lOrV at hq
  split at hq
  · cases hq; rfl
  · exact h2 _ hq
  · cases hq
theorem eAnd {e1 e2 : De Bool} {t a : Bool} {q : Option Bool} (h1 : e1 s = some (.ok t s1)) (hq : lAnd t q = some a) (h2 : ∀ r, q = some r → e2 s1 = some (.ok r s1)) : dAnd e1 e2 s = some (.ok a s1) := by
  cases t with
  | true => rw [dAnd_t h1]; exact h2 _ hq
  | false => cases hq; exact dAnd_f h1
theorem eOr {e1 e2 : De Bool} {t a : Bool} {q : Option Bool} (h1 : e1 s = some (.ok t s1)) (hq : lOr t q = some a) (h2 : ∀ r, q = some r → e2 s1 = some (.ok r s1)) : dOr e1 e2 s = some (.ok a s1) := by
  cases t with
  | false => rw [dOr_f h1]; exact h2 _ hq
  | true => cases hq; exact dOr_t h1
theorem eAndE {e1 e2 : De Bool} {t : Bool} {a : Bool × D} {q : Option (Bool × D)} (st : D → S) {m : D} (h1 : e1 s = some (.ok t (st m))) (hq : lAndE t m q = some a) (h2 : ∀ r, q = some r → e2 (st m) = some (.ok r.1 (st r.2))) : dAnd e1 e2 s = some (.ok a.1 (st a.2)) := by
  cases t with
  | true => rw [dAnd_t h1]; exact h2 _ hq
  | false => cases hq; exact dAnd_f h1
theorem eOrE {e1 e2 : De Bool} {t : Bool} {a : Bool × D} {q : Option (Bool × D)} (st : D → S) {m : D} (h1 : e1 s = some (.ok t (st m))) (hq : lOrE t m q = some a) (h2 : ∀ r, q = some r → e2 (st m) = some (.ok r.1 (st r.2))) : dOr e1 e2 s = some (.ok a.1 (st a.2)) := by
  cases t with
  | false => rw [dOr_f h1]; exact h2 _ hq
  | true => cases hq; exact dOr_t h1
theorem eAndVE {e1 e2 : De D} {t : D} {a : D × D} {q : Option (D × D)} (st : D → S) {m : D} (h1 : e1 s = some (.ok t (st m))) (hq : lAndVE t m q = some a) (h2 : ∀ r, q = some r → e2 (st m) = some (.ok r.1 (st r.2))) : dAndV e1 e2 s = some (.ok a.1 (st a.2)) := by
  unfold dAndV bnd
  rw [h1]
  unfold lAndVE at hq
  split at hq
  · exact h2 _ hq
  · cases hq; rfl
  · cases hq
theorem eOrVE {e1 e2 : De D} {t : D} {a : D × D} {q : Option (D × D)} (st : D → S) {m : D} (h1 : e1 s = some (.ok t (st m))) (hq : lOrVE t m q = some a) (h2 : ∀ r, q = some r → e2 (st m) = some (.ok r.1 (st r.2))) : dOrV e1 e2 s = some (.ok a.1 (st a.2)) := by
  unfold dOrV bnd
  rw [h1]
  unfold lOrVE at hq
  split at hq
  · cases hq; rfl
  · exact h2 _ hq
  · cases hq
theorem eB {e : De D} (h : e s = some (.ok v s1)) (hb : asB v = some b) : dB e s = some (.ok b s1) := by
  cases asB_eq hb; exact dB_of h
theorem eNotV {e : De D} (h : e s = some (.ok v s1)) (hb : asB v = some b) : dNotV e s = some (.ok (.bool (!b)) s1) := by
  cases asB_eq hb; exact dNotV_of h
theorem eTruE {e : De D} (h : e s = some (.ok v s1)) (hb : truD v = some b) : dTru (opE e) s = some (.ok b s1) := by
  unfold dTru bnd opE
  dsimp only
  rw [h]
  dsimp only [Option.bind]
  rw [hb]; rfl
theorem eTruB {i : Nat} (h : rdS i s = some v) (hb : truD v = some b) : dTru (opB i) s = some (.ok b s) := by
  unfold dTru bnd
  rw [opB_f h]
  dsimp only
  show lft ((rdS i s).bind truD) s = _
  rw [h]
  dsimp only [Option.bind]
  rw [hb]; rfl
theorem eNeg {e : De D} {a : D} (h : e s = some (.ok v s1)) (hb : lNeg v = some a) : dNeg e s = some (.ok a s1) := by
  unfold dNeg bnd
  rw [h]
  unfold lNeg at hb
  split at hb
  · cases hb; rfl
  · cases hb
theorem eIf {α : Type} {c : De Bool} {e1 e2 : De α} {a : α} {p q : Option α} (h : c s = some (.ok b s1)) (hq : (if b = true then p else q) = some a) (h1 : ∀ r, p = some r → e1 s1 = some (.ok r s1)) (h2 : ∀ r, q = some r → e2 s1 = some (.ok r s1)) :
    dIf c e1 e2 s = some (.ok a s1) := by
  unfold dIf bnd
  rw [h]
  cases b with
  | true => exact h1 _ (ifT hq rfl)
  | false => exact h2 _ (ifF hq rfl)
theorem eFn {fs : FS} {fl : De (List D)} {a : D} (h : fl s = some (.ok ds s1)) (hf : cF fs ds = some a) (hn : ds.length = fs.n) : dFn fs fl s = some (.ok a s1) := by
  obtain ⟨n, e⟩ := cF_f hf
  exact dFn_of h hn e
theorem eFnI {fs : FS} {i : Nat} {fl : De (List D)} {q : D × D} {x : D} (h0 : ownD s i = some x) (h : fl s = some (.ok ds s1)) (h1 : ownD s1 i = some v) (hf : cI fs (v :: ds) = some q) (hn : ds.length + 1 = fs.n) (hp : putO s1 i q.2 = s2) : dFnI fs i fl s = some (.ok q.1 s2) := by
  subst hp
  exact dFnI_of h0 h h1 hn (cI_f hf)
theorem eFnT {fs : FS} {f0 : De D} {fl : De (List D)} {a : D} (h0 : f0 s = some (.ok v s1)) (h : fl s1 = some (.ok ds s2)) (hf : cF fs (v :: ds) = some a) (hn : ds.length + 1 = fs.n) : dFnT fs f0 fl s = some (.ok a s2) := by
  obtain ⟨n, e⟩ := cF_f hf
  unfold dFnT bnd
  rw [h0]
  dsimp only
  rw [h]
  dsimp only
  rw [if_pos hn, e]
theorem eSh {e : De D} (h : e s = some (.ok v s1)) {u : Unit} (hs : lSh v = some u) : dSh e s = some (.ok v s1) := by
  unfold dSh bnd
  rw [h]
  unfold lSh at hs
  split at hs
  · rfl
  · rfl
  · cases hs
theorem eShL {e : De D} (h : e s = some (.ok (.list ds) s1)) : dSh e s = some (.ok (.list ds) s1) := eSh (u := ()) h rfl
theorem eDem {i : Nat} (h : s[i]? = some (.ow v)) {u : Unit} (hs : lSh v = some u) (hp : s.set i (.sh v) = s2) : dDem i s = some (.ok v s2) := by
  subst hp
  unfold dDem
  rw [h]
  unfold lSh at hs
  split at hs
  · rfl
  · rfl
  · cases hs
theorem ePop {i : Nat} {l : List D} {a : D} (h : ownD s i = some v) (hl : lL v = some l) (ha : l[l.length - 1]? = some a) (hp : putO s i (.list l.dropLast) = s2) : dPop i s = some (.ok a s2) := by
  subst hp
  unfold dPop
  rw [h]
  unfold lL at hl
  split at hl
  · cases hl
    dsimp only
    rw [ha]; rfl
  · cases hl
theorem eItL {e : De D} (h : e s = some (.ok v s1)) (hl : lL v = some ds) : dItL e s = some (.ok ds s1) := by
  unfold dItL bnd
  rw [h]
  unfold lL at hl
  split at hl
  · cases hl; rfl
  · cases hl
theorem eItT {e : De D} (h : e s = some (.ok v s1)) (hl : lT v = some ds) : dItT e s = some (.ok ds s1) := by
  unfold dItT bnd
  rw [h]
  unfold lT at hl
  split at hl
  · cases hl; rfl
  · cases hl
theorem eItS {e : De D} (h : e s = some (.ok v s1)) (hl : lS v = some ds) : dItS e s = some (.ok ds s1) := by
  unfold dItS bnd
  rw [h]
  unfold lS at hl
  split at hl
  · cases hl; rfl
  · cases hl; rfl
  · cases hl
theorem eR1 {e : De D} (h : e s = some (.ok v s1)) (hl : lR1 v = some ds) : dR1 e s = some (.ok ds s1) := by
  unfold dR1 bnd
  rw [h]
  unfold lR1 at hl
  split at hl
  · split at hl
    · rename_i c; cases hl; dsimp only; rw [if_pos c]
    · cases hl
  · cases hl
theorem eR2 {e e' : De D} (h : e s = some (.ok v s1)) (h' : e' s1 = some (.ok w s2)) (hl : lR2 v w = some ds) : dR2 e e' s = some (.ok ds s2) := by
  unfold dR2 bnd
  rw [h]
  dsimp only
  rw [h']
  unfold lR2 at hl
  split at hl
  · split at hl
    · rename_i c; cases hl; dsimp only; rw [if_pos c]
    · cases hl
  · cases hl
theorem eZip {e e' : De D} (h : e s = some (.ok v s1)) (h' : e' s1 = some (.ok w s2)) (hl : lZip v w = some ds) : dZip e e' s = some (.ok ds s2) := by
  unfold dZip bnd
  rw [h]
  dsimp only
  rw [h']
  unfold lZip at hl
  split at hl
  · cases hl; rfl
  · cases hl; rfl
  · cases hl
theorem ePt {e : De D} {i : Int} (h : e s = some (.ok v s1)) (hi : asI v = some i) : dPt e s = some (.ok (some i) s1) := by
  cases asI_eq hi
  unfold dPt bnd
  rw [h]
theorem eSlE {e : De D} {l h : De (Option Int)} {g : D → Option Int → Option Int → Option D} {i j : Option Int} {a : D} (h0 : e s = some (.ok v s1)) (h1 : l s1 = some (.ok i s2)) (h2 : h s2 = some (.ok j s3)) (hg : g v i j = some a) : dSl (opE e) l h g s = some (.ok a s3) := by
  unfold dSl bnd
  dsimp only [opE]
  rw [h0]
  dsimp only
  rw [h1]
  dsimp only
  rw [h2]
  dsimp only [Option.bind]
  rw [hg]; rfl
theorem eSlB {i0 : Nat} {l h : De (Option Int)} {g : D → Option Int → Option Int → Option D} {i j : Option Int} {a z : D} (h0 : rdS i0 s = some z) (h1 : l s = some (.ok i s2)) (h2 : h s2 = some (.ok j s3)) (hv : rdS i0 s3 = some v) (hg : g v i j = some a) : dSl (opB i0) l h g s = some (.ok a s3) := by
  unfold dSl bnd
  rw [opB_f h0]
  dsimp only
  rw [h1]
  dsimp only
  rw [h2]
  dsimp only
  show lft ((rdS i0 s3).bind fun d => g d i j) s3 = _
  rw [hv]
  dsimp only [Option.bind]
  rw [hg]; rfl
theorem eDic1 {e e' : De D} {q : Key} (h : e s = some (.ok v s1)) (h' : e' s1 = some (.ok w s2)) (hk : keyOf v = some q) : dDic1 e e' s = some (.ok (.dict [(v, w)]) s2) := by
  unfold dDic1 bnd
  rw [h]
  dsimp only
  rw [h']
  dsimp only
  rw [hk]
theorem bvT {c : De Bool} (h : c s = some (.ok b s1)) {b' : Bool} (hb : b = b') : c s = some (.ok b' s1) := by rw [h, hb]
theorem bT2 {bf bg : D → S → Option S} {x y : D} (h : v = .tuple [x, y]) (h1 : bf x s = some s1) (h2 : bg y s1 = some s2) : bTup 2 (bCons bf (bCons bg bNil)) v s = some s2 := by
  subst h
  show (bf x s).bind (fun s1 => (bg y s1).bind fun s2 => some s2) = _
  rw [h1]
  show (bg y s1).bind (fun s2 => some s2) = _
  rw [h2]; rfl
theorem bT3 {bf bg bh : D → S → Option S} {x y z : D} (h : v = .tuple [x, y, z]) (h1 : bf x s = some s1) (h2 : bg y s1 = some s2) (h3 : bh z s2 = some s3) : bTup 3 (bCons bf (bCons bg (bCons bh bNil))) v s = some s3 := by
  subst h
  show (bf x s).bind (fun s1 => (bg y s1).bind fun s2 => (bh z s2).bind fun s3 => some s3) = _
  rw [h1]
  show (bg y s1).bind (fun s2 => (bh z s2).bind fun s3 => some s3) = _
  rw [h2]
  show (bh z s2).bind (fun s3 => some s3) = _
  rw [h3]; rfl
/-! comprehensions -/
def StepOk (vs : List Nat) (bd : D → S → Option S) (tt : De Bool) (el : De D) (s s' : S) (d : D) (ys : List D) : Prop :=
  ys.length ≤ 1 ∧ ∀ acc : List D, acc.length < 100000 → lcStep vs bd tt el d acc s = some (acc ++ ys, s')
theorem stT {vs : List Nat} {bd : D → S → Option S} {tt : De Bool} {el : De D} {s s1 s2 s3 s' : S} {d y : D} (hn : noOwnAt s vs = true) (hb : bd d (wipeS s vs) = some s1) (ht : tt s1 = some (.ok true s2)) (he : el s2 = some (.ok y s3)) (hl : s3.length = s.length) (hr : restS s s3 vs = s') : StepOk vs bd tt el s s' d [y] :=
  ⟨Nat.le_refl _, fun _ ha => lcStep_of ha hn hb ht he hl hr⟩
theorem stF {vs : List Nat} {bd : D → S → Option S} {tt : De Bool} {el : De D} {s s1 s2 s' : S} {d : D} (hn : noOwnAt s vs = true) (hb : bd d (wipeS s vs) = some s1) (ht : tt s1 = some (.ok false s2)) (hl : s2.length = s.length) (hr : restS s s2 vs = s') : StepOk vs bd tt el s s' d [] :=
  ⟨Nat.zero_le _, fun acc ha => by rw [List.append_nil]; exact lcStep_no ha hn hb ht hl hr⟩
theorem lcL_l {vs : List Nat} {bd : D → S → Option S} {tt : De Bool} {el : De D} {s : S} {fb : D → Option (List D)} (st : ∀ d ys, fb d = some ys → StepOk vs bd tt el s s d ys) : ∀ (ds acc zs : List D), lcM fb ds = some zs → acc.length + ds.length ≤ 100000 → lcL vs bd tt el ds acc s = some (acc ++ zs, s)
  | [], acc, zs, h, _ => by
    cases h; rw [List.append_nil]; rfl
  | d :: ds, acc, zs, h, hl => by
    obtain ⟨ys, h1, h⟩ := bsB h
    obtain ⟨zs', h2, h⟩ := bsB h
    cases h
    rw [List.length_cons] at hl
    obtain ⟨hy, st1⟩ := st d ys h1
    unfold lcL
    rw [st1 acc (by omega)]
    have z := lcL_l st ds (acc ++ ys) zs' h2 (by rw [List.length_append]; omega)
    rw [List.append_assoc] at z
    exact z
theorem eLc {it : De (List D)} {vs : List Nat} {bd : D → S → Option S} {tt : De Bool} {el : De D} {zs : List D} {fb : D → Option (List D)} (hi : it s = some (.ok ds s1)) (h : lc fb ds = some zs) (st : ∀ d ys, fb d = some ys → StepOk vs bd tt el s1 s1 d ys) : dLc it vs bd tt el s = some (.ok (.list zs) s1) := by
  unfold lc at h
  split at h
  · rename_i hl
    have z := lcL_l st ds [] zs h (by rw [List.length_nil]; omega)
    exact dLc_run hi z
  · cases h
theorem lcL_s {vs : List Nat} {bd : D → S → Option S} {tt : De Bool} {el : De D} {st : D → S} {fb : D → D → Option (List D × D)} (hs : ∀ d m q, fb d m = some q → StepOk vs bd tt el (st m) (st q.2) d q.1) : ∀ (ds acc : List D) (m : D) (z : List D × D), lcSM fb ds m = some z → acc.length + ds.length ≤ 100000 → lcL vs bd tt el ds acc (st m) = some (acc ++ z.1, st z.2)
  | [], acc, m, zs, h, _ => by
    cases h; rw [List.append_nil]; rfl
  | d :: ds, acc, m, z, h, hl => by
    obtain ⟨q, h1, h⟩ := bsB h
    obtain ⟨z', h2, h⟩ := bsB h
    cases h
    rw [List.length_cons] at hl
    obtain ⟨hy, st1⟩ := hs d m q h1
    unfold lcL
    rw [st1 acc (by omega)]
    have z := lcL_s hs ds (acc ++ q.1) q.2 z' h2 (by rw [List.length_append]; omega)
    rw [List.append_assoc] at z
    exact z
theorem eLcS {it : De (List D)} {vs : List Nat} {bd : D → S → Option S} {tt : De Bool} {el : De D} {z : List D × D} {fb : D → D → Option (List D × D)} (st : D → S) {m : D} (hi : it s = some (.ok ds (st m))) (h : lcS fb ds m = some z) (hs : ∀ d m q, fb d m = some q → StepOk vs bd tt el (st m) (st q.2) d q.1) : dLc it vs bd tt el s = some (.ok (.list z.1) (st z.2)) := by
  unfold lcS at h
  split at h
  · rename_i hl
    have z := lcL_s hs ds [] m z h (by rw [List.length_nil]; omega)
    exact dLc_run hi z
  · cases h
theorem eLcO {rw' : D → Option (List D)} {i : Nat} {vs : List Nat} {bd : D → S → Option S} {tt : De Bool} {el : De D} {zs : List D} {fb : D → Option (List D)} {x : Sl} (s' : S) (h0 : ownD s i = some v) (hx : s[i]? = some x) (hr : rw' v = some ds) (h : lc fb ds = some zs) (hs : s.set i .un = s') (st : ∀ d ys, fb d = some ys → StepOk vs bd tt el s' s' d ys) (hu : isUn s'[i]? = true) (hb : s'.set i x = s) : dLcO rw' i vs bd tt el s = some (.ok (.list zs) s) := by
  unfold lc at h
  split at h
  · rename_i hl
    have z := lcL_l st ds [] zs h (by rw [List.length_nil]; omega)
    unfold dLcO
    rw [h0, hx]
    dsimp only
    rw [hr]
    dsimp only [Option.bind]
    rw [hs, z]
    dsimp only
    rw [if_pos hu, hb]
    rfl
  · cases h
/-! statements -/
theorem w_last (h : Wp (sSeq f sNil s) Q) : Wp (f s) Q := by
  obtain ⟨o, h1, h2⟩ := h
  refine ⟨o, ?_, h2⟩
  unfold sSeq at h1
  cases e : f s with
  | none => rw [e] at h1; cases h1
  | some r =>
    rw [e] at h1
    cases r <;> exact h1
theorem w_assoc (h : Wp (sSeq f (sSeq g k) s) Q) : Wp (sSeq (sSeq f g) k s) Q := by
  obtain ⟨o, h1, h2⟩ := h
  refine ⟨o, ?_, h2⟩
  unfold sSeq at h1 ⊢
  cases e : f s with
  | none => rw [e] at h1; cases h1
  | some r =>
    rw [e] at h1
    cases r <;> exact h1
theorem w_nil (h : Wp (k s) Q) : Wp (sSeq sNil k s) Q := h
theorem w_end (h : Q (.nx s)) : Wp (sNil s) Q := ⟨_, rfl, h⟩
theorem w_i (s2 : S) (h : f s = some (.nx s2)) (q : Wp (k s2) Q) : Wp (sSeq f k s) Q := by
  obtain ⟨o, h1, h2⟩ := q
  refine ⟨o, ?_, h2⟩
  unfold sSeq
  rw [h]
  exact h1
theorem w_asg {e : De D} {bd : D → S → Option S} (s2 : S) (h : e s = some (.ok v s1)) (hb : bd v s1 = some s2) (q : Wp (k s2) Q) : Wp (sSeq (sAsg e bd) k s) Q := by
  refine w_i s2 ?_ q
  unfold sAsg sE
  rw [h]
  dsimp only
  rw [hb]; rfl
theorem w_setO {i : Nat} {e : De D} (s2 : S) (h : e s = some (.ok v s1)) (hb : s1.set i (.ow v) = s2) (q : Wp (k s2) Q) : Wp (sSeq (sSetO i e) k s) Q := by
  refine w_i s2 ?_ q
  unfold sSetO sE
  rw [h]
  dsimp only
  rw [hb]
theorem w_drop {e : De D} (s2 : S) (h : e s = some (.ok v s2)) (q : Wp (k s2) Q) : Wp (sSeq (sDrop e) k s) Q := by
  refine w_i s2 ?_ q
  unfold sDrop sE
  rw [h]
theorem w_par {m m2 : Bool} {i j : Nat} {e e' : De D} (s3 : S) (h : e s = some (.ok v s1)) (h' : e' s1 = some (.ok w s2)) (hs : (s2.set i (slM m v)).set j (slM m2 w) = s3) (q : Wp (k s3) Q) : Wp (sSeq (sPar m m2 i j e e') k s) Q := by
  refine w_i s3 ?_ q
  unfold sPar sE bnd
  rw [h]
  dsimp only
  rw [h']
  dsimp only [rtn]
  rw [hs]
theorem w_par3 {m m2 m3 : Bool} {i j l : Nat} {e e' e'' : De D} {x : D} {s4 : S} (s5 : S) (h : e s = some (.ok v s1)) (h' : e' s1 = some (.ok w s2)) (h'' : e'' s2 = some (.ok x s4)) (hs : ((s4.set i (slM m v)).set j (slM m2 w)).set l (slM m3 x) = s5) (q : Wp (k s5) Q) : Wp (sSeq (sPar3 m m2 m3 i j l e e' e'') k s) Q := by
  refine w_i s5 ?_ q
  unfold sPar3 sE bnd
  rw [h]
  dsimp only
  rw [h']
  dsimp only
  rw [h'']
  dsimp only [rtn]
  rw [hs]
theorem gApp_l {l : List D} (h : gApp v l = some n) : ∃ ds, v = .list ds := by
  unfold gApp at h; split at h
  · exact ⟨_, rfl⟩
  · cases h
theorem gIns_l {l : List D} (h : gIns v l = some n) : ∃ ds, v = .list ds := by
  unfold gIns at h; split at h
  · exact ⟨_, rfl⟩
  · cases h
theorem gSet_l {l : List D} (h : gSet v l = some n) : ∃ ds, v = .list ds := by
  unfold gSet at h; split at h
  · exact ⟨_, rfl⟩
  · cases h
theorem gPut_d {l : List D} (h : gPut v l = some n) : ∃ kvs, v = .dict kvs := by
  unfold gPut at h; split at h
  · exact ⟨_, rfl⟩
  · cases h
  · exact ⟨_, rfl⟩
  · cases h
theorem mutC_of {i : Nat} {fl : De (List D)} {op : D → List D → Option D} (s2 : S) (h : fl s = some (.ok ds s1)) (h1 : ownD s1 i = some v) (hg : op v ds = some n) (hp : putO s1 i n = s2) : mutC i fl op s = some (.nx s2) := by
  unfold mutC sE
  rw [h]
  dsimp only
  rw [h1]
  dsimp only [Option.bind]
  rw [hg, ← hp]; rfl
theorem w_mut {i : Nat} {fl : De (List D)} {op : D → List D → Option D} (s2 : S) (hv : ∃ ds, v = .list ds) (h0 : ownD s i = some v) (h : fl s = some (.ok ds s1)) (h1 : ownD s1 i = some v) (hg : op v ds = some n) (hp : putO s1 i n = s2) (q : Wp (k s2) Q) : Wp (sSeq (sMut i fl op) k s) Q := by
  refine w_i s2 ?_ q
  obtain ⟨l, rfl⟩ := hv
  unfold sMut
  rw [h0]
  exact mutC_of s2 h h1 hg hp
theorem w_mutD {i : Nat} {fl : De (List D)} {op : D → List D → Option D} (s2 : S) (hv : ∃ ds, v = .dict ds) (h0 : ownD s i = some v) (h : fl s = some (.ok ds s1)) (h1 : ownD s1 i = some v) (hg : op v ds = some n) (hp : putO s1 i n = s2) (q : Wp (k s2) Q) : Wp (sSeq (sMutD i fl op) k s) Q := by
  refine w_i s2 ?_ q
  obtain ⟨l, rfl⟩ := hv
  unfold sMutD
  rw [h0]
  exact mutC_of s2 h h1 hg hp
theorem w_if {c : De Bool} (h : c s = some (.ok b s1)) (ht : b = true → Wp (sSeq f k s1) Q) (hf : b = false → Wp (sSeq g k s1) Q) : Wp (sSeq (sIf c f g) k s) Q := by
  cases b with
  | true =>
    have e : sSeq (sIf c f g) k s = sSeq f k s1 := by
      unfold sSeq sIf sE
      rw [h]
    rw [e]
    exact ht rfl
  | false =>
    have e : sSeq (sIf c f g) k s = sSeq g k s1 := by
      unfold sSeq sIf sE
      rw [h]
    rw [e]
    exact hf rfl
theorem w_ret {e : De D} (h : e s = some (.ok v s1)) (q : Q (.rt v s1)) : Wp (sSeq (sRet e) k s) Q := by
  refine ⟨.rt v s1, ?_, q⟩
  unfold sSeq sRet sE
  rw [h]
theorem w_retN {i : Nat} (h : s[i]? = some (.ow v)) (q : Q (.rt v s)) : Wp (sSeq (sRetN i) k s) Q := by
  refine ⟨.rt v s, ?_, q⟩
  unfold sSeq sRetN
  rw [h]
theorem w_retNo (q : Q (.rt .none s)) : Wp (sSeq sRetNo k s) Q := ⟨_, rfl, q⟩
theorem w_bk (q : Q (.bk s)) : Wp (sSeq sBk k s) Q := ⟨_, rfl, q⟩
theorem w_ct (q : Q (.ct s)) : Wp (sSeq sCt k s) Q := ⟨_, rfl, q⟩
/-- what is wanted of a body of a loop, or of a part -/
def QN {τ : Type} (φ : τ → S → Prop) (t : τ) : Ou → Prop
  | .nx s => φ t s
  | _ => False
def QC {τ : Type} (φ : τ → S → Prop) (t : τ) : Ou → Prop
  | .nx s => φ t s
  | .ct s => φ t s
  | _ => False
def QL {τ ρ : Type} (φ : τ → S → Prop) (Rr : ρ → D → S → Prop) (lo : LO τ ρ) : Ou → Prop
  | .nx s => ∃ t, lo = .nx t ∧ φ t s
  | .ct s => ∃ t, lo = .nx t ∧ φ t s
  | .bk s => ∃ t, lo = .bk t ∧ φ t s
  | .rt d s => ∃ r, lo = .rt r ∧ Rr r d s
  | .ex _ => False
theorem w_join {τ : Type} (φ : τ → S → Prop) (t : τ) (h : Wp (sSeq f sNil s) (QN φ t)) (q : ∀ s1, φ t s1 → Wp (k s1) Q) : Wp (sSeq f k s) Q := by
  obtain ⟨o, h1, h2⟩ := w_last h
  cases o with
  | nx s1 => exact w_i s1 h1 (q s1 h2)
  | rt _ _ => exact h2.elim
  | bk _ => exact h2.elim
  | ct _ => exact h2.elim
  | ex _ => exact h2.elim
theorem w_for {τ : Type} {it : De (List D)} {bd : D → S → Option S} {step : D → τ → Option τ} {t0 t1 : τ} (φ : τ → S → Prop) (hi : it s = some (.ok ds s1)) (h : fold step ds t0 = some t1) (h0 : φ t0 s1)
    (hs : ∀ d t t' s, φ t s → step d t = some t' → ∃ s1, bd d s = some s1 ∧ Wp (sSeq f sNil s1) (QC φ t')) (q : ∀ s, φ t1 s → Wp (k s) Q) : Wp (sSeq (sFor it bd f) k s) Q := by
  have go : ∀ (ds : List D) (t0 : τ) (s : S), φ t0 s → foldG step ds t0 = some t1 → ∃ s', forL bd f ds s = some (.nx s') ∧ φ t1 s' := by
    intro ds
    induction ds with
    | nil => intro t0 s h0 h; cases h; exact ⟨s, rfl, h0⟩
    | cons d ds ih =>
      intro t0 s h0 h
      obtain ⟨t', h1, h⟩ := bsB h
      obtain ⟨s1, e1, w⟩ := hs d t0 t' s h0 h1
      obtain ⟨o, e2, q2⟩ := w_last w
      unfold forL
      rw [e1]
      dsimp only
      rw [e2]
      cases o with
      | nx s2 => exact ih t' s2 q2 h
      | ct s2 => exact ih t' s2 q2 h
      | rt _ _ => exact q2.elim
      | bk _ => exact q2.elim
      | ex _ => exact q2.elim
  obtain ⟨s', e, p⟩ := go ds t0 s1 h0 h
  refine w_i s' ?_ (q s' p)
  unfold sFor sE
  rw [hi]
  exact e
theorem w_forR {τ ρ : Type} {it : De (List D)} {bd : D → S → Option S} {step : D → τ → Option (LO τ ρ)} {t0 : τ} {o : τ ⊕ ρ} (φ : τ → S → Prop) (Rr : ρ → D → S → Prop) (hi : it s = some (.ok ds s1)) (h : foldR step ds t0 = some o) (h0 : φ t0 s1)
    (hs : ∀ d t lo s, φ t s → step d t = some lo → ∃ s1, bd d s = some s1 ∧ Wp (sSeq f sNil s1) (QL φ Rr lo)) (qn : ∀ t1, o = .inl t1 → ∀ s, φ t1 s → Wp (k s) Q) (qr : ∀ r, o = .inr r → ∀ d s, Rr r d s → Q (.rt d s)) : Wp (sSeq (sFor it bd f) k s) Q := by
  have go : ∀ (ds : List D) (t0 : τ) (s : S), φ t0 s → foldRG step ds t0 = some o → (∃ s' t1, o = .inl t1 ∧ forL bd f ds s = some (.nx s') ∧ φ t1 s') ∨ (∃ d s' r, o = .inr r ∧ forL bd f ds s = some (.rt d s') ∧ Rr r d s') := by
    intro ds
    induction ds with
    | nil => intro t0 s h0 h; cases h; exact .inl ⟨s, _, rfl, rfl, h0⟩
    | cons d ds ih =>
      intro t0 s h0 h
      obtain ⟨lo, h1, h⟩ := bsB h
      obtain ⟨s1, e1, w⟩ := hs d t0 lo s h0 h1
      obtain ⟨ou, e2, q2⟩ := w_last w
      unfold forL
      rw [e1]
      dsimp only
      rw [e2]
      cases ou with
      | nx s2 => obtain ⟨t', rfl, q2⟩ := q2; exact ih t' s2 q2 h
      | ct s2 => obtain ⟨t', rfl, q2⟩ := q2; exact ih t' s2 q2 h
      | bk s2 => obtain ⟨t', rfl, q2⟩ := q2; cases h; exact .inl ⟨s2, _, rfl, rfl, q2⟩
      | rt d s2 => obtain ⟨r, rfl, q2⟩ := q2; cases h; exact .inr ⟨d, s2, _, rfl, rfl, q2⟩
      | ex _ => exact q2.elim
  have e0 : sFor it bd f s = forL bd f ds s1 := by
    unfold sFor sE
    rw [hi]
  rcases go ds t0 s1 h0 h with ⟨s', t1, e, e1, p⟩ | ⟨d, s', r, e, e1, p⟩
  · exact w_i s' (e0.trans e1) (qn t1 e s' p)
  · refine ⟨.rt d s', ?_, qr r e d s' p⟩
    unfold sSeq
    rw [e0, e1]
theorem w_while {τ : Type} {c : De Bool} {cnd : τ → Option Bool} {bdy : τ → Option τ} {m : Nat} {t0 t1 : τ} (φ : τ → S → Prop) (h : whl cnd bdy m t0 = some t1) (h0 : φ t0 s)
    (hc : ∀ t b s, φ t s → cnd t = some b → ∃ s1, c s = some (.ok b s1) ∧ φ t s1) (hs : ∀ t t' s, φ t s → bdy t = some t' → Wp (sSeq f sNil s) (QC φ t')) (q : ∀ s, φ t1 s → Wp (k s) Q) : Wp (sSeq (whileN c f m) k s) Q := by
  have go : ∀ (m : Nat) (t0 : τ) (s : S), φ t0 s → whlG cnd bdy m t0 = some t1 → ∃ s', whileN c f m s = some (.nx s') ∧ φ t1 s' := by
    intro m
    induction m with
    | zero => intro t0 s h0 h; cases h
    | succ m ih =>
      intro t0 s h0 h
      obtain ⟨b, h1, h⟩ := bsB h
      obtain ⟨s1, e1, p1⟩ := hc t0 b s h0 h1
      unfold whileN
      rw [e1]
      cases b with
      | false => cases h; exact ⟨s1, rfl, p1⟩
      | true =>
        obtain ⟨t', h2, h⟩ := bsB (ifT h rfl)
        obtain ⟨o, e2, q2⟩ := w_last (hs t0 t' s1 p1 h2)
        dsimp only
        rw [e2]
        cases o with
        | nx s2 => exact ih t' s2 q2 h
        | ct s2 => exact ih t' s2 q2 h
        | rt _ _ => exact q2.elim
        | bk _ => exact q2.elim
        | ex _ => exact q2.elim
  obtain ⟨s', e, p⟩ := go m t0 s h0 h
  exact w_i s' e (q s' p)
theorem w_whileR {τ ρ : Type} {c : De Bool} {cnd : τ → Option Bool} {bdy : τ → Option (LO τ ρ)} {m : Nat} {t0 : τ} {o : τ ⊕ ρ} (φ : τ → S → Prop) (Rr : ρ → D → S → Prop) (h : whlR cnd bdy m t0 = some o) (h0 : φ t0 s)
    (hc : ∀ t b s, φ t s → cnd t = some b → ∃ s1, c s = some (.ok b s1) ∧ φ t s1) (hs : ∀ t lo s, φ t s → bdy t = some lo → Wp (sSeq f sNil s) (QL φ Rr lo)) (qn : ∀ t1, o = .inl t1 → ∀ s, φ t1 s → Wp (k s) Q) (qr : ∀ r, o = .inr r → ∀ d s, Rr r d s → Q (.rt d s)) : Wp (sSeq (whileN c f m) k s) Q := by
  have go : ∀ (m : Nat) (t0 : τ) (s : S), φ t0 s → whlRG cnd bdy m t0 = some o → (∃ s' t1, o = .inl t1 ∧ whileN c f m s = some (.nx s') ∧ φ t1 s') ∨ (∃ d s' r, o = .inr r ∧ whileN c f m s = some (.rt d s') ∧ Rr r d s') := by
    intro m
    induction m with
    | zero => intro t0 s h0 h; cases h
    | succ m ih =>
      intro t0 s h0 h
      obtain ⟨b, h1, h⟩ := bsB h
      obtain ⟨s1, e1, p1⟩ := hc t0 b s h0 h1
      unfold whileN
      rw [e1]
      cases b with
      | false => cases h; exact .inl ⟨s1, _, rfl, rfl, p1⟩
      | true =>
        obtain ⟨lo, h2, h⟩ := bsB (ifT h rfl)
        obtain ⟨ou, e2, q2⟩ := w_last (hs t0 lo s1 p1 h2)
        dsimp only
        rw [e2]
        cases ou with
        | nx s2 => obtain ⟨t', rfl, q2⟩ := q2; exact ih t' s2 q2 h
        | ct s2 => obtain ⟨t', rfl, q2⟩ := q2; exact ih t' s2 q2 h
        | bk s2 => obtain ⟨t', rfl, q2⟩ := q2; cases h; exact .inl ⟨s2, _, rfl, rfl, q2⟩
        | rt d s2 => obtain ⟨r, rfl, q2⟩ := q2; cases h; exact .inr ⟨d, s2, _, rfl, rfl, q2⟩
        | ex _ => exact q2.elim
  rcases go m t0 s h0 h with ⟨s', t1, e, e1, p⟩ | ⟨d, s', r, e, e1, p⟩
  · exact w_i s' e1 (qn t1 e s' p)
  · refine ⟨.rt d s', ?_, qr r e d s' p⟩
    unfold sSeq
    rw [e1]
/-! a call -/
def RrF (r d : D) (_ : S) : Prop := d = r
def RrT (r : D × D) (d : D) (s : S) : Prop := d = r.1 ∧ s[0]? = some (.io r.2)
def QF (own : Bool) (r : D) : Ou → Prop
  | .rt d s => RrF r d s
  | .nx s => own = false ∧ RrF r .none s
  | _ => False
def QT (own : Bool) (r : D × D) : Ou → Prop
  | .rt d s => RrT r d s
  | .nx s => own = false ∧ RrT r .none s
  | _ => False
theorem fnF {own : Bool} {n : Nat} {args : List D} {r : D} (h : Wp (sSeq f sNil (startS false n args)) (QF own r)) : runs false own n f args = some (.ret r .none) := by
  obtain ⟨o, e, q⟩ := w_last h
  unfold runs
  rw [e]
  cases o with
  | rt d s => cases q; rfl
  | nx s => obtain ⟨rfl, q⟩ := q; cases q; rfl
  | bk _ => exact q.elim
  | ct _ => exact q.elim
  | ex _ => exact q.elim
theorem fnT {own : Bool} {n : Nat} {args : List D} {r : D × D} (h : Wp (sSeq f sNil (startS true n args)) (QT own r)) : runs true own n f args = some (.ret r.1 r.2) := by
  obtain ⟨o, e, q⟩ := w_last h
  unfold runs
  rw [e]
  cases o with
  | rt d s => obtain ⟨rfl, q⟩ := q; dsimp only; rw [q]
  | nx s =>
    obtain ⟨rfl, q1, q⟩ := q
    dsimp only
    rw [q, q1]
  | bk _ => exact q.elim
  | ct _ => exact q.elim
  | ex _ => exact q.elim
end
end Od
namespace Od
open PySem PySem.Spec PyProof.Rows L2
section
variable {f g k : DeS} {s s1 : S} {d v m : D} {own : Bool} {τ ρ : Type} {φ : τ → S → Prop} {Rr : ρ → D → S → Prop} {t : τ} {r : ρ} {e : De D}
theorem n_end (h : φ t s) : Wp (sNil s) (QN φ t) := ⟨_, rfl, h⟩
theorem c_end (h : φ t s) : Wp (sNil s) (QC φ t) := ⟨_, rfl, h⟩
theorem c_ct (h : φ t s) : Wp (sSeq sCt k s) (QC φ t) := ⟨_, rfl, h⟩
theorem l_end (h : φ t s) : Wp (sNil s) (QL φ Rr (.nx t)) := ⟨_, rfl, _, rfl, h⟩
theorem l_ct (h : φ t s) : Wp (sSeq sCt k s) (QL φ Rr (.nx t)) := ⟨_, rfl, _, rfl, h⟩
theorem l_bk (h : φ t s) : Wp (sSeq sBk k s) (QL φ Rr (.bk t)) := ⟨_, rfl, _, rfl, h⟩
theorem l_rt (h : Rr r d s) : QL φ Rr (.rt r) (.rt d s) := ⟨_, rfl, h⟩
theorem w_retL (h : e s = some (.ok v s1)) (hr : Rr r v s1) : Wp (sSeq (sRet e) k s) (QL φ Rr (.rt r)) := w_ret h (l_rt hr)
theorem w_retNL {i : Nat} (h : s[i]? = some (.ow v)) (hr : Rr r v s) : Wp (sSeq (sRetN i) k s) (QL φ Rr (.rt r)) := w_retN h (l_rt hr)
theorem w_retNoL (hr : Rr r .none s) : Wp (sSeq sRetNo k s) (QL φ Rr (.rt r)) := w_retNo (l_rt hr)
theorem rrF : RrF v v s := rfl
theorem rrT (h : s[0]? = some (.io m)) : RrT (v, m) v s := ⟨rfl, h⟩
theorem f_end : Wp (sNil s) (QF false .none) := ⟨_, rfl, rfl, rfl⟩
theorem t_end (h : s[0]? = some (.io m)) : Wp (sNil s) (QT false (.none, m)) := ⟨_, rfl, rfl, rfl, h⟩
theorem w_retF (h : e s = some (.ok v s1)) : Wp (sSeq (sRet e) k s) (QF own v) := w_ret h rfl
theorem w_retT (h : e s = some (.ok v s1)) (h0 : s1[0]? = some (.io m)) : Wp (sSeq (sRet e) k s) (QT own (v, m)) := w_ret h ⟨rfl, h0⟩
theorem w_retNF {i : Nat} (h : s[i]? = some (.ow v)) : Wp (sSeq (sRetN i) k s) (QF own v) := w_retN h rfl
theorem w_retNT {i : Nat} (h : s[i]? = some (.ow v)) (h0 : s[0]? = some (.io m)) : Wp (sSeq (sRetN i) k s) (QT own (v, m)) := w_retN h ⟨rfl, h0⟩
theorem w_retNoF : Wp (sSeq sRetNo k s) (QF own .none) := w_retNo rfl
theorem w_retNoT (h0 : s[0]? = some (.io m)) : Wp (sSeq sRetNo k s) (QT own (.none, m)) := w_retNo ⟨rfl, h0⟩
theorem rrFq {r : D} (h : RrF r d s) : QF own r (.rt d s) := h
theorem rrTq {r : D × D} (h : RrT r d s) : QT own r (.rt d s) := h
end
end Od

namespace Od
open PySem PySem.Spec PyProof.Rows L2
/-! ### what a plain function comes to -/
def So {τ : Type} (o : Option τ) (Q : τ → Prop) : Prop := ∃ t, o = some t ∧ Q t
section
variable {τ ρ σ : Type} {o : Option τ} {f : τ → Option σ} {P : τ → Prop} {Q : σ → Prop} {a : τ}
theorem so_bind (P : τ → Prop) (h : So o P) (k : ∀ a, P a → So (f a) Q) : So (o.bd f) Q := by
  obtain ⟨a, e, p⟩ := h
  obtain ⟨b, e2, q⟩ := k a p
  exact ⟨b, by rw [e]; exact e2, q⟩
theorem so_bindB (P : τ → Prop) (h : So o P) (k : ∀ a, P a → So (f a) Q) : So (o.bind f) Q := so_bind P h k
theorem so_ok (h : o = some a) (k : So (f a) Q) : So (o.bd f) Q := by
  rw [h]; exact k
theorem so_ret (q : P a) : So (some a) P := ⟨a, rfl, q⟩
theorem so_eq (h : So o (fun x => x = a)) : o = some a := by
  obtain ⟨b, e, rfl⟩ := h; exact e
theorem so_of (h : o = some a) (q : P a) : So o P := ⟨a, h, q⟩
theorem so_mono {P' : τ → Prop} (h : So o P) (k : ∀ a, P a → P' a) : So o P' := by
  obtain ⟨b, e, q⟩ := h; exact ⟨b, e, k b q⟩
theorem so_if {b : Bool} {x y : Option τ} (h1 : b = true → So x P) (h2 : b = false → So y P) : So (if b = true then x else y) P := by
  cases b with
  | true => exact h1 rfl
  | false => exact h2 rfl
theorem so_fold' {step : D → τ → Option τ} (I : Nat → τ → Prop) : ∀ (ds : List D) (n : Nat) (t0 : τ), I n t0 → (∀ (i : Nat) (d : D) (t : τ), ds[i]? = some d → I (n + i) t → So (step d t) (I (n + i + 1))) → So (foldG step ds t0) (I (n + ds.length))
  | [], n, t0, h0, _ => ⟨t0, rfl, h0⟩
  | d :: ds, n, t0, h0, hs => by
    have z := hs 0 d t0 rfl h0
    refine so_bindB (I (n + 0 + 1)) z fun t1 h1 => ?_
    have w := so_fold' I ds (n + 1) t1 h1 fun i d' t hd ht => by
      have y := hs (i + 1) d' t (by rw [List.getElem?_cons_succ]; exact hd) (by rw [show n + (i + 1) = n + 1 + i by omega]; exact ht)
      rw [show n + (i + 1) + 1 = n + 1 + i + 1 by omega] at y
      exact y
    rw [List.length_cons, show n + (ds.length + 1) = n + 1 + ds.length by omega]
    exact w
theorem so_fold {step : D → τ → Option τ} {ds : List D} {t0 : τ} (I : Nat → τ → Prop) (h0 : I 0 t0) (hs : ∀ (i : Nat) (d : D) (t : τ), ds[i]? = some d → I i t → So (step d t) (I (i + 1))) : So (fold step ds t0) (I ds.length) := by
  have z := so_fold' I ds 0 t0 h0 fun i d t hd ht => by
    rw [Nat.zero_add] at ht ⊢
    exact hs i d t hd ht
  rw [Nat.zero_add] at z
  exact z
/-- a loop with an invariant that does not count -/
theorem so_foldC {step : D → τ → Option τ} {ds : List D} {t0 : τ} (I : τ → Prop) (h0 : I t0) (hs : ∀ d ∈ ds, ∀ t, I t → So (step d t) I) : So (fold step ds t0) I :=
  so_fold (fun _ => I) h0 fun i d t hd ht => hs d (List.mem_of_getElem? hd) t ht
/-- a loop that may leave: where it does, R -/
theorem so_foldR {step : D → τ → Option (LO τ ρ)} {ds : List D} {t0 : τ} (I : Nat → τ → Prop) (R : τ ⊕ ρ → Prop) (h0 : I 0 t0)
    (hs : ∀ (i : Nat) (d : D) (t : τ), ds[i]? = some d → I i t → So (step d t) fun lo => match lo with | .nx t' => I (i + 1) t' | .bk t' => R (.inl t') | .rt r => R (.inr r)) (hn : ∀ t, I ds.length t → R (.inl t)) : So (foldR step ds t0) R := by
  have go : ∀ (ds : List D) (n : Nat) (t0 : τ), I n t0 → (∀ (i : Nat) (d : D) (t : τ), ds[i]? = some d → I (n + i) t → So (step d t) fun lo => match lo with | .nx t' => I (n + i + 1) t' | .bk t' => R (.inl t') | .rt r => R (.inr r)) → (∀ t, I (n + ds.length) t → R (.inl t)) → So (foldRG step ds t0) R := by
    intro ds
    induction ds with
    | nil => intro n t0 h0 _ hn; exact ⟨_, rfl, hn t0 h0⟩
    | cons d ds ih =>
      intro n t0 h0 hs hn
      refine so_bindB _ (hs 0 d t0 rfl h0) fun lo h1 => ?_
      cases lo with
      | nx t' =>
        refine ih (n + 1) t' h1 (fun i d' t hd ht => ?_) fun t ht => hn t (by rw [List.length_cons, show n + (ds.length + 1) = n + 1 + ds.length by omega]; exact ht)
        have y := hs (i + 1) d' t (by rw [List.getElem?_cons_succ]; exact hd) (by rw [show n + (i + 1) = n + 1 + i by omega]; exact ht)
        rw [show n + (i + 1) + 1 = n + 1 + i + 1 by omega] at y
        exact y
      | bk t' => exact ⟨_, rfl, h1⟩
      | rt r => exact ⟨_, rfl, h1⟩
  refine go ds 0 t0 h0 (fun i d t hd ht => ?_) fun t ht => hn t (by rw [Nat.zero_add] at ht; exact ht)
  rw [Nat.zero_add] at ht ⊢
  exact hs i d t hd ht
/-- a loop that never leaves -/
theorem so_foldN {step : D → τ → Option (LO τ ρ)} {ds : List D} {t0 : τ} (I : τ → Prop) (h0 : I t0) (hs : ∀ d ∈ ds, ∀ t, I t → So (step d t) fun lo => ∃ t', lo = .nx t' ∧ I t') : So (foldR step ds t0) fun o => ∃ t, o = .inl t ∧ I t :=
  so_foldR (fun _ => I) _ h0 (fun i d t hd ht => so_mono (hs d (List.mem_of_getElem? hd) t ht) fun lo h => by obtain ⟨t', rfl, h⟩ := h; exact h) fun t ht => ⟨t, rfl, ht⟩
/-- while: an invariant, and a measure that falls -/
theorem so_whl {c : τ → Option Bool} {fb : τ → Option τ} (I : τ → Prop) (μ : τ → Nat) (E : τ → Prop) (hc : ∀ t, I t → So (c t) fun b => b = false → E t) (hs : ∀ t, I t → c t = some true → So (fb t) fun t' => I t' ∧ μ t' < μ t) : ∀ (n : Nat) (t0 : τ), I t0 → μ t0 < n → So (whl c fb n t0) fun t => I t ∧ E t := by
  show ∀ (n : Nat) (t0 : τ), I t0 → μ t0 < n → So (whlG c fb n t0) fun t => I t ∧ E t
  intro n
  induction n with
  | zero => intro t0 _ h; exact absurd h (Nat.not_lt_zero _)
  | succ n ih =>
    intro t0 h0 hm
    obtain ⟨b, e, p⟩ := hc t0 h0
    unfold whlG
    rw [e]
    cases b with
    | false => exact ⟨t0, rfl, h0, p rfl⟩
    | true =>
      show So ((fb t0).bind fun t' => whlG c fb n t') _
      refine so_bindB _ (hs t0 h0 e) fun t' h => ih t' h.1 (by omega)
/-! comprehensions -/
theorem lcM_of {fb : D → Option (List D)} {h : D → List D} : ∀ (ds : List D), (∀ d ∈ ds, fb d = some (h d)) → lcM fb ds = some (ds.flatMap h)
  | [], _ => rfl
  | d :: ds, k => by
    unfold lcM
    rw [k d List.mem_cons_self, lcM_of ds fun d' m => k d' (List.mem_cons_of_mem _ m)]
    rfl
theorem lc_each {α : Type} {fb : D → Option (List D)} {xs : List α} {enc : α → D} (h : α → D) (hl : xs.length ≤ 100000) (k : ∀ x ∈ xs, fb (enc x) = some [h x]) : lc fb (xs.map enc) = some (xs.map h) := by
  unfold lc
  rw [if_pos (by rw [List.length_map]; exact hl)]
  clear hl
  induction xs with
  | nil => rfl
  | cons x xs ih =>
    rw [List.map_cons]
    unfold lcM
    rw [k x List.mem_cons_self, ih fun y m => k y (List.mem_cons_of_mem _ m)]
    rfl
theorem lc_filt {α : Type} {fb : D → Option (List D)} {xs : List α} {enc : α → D} (p : α → Bool) (h : α → D) (hl : xs.length ≤ 100000) (k : ∀ x ∈ xs, fb (enc x) = some (if p x = true then [h x] else [])) : lc fb (xs.map enc) = some ((xs.filter p).map h) := by
  unfold lc
  rw [if_pos (by rw [List.length_map]; exact hl)]
  clear hl
  induction xs with
  | nil => rfl
  | cons x xs ih =>
    rw [List.map_cons]
    unfold lcM
    rw [k x List.mem_cons_self, ih fun y m => k y (List.mem_cons_of_mem _ m)]
    by_cases hp : p x = true
    · rw [if_pos hp, List.filter_cons_of_pos hp]; rfl
    · rw [if_neg hp, List.filter_cons_of_neg hp]; rfl
/-- a comprehension whose parts are not said one by one -/
theorem so_lc {fb : D → Option (List D)} {ds : List D} (R : D → Prop) (hl : ds.length ≤ 100000) (k : ∀ d ∈ ds, So (fb d) fun ys => ys.length ≤ 1 ∧ ∀ y ∈ ys, R y) : So (lc fb ds) fun zs => zs.length ≤ ds.length ∧ ∀ y ∈ zs, R y := by
  unfold lc
  rw [if_pos hl]
  clear hl
  induction ds with
  | nil => exact ⟨[], rfl, Nat.le_refl _, nofun⟩
  | cons d ds ih =>
    obtain ⟨ys, e1, h1, h2⟩ := k d List.mem_cons_self
    obtain ⟨zs, e2, h3, h4⟩ := ih fun y m => k y (List.mem_cons_of_mem _ m)
    refine ⟨ys ++ zs, by unfold lcM; rw [e1, e2]; rfl, by rw [List.length_append, List.length_cons]; omega, fun y m => ?_⟩
    rcases List.mem_append.mp m with m | m
    · exact h2 y m
    · exact h4 y m
theorem so_lcS {fb : D → D → Option (List D × D)} {ds : List D} {m0 : D} (I : Nat → List D → D → Prop) (hl : ds.length ≤ 100000) (h0 : I 0 [] m0)
    (hs : ∀ (i : Nat) (d : D) (acc : List D) (m : D), ds[i]? = some d → I i acc m → So (fb d m) fun q => I (i + 1) (acc ++ q.1) q.2) : So (lcS fb ds m0) fun z => I ds.length z.1 z.2 := by
  unfold lcS
  rw [if_pos hl]
  clear hl
  have go : ∀ (ds : List D) (n : Nat) (acc : List D) (m0 : D), I n acc m0 → (∀ (i : Nat) (d : D) (acc : List D) (m : D), ds[i]? = some d → I (n + i) acc m → So (fb d m) fun q => I (n + i + 1) (acc ++ q.1) q.2) → So (lcSM fb ds m0) fun z => I (n + ds.length) (acc ++ z.1) z.2 := by
    intro ds
    induction ds with
    | nil => intro n acc m0 h0 _; exact ⟨_, rfl, by show I (n + 0) (acc ++ []) m0; rw [List.append_nil]; exact h0⟩
    | cons d ds ih =>
      intro n acc m0 h0 hs
      refine so_bindB _ (hs 0 d acc m0 rfl h0) fun q h1 => ?_
      have w := ih (n + 1) (acc ++ q.1) q.2 h1 fun i d' acc' m hd ht => by
        have y := hs (i + 1) d' acc' m (by rw [List.getElem?_cons_succ]; exact hd) (by rw [show n + (i + 1) = n + 1 + i by omega]; exact ht)
        rw [show n + (i + 1) + 1 = n + 1 + i + 1 by omega] at y
        exact y
      refine so_bindB _ w fun z hz => ⟨_, rfl, ?_⟩
      show I (n + (ds.length + 1)) (acc ++ (q.1 ++ z.1)) z.2
      rw [show n + (ds.length + 1) = n + 1 + ds.length by omega, ← List.append_assoc]
      exact hz
  have z := go ds 0 [] m0 h0 fun i d acc m hd ht => by
    rw [Nat.zero_add] at ht ⊢
    exact hs i d acc m hd ht
  rw [Nat.zero_add] at z
  exact z
theorem so_cF {fs : FS} {ds : List D} {o : Option D} {Q : D → Prop} (hl : ∀ r, o = some r → fs.f ds = some (.ret r .none)) (h : So o Q) : So (cF fs ds) Q := by
  obtain ⟨r, e, q⟩ := h
  exact ⟨r, cF_ok (hl r e), q⟩
theorem so_cI {fs : FS} {ds : List D} {o : Option (D × D)} {Q : D × D → Prop} (hl : ∀ r, o = some r → fs.f ds = some (.ret r.1 r.2)) (h : So o Q) : So (cI fs ds) Q := by
  obtain ⟨r, e, q⟩ := h
  exact ⟨r, cI_ok (hl r e), q⟩
theorem so_cT {fs : FS} {ds : List D} {o : Option (D × D)} {Q : D → Prop} (hl : ∀ r, o = some r → fs.f ds = some (.ret r.1 r.2)) (h : So o fun q => Q q.1) : So (cF fs ds) Q := by
  obtain ⟨r, e, q⟩ := h
  exact ⟨r.1, cF_ok (hl r e), q⟩
end
theorem fold_nil {τ : Type} (f : D → τ → Option τ) (t : τ) : fold f [] t = some t := rfl
theorem fold_cons {τ : Type} (f : D → τ → Option τ) (d : D) (ds : List D) (t : τ) : fold f (d :: ds) t = (f d t).bd fun t' => fold f ds t' := rfl
theorem foldR_nil {τ ρ : Type} (f : D → τ → Option (LO τ ρ)) (t : τ) : foldR f [] t = some (.inl t) := rfl
theorem foldR_cons {τ ρ : Type} (f : D → τ → Option (LO τ ρ)) (d : D) (ds : List D) (t : τ) : foldR f (d :: ds) t = (f d t).bd fun o => match o with | .nx t' => foldR f ds t' | .bk t' => some (.inl t') | .rt r => some (.inr r) := rfl
theorem whl_succ {τ : Type} (c : τ → Option Bool) (f : τ → Option τ) (n : Nat) (t : τ) : whl c f (n + 1) t = (c t).bd fun b => if b = true then (f t).bd fun t' => whl c f n t' else some t := rfl
/-! ### parts on data -/
theorem asB_b (b : Bool) : asB (.bool b) = some b := rfl
theorem asI_i (b : Int) : asI (.int b) = some b := rfl
theorem lL_l (ds : List D) : lL (.list ds) = some ds := rfl
theorem lT_t (ds : List D) : lT (.tuple ds) = some ds := rfl
theorem lS_l (ds : List D) : lS (.list ds) = some ds := rfl
theorem lS_t (ds : List D) : lS (.tuple ds) = some ds := rfl
theorem lSh_l (ds : List D) : lSh (.list ds) = some () := rfl
theorem lSh_d (ds : List (D × D)) : lSh (.dict ds) = some () := rfl
theorem lTup2_t (a b : D) : lTup2 (.tuple [a, b]) = some (a, b) := rfl
theorem lTup3_t (a b c : D) : lTup3 (.tuple [a, b, c]) = some (a, b, c) := rfl
theorem lAndV_t (q : Option D) : lAndV (.bool true) q = q := rfl
theorem lAndV_f (q : Option D) : lAndV (.bool false) q = some (.bool false) := rfl
theorem lOrV_t (q : Option D) : lOrV (.bool true) q = some (.bool true) := rfl
theorem lOrV_f (q : Option D) : lOrV (.bool false) q = q := rfl
theorem lAnd_t (q : Option Bool) : lAnd true q = q := rfl
theorem lAnd_f (q : Option Bool) : lAnd false q = some false := rfl
theorem lOr_t (q : Option Bool) : lOr true q = some true := rfl
theorem lOr_f (q : Option Bool) : lOr false q = q := rfl
theorem lAndV_b (a b : Bool) : lAndV (.bool a) (some (.bool b)) = some (.bool (a && b)) := by cases a <;> rfl
theorem lOrV_b (a b : Bool) : lOrV (.bool a) (some (.bool b)) = some (.bool (a || b)) := by cases a <;> rfl
theorem lAnd_b (a b : Bool) : lAnd a (some b) = some (a && b) := by cases a <;> rfl
theorem lOr_b (a b : Bool) : lOr a (some b) = some (a || b) := by cases a <;> rfl
theorem lR1_n (n : Nat) (h : n < 2 ^ 60) : lR1 (.int n) = some ((List.range n).map fun k => .int (k : Nat)) := by
  unfold lR1
  dsimp only
  rw [if_pos (okR_nat h)]
  unfold rngD
  simp
theorem lZip_l (xs ys : List D) : lZip (.list xs) (.list ys) = some (zipD xs ys) := rfl
theorem lZip_t (xs ys : List D) : lZip (.tuple xs) (.tuple ys) = some (zipD xs ys) := rfl
theorem fLen_l (ds : List D) : fLen (.list ds) = some (.int ds.length) := rfl
theorem fLen_t (ds : List D) : fLen (.tuple ds) = some (.int ds.length) := rfl
theorem fTuple_l (ds : List D) : fTuple (.list ds) = some (.tuple ds) := rfl
theorem fTuple_t (ds : List D) : fTuple (.tuple ds) = some (.tuple ds) := rfl
theorem fList_l (ds : List D) : fList (.list ds) = some (.list ds) := rfl
theorem fList_t (ds : List D) : fList (.tuple ds) = some (.list ds) := rfl
theorem fInt_i (i : Int) : fInt (.int i) = some (.int i) := rfl
theorem fInt_b (b : Bool) : fInt (.bool b) = some (.int (if b then 1 else 0)) := rfl
theorem oIx_l (ds : List D) (i : Int) : oIx (.list ds) (.int i) = atD ds i := rfl
theorem oIx_t (ds : List D) (i : Int) : oIx (.tuple ds) (.int i) = atD ds i := rfl
theorem oAdd_i (i j : Int) : oAdd (.int i) (.int j) = some (.int (i + j)) := rfl
theorem oSub_i (i j : Int) : oSub (.int i) (.int j) = some (.int (i - j)) := rfl
theorem oLt_i (i j : Int) : oLt (.int i) (.int j) = some (.bool (decide (i < j))) := rfl
theorem oLe_i (i j : Int) : oLe (.int i) (.int j) = some (.bool (decide (i ≤ j))) := rfl
theorem oGt_i (i j : Int) : oGt (.int i) (.int j) = some (.bool (decide (j < i))) := rfl
theorem oGe_i (i j : Int) : oGe (.int i) (.int j) = some (.bool (decide (j ≤ i))) := rfl
theorem oMul_i (i j : Int) : oMul (.int i) (.int j) = if cMul i j = true then some (.int (i * j)) else none := rfl
theorem oMod_i (i j : Int) : oMod (.int i) (.int j) = if cMod i j = true then some (.int (i % j)) else none := rfl
theorem oDiv_i (i j : Int) : oDiv (.int i) (.int j) = if cDiv i j = true then some (.int (i / j)) else none := rfl
theorem oIs_n (d : D) : oIs d .none = some (.bool (isNone d)) := by cases d <;> rfl
theorem oIsNot_n (d : D) : oIsNot d .none = some (.bool (!isNone d)) := by cases d <;> rfl
theorem isNone_o (o : Option Nat) : isNone (oD o) = !o.isSome := by cases o <;> rfl
theorem isNone_i (i : Int) : isNone (.int i) = false := rfl
theorem isNone_n : isNone .none = true := rfl
theorem isNone_l (ds : List D) : isNone (.list ds) = false := rfl
theorem isNone_t (ds : List D) : isNone (.tuple ds) = false := rfl
theorem gApp_l' (ds : List D) (d : D) (h : ds.length < 100000) : gApp (.list ds) [d] = some (.list (ds ++ [d])) := by
  unfold gApp
  dsimp only
  rw [if_pos h]
theorem slT_f (ds : List D) (i : Int) : slT (.tuple ds) (some i) none = some (.tuple (cutD ds (some i) none)) := rfl
theorem slT_t (ds : List D) (i : Int) : slT (.tuple ds) none (some i) = some (.tuple (cutD ds none (some i))) := rfl
theorem bind_some' {α β : Type} (a : α) (f : α → Option β) (t : Tg f) : (some a).bd f t = f a := rfl
theorem oEq_list_nil (ds : List D) (h : eqOk (.list ds) (.list []) = true) : oEq (.list ds) (.list []) = some (.bool ds.isEmpty) := by
  show (if eqOk (.list ds) (.list []) = true then some (PyData.bool (PyData.eqv (.list ds) (.list []))) else none) = _
  rw [if_pos h]
  cases ds <;> simp [PyData.eqv, PyData.eqvAll]
theorem oNe_list_nil (ds : List D) (h : eqOk (.list ds) (.list []) = true) : oNe (.list ds) (.list []) = some (.bool (!ds.isEmpty)) := by
  show (if eqOk (.list ds) (.list []) = true then some (PyData.bool (!PyData.eqv (.list ds) (.list []))) else none) = _
  rw [if_pos h]
  cases ds <;> simp [PyData.eqv, PyData.eqvAll]
theorem fIsi_n (T : Ty) : fIsi T .none = some (.bool false) := by cases T <;> rfl
theorem fIsi_i (T : Ty) (i : Int) : fIsi T (.int i) = some (.bool (decide (T = .int))) := by cases T <;> rfl
theorem fIsi_b (T : Ty) (i : Bool) : fIsi T (.bool i) = some (.bool (decide (T = .int) || decide (T = .bool))) := by cases T <;> rfl
theorem fIsi_s (T : Ty) (x : Str) : fIsi T (.str x) = some (.bool (decide (T = .str))) := by cases T <;> rfl
theorem fIsi_l (T : Ty) (ds : List D) : fIsi T (.list ds) = some (.bool (decide (T = .list))) := by cases T <;> rfl
theorem fIsi_t (T : Ty) (ds : List D) : fIsi T (.tuple ds) = some (.bool (decide (T = .tuple))) := by cases T <;> rfl
theorem fIsi2_n (T U : Ty) : fIsi2 T U .none = some (.bool false) := by cases T <;> cases U <;> rfl
theorem fIsi2_i (T U : Ty) (i : Int) : fIsi2 T U (.int i) = some (.bool (decide (T = .int) || decide (U = .int))) := by cases T <;> cases U <;> rfl
theorem fIsi2_b (T U : Ty) (i : Bool) : fIsi2 T U (.bool i) = some (.bool (decide (T = .int) || decide (T = .bool) || decide (U = .int) || decide (U = .bool))) := by cases T <;> cases U <;> rfl
theorem fIsi2_s (T U : Ty) (x : Str) : fIsi2 T U (.str x) = some (.bool (decide (T = .str) || decide (U = .str))) := by cases T <;> cases U <;> rfl
theorem fIsi2_l (T U : Ty) (ds : List D) : fIsi2 T U (.list ds) = some (.bool (decide (T = .list) || decide (U = .list))) := by cases T <;> cases U <;> rfl
theorem fIsi2_t (T U : Ty) (ds : List D) : fIsi2 T U (.tuple ds) = some (.bool (decide (T = .tuple) || decide (U = .tuple))) := by cases T <;> cases U <;> rfl
theorem oD_some (n : Nat) : oD (some n) = .int n := rfl
theorem oD_none : oD none = .none := rfl
end Od

namespace Od
open PySem PySem.Spec PyProof.Rows L2
/-! ### how large data are: what == and in and repr ask -/
def good : D → Bool
  | .none => true
  | .bool _ => true
  | .int i => decide (i.natAbs.log2 < 190)
  | .str x => PyData.strOk x
  | .list xs => goodL xs
  | .tuple xs => goodL xs
  | .dict _ => false
where goodL : List D → Bool
  | [] => true
  | x :: xs => good x && goodL xs
abbrev goodL := good.goodL
theorem int_len {i : Int} (h : i.natAbs.log2 < 190) : (PyData.shown (.int i)).length ≤ 64 := by
  have h1 : i.natAbs < 10 ^ 58 := by
    have h2 : i.natAbs < 2 ^ 190 := by
      by_cases z : i.natAbs = 0
      · rw [z]; exact Nat.two_pow_pos _
      · exact (Nat.log2_lt z).mp h
    have h3 : 2 ^ 190 ≤ 10 ^ 58 := by decide +kernel
    omega
  have h4 := int_text_length_le10 (a := i) (k := 58) (by omega) h1
  show (Str.ofString (toString i)).length ≤ 64
  rw [PySem.ofString_length]
  omega
mutual
theorem good_lay : ∀ d : D, good d = true → PyData.canLay0 d = true ∧ noDic d = true ∧ d.showable = true ∧ d.intsShort 64 = true
  | .none, _ => ⟨rfl, rfl, rfl, rfl⟩
  | .bool _, _ => ⟨rfl, rfl, rfl, rfl⟩
  | .int i, h => by
    unfold good at h
    have h := of_decide_eq_true h
    refine ⟨rfl, rfl, ?_, ?_⟩
    · unfold PyData.showable; exact decide_eq_true (by omega)
    · unfold PyData.intsShort; exact decide_eq_true (int_len h)
  | .str x, h => by
    unfold good at h
    refine ⟨?_, rfl, rfl, rfl⟩
    unfold PyData.canLay0; exact h
  | .list xs, h => by
    unfold good at h
    obtain ⟨h1, h2, h3, h4⟩ := goodL_lay xs h
    exact ⟨h1, h2, h3, h4⟩
  | .tuple xs, h => by
    unfold good at h
    obtain ⟨h1, h2, h3, h4⟩ := goodL_lay xs h
    exact ⟨h1, h2, h3, h4⟩
  | .dict _, h => by unfold good at h; cases h
theorem goodL_lay : ∀ ds : List D, goodL ds = true → PyData.canLayAll0 ds = true ∧ noDic.noDics ds = true ∧ PyData.showableAll ds = true ∧ PyData.intsShortAll 64 ds = true
  | [], _ => ⟨rfl, rfl, rfl, rfl⟩
  | x :: xs, h => by
    unfold goodL good.goodL at h
    rw [Bool.and_eq_true] at h
    obtain ⟨h1, h2, h3, h4⟩ := good_lay x h.1
    obtain ⟨g1, g2, g3, g4⟩ := goodL_lay xs h.2
    refine ⟨?_, ?_, ?_, ?_⟩
    · unfold PyData.canLayAll0; rw [h1, g1]; rfl
    · unfold noDic.noDics; rw [h2, g2]; rfl
    · unfold PyData.showableAll; rw [h3, g3]; rfl
    · unfold PyData.intsShortAll; rw [h4, g4]; rfl
end
/-- good data of at most this weight and depth -/
structure Fit (w n : Nat) (d : D) : Prop where
  g : good d = true
  w : d.weight ≤ w
  n : d.depth ≤ n
structure FitL (w n : Nat) (ds : List D) : Prop where
  g : goodL ds = true
  w : PyData.weightAll ds ≤ w
  n : PyData.depthAll ds ≤ n
theorem Fit.up {w n w' n' : Nat} {d : D} (h : Fit w n d) (h1 : w ≤ w') (h2 : n ≤ n') : Fit w' n' d := ⟨h.g, Nat.le_trans h.w h1, Nat.le_trans h.n h2⟩
theorem FitL.up {w n w' n' : Nat} {d : List D} (h : FitL w n d) (h1 : w ≤ w') (h2 : n ≤ n') : FitL w' n' d := ⟨h.g, Nat.le_trans h.w h1, Nat.le_trans h.n h2⟩
theorem fit_none : Fit 0 0 .none := ⟨rfl, Nat.le_refl _, Nat.le_refl _⟩
theorem fit_bool (b : Bool) : Fit 0 0 (.bool b) := ⟨rfl, Nat.le_refl _, Nat.le_refl _⟩
theorem fit_int {i : Int} {k : Nat} (h : i.natAbs < 2 ^ k) (hk : k < 190) : Fit k 0 (.int i) := by
  by_cases z : i.natAbs = 0
  · have : i = 0 := by omega
    subst this
    exact ⟨rfl, Nat.zero_le _, Nat.le_refl _⟩
  · have h1 : i.natAbs.log2 < k := (Nat.log2_lt z).mpr h
    refine ⟨?_, ?_, Nat.le_refl _⟩
    · unfold good; exact decide_eq_true (by omega)
    · unfold PyData.weight
      split
      · exact Nat.zero_le _
      · omega
theorem fit_list {w n : Nat} {ds : List D} (h : FitL w n ds) : Fit w (n + 1) (.list ds) := by
  refine ⟨by unfold good; exact h.g, by unfold PyData.weight; exact h.w, by unfold PyData.depth; have := h.n; omega⟩
theorem fit_tuple {w n : Nat} {ds : List D} (h : FitL w n ds) : Fit w (n + 1) (.tuple ds) := by
  refine ⟨by unfold good; exact h.g, by unfold PyData.weight; exact h.w, by unfold PyData.depth; have := h.n; omega⟩
theorem fit_nil : FitL 0 0 [] := ⟨rfl, Nat.le_refl _, Nat.le_refl _⟩
theorem fit_cons {w w' n n' : Nat} {d : D} {ds : List D} (h : Fit w n d) (h' : FitL w' n' ds) : FitL (w + 1 + w') (max n n') (d :: ds) := by
  refine ⟨?_, ?_, ?_⟩
  · unfold goodL good.goodL
    have e := h'.g; unfold goodL at e; rw [h.g, e]; rfl
  · unfold PyData.weightAll
    have := h.w
    have := h'.w
    omega
  · unfold PyData.depthAll
    have := h.n
    have := h'.n
    omega
theorem fit_all {w n : Nat} {ds : List D} (h : ∀ d ∈ ds, Fit w n d) {m : Nat} (hm : ds.length ≤ m) : FitL (m * (w + 1)) n ds := by
  have z : FitL (ds.length * (w + 1)) n ds := by
    clear hm
    induction ds with
    | nil => exact ⟨rfl, Nat.zero_le _, Nat.zero_le _⟩
    | cons d ds ih =>
      have z := fit_cons (h d List.mem_cons_self) (ih fun x m => h x (List.mem_cons_of_mem _ m))
      refine z.up ?_ (by omega)
      rw [List.length_cons, Nat.succ_mul]
      omega
  exact z.up (Nat.mul_le_mul_right _ hm) (Nat.le_refl _)
theorem Fit.shaped {w n : Nat} {d : D} (h : Fit w n d) (hn : n ≤ 64) : noDic d = true ∧ SeqAt.shaped d = true := by
  obtain ⟨h1, h2, _, _⟩ := good_lay d h.g
  refine ⟨h2, ?_⟩
  unfold SeqAt.shaped
  rw [h1, decide_eq_true (Nat.le_trans h.n hn)]
  rfl
theorem Fit.eqOk {w n w' n' : Nat} {d e : D} (h : Fit w n d) (h' : Fit w' n' e) (hn : n ≤ 64) (hn' : n' ≤ 64) : eqOk d e = true := by
  unfold Od.eqOk
  obtain ⟨h1, h2⟩ := h.shaped hn
  obtain ⟨h3, h4⟩ := h'.shaped hn'
  rw [h1, h2, h3, h4]
  rfl
theorem Fit.repr {w n : Nat} {d : D} (h : Fit w n d) (hn : n ≤ 64) (hw : w ≤ 200000) : fRepr d = some (.str d.shown) := by
  obtain ⟨h1, h2, h3, h4⟩ := good_lay d h.g
  unfold fRepr
  rw [if_pos]
  unfold shwOk
  have h5 := PyData.shown_le 64 (by decide) d (PyData.leavesShort_of_canLay0 64 d h1 h4)
  have hw := Nat.le_trans h.w hw
  have h6 : d.shown.length ≤ sizeLine := by
    have : (64 + 2) * d.weight ≤ 66 * 200000 := Nat.mul_le_mul_left 66 hw
    unfold sizeLine
    have e : 2 ^ 24 = 16777216 := by decide
    omega
  rw [h2, h3, PyData.hasDict_of_canLay d h1, decide_eq_true rfl, decide_eq_true (Nat.le_trans h.n hn), decide_eq_true h6]
  rfl
theorem oEq_fit {w n w' n' : Nat} {d e : D} (h : Fit w n d) (h' : Fit w' n' e) (hn : n ≤ 64) (hn' : n' ≤ 64) (hs : ∀ x y, ¬ (d = .str x ∧ e = .str y)) : oEq d e = some (.bool (PyData.eqv d e)) := by
  have k := h.eqOk h' hn hn'
  unfold oEq
  split
  · rename_i x y; exact absurd ⟨rfl, rfl⟩ (hs x y)
  · rw [if_pos k]
theorem oNe_fit {w n w' n' : Nat} {d e : D} (h : Fit w n d) (h' : Fit w' n' e) (hn : n ≤ 64) (hn' : n' ≤ 64) (hs : ∀ x y, ¬ (d = .str x ∧ e = .str y)) : oNe d e = some (.bool (!PyData.eqv d e)) := by
  have k := h.eqOk h' hn hn'
  unfold oNe
  split
  · rename_i x y; exact absurd ⟨rfl, rfl⟩ (hs x y)
  · rw [if_pos k]
/-! the data at hand -/
theorem fit_nat {k : Nat} (h : k < 2 ^ 10) : Fit 10 0 (.int (k : Nat)) := fit_int (k := 10) (by omega) (by omega)
theorem fit_o {o : Option Nat} (h : ∀ t, o = some t → t < 2 ^ 10) : Fit 10 0 (oD o) := by
  cases o with
  | none => exact fit_none.up (by omega) (by omega)
  | some t => exact fit_nat (h t rfl)
theorem fit_who (b : Bool) : Fit 4 0 (whoD b) := by
  cases b
  · exact ⟨by decide +kernel, by decide +kernel, Nat.le_refl _⟩
  · exact ⟨by decide +kernel, by decide +kernel, Nat.le_refl _⟩
theorem fit_kind {b : Bk} (ok : b.Ok) {q : Bool × List (Option Nat)} (hq : q ∈ b.ks) : Fit 120 2 (kindD q) := by
  have m1 := ok.m1
  have hl := ok.len q hq
  have z := fit_all (w := 10) (n := 0) (ds := q.2.map oD) (fun d hd => by
    obtain ⟨o, ho, rfl⟩ := List.mem_map.mp hd
    exact fit_o fun t e => by subst e; have := ok.lt q hq t ho; omega) (m := 10) (by rw [List.length_map]; omega)
  exact (fit_tuple (fit_cons (fit_who q.1) (fit_cons (fit_tuple z) fit_nil))).up (by omega) (by omega)
theorem fit_book {b : Bk} (ok : b.Ok) : Fit 1300 4 (bkD b) := by
  have m1 := ok.m1
  have k1 := ok.k1
  have z := fit_all (w := 120) (n := 2) (ds := b.ks.map kindD) (fun d hd => by
    obtain ⟨q, hq, rfl⟩ := List.mem_map.mp hd
    exact fit_kind ok hq) (m := 10) (by rw [List.length_map]; omega)
  exact (fit_tuple (fit_cons (fit_nat (show b.m < 2 ^ 10 by omega)) (fit_cons (fit_tuple z) fit_nil))).up (by omega) (by omega)
theorem fit_nats {r : List Nat} (h : ∀ k ∈ r, k < 2 ^ 10) {m : Nat} (hm : r.length ≤ m) : FitL (m * 11) 0 (natL r) := by
  refine fit_all (w := 10) (n := 0) (fun d hd => ?_) (by unfold natL; rw [List.length_map]; exact hm)
  obtain ⟨k, hk, rfl⟩ := List.mem_map.mp hd
  exact fit_nat (h k hk)
end Od

namespace HT
open PySem PySem.Spec PyProof.Rows
section
variable {prog : Program} {w : World} {A : Around} {E : Value → Shared → Prop} {s : Shared}
theorem sliceApplied_back {sl : Addr} {vl vu vs : Value} {n : Nat} {Q : Int × Int × Nat → Shared → Prop} (hs : s.heap.IsSliceOf sl vl vu vs) (pl : IsPart vl none) (pu : IsPart vu none) (ps : IsPart vs (some (-1)))
    (h : Q ((n : Int) - 1, -1, n) s) : wpAny (model prog w) A (Builtin.Slice.sliceApplied (.ref sl) (pure (n : Int))) Q E s := by
  obtain ⟨os, hos, hcs, hds⟩ := id hs
  unfold Builtin.Slice.sliceApplied Builtin.Slice.sliceFields
  refine wpAny_bind (wpAny_bind (wpAny_field hos hds (x := vl) rfl (wpAny_bind (wpAny_field hos hds (x := vu) rfl (wpAny_bind (wpAny_field hos hds (x := vs) rfl (wpAny_pure ?_)))))))
  refine wpAny_bind (slicePart_ ps ?_)
  show wpAny _ _ (if ((-1 : Int) == 0) = true then _ else _) _ _ s
  rw [if_neg (by decide)]
  refine wpAny_bind (slicePart_ pl (wpAny_bind (slicePart_ pu (wpAny_bind (wpAny_pure ?_)))))
  show wpAny _ _ (match Builtin.Slice.sliceAdjust none none (-1) (n : Int) with | (lo, hi) => pure (lo, (-1 : Int), Builtin.Slice.slicePlaces lo hi (-1))) _ _ s
  have e1 : Builtin.Slice.sliceAdjust none none (-1) (n : Int) = ((n : Int) - 1, -1) := by
    unfold Builtin.Slice.sliceAdjust
    simp
  rw [e1]
  show wpAny _ _ (pure ((n : Int) - 1, (-1 : Int), Builtin.Slice.slicePlaces ((n : Int) - 1) (-1) (-1))) _ _ s
  have e2 : Builtin.Slice.slicePlaces ((n : Int) - 1) (-1) (-1) = n := by
    unfold Builtin.Slice.slicePlaces
    have h1 : ¬ ((-1 : Int) > 0) := by omega
    simp only [h1, if_false]
    rw [show (- -1 : Int) = 1 by decide]
    simp only [Int.ediv_one]
    split <;> omega
  rw [e2]
  exact wpAny_pure h
theorem pick_back (xs : Array Value) : ((List.range xs.size).filterMap fun (m : Nat) => xs[(((xs.size : Int) - 1) + (m : Int) * (-1)).toNat]?).toArray = xs.toList.reverse.toArray := by
  congr 1
  apply List.ext_getElem?
  intro i
  have key : ∀ (n k : Nat), k ≤ n → n ≤ xs.size → ((List.range' (n - k) k).filterMap fun (m : Nat) => xs[(((xs.size : Int) - 1) + (m : Int) * (-1)).toNat]?) = (xs.toList.reverse.drop (n - k)).take k := by
    intro n k
    induction k with
    | zero => intro _ _; rw [List.take_zero]; rfl
    | succ k ih =>
      intro h1 h2
      have e0 : n - (k + 1) + 1 = n - k := by omega
      have hl : n - (k + 1) < xs.toList.reverse.length := by rw [List.length_reverse, Array.length_toList]; omega
      rw [List.range'_succ, e0, List.drop_eq_getElem_cons hl, e0, List.take_succ_cons]
      have e1 : (((xs.size : Int) - 1) + ((n - (k + 1) : Nat) : Int) * (-1)).toNat = xs.size - 1 - (n - (k + 1)) := by omega
      rw [List.filterMap_cons, e1, Array.getElem?_eq_getElem (by omega)]
      show _ :: _ = _
      rw [ih (by omega) h2, List.getElem_reverse]
      congr 1
  have z := key xs.size xs.size (Nat.le_refl _) (Nat.le_refl _)
  rw [Nat.sub_self, List.drop_zero, List.take_of_length_le (by rw [List.length_reverse, Array.length_toList]; exact Nat.le_refl _)] at z
  rw [List.range_eq_range', z]
theorem getItem_tuple_back {t sl : Addr} {items : Array Value} {vl vu vs : Value} {Q : Value → Shared → Prop} (ht : IsTup s.heap t items) (hs : s.heap.IsSliceOf sl vl vu vs) (pl : IsPart vl none) (pu : IsPart vu none) (ps : IsPart vs (some (-1)))
    (h : Q (.ref s.heap.objs.size) { s with heap := s.heap.push { cls := .type "tuple", data := .seq items.toList.reverse.toArray } })
    (hsz : items.size ≤ sizeLine) : wpAny (model prog w) A (getItem (.ref t) (.ref sl)) Q E s := by
  have htake : sizeOk (.seq items.toList.reverse.toArray) := by
    show items.toList.reverse.toArray.size ≤ sizeLine
    rw [List.size_toArray, List.length_reverse, Array.length_toList]
    exact hsz
  obtain ⟨os, hos, hcs, hds⟩ := id hs
  have hTs : s.TypeIs (.ref sl) "slice" := ⟨os, hos, hcs⟩
  unfold getItem
  try with_reducible refine wpAny_holding ?_
  first | refine wpAny_bind (wpAny_pure ?_) | skip
  refine wpAny_bind (wpAny_sequenceKey ht.typeIs (by decide) ?_)
  refine wpAny_bind (wpAny_callSpecial?_slot (name := Str.ofString "__getitem__") ht.typeIs PyProof.Rows.slot_tuple_getitem
    (wpAny_call_entry PyProof.Rows.slot_tuple_getitem ht.typeIs entry_tuple_getitem ?_ (args_tuple_getitem _ _)))
  show wpAny _ _ (Builtin.Tuple.tupleItemsOf (.ref t) >>= _) _ _ s
  refine wpAny_bind (tupleItemsOf_ ht ?_)
  refine wpAny_bind (wpAny_typeOf hTs ?_)
  rw [if_pos (by decide)]
  refine wpAny_bind (sliceApplied_back hs pl pu ps ?_)
  have hno : ¬ (((((items.size : Nat) : Int) - 1) == 0 && (-1 : Int) == 1 && items.size == items.size) = true) := by
    intro q
    rw [Bool.and_eq_true, Bool.and_eq_true] at q
    have q1 : (-1 : Int) = 1 := eq_of_beq q.1.2
    omega
  show wpAny _ _ (if ((((items.size : Nat) : Int) - 1) == 0 && (-1 : Int) == 1 && items.size == items.size) = true then _ else _) _ _ s
  rw [if_neg hno, pick_back]
  first
    | exact wpAny_bind (m := Builtin.Tuple.tupleExact _) (wpAny_newObj_type (wpAny_pure ⟨_, rfl, wpAny_pure h⟩) htake)
    | exact wpAny_bind (m := Builtin.Tuple.tupleExact _) (wpAny_newObj_type (wpAny_bind (wpAny_pure (wpAny_pure ⟨_, rfl, wpAny_pure h⟩))) htake)
    | exact wpAny_bind (wpAny_bind (m := Builtin.Tuple.tupleExact _) (wpAny_newObj_type (wpAny_pure (wpAny_pure ⟨_, rfl, wpAny_pure h⟩)) htake))
    | exact wpAny_bind (wpAny_bind (m := Builtin.Tuple.tupleExact _) (wpAny_newObj_type (wpAny_pure ⟨_, rfl, wpAny_pure h⟩) htake))
end
end HT
namespace Od
open PySem PySem.Spec PyProof.Rows L2
/-! ### t[::-1], str(n) -/
def tRevA (K : PySem.W.Frag) (te : TE) : TE := fun σ H Q => te σ H fun x H1 => ∃ a xs, x = .ref a ∧ SqT K H1 a xs ∧ ∀ p, H1 p = none → Q (.ref p) (upd H1 p (.tup xs.reverse))
theorem pe_revA {X : Cx} {te : TE} {e : Expr} {k : Nat} {p1 p2 p3 pos : Pos} (he : PE X e te) : PE X (.Subscript e (.Slice none none (some (.UnaryOp .USub (.Constant (.int 1) k p1) p2)) p3) pos) (tRevA X.K te) := by
  refine ⟨fun pins s σ H Q I h => ?_⟩
  refine Subscript_ (thn (he.run pins s σ H _ I h) fun v s1 ⟨x, H1, I1, r1, q1⟩ => ?_)
  obtain ⟨a, xs, ex, hx, q⟩ := q1
  subst ex
  cases r1
  have hst : PO X (some (.UnaryOp .USub (.Constant (.int 1) k p1) p2)) (tPart (tUn (rU fun i => .int (-i)) (tC (.int 1)))) := po_some (pe_un un_neg pe_int)
  refine wpAny_Slice (thn (po_none.run pins s1 σ H1 (fun o H2 => o = none ∧ H2 = H1) I1 ⟨rfl, rfl⟩) fun vl s2 ⟨l, H2, I2, pl, el, e2⟩ => ?_)
  subst el e2
  refine thn (po_none.run pins s2 σ H2 (fun o H3 => o = none ∧ H3 = H2) I2 ⟨rfl, rfl⟩) fun vu s3 ⟨u, H3, I3, pu, eu, e3⟩ => ?_
  subst eu e3
  refine thn (hst.run pins s3 σ H3 (fun o H4 => o = some (-1) ∧ H4 = H3) I3 ⟨1, rfl, -1, rfl, rfl, rfl⟩) fun vs s4 ⟨o, H4, I4, ps, eo, e4⟩ => ?_
  subst eo e4
  have I5 : Inv X pins σ H4 { s4 with heap := s4.heap.push { cls := .type "slice", data := .fields #[vl, vu, vs] } } := I4.kept (t' := s4.toks) fun b ob q => Heap.get?_push_of_some _ q
  obtain ⟨its, r, ht, hz⟩ := I5.tuple hx
  show wpAny (model X.prog X.w) X.A (subscriptTail e (.Slice none none (some (.UnaryOp .USub (.Constant (.int 1) k p1) p2)) p3) (.ref a) (.ref s4.heap.objs.size)) (EP X pins σ Q) X.xe { s4 with heap := s4.heap.push { cls := .type "slice", data := .fields #[vl, vu, vs] } }
  refine tail_any (ops := [.ref a, .ref s4.heap.objs.size]) ht.typeIs PyProof.Rows.slot_tuple_getitem.lookup ?_ (by with_unfolding_all rfl)
  have hlen := r.length
  refine HT.getItem_tuple_back ht (Heap.IsSliceOf.new _ vl vu vs) pl pu ps ?_ (by rw [List.size_toArray]; omega)
  refine ⟨.ref _, _, I5.laid (t' := s4.toks) (o := .tup xs.reverse) (fun b ob q => Heap.get?_push_of_some _ q) (Nat.le_refl _) ?_, rfl, q _ (I5.hok.fresh (Nat.le_refl _))⟩
  exact ⟨by rw [List.length_reverse]; exact hz, _, r.reverse, ⟨_, Heap.get?_push_size _ rfl, rfl, _, rfl⟩⟩
def fRevT : D → Option D
  | .tuple ds => some (.tuple ds.reverse)
  | _ => none
def fStrI : D → Option D
  | .int i => if i.natAbs.log2 < 1920 then some (.str (toString i)) else none
  | _ => none
theorem datL_rev {K : PySem.W.Frag} {H : Hp} {P : Pr} : ∀ {xs : List V} {ds : List D}, DatL K H P xs ds → DatL K H P xs.reverse ds.reverse
  | _, _, .nil => .nil
  | _, _, .cons h t => by
    rw [List.reverse_cons, List.reverse_cons]
    exact (datL_rev t).app (.cons h .nil)
section
variable {G : Gam} {a e : Expr} {oa : Opd} {k : Nat} {p1 p2 p3 pos : Pos}
theorem e_revT : SV G a oa → SE G (.Subscript a (.Slice none none (some (.UnaryOp .USub (.Constant (.int 1) k p1) p2)) p3) pos) (d1 oa fRevT) := by
  rintro ⟨ta, pa, ha⟩
  refine ⟨_, fun X h => by have z := pe_revA (k := k) (p1 := p1) (p2 := p2) (p3 := p3) (pos := pos) (pa X h); rw [h.K] at z; exact z, fun E P H σ s Q st hp => ha E P H σ s _ st (po_step hp fun x s1 P1 H1 ee st1 gr1 h1 vx hx => ?_)⟩
  obtain ⟨d, ed, h4⟩ := po_lft h1
  obtain ⟨dx, ex, ed⟩ := Option.bind_eq_some_iff.mp ed
  have vw := hx s1 P1 H1 st1 Gr.refl dx ex
  cases dx <;> first | (cases ed; done) | skip
  cases ed
  obtain ⟨q, xs, rfl, _, w1, w2⟩ := vw.tupOf
  refine ⟨q, xs, rfl, .of w1, fun p hn => ?_⟩
  obtain ⟨P', st', gr', dv'⟩ := lay_tup st1 hn (datL_rev w2)
  exact h4 _ _ st' gr' _ dv'
/-- * of numbers, or of a tuple and a number -/
def oMulX : D → D → Option D := fun x y => (oMul x y).or (oRepA x y)
theorem o_mulX : Op2 G (binaryOp .Mult) oMulX := o_mul.or o_repA
theorem f_strI : Op1 G (.type "str") fStrI := by
  refine ⟨_, fun X h => call_str_int, fun E P H σ s x dx d Q st hx e h => ?_⟩
  cases dx <;> first | (cases e; done) | skip
  unfold fStrI at e
  dsimp only at e
  split at e
  · rename_i c
    cases e
    exact ⟨_, by rw [hx.intOf], c, h _ P H st Gr.refl (.str _)⟩
  · cases e
end
end Od

namespace Od
open PySem PySem.Spec PyProof.Rows L2
/-! ### a talk in a slot -/
def asTk : D → Option Tk
  | .tuple [b, c, .list s, .list h, .dict m] => some ⟨b, c, s, h, m⟩
  | _ => none
theorem asTk_D (t : Tk) : asTk t.D = some t := rfl
theorem asTk_some {d : D} {t : Tk} (e : asTk d = some t) : d = t.D := by
  unfold asTk at e
  split at e
  · cases e; rfl
  · cases e
theorem Tk.D_inj {t u : Tk} (e : t.D = u.D) : t = u := by
  have z := asTk_D t
  rw [e, asTk_D] at z
  exact (Option.some.inj z).symm
def tkS (s : S) (i : Nat) : Option Tk :=
  match s[i]? with
  | some (.tk d) => asTk d
  | _ => none
/-- what may be wanted of a talk's fields -/
inductive TF where
  | st | ha | mo
def TF.nm : TF → Str
  | .st => "states"
  | .ha => "happened"
  | .mo => "moments"
def TF.get (t : Tk) : TF → D
  | .st => .list t.sts
  | .ha => .list t.hap
  | .mo => .dict t.mom
def TF.put (t : Tk) : TF → D → Option Tk
  | .st, .list l => some { t with sts := l }
  | .ha, .list l => some { t with hap := l }
  | .mo, .dict l => some { t with mom := l }
  | _, _ => none
def TF.ad (s h m : Addr) : TF → Addr
  | .st => s
  | .ha => h
  | .mo => m
structure TalkC (K : PySem.W.Frag) : Prop where
  cls : L2.Cls K (He.ga K "Talk")
  bk : NoAttr K (He.ga K "Talk") "book"
  ck : NoAttr K (He.ga K "Talk") "checks"
  st : NoAttr K (He.ga K "Talk") "states"
  ha : NoAttr K (He.ga K "Talk") "happened"
  mo : NoAttr K (He.ga K "Talk") "moments"
theorem TalkC.at {K : PySem.W.Frag} (T : TalkC K) (f : TF) : NoAttr K (He.ga K "Talk") f.nm := by
  cases f
  · exact T.st
  · exact T.ha
  · exact T.mo
theorem Tk.fs_at (bv cv : V) (s h m : Addr) (f : TF) : (Tk.fs bv cv s h m).lookup f.nm = some (.ref (f.ad s h m)) := by
  cases f <;> rfl
section
variable {K : PySem.W.Frag} {E : En} {P P' : Pr} {H H' : Hp} {σ : L2.St} {s : S} {M : Pr} {a s0 h0 m0 : Addr} {t t' : Tk}
theorem TkO.of (w : TkO K M H P a s0 h0 m0 t) (f : TF) : OwA K H P (f.ad s0 h0 m0) (f.get t) ∧ M (f.ad s0 h0 m0) := by
  cases f
  · exact ⟨w.os, w.ms⟩
  · exact ⟨w.oh, w.mh⟩
  · exact ⟨w.om, w.mm⟩
/-- a field's object changed -/
theorem TkO.upd (w : TkO K M H P a s0 h0 m0 t) (f : TF) (o : HO) {n : D} (e : f.put t n = some t') (np : ¬ P (f.ad s0 h0 m0)) (ow : OwA K (L2.upd H (f.ad s0 h0 m0) o) P (f.ad s0 h0 m0) n) : TkO K M (L2.upd H (f.ad s0 h0 m0) o) P a s0 h0 m0 t' := by
  have pk : Pk P H P (L2.upd H (f.ad s0 h0 m0) o) := keep_upd np o
  obtain ⟨⟨dx, bv, cv, h1, h2, h3⟩, h4, h5, h6, h7, h8, h9, h10, h11, h12, h13⟩ := w
  cases f
  all_goals
    cases n <;> first | (cases e; done) | skip
    cases e
    dsimp only [TF.ad] at np ow pk ⊢
  · exact ⟨⟨dx, bv, cv, by rw [upd_ne (show a ≠ s0 from fun z => h4 (z ▸ h5))]; exact h1, h2.k pk, h3.k pk⟩, h4, h5, h6, h7, h8, h9, h10, ow, h12.keep pk fun o eo => by rw [upd_ne h8.symm]; exact eo, h13.keep pk fun o eo => by rw [upd_ne h9.symm]; exact eo⟩
  · exact ⟨⟨dx, bv, cv, by rw [upd_ne (show a ≠ h0 from fun z => h4 (z ▸ h6))]; exact h1, h2.k pk, h3.k pk⟩, h4, h5, h6, h7, h8, h9, h10, h11.keep pk fun o eo => by rw [upd_ne h8]; exact eo, ow, h13.keep pk fun o eo => by rw [upd_ne h10.symm]; exact eo⟩
  · exact ⟨⟨dx, bv, cv, by rw [upd_ne (show a ≠ m0 from fun z => h4 (z ▸ h7))]; exact h1, h2.k pk, h3.k pk⟩, h4, h5, h6, h7, h8, h9, h10, h11.keep pk fun o eo => by rw [upd_ne h9]; exact eo, h12.keep pk fun o eo => by rw [upd_ne h10]; exact eo, ow⟩
theorem Stt.tkOf (st : Stt K E P H σ s) {i : Nat} (e : tkS s i = some t) : s[i]? = some (.tk t.D) ∧ ∃ a s0 h0 m0, E.tka = some a ∧ σ[i]? = some (some (.ref a)) ∧ TkO K E.M H P a s0 h0 m0 t := by
  unfold tkS at e
  cases hx : s[i]? with
  | none => rw [hx] at e; cases e
  | some x =>
    rw [hx] at e
    cases x with
    | tk d =>
      have ed := asTk_some e
      subst ed
      obtain ⟨a, m, h1, s0, h0, m0, t', et, w⟩ := st.sl i _ hx
      cases Tk.D_inj et
      exact ⟨rfl, a, s0, h0, m0, m, h1, w⟩
    | _ => cases e
/-- behind what changed the talk's own objects alone -/
theorem Stt.mutK (st : Stt K E P H σ s) {i : Nat} {n : D} (e : tkS s i = some t) (ha : σ[i]? = some (some (.ref a))) (le : ∀ b, P b → P' b) (nw : ∀ b, P' b → P b ∨ H b = none) (pal : ∀ b, P' b → ∃ o, H' b = some o)
    (kp : ∀ b o, H b = some o → ¬ E.M b → H' b = some o) (ex : ∀ b, H' b = none → H b = none) (wn : TkAt K E.M H' P' a n) : Stt K E P' H' σ (s.set i (.tk n)) ∧ Gr E σ s (s.set i (.tk n)) P H P' H' := by
  obtain ⟨hs, a', s0, h0, m0, tm, h1, w⟩ := st.tkOf e
  rw [ha] at h1; cases h1
  have pk : Pk P H P' H' := ⟨le, fun b o q z => kp b o z fun m => st.mp b m q⟩
  have np' : ∀ b, Owns σ s b → ¬ P' b := fun b o q => by
    rcases nw b q with z | z
    · exact st.own_np o z
    · exact st.noOwn z o
  have mp' : ∀ b, E.M b → ¬ P' b := fun b m o => by
    rcases nw b o with z | z
    · exact st.mp b m z
    · exact st.noM z m
  have own : ∀ j b, Own σ (s.set i (.tk n)) j b → Own σ s j b := by
    rintro j b ⟨h1, x, h2, h3⟩
    rcases getset h2 with ⟨z, q⟩ | ⟨z, q⟩
    · subst q; cases h3
    · exact ⟨h1, x, q, h3⟩
  refine ⟨⟨by rw [List.length_set]; exact st.len, fun j x hj => ?_, fun j k b o1 o2 => st.dj j k b (own _ _ o1) (own _ _ o2), fun b q => le b (st.pg b q), fun b q => ?_, pal, fun b o q m => kp b o (st.kp b o q m) m, fun b m => ?_, mp', st.m0, ?_⟩, ⟨le, fun b o q no nm => kp b o q nm, fun b q => ?_, fun b ⟨j, o⟩ => ⟨j, own _ _ o⟩, ex⟩⟩
  · rcases getset hj with ⟨z, q⟩ | ⟨z, q⟩
    · subst z; subst q
      exact ⟨a, tm, ha, wn⟩
    · have w := st.sl j x q
      cases x with
      | un => trivial
      | sh d' => obtain ⟨v, w1, w2⟩ := w; exact ⟨v, w1, w2.k pk⟩
      | ow d' =>
        obtain ⟨b, w1, w2, w3, w4⟩ := w
        exact ⟨b, w1, np' b ⟨j, w1, _, q, rfl⟩, w3, w4.keep pk fun u z => kp b u z fun m => by
          obtain ⟨o, w⟩ := st.m0 b m
          rw [w3] at w; cases w⟩
      | io d' =>
        obtain ⟨b, w1, w2, w3, w4⟩ := w
        rw [tm] at w3
        exact (nomatch w3.2)
      | tk d' => exact (z (st.tk j i d' _ q hs)).elim
  · rcases nw b q with z | z
    · exact st.pn b z
    · exact .inr (st.h0 z)
  · cases z : H' b with
    | some o => exact ⟨o, rfl⟩
    | none =>
      obtain ⟨o, w⟩ := st.mx b m
      rw [ex b z] at w; cases w
  · refine st.tk.sub fun j d hj => ?_
    rcases getset hj with ⟨z, q⟩ | ⟨z, q⟩
    · subst z; exact ⟨_, hs⟩
    · exact ⟨d, q⟩
  · rcases nw b q with z | z
    · exact .inl z
    · exact .inr (.inl z)
end
section
variable {G : Gam} {a b c e : Expr} {es : List Expr} {fa fb fc : De D} {fs : FS} {fl : De (List D)} {pos p py ap : Pos} {x y : Str}
theorem tk_fld (T : TalkC G.K) {E : En} {P : Pr} {H : Hp} {σ : L2.St} {s : S} {i : Nat} {t : Tk} (st : Stt G.K E P H σ s) (e : tkS s i = some t) (f : TF) {Q : VK}
    (k : ∀ a s0 h0 m0, σ[i]? = some (some (.ref a)) → TkO G.K E.M H P a s0 h0 m0 t → Q (.ref (f.ad s0 h0 m0)) H) : tFld G.K (tVar i) f.nm σ H Q := by
  obtain ⟨hs, a, s0, h0, m0, tm, h1, w⟩ := st.tkOf e
  obtain ⟨dx, bv, cv, ho, _⟩ := w.ob
  exact ⟨_, h1, a, _, dx, _, _, rfl, ho, T.cls, T.at f, Tk.fs_at _ _ _ _ _ f, k a s0 h0 m0 h1 w⟩
/-- y.f, looked at late -/
def opF (i : Nat) (f : TF) : Opd := ⟨fun s => match tkS s i with | some _ => some (.ok .none s) | none => none, fun _ s => (tkS s i).map fun t => f.get t⟩
theorem v_tkf (i : Nat) (f : TF) {z : Str} (T : TalkC G.K) (hz : z = f.nm := by rfl) (hN : G.N[i]? = some y := by rfl) (hv : Vis G.sc y := by first | exact Or.inl rfl | exact Or.inr (Or.inl rfl) | exact Or.inr (Or.inr rfl))
    (hd : (y == ("__debug__" : Str)) = false := by decide) (hcd : (y == ("__classdict__" : Str)) = false := by decide)
    (hb : ∀ X : Cx, attributeBase (.Name y py) z X.env (eval (.Name y py) X.env) = eval (.Name y py) X.env := by intro _; rfl) : SV G (.Attribute (.Name y py) z pos) (opF i f) := by
  subst hz
  refine ⟨_, fun X h => by
    have q := pe_fld (f := f.nm) (pos := pos) (pe_var (X := X) (i := i) (pos := py) (by rw [h.N]; exact hN) (by rw [h.sc]; exact hv) hd hcd) (hb X)
    rw [h.K] at q
    exact q, fun E P H σ s Q st hp => ?_⟩
  unfold opF at hp
  dsimp only at hp
  cases e : tkS s i with
  | none => rw [e] at hp; exact hp.elim
  | some t =>
    rw [e] at hp
    refine tk_fld T st e f fun a s0 h0 m0 h1 w => hp P H st Gr.refl _ fun s' P' H' st' gr' d ed => ?_
    obtain ⟨t', e', rfl⟩ := Option.map_eq_some_iff.mp ed
    obtain ⟨_, a', s1, h1', m1, _, h2, w'⟩ := st'.tkOf e'
    rw [h1] at h2; cases h2
    obtain ⟨dx, bv, cv, ho, _⟩ := w.ob
    obtain ⟨dx', bv', cv', ho', _⟩ := w'.ob
    have no : ¬ Owns σ s a := by
      rintro ⟨j, q1, x, q2, q3⟩
      have w := st.sl j x q2
      cases x with
      | un => cases q3
      | sh _ => cases q3
      | tk _ => cases q3
      | ow d' => obtain ⟨b, w1, _, _, w4⟩ := w; rw [q1] at w1; cases w1; exact w4.noIns ho
      | io d' => obtain ⟨b, w1, _, _, w4⟩ := w; rw [q1] at w1; cases w1; exact w4.noIns ho
    have ho2 := gr'.kp a _ ho no w.na
    rw [ho2] at ho'
    have z := w'.of f
    have ead : f.ad s0 h0 m0 = f.ad s1 h1' m1 := by
      cases ho'
      rfl
    rw [ead]
    exact .inr ⟨_, rfl, z.1⟩
/-- y.book, y.checks -/
def dTkB (i : Nat) : De D := fun s => match tkS s i with
  | some t => some (.ok t.bk s)
  | none => none
def dTkC (i : Nat) : De D := fun s => match tkS s i with
  | some t => some (.ok t.ck s)
  | none => none
theorem e_tkb (i : Nat) (T : TalkC G.K) (hN : G.N[i]? = some y := by rfl) (hv : Vis G.sc y := by first | exact Or.inl rfl | exact Or.inr (Or.inl rfl) | exact Or.inr (Or.inr rfl))
    (hd : (y == ("__debug__" : Str)) = false := by decide) (hcd : (y == ("__classdict__" : Str)) = false := by decide)
    (hb : ∀ X : Cx, attributeBase (.Name y py) ("book" : Str) X.env (eval (.Name y py) X.env) = eval (.Name y py) X.env := by intro _; rfl) : SE G (.Attribute (.Name y py) ("book" : Str) pos) (dTkB i) := by
  refine ⟨_, fun X h => by
    have q := pe_fld (f := ("book" : Str)) (pos := pos) (pe_var (X := X) (i := i) (pos := py) (by rw [h.N]; exact hN) (by rw [h.sc]; exact hv) hd hcd) (hb X)
    rw [h.K] at q
    exact q, fun E P H σ s Q st hp => ?_⟩
  unfold dTkB at hp
  cases e : tkS s i with
  | none => rw [e] at hp; exact hp.elim
  | some t =>
    rw [e] at hp
    obtain ⟨hs, a, s0, h0, m0, tm, h1, w⟩ := st.tkOf e
    obtain ⟨dx, bv, cv, ho, d1, d2⟩ := w.ob
    exact ⟨_, h1, a, _, dx, _, _, rfl, ho, T.cls, T.bk, rfl, hp P H st Gr.refl _ d1⟩
theorem e_tkc (i : Nat) (T : TalkC G.K) (hN : G.N[i]? = some y := by rfl) (hv : Vis G.sc y := by first | exact Or.inl rfl | exact Or.inr (Or.inl rfl) | exact Or.inr (Or.inr rfl))
    (hd : (y == ("__debug__" : Str)) = false := by decide) (hcd : (y == ("__classdict__" : Str)) = false := by decide)
    (hb : ∀ X : Cx, attributeBase (.Name y py) ("checks" : Str) X.env (eval (.Name y py) X.env) = eval (.Name y py) X.env := by intro _; rfl) : SE G (.Attribute (.Name y py) ("checks" : Str) pos) (dTkC i) := by
  refine ⟨_, fun X h => by
    have q := pe_fld (f := ("checks" : Str)) (pos := pos) (pe_var (X := X) (i := i) (pos := py) (by rw [h.N]; exact hN) (by rw [h.sc]; exact hv) hd hcd) (hb X)
    rw [h.K] at q
    exact q, fun E P H σ s Q st hp => ?_⟩
  unfold dTkC at hp
  cases e : tkS s i with
  | none => rw [e] at hp; exact hp.elim
  | some t =>
    rw [e] at hp
    obtain ⟨hs, a, s0, h0, m0, tm, h1, w⟩ := st.tkOf e
    obtain ⟨dx, bv, cv, ho, d1, d2⟩ := w.ob
    exact ⟨_, h1, a, _, dx, _, _, rfl, ho, T.cls, T.ck, rfl, hp P H st Gr.refl _ d2⟩
end
end Od

namespace Od
open PySem PySem.Spec PyProof.Rows L2
section
variable {G : Gam} {a b c e : Expr} {es : List Expr} {fa fb fc : De D} {fs : FS} {fl : De (List D)} {pos p py ap cpos apos tpos : Pos} {x y : Str}
/-! ### a talk's own objects, changed -/
def tkC (i : Nat) (f : TF) (fl : De (List D)) (g : D → List D → Option D) : DeS := sE fl fun ds s => (tkS s i).bind fun t => (g (f.get t) ds).bind fun n => (f.put t n).map fun u => .nx (s.set i (.tk u.D))
def sTkMut (i : Nat) (f : TF) (fl : De (List D)) (g : D → List D → Option D) : DeS := fun s0 =>
  match tkS s0 i with
  | some _ => tkC i f fl g s0
  | none => none
theorem mut_tk {E : En} {P : Pr} {H : Hp} {σ : L2.St} {s : S} {i : Nat} {t u : Tk} {f : TF} {q : Addr} {n : D} {o : HO} (st : Stt G.K E P H σ s) (e : tkS s i = some t) {a s0 h0 m0 : Addr} (ha : σ[i]? = some (some (.ref a))) (w : TkO G.K E.M H P a s0 h0 m0 t)
    (eq : q = f.ad s0 h0 m0) (ep : f.put t n = some u) (ow : OwA G.K (upd H q o) P q n) : Stt G.K E P (upd H q o) σ (s.set i (.tk u.D)) ∧ Gr E σ s (s.set i (.tk u.D)) P H P (upd H q o) := by
  subst eq
  obtain ⟨w1, w2⟩ := w.of f
  have np := st.mp _ w2
  have ke : ∀ b v, H b = some v → ¬ E.M b → (upd H (f.ad s0 h0 m0) o) b = some v := fun b v z nm => by rw [upd_ne fun e => nm (by rw [e]; exact w2)]; exact z
  refine st.mutK e ha (fun _ z => z) (fun _ z => .inl z) (fun b z => ?_) ke (fun b z => ?_) ⟨_, _, _, _, rfl, w.upd f o ep np ow⟩
  · obtain ⟨v, z2⟩ := st.pal b z
    exact ⟨v, ke b v z2 fun m => st.mp b m z⟩
  · by_cases v : b = f.ad s0 h0 m0
    · subst v; rw [upd_same] at z; cases z
    · rw [upd_ne v] at z; exact z
theorem pos_tk {E : En} {P : Pr} {H : Hp} {σ : L2.St} {s : S} {N : Ends} {i : Nat} {f : TF} {gm : D → List D → Option D} (st : Stt G.K E P H σ s) {t0 : Tk} (e0 : tkS s i = some t0) (hp : PoS G E P H (tkC i f fl gm s) N) {q r s0 h0 m0 : Addr} (hr : σ[i]? = some (some (.ref r))) (w0 : TkO G.K E.M H P r s0 h0 m0 t0) (hq : q = f.ad s0 h0 m0) (R : V → List V → Hp → Prop)
    (k : ∀ vs ds (P1 : Pr) H1 d n, ¬ P1 q → OwA G.K H1 P1 q d → DatL G.K H1 P1 vs ds → gm d ds = some n → (∀ t, d = f.get t → ∃ u, f.put t n = some u) →
      (∀ o, OwA G.K (upd H1 q o) P1 q n → N.nx σ (upd H1 q o)) → R (.ref q) vs H1) : Po G E P H σ s (fl s) (fun ds _ P' H' => ∀ vs, DatL G.K H' P' vs ds → R (.ref q) vs H') := by
  refine pos_e st hp fun ds s1 P1 H1 st1 gr1 h1 vs hv => ?_
  have h1 : PoS G E P1 H1 ((tkS s1 i).bind fun t => (gm (f.get t) ds).bind fun n => (f.put t n).map fun u => .nx (s1.set i (.tk u.D))) N := h1
  cases e1 : tkS s1 i with
  | none => rw [e1] at h1; exact h1.elim
  | some t1 =>
    rw [e1] at h1
    obtain ⟨_, r', s1', h1', m1', _, hr', w1⟩ := st1.tkOf e1
    rw [hr] at hr'; cases hr'
    obtain ⟨dx, bv, cv, ho, _⟩ := w0.ob
    obtain ⟨dx', bv', cv', ho', _⟩ := w1.ob
    have no : ¬ Owns σ s r := by
      rintro ⟨j, q1, x, q2, q3⟩
      have w := st.sl j x q2
      cases x with
      | un => cases q3
      | sh _ => cases q3
      | tk _ => cases q3
      | ow d' => obtain ⟨b, w1, _, _, w4⟩ := w; rw [q1] at w1; cases w1; exact w4.noIns ho
      | io d' => obtain ⟨b, w1, _, _, w4⟩ := w; rw [q1] at w1; cases w1; exact w4.noIns ho
    have ho2 := gr1.kp r _ ho no w0.na
    rw [ho2] at ho'
    have eq1 : q = f.ad s1' h1' m1' := by
      rw [hq]
      cases ho'
      rfl
    have wf := w1.of f
    rw [← eq1] at wf
    have h1 : PoS G E P1 H1 ((gm (f.get t1) ds).bind fun n => (f.put t1 n).map fun u => .nx (s1.set i (.tk u.D))) N := h1
    cases eg : gm (f.get t1) ds with
    | none => rw [eg] at h1; exact h1.elim
    | some n =>
      rw [eg] at h1
      have h1 : PoS G E P1 H1 ((f.put t1 n).map fun u => .nx (s1.set i (.tk u.D))) N := h1
      cases ep : f.put t1 n with
      | none => rw [ep] at h1; exact h1.elim
      | some u =>
        rw [ep] at h1
        refine k vs ds P1 H1 _ n (st1.mp _ wf.2) wf.1 hv eg (fun t et => ?_) fun o ow => ?_
        · revert ep et
          cases f <;> cases n <;> intro ep et <;> first | exact ⟨_, rfl⟩ | cases ep
        · obtain ⟨st2, gr2⟩ := mut_tk st1 e1 hr w1 eq1 ep ow
          exact h1 σ P1 _ st2 (gr2.pk st1)
theorem sTk_some {E : En} {P : Pr} {H : Hp} {s : S} {N : Ends} {i : Nat} {f : TF} {gm : D → List D → Option D} (hp : PoS G E P H (sTkMut i f fl gm s) N) : ∃ t, tkS s i = some t ∧ PoS G E P H (tkC i f fl gm s) N := by
  unfold sTkMut at hp
  split at hp
  · rename_i t e; exact ⟨t, e, hp⟩
  · exact hp.elim
theorem pe_tkf {X : Cx} (h : Cls G X) (i : Nat) (f : TF) (hN : G.N[i]? = some y) (hv : Vis G.sc y) (hd : (y == ("__debug__" : Str)) = false) (hcd : (y == ("__classdict__" : Str)) = false)
    (hb : attributeBase (.Name y py) f.nm X.env (eval (.Name y py) X.env) = eval (.Name y py) X.env) : PE X (.Attribute (.Name y py) f.nm pos) (tFld G.K (tVar i) f.nm) := by
  have q := pe_fld (f := f.nm) (pos := pos) (pe_var (X := X) (i := i) (pos := py) (by rw [h.N]; exact hN) (by rw [h.sc]; exact hv) hd hcd) hb
  rw [h.K] at q
  exact q
def isLF : TF → Bool
  | .mo => false
  | _ => true
/-- y.f.append(e) -/
theorem s_tkApp (i : Nat) (f : TF) {z : Str} {fp : Pos} (T : TalkC G.K) (hh1 : SE G e fa) (hf : isLF f = true := by rfl) (hz : z = f.nm := by rfl) (hN : G.N[i]? = some y := by rfl) (hv : Vis G.sc y := by first | exact Or.inl rfl | exact Or.inr (Or.inl rfl) | exact Or.inr (Or.inr rfl)) (hd : (y == ("__debug__" : Str)) = false := by decide) (hcd : (y == ("__classdict__" : Str)) = false := by decide)
    (hb0 : ∀ X : Cx, attributeBase (.Name y py) z X.env (eval (.Name y py) X.env) = eval (.Name y py) X.env := by intro _; rfl)
    (hbase : ∀ X : Cx, attributeBase (.Attribute (.Name y py) z fp) ("append" : Str) X.env (eval (.Attribute (.Name y py) z fp) X.env) = eval (.Attribute (.Name y py) z fp) X.env := by intro _; rfl) (hfew : ∀ X : Cx, ((backTo cpos (starEach [e] X.env)).all (fun x => !x.1) && (backToKw cpos (keywordEach [] X.env)).all (fun x => x.1.isSome)
      && decide (([e] : List Expr).length + ([] : List Keyword).length + (if ([] : List Keyword).isEmpty then 0 else 1) < 30)) = true := by intro _; rfl) (hline : (apos.endLine == cpos.line) = true := by rfl) (hs : ∀ X : Cx, starEach [e] X.env = [(false, eval e X.env)] := by intro _; rfl) (hsw : ∀ X : Cx, swapsWith (.Call (.Attribute (.Attribute (.Name y py) z fp) ("append" : Str) apos) [e] [] cpos) none pos.line X.env = pure false := by intro _; rfl) :
    SS G (.Expr (.Call (.Attribute (.Attribute (.Name y py) z fp) ("append" : Str) apos) [e] [] cpos) pos) (sTkMut i f (dCons fa dNil) gApp) := by
  subst hz
  obtain ⟨ta, pa, ha⟩ := a_cons (hs := hs) hh1 a_nil
  refine ⟨tDrop (tBM G.K "list" rAppend (tFld G.K (tVar i) f.nm) ta), fun X h => ps_expr ?_ (hsw X), fun E P H σ s N st hp => ?_⟩
  · have z := pe_bm (cpos := cpos) PySem.F.plainAttrs_list PySem.F.slot_list_append PySem.F.type_list_append (mt_append (X := X)) (pe_tkf (pos := fp) h i f hN hv hd hcd (hb0 X)) (pa X h) (hbase X) (hfew X) hline (hs X) rfl
    rw [h.K] at z
    exact z
  · obtain ⟨t, e0, hp⟩ := sTk_some hp
    have z := tk_fld T st e0 f (Q := fun x H1 => tyV G.K "list" x H1 ∧ ta σ H1 fun vs H2 => rAppend x vs H2 fun _ H3 => N.nx σ H3) fun r s0 h0 m0 hr w => ?_
    · exact z
    · have hq := w.of f
      have hl : ∃ l, f.get t = .list l := by
        cases f
        · exact ⟨_, rfl⟩
        · exact ⟨_, rfl⟩
        · cases hf
      obtain ⟨l, hl⟩ := hl
      refine ⟨tyV_own hq.1 hl, ha E P H σ s _ st (pos_tk st e0 hp hr w rfl (fun x vs H1 => rAppend x vs H1 fun _ H2 => N.nx σ H2) fun vs ds P1 H1 d n np ow dv eg _ kk => ?_)⟩
      exact r_app _ vs ds P1 H1 d n _ np ow dv eg fun o v wo => kk o wo
/-- y.f[k] = e -/
theorem s_tkPut (i : Nat) (f : TF) {z : Str} {fp : Pos} {k : Expr} {fk : De D} (T : TalkC G.K) (hh1 : SE G e fa) (hh2 : SE G k fk) (hz : z = f.nm := by rfl) (hN : G.N[i]? = some y := by rfl) (hv : Vis G.sc y := by first | exact Or.inl rfl | exact Or.inr (Or.inl rfl) | exact Or.inr (Or.inr rfl)) (hd : (y == ("__debug__" : Str)) = false := by decide) (hcd : (y == ("__classdict__" : Str)) = false := by decide)
    (hb0 : ∀ X : Cx, attributeBase (.Name y py) z X.env (eval (.Name y py) X.env) = eval (.Name y py) X.env := by intro _; rfl)
    (hs : ∀ X : Cx, swapsWith e (some (.Subscript (.Attribute (.Name y py) z fp) k tpos)) pos.line X.env = pure false := by intro _; rfl) :
    SS G (.Assign [.Subscript (.Attribute (.Name y py) z fp) k tpos] e pos) (sTkMut i f (dCons fa (dCons fk dNil)) gPut) := by
  subst hz
  revert hh1 hh2
  rintro ⟨te, pe, he⟩ ⟨tk, pk, hk⟩
  refine ⟨_, fun X h => ps_dput h.u1 (pe_tkf (pos := fp) h i f hN hv hd hcd (hb0 X)) (pk X h) (pe X h) (hs X), fun E P H σ s N st hp => ?_⟩
  obtain ⟨t, e0, hp⟩ := sTk_some hp
  obtain ⟨_, r, s0, h0, m0, _, hr, w⟩ := st.tkOf e0
  have hR := pos_tk st e0 hp hr w rfl (fun x vs H1 => ∃ v w, vs = [v, w] ∧ ∃ a H4, x = .ref a ∧ DPut H1 a w v H4 ∧ N.nx σ H4) fun vs ds P1 H1 d n np ow dv eg _ kk => by
    obtain ⟨d1, d2, rfl⟩ := gPut_two eg
    cases dv with
    | cons da db =>
      cases db with
      | cons dc dd =>
        cases dd
        obtain ⟨o, z1, z2⟩ := gPut_of np ow da dc eg
        exact ⟨_, _, rfl, _, _, rfl, z1, kk o z2⟩
  -- the talk's object stays at its place while the value and the key are reckoned
  obtain ⟨dx, bv, cv, ho, _⟩ := w.ob
  have no : ¬ Owns σ s r := by
    rintro ⟨j, q1, x, q2, q3⟩
    have w := st.sl j x q2
    cases x with
    | un => cases q3
    | sh _ => cases q3
    | tk _ => cases q3
    | ow d' => obtain ⟨b, w1, _, _, w4⟩ := w; rw [q1] at w1; cases w1; exact w4.noIns ho
    | io d' => obtain ⟨b, w1, _, _, w4⟩ := w; rw [q1] at w1; cases w1; exact w4.noIns ho
  refine he E P H σ s _ st (po_step hR fun d s1 P1 H1 ee st1 gr1 h1 v hv => ⟨_, hr, r, _, dx, _, _, rfl, gr1.kp r _ ho no w.na, T.cls, T.at f, Tk.fs_at _ _ _ _ _ f, ?_⟩)
  refine hk E P1 H1 σ s1 _ st1 (po_step (po_step (R1 := fun ds s2 P2 H2 => Po G E P2 H2 σ s2 (rtn (d :: ds) s2) _) h1 fun ds s2 P2 H2 ee2 st2 gr2 h2 => h2) fun d2 s2 P2 H2 ee2 st2 gr2 h2 w hw => ?_)
  obtain ⟨_, _, e1, hh⟩ := po_rtn (po_rtn h2 st2) st2 _ (.cons (hv.k (gr2.pk st1)) (.cons hw .nil))
  cases e1
  exact hh
end
end Od

namespace Od
open PySem PySem.Spec PyProof.Rows L2
/-! ### defs whose first argument is a talk that they change -/
def TkM (s h m : Addr) : Pr := fun b => b = s ∨ b = h ∨ b = m
structure BehK (K : PySem.W.Frag) (fs : FS) (M : Pr) (a : Addr) (P : Pr) (H : Hp) (d n : D) (v : V) (P' : Pr) (H' : Hp) : Prop where
  le : ∀ a, P a → P' a
  nw : ∀ a, P' a → P a ∨ H a = none
  pal : ∀ a, P' a → ∃ o, H' a = some o
  kp : ∀ a o, H a = some o → ¬ M a → H' a = some o
  ex : ∀ a, H' a = none → H a = none
  val : if fs.own = true then ∃ b, v = .ref b ∧ H b = none ∧ ¬ P' b ∧ OwA K H' P' b d else Dat K H' P' v d
  tk : TkAt K M H' P' a n
def spK (K : PySem.W.Frag) (mg : Str → Option Value) (fs : FS) : Sp := fun vs H Q E => vs.length = fs.n ∧ ∃ P a us s h m t ds, vs = .ref a :: us ∧ (∀ a, P a → ∃ o, H a = some o) ∧ TkO K (TkM s h m) H P a s h m t ∧ (∀ b, TkM s h m b → ¬ P b) ∧ DatL K H P us ds ∧
  match fs.f (t.D :: ds) with
  | none => False
  | some (.ex c) => ∀ H', (∀ a o, H a = some o → ¬ TkM s h m a → H' a = some o) → ∃ C, mg c = some (.ref C) ∧ E (.ref C) none H'
  | some (.ret d n) => ∀ v P' H', BehK K fs (TkM s h m) a P H d n v P' H' → Q v H'
/-- the def of this name, the talk's method of this name keeps this promise -/
structure DefK (P : Program) (w : World) (K : PySem.W.Frag) (mg : Str → Option Value) (base : Heap) (k : Nat) (x : Str) (fs : FS) : Prop where
  ex : ∃ f fd ps, mg x = some (.ref f) ∧ PySem.W.keepIn K (.ref f) = true ∧ Binds K fd ps [] ∧ ps.length = fs.n ∧ FnG P w K mg base k f fd ps (spK K mg fs)
structure DefM (P : Program) (w : World) (K : PySem.W.Frag) (mg : Str → Option Value) (base : Heap) (k : Nat) (x : Str) (fs : FS) : Prop where
  ex : ∃ f fd ps, Meth K (He.ga K "Talk") x f ∧ Binds K fd ps [] ∧ ps.length = fs.n ∧ FnG P w K mg base k f fd ps (spK K mg fs)
theorem DefK.mono {P : Program} {w : World} {K : PySem.W.Frag} {mg : Str → Option Value} {base : Heap} {j k : Nat} {x : Str} {fs : FS} (F : DefK P w K mg base j x fs) (h : j ≤ k) : DefK P w K mg base k x fs := by
  obtain ⟨f, fd, ps, a, b, c, d, e⟩ := F.ex
  exact ⟨f, fd, ps, a, b, c, d, e.mono h⟩
theorem DefM.mono {P : Program} {w : World} {K : PySem.W.Frag} {mg : Str → Option Value} {base : Heap} {j k : Nat} {x : Str} {fs : FS} (F : DefM P w K mg base j x fs) (h : j ≤ k) : DefM P w K mg base k x fs := by
  obtain ⟨f, fd, ps, a, c, d, e⟩ := F.ex
  exact ⟨f, fd, ps, a, c, d, e.mono h⟩
section
variable {X : Cx} {k : Nat} {f C : Addr} {fd : FuncData} {ps : List Str} {sp : Sp} {E : XK} {x m : Str} {p pos apos : Pos} {o e : Expr} {es : List Expr} {ta : TE} {t : TA}
/-- o.m(e, ..) where no guard stands around -/
def tMethG (C : Addr) (m : Str) (sp : Sp) (E : XK) (ta : TE) (t : TA) : TE := fun σ H Q => ta σ H fun x H1 => ∃ a dx fs, x = .ref a ∧ H1 a = some (.ins C dx fs) ∧ fs.lookup m = none ∧ t σ H1 fun vs H2 => sp (x :: vs) H2 Q E
theorem pe_methG {pl : Sem Bool} (he : PE X o ta) (c : L2.Cls X.K C) (hm : Meth X.K C m f) (F : FnG X.prog X.w X.K X.mg X.base k f fd ps sp) (hr : Room k X.A) (hgd : X.A.guards = some []) (hb : Binds X.K fd ps []) (hx : Passes (L2.CX X.prog X.w) X E) (ha : PA X (e :: es) t)
    (hst : starEach (e :: es) X.env = (false, eval e X.env) :: starEach es X.env) (hpl : (backTo pos (starEach es X.env)).any (·.1) = false)
    (ht : eval (.Call (.Attribute o m apos) (e :: es) [] pos) X.env = (do
      let ov ← eval o X.env
      standAt apos.atName
      let (f, first) ← holding [ov] (getMethod ov m pl)
      callWith pos f first (backTo pos (starEach (e :: es) X.env)) (backToKw pos (keywordEach [] X.env)))) :
    PE X (.Call (.Attribute o m apos) (e :: es) [] pos) (tMethG C m sp E ta t) := by
  refine ⟨fun pins s σ H Q I h => ?_⟩
  refine PySem.W.methodCall_KW (pl := pl) (thn (he.run pins s σ H _ I h) fun u s1 ⟨x, H1, I1, rx, a, dx, fs, ex, ea, l, q⟩ => ?_) ht
  subst ex
  obtain rfl : u = Value.ref a := rx
  refine getmeth_ok I1 ea c hm l ?_
  refine PySem.W.callWith_K (first := [.ref a]) (h₀ := X.base) I.ok.mod.kin hm.kp (thn (ha.run pos pins s1 σ H1 _ I1 q) fun us s2 ⟨vs, H2, I2, r, q2⟩ => ⟨I2.kIn, ?_⟩) hst hpl
  exact run_g (us := .ref a :: us) (vs := .ref a :: vs) F hr hgd hb hx I2 (.cons rfl r) q2
end
section
variable {G : Gam} {a b c e : Expr} {es : List Expr} {fa fb fc : De D} {fs : FS} {fl : De (List D)} {pos p py ap : Pos} {x y : Str}
/-- f(y, ..), y a talk -/
def dFnK (fs : FS) (i : Nat) (fl : De (List D)) : De D := fun s0 =>
  match tkS s0 i with
  | none => none
  | some _ => (bnd fl fun ds s => if ds.length + 1 = fs.n then
    match tkS s i with
    | some t => (match fs.f (t.D :: ds) with
      | some (.ret d n) => some (.ok d (s.set i (.tk n)))
      | some (.ex c) => some (.ex c)
      | none => none)
    | none => none
  else none) s0
theorem te_fnK {i : Nat} {ta : TA} (ha : TAok G ta fl) {E : En} {P : Pr} {H : Hp} {σ : L2.St} {s : S} {Q : VK} {R : D → S → Pr → Hp → Prop} (st : Stt G.K E P H σ s) (h : Po G E P H σ s (dFnK fs i fl s) R)
    (k : ∀ M a s1 P1 H1 d n v P' H', Gr E σ s s1 P H P1 H1 → R d (s1.set i (.tk n)) P' H' → BehK G.K fs M a P1 H1 d n v P' H' → Q v H') :
    ∃ r, σ[i]? = some (some (.ref r)) ∧ (∃ dx bv cv s0 h0 m0, H r = some (.ins (He.ga G.K "Talk") dx (Tk.fs bv cv s0 h0 m0))) ∧ ta σ H fun vs H2 => spK G.K G.mg fs (.ref r :: vs) H2 Q G.E := by
  unfold dFnK at h
  cases e0 : tkS s i with
  | none => rw [e0] at h; exact h.elim
  | some d0 =>
    rw [e0] at h
    obtain ⟨_, r, sa, ha0, ma, _, hr, w0⟩ := st.tkOf e0
    obtain ⟨dx, bv, cv, ho, _⟩ := w0.ob
    refine ⟨r, hr, ⟨dx, bv, cv, sa, ha0, ma, ho⟩, ha E P H σ s _ st (po_step h fun ds s1 P1 H1 ee st1 gr1 h1 vs hv => ?_)⟩
    split at h1
    · rename_i hl
      cases e1 : tkS s1 i with
      | none => rw [e1] at h1; exact h1.elim
      | some t1 =>
        rw [e1] at h1
        obtain ⟨hs1, r', s2, h2, m2, tm, hr', w1⟩ := st1.tkOf e1
        rw [hr] at hr'; cases hr'
        have mE : ∀ b, TkM s2 h2 m2 b → E.M b := fun b z => by
          rcases z with z | z | z
          · rw [z]; exact w1.ms
          · rw [z]; exact w1.mh
          · rw [z]; exact w1.mm
        have w2 : TkO G.K (TkM s2 h2 m2) H1 P1 r s2 h2 m2 t1 := ⟨w1.ob, fun z => w1.na (mE _ z), .inl rfl, .inr (.inl rfl), .inr (.inr rfl), w1.sh, w1.sm, w1.hm, w1.os, w1.oh, w1.om⟩
        refine ⟨by rw [List.length_cons, hv.len]; exact hl, P1, r, vs, s2, h2, m2, t1, ds, rfl, st1.pal, w2, fun b z => st1.mp b (mE b z), hv, ?_⟩
        dsimp only at h1
        cases ef : fs.f (t1.D :: ds) with
        | none => rw [ef] at h1; exact h1.elim
        | some rr =>
          rw [ef] at h1
          cases rr with
          | ex c => exact fun H' q => h1 H' fun a o z m => q a o (st1.kp a o z m) fun w => m (mE a w)
          | ret d n =>
            intro v P' H' be
            obtain ⟨s3, h3, m3, t3, et, w3⟩ := be.tk
            have w4 : TkAt G.K E.M H' P' r n := ⟨s3, h3, m3, t3, et, ⟨w3.ob, w1.na, mE _ w3.ms, mE _ w3.mh, mE _ w3.mm, w3.sh, w3.sm, w3.hm, w3.os, w3.oh, w3.om⟩⟩
            obtain ⟨st', gr'⟩ := st1.mutK e1 hr be.le be.nw be.pal (fun b o z nm => be.kp b o z fun w => nm (mE b w)) be.ex w4
            exact k _ r s1 P1 H1 d n v P' H' gr1 (h1 P' H' st' gr') be
    · exact h1.elim
theorem e_fnK (i : Nat) (F : DefK G.P G.w G.K G.mg G.base G.k x fs) (ho : fs.own = false) (hh1 : SA G es fl) (hN : G.N[i]? = some y := by rfl) (hv : Vis G.sc y := by first | exact Or.inl rfl | exact Or.inr (Or.inl rfl) | exact Or.inr (Or.inr rfl)) (hg : G.sc.names.lookup x = some .globalImplicit := by rfl) (hdb : (x == ("__debug__" : Str)) = false := by decide) (hd : (y == ("__debug__" : Str)) = false := by decide) (hcd : (y == ("__classdict__" : Str)) = false := by decide) (he : ∀ X : Cx, starEach (.Name y py :: es) X.env = (false, eval (.Name y py) X.env) :: starEach es X.env := by intro _; rfl) (hpl : ∀ X : Cx, (backTo pos (starEach es X.env)).any (·.1) = false := by intro _; rfl) :
    SE G (.Call (.Name x p) (.Name y py :: es) [] pos) (dFnK fs i fl) := by
  revert hh1
  rintro ⟨ta, pa, ha⟩
  obtain ⟨f, fd, ps, h1, h2, h3, h4, h5⟩ := F.ex
  refine ⟨fun σ H Q => (tVar i σ H fun v H1 => ta σ H1 fun vs H2 => spK G.K G.mg fs (v :: vs) H2 Q G.E), fun X h => ?_, fun E P H σ s Q st hp => ?_⟩
  · refine pe_g (f := f) (fd := fd) (ps := ps) (k := G.k) (sp := spK G.K G.mg fs) ?_ h.rm h.gd (h.gl hg) (by rw [h.mg]; exact h1) (by rw [h.K]; exact h2) (by rw [h.K]; exact h3) h.pass (pa_fnI h hN hv hd hcd (he X) (pa X h)) hdb (he X) (hpl X)
    rw [h.prog, h.w, h.K, h.mg, h.base]
    exact h5
  · obtain ⟨r, hr, _, z⟩ := te_fnK ha st hp fun M a s1 P1 H1 d n v P' H' gr r be => r v (by
      have z := be.val
      rw [ho, if_neg (by decide)] at z
      exact z)
    exact ⟨_, hr, z⟩
/-- y.m(..), y a talk -/
theorem e_mK (i : Nat) {m : Str} {pl : Cx → Sem Bool} (T : TalkC G.K) (F : DefM G.P G.w G.K G.mg G.base G.k m fs) (ho : fs.own = false) (hh1 : SA G (e :: es) fl) (hN : G.N[i]? = some y := by rfl) (hv : Vis G.sc y := by first | exact Or.inl rfl | exact Or.inr (Or.inl rfl) | exact Or.inr (Or.inr rfl)) (hd : (y == ("__debug__" : Str)) = false := by decide) (hcd : (y == ("__classdict__" : Str)) = false := by decide) (hfl : ∀ bv cv s h m0, (Tk.fs bv cv s h m0).lookup m = none := by intro _ _ _ _ _; rfl) (he : ∀ X : Cx, starEach (e :: es) X.env = (false, eval e X.env) :: starEach es X.env := by intro _; rfl) (hpl : ∀ X : Cx, (backTo pos (starEach es X.env)).any (·.1) = false := by intro _; rfl)
    (ht : ∀ X : Cx, eval (.Call (.Attribute (.Name y py) m ap) (e :: es) [] pos) X.env = (do
      let ov ← eval (.Name y py) X.env
      standAt ap.atName
      let (f, first) ← holding [ov] (getMethod ov m (pl X))
      callWith pos f first (backTo pos (starEach (e :: es) X.env)) (backToKw pos (keywordEach [] X.env))) := by intro _; rfl) :
    SE G (.Call (.Attribute (.Name y py) m ap) (e :: es) [] pos) (dFnK fs i fl) := by
  revert hh1
  rintro ⟨ta, pa, ha⟩
  obtain ⟨f, fd, ps, h1, h3, h4, h5⟩ := F.ex
  refine ⟨tMethG (He.ga G.K "Talk") m (spK G.K G.mg fs) G.E (tVar i) ta, fun X h => ?_, fun E P H σ s Q st hp => ?_⟩
  · refine pe_methG (pl := pl X) (f := f) (fd := fd) (ps := ps) (k := G.k) (sp := spK G.K G.mg fs) (pe_var (i := i) (by rw [h.N]; exact hN) (by rw [h.sc]; exact hv) hd hcd) (by rw [h.K]; exact T.cls) (by rw [h.K]; exact h1) ?_ h.rm h.gd (by rw [h.K]; exact h3) h.pass (pa X h) (he X) (hpl X) (ht X)
    rw [h.prog, h.w, h.K, h.mg, h.base]
    exact h5
  · obtain ⟨r, hr, ⟨dx, bv, cv, s0, h0, m0, ho'⟩, z⟩ := te_fnK ha st hp fun M a s1 P1 H1 d n v P' H' gr r be => r v (by
      have z := be.val
      rw [ho, if_neg (by decide)] at z
      exact z)
    exact ⟨_, hr, r, dx, _, rfl, ho', hfl _ _ _ _ _, z⟩
end
/-! ### such a def by its body -/
def startK (n : Nat) (ds : List D) : S :=
  match ds with
  | d :: r => .tk d :: (r.map .sh ++ List.replicate (n - ds.length) .un)
  | [] => []
def runsK (own : Bool) (n : Nat) (g : DeS) (ds : List D) : Option FR :=
  match g (startK n ds) with
  | some (.rt d s') => (match (s'[0]? : Option Sl) with
    | some (.tk m) => some (.ret d m)
    | _ => none)
  | some (.nx s') => (match own with
    | true => none
    | false => (match (s'[0]? : Option Sl) with
      | some (.tk m) => some (.ret .none m)
      | _ => none))
  | some (.ex c) => some (.ex c)
  | _ => none
theorem stt_startK {K : PySem.W.Frag} {H : Hp} {P : Pr} {N : List Str} {a s h m : Addr} {us : List V} {t : Tk} {ds : List D} (pal : ∀ a, P a → ∃ o, H a = some o) (w : TkO K (TkM s h m) H P a s h m t) (np : ∀ b, TkM s h m b → ¬ P b) (hv : DatL K H P us ds) (hn : ds.length + 1 ≤ N.length) :
    Stt K ⟨H, TkM s h m, P, some a⟩ P H (L2.start N (.ref a :: us)) (startK N.length (t.D :: ds)) := by
  have e : startK N.length (t.D :: ds) = .tk t.D :: (ds.map .sh ++ List.replicate (N.length - (t.D :: ds).length) .un) := rfl
  rw [e]
  have at0 : (L2.start N (V.ref a :: us))[0]? = some (some (.ref a)) := start_at rfl
  have own0 : ∀ i b, ¬ Own (L2.start N (V.ref a :: us)) (.tk t.D :: (ds.map Sl.sh ++ List.replicate (N.length - (t.D :: ds).length) Sl.un)) i b := by
    rintro i b ⟨_, x, h2, h3⟩
    cases i with
    | zero => cases h2; cases h3
    | succ i =>
      rw [List.getElem?_cons_succ] at h2
      rcases shs_at hv h2 with z | ⟨d, v, z, _⟩
      · subst z; cases h3
      · subst z; cases h3
  have mH : ∀ b, TkM s h m b → ∃ o, H b = some o := fun b z => by
    rcases z with z | z | z
    · rw [z]; exact w.os.ex
    · rw [z]; exact w.oh.ex
    · rw [z]; exact w.om.ex
  refine ⟨?_, fun i x hx => ?_, fun i j b o1 _ => (own0 i b o1).elim, fun _ z => z, fun _ z => .inl z, pal, fun _ _ z _ => z, mH, np, mH, fun i j d e h1 h2 => ?_⟩
  · rw [start_len (by rw [List.length_cons, hv.len]; exact hn), List.length_cons, List.length_append, List.length_map, List.length_replicate, List.length_cons]
    omega
  · cases i with
    | zero =>
      cases hx
      exact ⟨a, rfl, at0, s, h, m, t, rfl, w⟩
    | succ i =>
      rw [List.getElem?_cons_succ] at hx
      rcases shs_at hv hx with z | ⟨d, v, z, h1, h2⟩
      · subst z; trivial
      · subst z
        exact ⟨v, start_at (by rw [List.getElem?_cons_succ]; exact h1), h2⟩
  · have z : ∀ i d, (Sl.tk t.D :: (ds.map Sl.sh ++ List.replicate (N.length - (t.D :: ds).length) Sl.un))[i]? = some (.tk d) → i = 0 := by
      intro i d hi
      cases i with
      | zero => rfl
      | succ i =>
        rw [List.getElem?_cons_succ] at hi
        rcases shs_at hv hi with z | ⟨_, _, z, _⟩ <;> cases z
    rw [z i d h1, z j e h2]
section
variable {P : Program} {w : World} {K : PySem.W.Frag} {mg : Str → Option Value} {base : Heap} {N ps : List Str} {k : Nat}
theorem def_ofK {fs : FS} {x qual : Str} {params : Arguments} {body : List Stmt} {scope : Scope} {kws : List (Str × V)} {f : Addr} {fd : FuncData} {g : DeS} (F : FunD K x qual params body scope [] kws f fd) (Sc : FnScope N ps scope) (hps : ps.length = fs.n) (hN : fs.n ≤ N.length)
    (hb : ∀ E : XK, SB (gam P w K mg base N scope k fs.own E) body g)
    (hr : ∀ ds r, ds.length = fs.n → fs.f ds = some r → runsK fs.own N.length g ds = some r) : FnG P w K mg base (k + 1) f fd ps (spK K mg fs) := by
  obtain ⟨oc, od, dV, kV, doc, pm, an, cdv, ct, osl, rfl, lk, hcd, _, _⟩ := F.ex
  refine fng_of lk hcd Sc (fun vs H Q E h => h.1.trans hps.symm) fun A outer s H vs Q E rm gd want => ?_
  obtain ⟨hlen, Pa, a, us, s0, h0, m0, t0, ds, rfl, pal, w0, np, hv, hw⟩ := want
  obtain ⟨t, pt, ht⟩ := hb E
  refine ⟨t, pt _ (cls_body Sc.nd rm gd), ?_⟩
  have hl1 : ds.length + 1 = fs.n := by rw [← hv.len]; exact hlen
  have st := stt_startK (N := N) pal w0 np hv (by omega)
  refine ht ⟨H, TkM s0 h0 m0, Pa, some a⟩ Pa H _ _ _ st ?_
  cases ef : fs.f (t0.D :: ds) with
  | none => rw [ef] at hw; exact hw.elim
  | some r =>
    rw [ef] at hw
    have hrun := hr (t0.D :: ds) r hl1 ef
    have fin : ∀ {d m : D} {v : V} {σ' : L2.St} {P' : Pr} {H' : Hp} {s' : S}, r = .ret d m → Stt K ⟨H, TkM s0 h0 m0, Pa, some a⟩ P' H' σ' s' →
        (if fs.own = true then ∃ b, v = .ref b ∧ H b = none ∧ ¬ P' b ∧ OwA K H' P' b d else Dat K H' P' v d) → s'[0]? = some (.tk m) → Q v H' := by
      intro d m v σ' P' H' s' er st' hv hi
      subst er
      obtain ⟨b, eb, h1, h2⟩ := st'.sl 0 _ hi
      cases eb
      exact hw v P' H' ⟨st'.pg, fun a z => st'.pn a z, st'.pal, fun a o z q => st'.kp a o z q, fun a z => st'.h0 z, hv, h2⟩
    unfold runsK at hrun
    cases eg : g (startK N.length (t0.D :: ds)) with
    | none => rw [eg] at hrun; cases hrun
    | some o =>
      rw [eg] at hrun
      cases o with
      | bk s' => cases hrun
      | ct s' => cases hrun
      | ex c =>
        cases hrun
        exact fun H' q => hw H' fun a o z m => q a o z m
      | rt d s' =>
        intro v σ' P' H' st' hv
        dsimp only at hrun
        split at hrun
        · rename_i m e0
          cases hrun
          exact fin rfl st' hv e0
        · cases hrun
      | nx s' =>
        intro σ' P' H' st' pk
        have hown : fs.own = false := by
          cases e : fs.own with
          | false => rfl
          | true => rw [e] at hrun; cases hrun
        rw [hown] at hrun
        dsimp only at hrun
        have hv : if fs.own = true then ∃ b, V.non = .ref b ∧ H b = none ∧ ¬ P' b ∧ OwA K H' P' b .none else Dat K H' P' V.non .none := by
          rw [hown, if_neg (by decide)]
          exact .non
        split at hrun
        · rename_i m e0
          cases hrun
          exact fin rfl st' hv e0
        · cases hrun
theorem defK_of {fs : FS} {x qual : Str} {params : Arguments} {body : List Stmt} {scope : Scope} {kws : List (Str × V)} {f : Addr} {fd : FuncData} {g : DeS} (hm : mg x = some (.ref f)) (F : FunD K x qual params body scope [] kws f fd) (hb0 : Binds K fd ps []) (Sc : FnScope N ps scope) (hps : ps.length = fs.n) (hN : fs.n ≤ N.length)
    (hb : ∀ E : XK, SB (gam P w K mg base N scope k fs.own E) body g)
    (hr : ∀ ds r, ds.length = fs.n → fs.f ds = some r → runsK fs.own N.length g ds = some r) : DefK P w K mg base (k + 1) x fs :=
  ⟨f, fd, ps, hm, F.kp, hb0, hps, def_ofK F Sc hps hN hb hr⟩
theorem defM_of {fs : FS} {x qual : Str} {params : Arguments} {body : List Stmt} {scope : Scope} {kws : List (Str × V)} {f : Addr} {fd : FuncData} {g : DeS} (hm : Meth K (He.ga K "Talk") x f) (F : FunD K x qual params body scope [] kws f fd) (hb0 : Binds K fd ps []) (Sc : FnScope N ps scope) (hps : ps.length = fs.n) (hN : fs.n ≤ N.length)
    (hb : ∀ E : XK, SB (gam P w K mg base N scope k fs.own E) body g)
    (hr : ∀ ds r, ds.length = fs.n → fs.f ds = some r → runsK fs.own N.length g ds = some r) : DefM P w K mg base (k + 1) x fs :=
  ⟨f, fd, ps, hm, hb0, hps, def_ofK F Sc hps hN hb hr⟩
end
end Od

namespace Od
open PySem PySem.Spec PyProof.Rows L2
/-! ### a talk, made -/
def spInit (K : PySem.W.Frag) : Sp := fun vs H Q _ => ∃ x dx b c, vs = [.ref x, b, c] ∧ H x = some (.ins (He.ga K "Talk") dx []) ∧
  ∀ s h m H', s ≠ h → s ≠ m → h ≠ m → s ≠ x → h ≠ x → m ≠ x → H s = none → H h = none → H m = none → H' x = some (.ins (He.ga K "Talk") dx (Tk.fs b c s h m)) → H' s = some (.lst [.int 0]) → H' h = some (.lst []) → H' m = some (.dK []) →
    (∀ z, z ≠ x → z ≠ s → z ≠ h → z ≠ m → H' z = H z) → Q .non H'
theorem lenp {f : Str} {y : V} {fs : List (Str × V)} {n : Nat} (h : fs.length ≤ n) : (putF f y fs).length ≤ n + 1 := by
  have := length_putF f y fs
  omega
theorem init_of {P : Program} {w : World} {K : PySem.W.Frag} {mg : Str → Option Value} {base : Heap} {x qual : Str} {params : Arguments} {body : List Stmt} {scope : Scope} {kws : List (Str × V)} {f : Addr} {fd : FuncData}
    {p1 p2 p3 p4 p5 p6 p7 p8 q1 q2 q3 q4 q5 q6 q7 q8 q9 r1 r2 r3 r4 : Pos} {j0 : Nat}
    (T : TalkC K) (F : FunD K x qual params body scope [] kws f fd) (Sc : FnScope ["self", "book", "checks"] ["self", "book", "checks"] scope)
    (eb : body = [.Assign [.Attribute (.Name "self" p1) "book" p2] (.Name "book" p3) p4, .Assign [.Attribute (.Name "self" p5) "checks" p6] (.Name "checks" p7) p8,
      .Assign [.Attribute (.Name "self" q1) "states" q2] (.List [.Constant (.int 0) j0 q3] q4) q5, .Assign [.Attribute (.Name "self" q6) "happened" q7] (.List [] q8) q9, .Assign [.Attribute (.Name "self" r1) "moments" r2] (.Dict [] [] r3) r4])
    (v1 : Vis scope "self") (v2 : Vis scope "book") (v3 : Vis scope "checks") : FnOk P w K mg base (L2.CX P w) 1 f fd ["self", "book", "checks"] (spInit K) := by
  subst eb
  obtain ⟨oc, od, dV, kV, doc, pm, an, cdv, ct, osl, rfl, lk, hcd, _, _⟩ := F.ex
  refine fn_of lk hcd Sc (fun vs H Q E h => by obtain ⟨x, dx, b, c, rfl, _⟩ := h; rfl) fun A outer s H vs Q E rm want => ?_
  obtain ⟨x, dx, b, c, rfl, hx, k⟩ := want
  refine ⟨_, pss_cons (ps_fld (pe_var (i := 0) rfl v1) (pe_var (i := 1) rfl v2) rfl) (pss_cons (ps_fld (pe_var (i := 0) rfl v1) (pe_var (i := 2) rfl v3) rfl)
    (pss_cons (ps_fld (pe_var (i := 0) rfl v1) (pe_lst (pa_cons pe_int pa_nil rfl)) rfl) (pss_cons (ps_fld (pe_var (i := 0) rfl v1) (pe_lst pa_nil) rfl) (pss_cons (ps_fld (pe_var (i := 0) rfl v1) pe_dnewK rfl) pss_nil)))), ?_⟩
  have n1 : ∀ {y : Addr}, H y = none → y ≠ x := fun e z => by subst z; rw [hx] at e; cases e
  refine ⟨b, rfl, .ref x, rfl, x, _, dx, [], rfl, hx, T.cls, T.bk, by decide, ?_⟩
  refine ⟨c, rfl, .ref x, rfl, x, _, dx, _, rfl, upd_same, T.cls, T.ck, Nat.lt_of_le_of_lt (lenp (fs := []) (n := 0) (Nat.le_refl 0)) (by decide), ?_⟩
  refine ⟨by decide, fun s1 hs1 => ?_⟩
  have s1x : s1 ≠ x := fun z => by subst z; rw [upd_same] at hs1; cases hs1
  have hs1' : H s1 = none := by rw [upd_ne s1x, upd_ne s1x] at hs1; exact hs1
  refine ⟨.ref x, rfl, x, _, dx, _, rfl, by rw [upd_ne s1x.symm, upd_same], T.cls, T.st, Nat.lt_of_le_of_lt (lenp (lenp (fs := []) (n := 0) (Nat.le_refl 0))) (by decide), ?_⟩
  refine ⟨by decide, fun h1 hh1 => ?_⟩
  have h1x : h1 ≠ x := fun z => by subst z; rw [upd_same] at hh1; cases hh1
  have h1s : h1 ≠ s1 := fun z => by subst z; rw [upd_ne h1x, upd_same] at hh1; cases hh1
  have hh1' : H h1 = none := by rw [upd_ne h1x, upd_ne h1s, upd_ne h1x, upd_ne h1x] at hh1; exact hh1
  refine ⟨.ref x, rfl, x, _, dx, _, rfl, by rw [upd_ne h1x.symm, upd_same], T.cls, T.ha, Nat.lt_of_le_of_lt (lenp (lenp (lenp (fs := []) (n := 0) (Nat.le_refl 0)))) (by decide), ?_⟩
  intro m1 hm1
  have m1x : m1 ≠ x := fun z => by subst z; rw [upd_same] at hm1; cases hm1
  have m1h : m1 ≠ h1 := fun z => by subst z; rw [upd_ne m1x, upd_same] at hm1; cases hm1
  have m1s : m1 ≠ s1 := fun z => by subst z; rw [upd_ne m1x, upd_ne m1h, upd_ne m1x, upd_same] at hm1; cases hm1
  have hm1' : H m1 = none := by rw [upd_ne m1x, upd_ne m1h, upd_ne m1x, upd_ne m1s, upd_ne m1x, upd_ne m1x] at hm1; exact hm1
  refine ⟨.ref x, rfl, x, _, dx, _, rfl, by rw [upd_ne m1x.symm, upd_same], T.cls, T.mo, Nat.lt_of_le_of_lt (lenp (lenp (lenp (lenp (fs := []) (n := 0) (Nat.le_refl 0))))) (by decide), ?_⟩
  refine k s1 h1 m1 _ h1s.symm m1s.symm m1h.symm s1x h1x m1x hs1' hh1' hm1' ?_ ?_ ?_ ?_ ?_
  · rw [upd_same]; rfl
  · rw [upd_ne s1x, upd_ne m1s.symm, upd_ne s1x, upd_ne h1s.symm, upd_ne s1x, upd_same]
  · rw [upd_ne h1x, upd_ne m1h.symm, upd_ne h1x, upd_same]
  · rw [upd_ne m1x, upd_same]
  · intro z z1 z2 z3 z4
    rw [upd_ne z1, upd_ne z4, upd_ne z1, upd_ne z3, upd_ne z1, upd_ne z2, upd_ne z1, upd_ne z1]
end Od

namespace Od
open PySem PySem.Spec PyProof.Rows L2
structure MkT (P : Program) (w : World) (K : PySem.W.Frag) (mg : Str → Option Value) (base : Heap) (k : Nat) : Prop where
  ex : ∃ f fd ps j, j + 1 ≤ k ∧ mg ("Talk" : Str) = some (.ref (He.ga K "Talk")) ∧ Mk K (He.ga K "Talk") f ∧ Binds K fd ps [] ∧ FnOk P w K mg base (L2.CX P w) j f fd ps (spInit K)
theorem MkT.mono {P : Program} {w : World} {K : PySem.W.Frag} {mg : Str → Option Value} {base : Heap} {j k : Nat} (F : MkT P w K mg base j) (h : j ≤ k) : MkT P w K mg base k := by
  obtain ⟨f, fd, ps, i, a, b⟩ := F.ex
  exact ⟨f, fd, ps, i, Nat.le_trans a h, b⟩
def quiet (s : S) : Bool := s.all fun x => match x with
  | .un => true
  | .sh _ => true
  | _ => false
def Tk.new (b c : PyData) : Tk := ⟨b, c, [.int 0], [], []⟩
/-- y = Talk(b, c), and what follows it to the body's end -/
def sTalk (i : Nat) (fl : De (List D)) (g : DeS) : DeS := sE fl fun ds s => match ds with
  | [b, c] => if quiet s then (match g (s.set i (.tk (Tk.new b c).D)) with
    | some (.nx s') => (match (s'[i]? : Option Sl) with
      | some (.tk _) => some (.nx (s'.set i .un))
      | _ => none)
    | some (.rt d s') => (match (s'[i]? : Option Sl) with
      | some (.tk _) => some (.rt d (s'.set i .un))
      | _ => none)
    | some (.ex x) => some (.ex x)
    | _ => none) else none
  | _ => none
theorem quiet_at {s : S} (h : quiet s = true) {i : Nat} {x : Sl} (e : s[i]? = some x) : x = .un ∨ ∃ d, x = .sh d := by
  unfold quiet at h
  have z := List.all_eq_true.mp h x (List.mem_of_getElem? e)
  cases x <;> first | (cases z; done) | skip
  · exact .inl rfl
  · exact .inr ⟨_, rfl⟩
section
variable {K : PySem.W.Frag} {E : En} {P P' : Pr} {H H2 H' : Hp} {σ σ' : L2.St} {s s' : S} {a s0 h0 m0 : Addr} {i : Nat}
/-- back from a talk's time -/
theorem Stt.back (st : Stt K E P H σ s) (e1 : ∀ b o, H b = some o → H2 b = some o ∧ ¬ TkM s0 h0 m0 b) (st' : Stt K ⟨H2, TkM s0 h0 m0, P, some a⟩ P' H' σ' s') {d : D} (hi : s'[i]? = some (.tk d)) : Stt K E P' H' σ' (s'.set i .un) := by
  have n0 : ∀ b, H2 b = none → E.H0 b = none := fun b z => st.h0 (by
    cases q : H b with
    | none => rfl
    | some o => rw [(e1 b o q).1] at z; cases z)
  have own : ∀ j b, Own σ' (s'.set i .un) j b → Own σ' s' j b := by
    rintro j b ⟨h1, x, h2, h3⟩
    rcases getset h2 with ⟨z, q⟩ | ⟨z, q⟩
    · subst q; cases h3
    · exact ⟨h1, x, q, h3⟩
  have kp : ∀ b o, E.H0 b = some o → ¬ E.M b → H' b = some o := fun b o z m => by
    obtain ⟨q1, q2⟩ := e1 b o (st.kp b o z m)
    exact st'.kp b o q1 q2
  refine ⟨by rw [List.length_set]; exact st'.len, fun j x hj => ?_, fun j k b o1 o2 => st'.dj j k b (own _ _ o1) (own _ _ o2), fun b z => st'.pg b (st.pg b z), fun b z => ?_, st'.pal, kp, fun b m => ?_, fun b m z => ?_, st.m0, st'.tk.set rfl⟩
  · rcases getset hj with ⟨z, q⟩ | ⟨z, q⟩
    · subst q; trivial
    · have w := st'.sl j x q
      cases x with
      | un => trivial
      | sh d' => exact w
      | ow d' =>
        obtain ⟨b, w1, w2, w3, w4⟩ := w
        exact ⟨b, w1, w2, n0 b w3, w4⟩
      | io d' =>
        obtain ⟨b, w1, w2, w3, w4⟩ := w
        exact (nomatch w3.2)
      | tk d' => exact (z (st'.tk j i d' d q hi)).elim
  · rcases st'.pn b z with q | q
    · exact st.pn b q
    · exact .inr (n0 b q)
  · obtain ⟨o, z⟩ := st.mx b m
    obtain ⟨q1, q2⟩ := e1 b o z
    exact ⟨o, st'.kp b o q1 q2⟩
  · rcases st'.pn b z with q | q
    · exact st.mp b m q
    · have q2 := n0 b q
      obtain ⟨o, z⟩ := st.m0 b m
      rw [q2] at z; cases z
end
section
variable {G : Gam} {e1 e2 : Expr} {rest : List Stmt} {fl : De (List D)} {pos p py : Pos} {y : Str} {g : DeS}
theorem b_talk (i : Nat) (M : MkT G.P G.w G.K G.mg G.base G.k) (hh1 : SA G [e1, e2] fl) (hh2 : SB G rest g) (hN : G.N[i]? = some y := by rfl) (hl : Loc G.sc y := by first | exact Or.inl rfl | exact Or.inr rfl) (hf : G.fn y = true ∨ G.sc.names.lookup y = some .local := by first | exact Or.inl rfl | exact Or.inr rfl)
    (hg : G.sc.names.lookup ("Talk" : Str) = some .globalImplicit := by rfl)
    (hs : ∀ X : Cx, Cls G X → swapsWith (.Call (.Name "Talk" p) [e1, e2] [] pos) (some (.Name y py)) ap.line X.env = pure false := by intro _ _; rfl)
    (he : ∀ X : Cx, starEach [e1, e2] X.env = (false, eval e1 X.env) :: starEach [e2] X.env := by intro _; rfl) (hpl : ∀ X : Cx, (backTo pos (starEach [e2] X.env)).any (·.1) = false := by intro _; rfl) :
    SB G (.Assign [.Name y py] (.Call (.Name "Talk" p) [e1, e2] [] pos) ap :: rest) (sTalk i fl g) := by
  revert hh1 hh2
  rintro ⟨ta, pa, ha⟩ ⟨u, p2, h2⟩
  obtain ⟨f, fd, ps, j, hj, m1, m2, m3, m4⟩ := M.ex
  refine ⟨_, fun X h => pss_cons (ps_set (i := i) h.nd (by rw [h.N]; exact hN) (by rw [h.sc]; exact hl) (pe_make (k := j) (ds := []) (dvs := []) (by rw [h.K]; exact m2) (by rw [h.prog, h.w, h.K, h.mg, h.base]; exact m4) (h.rm.mono hj) (h.gl hg) (by rw [h.mg]; exact m1) (by rw [h.K]; exact m3) .nil (h.prog ▸ h.w ▸ h.pass) (pa X h) (by decide) (he X) (hpl X)) (hs X h) ?_) (p2 X h), fun E P H σ s N st hp => ?_⟩
  · rcases hf with z | z
    · exact .inl (h.fn y z)
    · rw [h.sc]; exact .inr z
  · refine ha E P H σ s _ st (pos_e st hp fun ds s1 P1 H1 st1 gr1 h1 vs hv => ?_)
    match ds, hv, h1 with
    | [b, c], .cons (v := v1) hb (.cons (v := v2) hc .nil), h1 =>
      intro x dx nx ndx nxd
      refine ⟨x, dx, v1, v2, rfl, upd_same, fun s0 h0 m0 H2 n1 n2 n3 n4 n5 n6 z1 z2 z3 q1 q2 q3 q4 q5 => ⟨rfl, ?_⟩⟩
      have ne : ∀ z o, H1 z = some o → z ≠ x ∧ z ≠ dx ∧ z ≠ s0 ∧ z ≠ h0 ∧ z ≠ m0 := fun z o e => by
        have w : (upd (upd H1 dx (.own x)) x (.ins (He.ga G.K "Talk") dx [])) z ≠ none := by
          by_cases c1 : z = x
          · subst c1; rw [upd_same]; exact nofun
          · rw [upd_ne c1]
            by_cases c2 : z = dx
            · subst c2; rw [upd_same]; exact nofun
            · rw [upd_ne c2, e]; exact nofun
        exact ⟨ne_of_none e nx, ne_of_none e ndx, fun q => by subst q; exact w z1, fun q => by subst q; exact w z2, fun q => by subst q; exact w z3⟩
      have k2 : ∀ z o, H1 z = some o → H2 z = some o ∧ ¬ TkM s0 h0 m0 z := fun z o e => by
        obtain ⟨c1, c2, c3, c4, c5⟩ := ne z o e
        refine ⟨by rw [q5 z c1 c3 c4 c5, upd_ne c1, upd_ne c2]; exact e, fun w => ?_⟩
        rcases w with w | w | w
        · exact c3 w
        · exact c4 w
        · exact c5 w
      have pk2 : Pk P1 H1 P1 H2 := ⟨fun _ z => z, fun z o _ e => (k2 z o e).1⟩
      have mH : ∀ z, TkM s0 h0 m0 z → ∃ o, H2 z = some o := fun z w => by
        rcases w with w | w | w
        · rw [w]; exact ⟨_, q2⟩
        · rw [w]; exact ⟨_, q3⟩
        · rw [w]; exact ⟨_, q4⟩
      have nM : ∀ z, TkM s0 h0 m0 z → ¬ P1 z := fun z w pz => by
        obtain ⟨o, e⟩ := st1.pal z pz
        exact (k2 z o e).2 w
      have tk0 : TkO G.K (TkM s0 h0 m0) H2 P1 x s0 h0 m0 (Tk.new b c) := by
        refine ⟨⟨dx, v1, v2, q1, hb.k pk2, hc.k pk2⟩, fun w => ?_, .inl rfl, .inr (.inl rfl), .inr (.inr rfl), n1, n2, n3, ⟨_, q2, .cons (.int 0) .nil⟩, ⟨_, q3, .nil⟩, .inl ⟨_, q4, .nil⟩⟩
        rcases w with w | w | w
        · exact n4 w.symm
        · exact n5 w.symm
        · exact n6 w.symm
      dsimp only at h1
      by_cases hq : quiet s1 = true
      · rw [if_pos hq] at h1
        have hsl : ∀ j y, (s1.set i (.tk (Tk.new b c).D))[j]? = some y → (j = i ∧ y = .tk (Tk.new b c).D) ∨ (j ≠ i ∧ s1[j]? = some y ∧ (y = .un ∨ ∃ d, y = .sh d)) := fun j y e => by
          rcases getset e with ⟨a1, a2⟩ | ⟨a1, a2⟩
          · exact .inl ⟨a1, a2⟩
          · exact .inr ⟨a1, a2, quiet_at hq a2⟩
        have noO : ∀ j z, ¬ Own (σ.set i (some (.ref x))) (s1.set i (.tk (Tk.new b c).D)) j z := by
          rintro j z ⟨_, y, h2, h3⟩
          rcases hsl j y h2 with ⟨_, w⟩ | ⟨_, _, w⟩
          · subst w; cases h3
          · rcases w with w | ⟨d, w⟩ <;> subst w <;> cases h3
        have st2 : Stt G.K ⟨H2, TkM s0 h0 m0, P1, some x⟩ P1 H2 (σ.set i (some (.ref x))) (s1.set i (.tk (Tk.new b c).D)) := by
          refine ⟨by rw [List.length_set, List.length_set]; exact st1.len, fun j y e => ?_, fun j k z o _ => (noO j z o).elim, fun _ z => z, fun _ z => .inl z, fun z pz => let ⟨o, e⟩ := st1.pal z pz; ⟨o, (k2 z o e).1⟩, fun _ _ z _ => z, mH, nM, mH, fun j k d d' e e' => ?_⟩
          · rcases hsl j y e with ⟨w1, w2⟩ | ⟨w1, w2, w3⟩
            · subst w1; subst w2
              exact ⟨x, rfl, set_at st1.len e, _, _, _, _, rfl, tk0⟩
            · rw [set_off w1]
              have q := st1.sl j y w2
              rcases w3 with w | ⟨d, w⟩ <;> subst w
              · trivial
              · obtain ⟨v, a1, a2⟩ := q
                exact ⟨v, a1, a2.k pk2⟩
          · have one : ∀ j d, (s1.set i (.tk (Tk.new b c).D))[j]? = some (.tk d) → j = i := fun j d e => by
              rcases hsl j _ e with ⟨w1, w2⟩ | ⟨w1, w2, w3⟩
              · exact w1
              · rcases w3 with w | ⟨d, w⟩ <;> cases w
            rw [one j d e, one k d' e']
        refine h2 _ P1 H2 _ _ N st2 ?_
        cases eg : g (s1.set i (.tk (Tk.new b c).D)) with
        | none => rw [eg] at h1; exact h1
        | some r =>
          rw [eg] at h1
          cases r with
          | bk _ => exact h1.elim
          | ct _ => exact h1.elim
          | ex x => exact fun H' z => h1 H' fun a o e m => let ⟨w1, w2⟩ := k2 a o (st1.kp a o e m); z a o w1 w2
          | nx s' =>
            dsimp only at h1
            split at h1
            · rename_i d hd
              exact fun σ' P' H' st' pk => h1 σ' P' H' (st1.back k2 st' hd) (pk2.trans pk)
            · exact h1.elim
          | rt d s' =>
            dsimp only at h1
            split at h1
            · rename_i d' hd
              refine fun v σ' P' H' st' rt => h1 v σ' P' H' (st1.back k2 st' hd) ?_
              unfold RtOk at rt ⊢
              by_cases ho : G.own = true
              · rw [if_pos ho] at rt ⊢
                obtain ⟨b', w1, w2, w3⟩ := rt
                refine ⟨b', w1, st1.h0 ?_, w3⟩
                cases q : H1 b' with
                | none => rfl
                | some o =>
                  have w2 : H2 b' = none := w2
                  rw [(k2 b' o q).1] at w2; cases w2
              · rw [if_neg ho] at rt ⊢
                exact rt
            · exact h1.elim
      · rw [if_neg hq] at h1
        exact h1.elim
end
end Od

namespace Od
open PySem PySem.Spec PyProof.Rows L2
/-! ### d.get(k, None) -/
def isDi : D → Bool
  | .dict [(.none, .list _)] => false
  | .dict _ => true
  | _ => false
theorem isDi_some {d : D} (h : isDi d = true) : ∃ kvs, d = .dict kvs ∧ ∀ ds, kvs ≠ [(.none, .list ds)] := by
  unfold isDi at h
  split at h
  · cases h
  · rename_i kvs n
    exact ⟨kvs, rfl, fun ds z => n ds z⟩
  · cases h
def oGetN : D → D → Option D
  | .dict kvs, d => (dGet kvs d).map fun o => o.getD .none
  | _, _ => none
def dGetN (a b : Opd) : De D := bnd a.f fun x s => match a.rd x s with
  | some d => if isDi d = true then (bnd b.f fun y => fun s2 => lft ((a.rd x s2).bind fun dx => (b.rd y s2).bind fun dy => oGetN dx dy) s2) s else none
  | none => none
section
variable {G : Gam} {a b c e : Expr} {es : List Expr} {fa fb fc : De D} {fs : FS} {fl : De (List D)} {pos p py ap : Pos} {x y : Str} {oa ob : Opd} {j0 : Nat}
theorem Vw.isD {K : PySem.W.Frag} {H : Hp} {P : Pr} {v : V} {d : D} (h : Vw K H P v d) (q : isDi d = true) : ∃ a, v = .ref a ∧ IsD H a := by
  obtain ⟨kvs, rfl, n⟩ := isDi_some q
  obtain ⟨a, rfl, ⟨l, h1, _⟩ | ⟨l, m, _, h1, _⟩⟩ := h.dicOf n
  · exact ⟨a, rfl, .inl ⟨l, .inl h1⟩⟩
  · exact ⟨a, rfl, .inr ⟨l, .inl h1⟩⟩
theorem e_getN (hh1 : SV G a oa) (hh2 : SV G b ob) (m : ∀ X : Cx, M2 X a "get" ap b (.Constant .none j0 p) pos := by exact fun _ => ⟨rfl, rfl, rfl, rfl⟩) :
    SE G (.Call (.Attribute a "get" ap) [b, .Constant .none j0 p] [] pos) (dGetN oa ob) := by
  revert hh1 hh2
  rintro ⟨ta, pa, ha⟩ ⟨tb, pb, hb⟩
  refine ⟨tDGet2 ta tb (tC .non), fun X h => pe_dget2 h.u1 (pa X h) (pb X h) pe_non (m X), fun E P H σ s Q st hp => ha E P H σ s _ st (po_step hp fun u s1 P1 H1 ee st1 gr1 h1 v hv => ?_)⟩
  cases e1 : oa.rd u s1 with
  | none => rw [e1] at h1; exact h1.elim
  | some d1 =>
    rw [e1] at h1
    dsimp only at h1
    by_cases hd : isDi d1 = true
    · rw [if_pos hd] at h1
      obtain ⟨q, rfl, hq⟩ := (hv s1 P1 H1 st1 Gr.refl d1 e1).isD hd
      refine ⟨q, rfl, hq, hb E P1 H1 σ s1 _ st1 (po_step h1 fun u2 s2 P2 H2 ee2 st2 gr2 h2 v2 hv2 => ?_)⟩
      obtain ⟨d, ed, h2⟩ := po_lft h2
      obtain ⟨dx, ex, ed⟩ := Option.bind_eq_some_iff.mp ed
      obtain ⟨dy, ey, ed⟩ := Option.bind_eq_some_iff.mp ed
      have wx := hv s2 P2 H2 st2 gr2 dx ex
      have wy := hv2 s2 P2 H2 st2 Gr.refl dy ey
      cases dx <;> first | (cases ed; done) | skip
      obtain ⟨o, e3, rfl⟩ := Option.map_eq_some_iff.mp (show Option.map _ _ = some d from ed)
      obtain ⟨q', r, eq, g1, g2, g3⟩ := dGet_of wx wy e3
      cases eq
      refine ⟨r, g1, ?_⟩
      cases o with
      | none =>
        cases r with
        | none => exact h2 P2 H2 st2 Gr.refl _ .non
        | some _ => cases g2
      | some z =>
        obtain ⟨v, rfl, dv⟩ := g3 z rfl
        exact h2 P2 H2 st2 Gr.refl _ dv
    · rw [if_neg hd] at h1; exact h1.elim
end
/-- what can be asked by get -/
def lDi (d : D) : Option Unit := if isDi d = true then some () else none
theorem lDi_t {d : D} {u : Unit} (h : lDi d = some u) : isDi d = true := by
  unfold lDi at h
  split at h
  · assumption
  · cases h
def lTup4 : D → Option (D × D × D × D)
  | .tuple [a, b, c, d] => some (a, b, c, d)
  | _ => none
theorem lTup4_eq {v : D} {q : D × D × D × D} (h : lTup4 v = some q) : v = .tuple [q.1, q.2.1, q.2.2.1, q.2.2.2] := by
  unfold lTup4 at h; split at h
  · cases h; rfl
  · cases h
theorem lTup4_t (a b c d : D) : lTup4 (.tuple [a, b, c, d]) = some (a, b, c, d) := rfl
theorem bT4 {b0 b1 b2 b3 : D → S → Option S} {v x0 x1 x2 x3 : D} {s0 s1 s2 s3 s4 : S} (h : v = .tuple [x0, x1, x2, x3]) (h0 : b0 x0 s0 = some s1) (h1 : b1 x1 s1 = some s2) (h2 : b2 x2 s2 = some s3) (h3 : b3 x3 s3 = some s4) : bTup 4 (bCons b0 (bCons b1 (bCons b2 (bCons b3 bNil)))) v s0 = some s4 := by
  subst h
  show (b0 x0 s0).bind _ = _
  rw [h0]
  show (b1 x1 s1).bind _ = _
  rw [h1]
  show (b2 x2 s2).bind _ = _
  rw [h2]
  show (b3 x3 s3).bind _ = _
  rw [h3]
  rfl
def lTup5 : D → Option (D × D × D × D × D)
  | .tuple [a, b, c, d, e] => some (a, b, c, d, e)
  | _ => none
theorem lTup5_eq {v : D} {q : D × D × D × D × D} (h : lTup5 v = some q) : v = .tuple [q.1, q.2.1, q.2.2.1, q.2.2.2.1, q.2.2.2.2] := by
  unfold lTup5 at h; split at h
  · cases h; rfl
  · cases h
theorem lTup5_t (a b c d e : D) : lTup5 (.tuple [a, b, c, d, e]) = some (a, b, c, d, e) := rfl
theorem bT5 {b0 b1 b2 b3 b4 : D → S → Option S} {v x0 x1 x2 x3 x4 : D} {s0 s1 s2 s3 s4 s5 : S} (h : v = .tuple [x0, x1, x2, x3, x4]) (h0 : b0 x0 s0 = some s1) (h1 : b1 x1 s1 = some s2) (h2 : b2 x2 s2 = some s3) (h3 : b3 x3 s3 = some s4) (h4 : b4 x4 s4 = some s5) : bTup 5 (bCons b0 (bCons b1 (bCons b2 (bCons b3 (bCons b4 bNil))))) v s0 = some s5 := by
  subst h
  show (b0 x0 s0).bind _ = _
  rw [h0]
  show (b1 x1 s1).bind _ = _
  rw [h1]
  show (b2 x2 s2).bind _ = _
  rw [h2]
  show (b3 x3 s3).bind _ = _
  rw [h3]
  show (b4 x4 s4).bind _ = _
  rw [h4]
  rfl
def lTup6 : D → Option (D × D × D × D × D × D)
  | .tuple [a, b, c, d, e, f] => some (a, b, c, d, e, f)
  | _ => none
theorem lTup6_eq {v : D} {q : D × D × D × D × D × D} (h : lTup6 v = some q) : v = .tuple [q.1, q.2.1, q.2.2.1, q.2.2.2.1, q.2.2.2.2.1, q.2.2.2.2.2] := by
  unfold lTup6 at h; split at h
  · cases h; rfl
  · cases h
theorem lTup6_t (a b c d e f : D) : lTup6 (.tuple [a, b, c, d, e, f]) = some (a, b, c, d, e, f) := rfl
theorem bT6 {b0 b1 b2 b3 b4 b5 : D → S → Option S} {v x0 x1 x2 x3 x4 x5 : D} {s0 s1 s2 s3 s4 s5 s6 : S} (h : v = .tuple [x0, x1, x2, x3, x4, x5]) (h0 : b0 x0 s0 = some s1) (h1 : b1 x1 s1 = some s2) (h2 : b2 x2 s2 = some s3) (h3 : b3 x3 s3 = some s4) (h4 : b4 x4 s4 = some s5) (h5 : b5 x5 s5 = some s6) : bTup 6 (bCons b0 (bCons b1 (bCons b2 (bCons b3 (bCons b4 (bCons b5 bNil)))))) v s0 = some s6 := by
  subst h
  show (b0 x0 s0).bind _ = _
  rw [h0]
  show (b1 x1 s1).bind _ = _
  rw [h1]
  show (b2 x2 s2).bind _ = _
  rw [h2]
  show (b3 x3 s3).bind _ = _
  rw [h3]
  show (b4 x4 s4).bind _ = _
  rw [h4]
  show (b5 x5 s5).bind _ = _
  rw [h5]
  rfl
/-! ### talks, plainly -/
def lTk (f : TF) (m : D) : Option D := (asTk m).map fun t => f.get t
def lTkP (f : TF) (m n : D) : Option D := (asTk m).bind fun t => (f.put t n).map Tk.D
def lTkB (m : D) : Option D := (asTk m).map Tk.bk
def lTkC (m : D) : Option D := (asTk m).map Tk.ck
def tkN (b c : D) : D := (Tk.new b c).D
def cK (fs : FS) (m : D) (ds : List D) : Option (D × D) := (asTk m).bind fun _ => cI fs (m :: ds)
section
variable {f g k : DeS} {s s1 s2 s3 : S} {Q : Ou → Prop} {d v w n m m' : D} {b : Bool} {ds : List D} {i : Nat} {tf : TF} {fl : De (List D)}
theorem tkS_of (h : s[i]? = some (.tk m)) {t : Tk} (e : asTk m = some t) : tkS s i = some t := by
  unfold tkS
  rw [h]
  exact e
theorem opF_rd (h : s[i]? = some (.tk m)) (e : lTk tf m = some v) : (opF i tf).f s = some (.ok .none s) ∧ ∀ x, (opF i tf).rd x s = some v := by
  obtain ⟨t, e1, e2⟩ := Option.map_eq_some_iff.mp e
  unfold opF
  dsimp only
  rw [tkS_of h e1]
  exact ⟨rfl, fun _ => congrArg some e2⟩
theorem e1F {op : D → Option D} {a : D} (h : s[i]? = some (.tk m)) (e : lTk tf m = some v) (ho : op v = some a) : d1 (opF i tf) op s = some (.ok a s) := by
  obtain ⟨h1, h2⟩ := opF_rd h e
  unfold d1 bnd
  rw [h1]
  dsimp only
  rw [h2]
  dsimp only [Option.bind]
  rw [ho]; rfl
theorem e2FE {e' : De D} {op : D → D → Option D} {a z : D} (h : s[i]? = some (.tk m)) (e : lTk tf m = some z) (h' : e' s = some (.ok w s2)) (h2 : s2[i]? = some (.tk m')) (e2 : lTk tf m' = some v) (ho : op v w = some a) : d2 (opF i tf) (opE e') op s = some (.ok a s2) := by
  obtain ⟨h1, _⟩ := opF_rd h e
  obtain ⟨_, h3⟩ := opF_rd h2 e2
  unfold d2 bnd
  rw [h1]
  dsimp only
  have h'' : (opE e').f s = some (.ok w s2) := h'
  rw [h'']
  dsimp only
  rw [h3]
  show lft ((some v).bind fun dx => (some w).bind fun dy => op dx dy) s2 = _
  dsimp only [Option.bind]
  rw [ho]; rfl
theorem eGetNF {e' : De D} {a z : D} (h : s[i]? = some (.tk m)) (e : lTk tf m = some z) (hd : isDi z = true) (h' : e' s = some (.ok w s2)) (h2 : s2[i]? = some (.tk m')) (e2 : lTk tf m' = some v) (ho : oGetN v w = some a) : dGetN (opF i tf) (opE e') s = some (.ok a s2) := by
  obtain ⟨h1, h0⟩ := opF_rd h e
  obtain ⟨_, h3⟩ := opF_rd h2 e2
  unfold dGetN bnd
  rw [h1]
  dsimp only
  rw [h0]
  dsimp only
  rw [if_pos hd]
  have h'' : (opE e').f s = some (.ok w s2) := h'
  rw [h'']
  dsimp only
  rw [h3]
  show lft ((some v).bind fun dx => (some w).bind fun dy => oGetN dx dy) s2 = _
  dsimp only [Option.bind]
  rw [ho]; rfl
theorem eGetNE {e e' : De D} {a : D} (h : e s = some (.ok v s1)) (hd : isDi v = true) (h' : e' s1 = some (.ok w s2)) (ho : oGetN v w = some a) : dGetN (opE e) (opE e') s = some (.ok a s2) := by
  unfold dGetN bnd
  have h0 : (opE e).f s = some (.ok v s1) := h
  rw [h0]
  show (if isDi v = true then _ else none) = _
  rw [if_pos hd]
  have h'' : (opE e').f s1 = some (.ok w s2) := h'
  rw [h'']
  show lft ((some v).bind fun dx => (some w).bind fun dy => oGetN dx dy) s2 = _
  dsimp only [Option.bind]
  rw [ho]; rfl
theorem eGetNB {e' : De D} {a z : D} (h : rdS i s = some z) (hd : isDi z = true) (h' : e' s = some (.ok w s2)) (hv : rdS i s2 = some v) (ho : oGetN v w = some a) : dGetN (opB i) (opE e') s = some (.ok a s2) := by
  unfold dGetN bnd
  rw [opB_f h]
  have r1 : (opB i).rd .none s = some z := h
  have r2 : (opB i).rd .none s2 = some v := hv
  dsimp only
  rw [r1]
  dsimp only
  rw [if_pos hd]
  have h'' : (opE e').f s = some (.ok w s2) := h'
  rw [h'']
  dsimp only
  rw [r2]
  show lft ((some v).bind fun dx => (some w).bind fun dy => oGetN dx dy) s2 = _
  dsimp only [Option.bind]
  rw [ho]; rfl
theorem eSlF {l h : De (Option Int)} {gg : D → Option Int → Option Int → Option D} {i' j : Option Int} {a z : D} (h0 : s[i]? = some (.tk m)) (e0 : lTk tf m = some z) (h1 : l s = some (.ok i' s2)) (h2 : h s2 = some (.ok j s3)) (h3 : s3[i]? = some (.tk m')) (e3 : lTk tf m' = some v) (hg : gg v i' j = some a) : dSl (opF i tf) l h gg s = some (.ok a s3) := by
  obtain ⟨q1, _⟩ := opF_rd h0 e0
  obtain ⟨_, q2⟩ := opF_rd h3 e3
  unfold dSl bnd
  rw [q1]
  dsimp only
  rw [h1]
  dsimp only
  rw [h2]
  dsimp only
  rw [q2]
  dsimp only [Option.bind]
  rw [hg]; rfl
theorem eTkB (h : s[i]? = some (.tk m)) (e : lTkB m = some v) : dTkB i s = some (.ok v s) := by
  obtain ⟨t, e1, rfl⟩ := Option.map_eq_some_iff.mp e
  unfold dTkB
  rw [tkS_of h e1]
theorem eTkC (h : s[i]? = some (.tk m)) (e : lTkC m = some v) : dTkC i s = some (.ok v s) := by
  obtain ⟨t, e1, rfl⟩ := Option.map_eq_some_iff.mp e
  unfold dTkC
  rw [tkS_of h e1]
theorem eFnK {fs : FS} {q : D × D} (h0 : s[i]? = some (.tk m)) (h : fl s = some (.ok ds s1)) (h1 : s1[i]? = some (.tk m)) (hf : cK fs m ds = some q) (hn : ds.length + 1 = fs.n) (hp : s1.set i (.tk q.2) = s2) : dFnK fs i fl s = some (.ok q.1 s2) := by
  obtain ⟨t, e1, hf⟩ := Option.bind_eq_some_iff.mp hf
  have em := asTk_some e1
  subst em
  unfold dFnK
  rw [tkS_of h0 e1]
  dsimp only
  unfold bnd
  rw [h]
  dsimp only
  rw [if_pos hn, tkS_of h1 e1]
  dsimp only
  rw [cI_f hf, ← hp]
theorem w_tkMut {op : D → List D → Option D} (s2 : S) (h0 : s[i]? = some (.tk m)) (h : fl s = some (.ok ds s1)) (h1 : s1[i]? = some (.tk m)) (hv : lTk tf m = some v) (hg : op v ds = some n) (hp : lTkP tf m n = some m') (hs : s1.set i (.tk m') = s2) (q : Wp (k s2) Q) : Wp (sSeq (sTkMut i tf fl op) k s) Q := by
  refine w_i s2 ?_ q
  obtain ⟨t, e1, rfl⟩ := Option.map_eq_some_iff.mp hv
  obtain ⟨t', e1', hp⟩ := Option.bind_eq_some_iff.mp hp
  rw [e1] at e1'
  cases e1'
  obtain ⟨u, e2, rfl⟩ := Option.map_eq_some_iff.mp hp
  unfold sTkMut
  rw [tkS_of h0 e1]
  dsimp only
  unfold tkC sE
  rw [h]
  dsimp only
  rw [tkS_of h1 e1]
  dsimp only [Option.bind]
  rw [hg]
  dsimp only
  rw [e2, ← hs]
  rfl
theorem w_talk (hb : fl s = some (.ok [v, w] s1)) (hq : quiet s1 = true) (hs : s1.set i (.tk (tkN v w)) = s2) (q : Wp (sSeq g sNil s2) fun o => match o with
    | .nx s' => ∃ d, (s'[i]? : Option Sl) = some (.tk d) ∧ Q (.nx (s'.set i .un))
    | .rt d s' => ∃ e, (s'[i]? : Option Sl) = some (.tk e) ∧ Q (.rt d (s'.set i .un))
    | .ex x => Q (.ex x)
    | _ => False) : Wp (sSeq (sTalk i fl g) sNil s) Q := by
  obtain ⟨o, e, q⟩ := w_last q
  have e0 : ∃ o', sTalk i fl g s = some o' ∧ Q o' := by
    unfold sTalk sE
    rw [hb]
    dsimp only
    rw [if_pos hq]
    have hs' : s1.set i (.tk (Tk.new v w).D) = s2 := hs
    rw [hs', e]
    cases o with
    | nx s' =>
      obtain ⟨d, e1, q⟩ := q
      dsimp only
      rw [e1]
      exact ⟨_, rfl, q⟩
    | rt d s' =>
      obtain ⟨d', e1, q⟩ := q
      dsimp only
      rw [e1]
      exact ⟨_, rfl, q⟩
    | ex x => exact ⟨_, rfl, q⟩
    | bk _ => exact q.elim
    | ct _ => exact q.elim
  obtain ⟨o', e1, q1⟩ := e0
  refine ⟨o', ?_, q1⟩
  unfold sSeq
  rw [e1]
  cases o' <;> rfl
/-! defs whose first argument is a talk -/
def RrK (r : D × D) (d : D) (s : S) : Prop := d = r.1 ∧ s[0]? = some (.tk r.2)
def QK (own : Bool) (r : D × D) : Ou → Prop
  | .rt d s => RrK r d s
  | .nx s => own = false ∧ RrK r .none s
  | _ => False
theorem fnK {own : Bool} {n : Nat} {args : List D} {r : D × D} (h : Wp (sSeq f sNil (startK n args)) (QK own r)) : runsK own n f args = some (.ret r.1 r.2) := by
  obtain ⟨o, e, q⟩ := w_last h
  unfold runsK
  rw [e]
  cases o with
  | rt d s => obtain ⟨rfl, q⟩ := q; dsimp only; rw [q]
  | nx s =>
    obtain ⟨rfl, q1, q⟩ := q
    dsimp only
    rw [q]
    obtain ⟨r1, r2⟩ := r
    cases q1
    rfl
  | bk _ => exact q.elim
  | ct _ => exact q.elim
  | ex _ => exact q.elim
theorem rrK (h : s[0]? = some (.tk m)) : RrK (v, m) v s := ⟨rfl, h⟩
theorem k_end (h : s[0]? = some (.tk m)) : Wp (sNil s) (QK false (.none, m)) := ⟨_, rfl, rfl, rfl, h⟩
theorem w_retK {e : De D} {own : Bool} (h : e s = some (.ok v s1)) (h0 : s1[0]? = some (.tk m)) : Wp (sSeq (sRet e) k s) (QK own (v, m)) := w_ret h ⟨rfl, h0⟩
theorem w_retNoK {own : Bool} (h0 : s[0]? = some (.tk m)) : Wp (sSeq sRetNo k s) (QK own (.none, m)) := w_retNo ⟨rfl, h0⟩
theorem rrKq {own : Bool} {r : D × D} (h : RrK r d s) : QK own r (.rt d s) := h
/-- what a talk's def is worth -/
theorem so_cK {fs : FS} {m : D} {t : Tk} {ds : List D} {P : D × D → Prop} (e : asTk m = some t) (h : So (cI fs (m :: ds)) P) : So (cK fs m ds) P := by
  unfold cK
  rw [e]
  exact h
end
end Od

/-! ### enumerate of a tuple -/
namespace OdE
open PySem PySem.Spec PyProof.Rows L2
open Sem (wp)
open AutoSeq1 (wpAny_loadPart')
theorem meets_enumerate_newT (l : Addr) (items : Array Value) (n : Nat) (dct : Option Addr) (sl : Array (Option Value)) :
    Meets (Builtin.«enumerate.__new__» ⟨[.type "enumerate", .ref l], []⟩) (fun _ R s => s.heap.get? l = some { cls := .type "tuple", dict := dct, data := .seq items n, slots := sl } ∧
      R (.ok (.ret (.ref (s.heap.push { cls := .type "tuple_iterator", data := .fields #[.ref l, .int 0 0] }).objs.size)))
        { s with heap := (s.heap.push { cls := .type "tuple_iterator", data := .fields #[.ref l, .int 0 0] }).push { cls := .type "enumerate", data := .fields #[.none, .bool false, .ref s.heap.objs.size, rawInt 0, .none, .none] } }) :=
  .of_wp fun prog w A R s h => by
    obtain ⟨hp, g, d, tk, os⟩ := s; obtain ⟨hl, h⟩ := h
    have hsub := sub_enumerate
    have hL : Heap.IsTuple (Shared.heap ⟨hp, g, d, tk, os⟩) l items := ⟨_, hl, rfl, n, rfl⟩
    wp_walk using wpAny_loadPart' hl
    refine wpAny_stack_any fun st => wpAny_pure ?_
    split
    · rename_i c _ _ _ _ _
      cases (c == Value.type "enumerate")
      · wp_walk using wpAny_loadPart' hl, wpAny_pyIter_tuple hL
        exact ⟨_, rfl, h⟩
      · wp_walk using wpAny_loadPart' hl, wpAny_pyIter_tuple hL
        exact ⟨_, rfl, h⟩
    · wp_walk using wpAny_loadPart' hl, wpAny_pyIter_tuple hL
      exact ⟨_, rfl, h⟩
section
variable {prog : Program} {w : World} {A : Around} {E : Value → Shared → Prop} {s : Shared}
theorem call_enumerate_tuple {l : Addr} {items : Array Value} {Q : Value → Shared → Prop} (hL : s.heap.IsTuple l items)
    (h : ∀ h', IsEnum h' (s.heap.objs.size + 1) s.heap.objs.size 0 .none → h'.IsTupleIter s.heap.objs.size l 0 → h'.objs.size = s.heap.objs.size + 2 →
      (∀ b o, s.heap.get? b = some o → h'.get? b = some o) → Q (.ref (s.heap.objs.size + 1)) { s with heap := h' }) :
    wpAny (model prog w) A (call (.type "enumerate") [.ref l]) Q E s := by
  obtain ⟨⟨c, dct, dt, sl⟩, hl, hc, n, hd⟩ := hL
  replace hc : c = .type "tuple" := hc
  replace hd : dt = .seq items n := hd
  subst hc hd
  refine callType_new F.called_enumerate (by decide) (F.typeCall_enumerate_1 _) (F.newCall_enumerate_1 _) (fun obj => F.args_object_init_2 obj _) F.entry_enumerate_new
    (meets_enumerate_newT l items n dct sl) ⟨hl, ?_⟩
  have hz : (s.heap.push { cls := .type "tuple_iterator", data := .fields #[.ref l, .int 0 0] }).objs.size = s.heap.objs.size + 1 := Heap.size_push ..
  show _ ∧ _
  rw [hz]
  have he : IsEnum ((s.heap.push { cls := .type "tuple_iterator", data := .fields #[.ref l, .int 0 0] }).push
      { cls := .type "enumerate", data := .fields #[.none, .bool false, .ref s.heap.objs.size, rawInt 0, .none, .none] }) (s.heap.objs.size + 1) s.heap.objs.size 0 .none := by
    have := Heap.get?_push_size (s.heap.push { cls := .type "tuple_iterator", data := .fields #[.ref l, .int 0 0] })
      (o := { cls := .type "enumerate", data := .fields #[.none, .bool false, .ref s.heap.objs.size, rawInt 0, .none, .none] }) rfl
    rw [hz] at this; exact this
  refine ⟨⟨_, he, rfl⟩, h _ he ⟨_, Heap.get?_push_of_some _ (Heap.get?_push_size _ rfl), rfl, rfl⟩ (by rw [Heap.size_push, hz]) fun b o x => Heap.get?_push_of_some _ (Heap.get?_push_of_some _ x)⟩
/-- a tuple's iterator, as what enumerate draws from -/
theorem draws_tup (it t : Addr) (items : Array Value) (hne : it ≠ t) (hh : A.handled = none) : Draws prog w A it [it, t] items.size (fun i v => items[i]? = some v) (fun i h => h.IsTupleIter it t i ∧ h.IsTuple t items) where
  live := fun i h st => let ⟨⟨o, e, _⟩, _⟩ := st; ⟨o, e⟩
  frame := fun i h h' st k => ⟨let ⟨o, e, q⟩ := st.1; ⟨o, k it (by simp) _ e, q⟩, let ⟨o, e, q⟩ := st.2; ⟨o, k t (by simp) _ e, q⟩⟩
  item := fun i s Q E hi st hQ => by
    have hx : items[i]? = some items[i] := Array.getElem?_eq_getElem hi
    refine RZ.nextOf_tuple_item st.1 st.2 hx fun h' h1 h2 => hQ _ h' s.toks hx ⟨h1, ?_⟩ h2
    obtain ⟨o, e, q⟩ := st.2
    exact ⟨o, (h2.2 t (Ne.symm hne)).trans e, q⟩
  done := fun s Q E st hE => RZ.nextOf_tuple_end hh st.1 st.2 (by simp) hE
theorem pyNext_enumT_end {e it l : Addr} {i : Nat} {items : Array Value} {old : Value} {Q : Option Value → Shared → Prop} {j : Int} (hh : A.handled = none)
    (he : IsEnum s.heap e it j old) (hit : s.heap.IsTupleIter it l i) (hl : s.heap.IsTuple l items) (hx : items[i]? = none)
    (hQ : ∀ h', Heap.ExtBut it s.heap h' → Q none { s with heap := h' }) : wpAny (model prog w) A (pyNext (.ref e)) Q E s := by
  have hT : s.TypeIs (.ref e) "enumerate" := ⟨_, he, rfl⟩
  unfold pyNext
  refine wpAny_bind (wpAny_attempt (wpAny_callSpecial?_slot (name := Str.ofString "__next__") hT F.slot_enumerate_next
    (wpAny_call_entry F.slot_enumerate_next hT F.entry_enumerate_next ?_ (F.args_enumerate_next_1 _))))
  show wpAny _ _ (field (.ref e) 2 >>= _) _ _ _
  refine wpAny_bind (wpAny_field he rfl (x := .ref it) rfl ?_)
  refine wpAny_bind (RZ.nextOf_tuple_end hh hit hl hx fun h' x he' hx' => ?_)
  obtain ⟨o, ho, hc⟩ := hx'
  refine wpAny_bind (wpAny_isInstance (T := "StopIteration") (b := true) ⟨o, ho, hc⟩ isSubtype_stop ?_)
  exact wpAny_pure (hQ _ he')
end
/-- the tuple at a as it stands at each turn, each item in a new pair -/
def IteT (K : PySem.W.Frag) (a : Addr) : It :=
  ⟨fun i H => ∃ (xs : List V) (x : V), SqT K H a xs ∧ xs[i]? = some x, fun i H v H' => ∃ T x, v = .ref T ∧ H T = none ∧ H' = upd H T (.tup [.int (i : Nat), x]) ∧ ∀ xs, SqT K H a xs → xs[i]? = some x, fun i H => ∃ xs : List V, SqT K H a xs ∧ xs.length ≤ i⟩
theorem turn_enumT {P : Program} {w : World} {K : PySem.W.Frag} {elts : List Expr} {kk : Nat} {tpos : Pos} (a e it : Addr) (items : Array Value) (hia : it ≠ a) (hea : e ≠ a) :
    Turn P w K (.Tuple elts kk tpos) (IteT K a) [e, it] e (fun i h => (∃ old, IsEnum h e it ((i : Nat) : Int) old) ∧ (h.IsTupleIter it a i) ∧ e ≠ it) where
  mem := by simp
  obj := fun i h st b hb => by
    obtain ⟨⟨old, he⟩, ⟨o, ho, hc, hd⟩, _⟩ := st
    have e' : b = e ∨ b = it := by simpa using hb
    rcases e' with z | z
    · rw [z]; exact ⟨_, he, fun v q => nomatch q⟩
    · rw [z]; exact ⟨o, ho, fun v q => by rw [hd] at q; cases q⟩
  keep := fun i h h' st k => let ⟨⟨old, he⟩, hi, hne⟩ := st; ⟨⟨old, k e (by simp) _ he⟩, hi.at fun o q => k it (by simp) o q, hne⟩
  item := by
    intro X hP hw hK hc i pins s σ H E I hf st hg
    subst hP hw hK
    obtain ⟨⟨old, he⟩, hit, hne⟩ := st
    obtain ⟨xs, x, hq, hx⟩ := hg
    obtain ⟨its, rv, p, hz⟩ := I.tuple hq
    obtain ⟨u, hu, ru⟩ := rv.get hx
    have hel : e < s.heap.objs.size := Heap.lt_size he
    have hil : it < s.heap.objs.size := by obtain ⟨_, q, _⟩ := hit; exact Heap.lt_size q
    have hlt : i < its.toArray.size := by
      have := (List.getElem?_eq_some_iff.mp hu).1
      simpa using this
    refine wpAny_pyNext_enum_itemD (draws_tup it a its.toArray hia (I.ok.hd hc)) he ⟨hit, p⟩ hlt hne (by simp [hne, hea]) fun x' h' tk hx' ho hst hT hsz hk => ?_
    have ex : x' = u := by
      have hu' : its.toArray[i]? = some u := by simpa using hu
      have hx' : its.toArray[i]? = some x' := hx'
      rw [hu'] at hx'
      exact (Option.some.inj hx').symm
    subst ex
    refine ⟨_, rfl, wpAny_letOwnedTupleGo_enum (s := { s with heap := h', toks := tk + 1 }) ho fun h'' he' sb => ?_⟩
    have hT2 : h''.get? s.heap.objs.size = some { cls := .type "tuple", data := .seq #[.int i tk, x'] } := (sb.2 _ (Nat.ne_of_gt hel)).trans hT
    have new : ObjOk X.prog X.w (upd H s.heap.objs.size (.tup [.int (i : Nat), x])) h'' s.heap.objs.size (.tup [.int (i : Nat), x]) :=
      ⟨by show 2 ≤ sizeLine; decide, [.int i tk, x'], .cons ⟨_, rfl⟩ (.cons ru .nil), ⟨_, hT2, rfl, _, rfl⟩⟩
    have I1 : Inv X pins σ (upd H s.heap.objs.size (.tup [.int (i : Nat), x])) { s with heap := h'', toks := tk + 1 } :=
      I.turnedNew (ch := [e, it]) (fun b ob hb q => (sb.2 b (fun z => hb (by simp [z]))).trans (hk b ob (fun z => hb (by simp [z])) (fun z => hb (by simp [z])) q)) hf (Nat.le_refl _) new
    refine ⟨.ref s.heap.objs.size, _, I1, rfl, ⟨_, x, rfl, I.hok.fresh (Nat.le_refl _), rfl, fun ys hy => by rw [I.tuple_inj hy hq]; exact hx⟩, ⟨⟨x', ?_⟩, hst.1.at fun o q => (sb.2 it (Ne.symm hne)).trans q, hne⟩, fun b hb => ?_⟩
    · have e1 : ((i + 1 : Nat) : Int) = (i : Int) + 1 := by omega
      rw [e1]; exact he'
    · have hb' : b < s.heap.objs.size := by
        have e' : b = e ∨ b = it := by simpa using hb
        rcases e' with z | z
        · rw [z]; exact hel
        · rw [z]; exact hil
      rw [upd_ne (Nat.ne_of_lt hb')]
      exact (hf b hb).1
  done := by
    intro X hP hw hK hc i pins s σ H E I hf st hg
    subst hP hw hK
    obtain ⟨⟨old, he⟩, hit, hne⟩ := st
    obtain ⟨xs, hq, hx⟩ := hg
    obtain ⟨its, rv, p, hz⟩ := I.tuple hq
    obtain ⟨f0, f1, f2, f3, f4, f5⟩ := hf it (by simp)
    have hl := rv.length
    exact pyNext_enumT_end (I.ok.hd hc) he hit p (by simp; omega) fun h' eb => ⟨rfl, I.turned (t' := s.toks) (fun b o hb q => eb b o hb q) f0 f1 f3 f4 f5⟩
  self := fun A i s Q E st h => let ⟨⟨_, he⟩, _⟩ := st; wpAny_pyIter_enum he h
def iEnumA (K : PySem.W.Frag) (ta : TA) : TI := fun σ H R => ta σ H fun vs H1 => ∃ a xs, vs = [.ref a] ∧ ((SqL K H1 a xs ∧ R (Ite K a) H1) ∨ (SqT K H1 a xs ∧ R (IteT K a) H1))
theorem pi_enumA {X : Cx} {e : Expr} {ta : TA} {p pos tpos : Pos} {elts : List Expr} {kk : Nat} (hg : Gl X "enumerate") (hm : X.mg "enumerate" = none) (ha : PA X [e] ta) (hs : starEach [e] X.env = [(false, eval e X.env)] := by rfl) :
    PI X (.Tuple elts kk tpos) (.Call (.Name "enumerate" p) [e] [] pos) (iEnumA X.K ta) := by
  refine ⟨fun pins s σ H R I h => ?_⟩
  refine Call_ (ld_blt I hg hm boot_enumerate (PyProof.Rows.callWith_type1 (thn (ha.run pos pins s σ H _ I h) fun us s1 ⟨vs, H1, I1, r1, q1⟩ => ?_) hs rfl))
  obtain ⟨a, xs, ex, hq⟩ := q1
  subst ex
  cases r1 with
  | cons r rr =>
    cases rr
    cases r
    have fr : ∀ b, b ∈ [s1.heap.objs.size + 1, s1.heap.objs.size] → FpOk X pins H1 b := fun b hb => by
      have e' : b = s1.heap.objs.size + 1 ∨ b = s1.heap.objs.size := by simpa using hb
      have hle : s1.heap.objs.size ≤ b := by
        rcases e' with z | z
        · rw [z]; exact Nat.le_add_right _ _
        · rw [z]; exact Nat.le_refl _
      exact I1.fpOk hle (I1.hok.fresh hle)
    rcases hq with ⟨hq, q⟩ | ⟨hq, q⟩
    · obtain ⟨its, rv, p', hz⟩ := I1.list hq
      refine call_enumerate_list p'.isList fun h' he hit hsz hk => wpAny_pyIter_enum he ?_
      have I2 : Inv X pins σ H1 { s1 with heap := h' } := I1.kept (t' := s1.toks) hk
      exact ⟨s1.heap.objs.size + 1, [s1.heap.objs.size + 1, s1.heap.objs.size], _, _, H1, rfl, I2, turn_enum a (s1.heap.objs.size + 1) s1.heap.objs.size, ⟨⟨.none, he⟩, hit, Nat.succ_ne_self _⟩, fr, q⟩
    · obtain ⟨its, rv, p', hz⟩ := I1.tuple hq
      obtain ⟨o1, ho1, _⟩ := id p'
      have hlt : a < s1.heap.objs.size := Heap.lt_size ho1
      refine call_enumerate_tuple (show s1.heap.IsTuple a its.toArray from p') fun h' he hit hsz hk => wpAny_pyIter_enum he ?_
      have I2 : Inv X pins σ H1 { s1 with heap := h' } := I1.kept (t' := s1.toks) hk
      exact ⟨s1.heap.objs.size + 1, [s1.heap.objs.size + 1, s1.heap.objs.size], _, _, H1, rfl, I2, turn_enumT a (s1.heap.objs.size + 1) s1.heap.objs.size its.toArray (Nat.ne_of_gt hlt) (Nat.ne_of_gt (Nat.lt_succ_of_lt hlt)), ⟨⟨.none, he⟩, hit, Nat.succ_ne_self _⟩, fr, q⟩
end OdE
namespace Od
open PySem PySem.Spec PyProof.Rows L2
def enumD : Nat → List D → List D
  | _, [] => []
  | i, d :: ds => .tuple [.int (i : Nat), d] :: enumD (i + 1) ds
theorem enumD_at : ∀ {ds : List D} {k i : Nat} {d : D}, (enumD k ds)[i]? = some d → ∃ u, ds[i]? = some u ∧ d = .tuple [.int ((k + i : Nat) : Int), u]
  | [], k, i, d, h => by simp [enumD] at h
  | x :: xs, k, 0, d, h => by simp [enumD] at h; exact ⟨x, rfl, h.symm⟩
  | x :: xs, k, i + 1, d, h => by
    unfold enumD at h
    rw [List.getElem?_cons_succ] at h
    obtain ⟨u, h1, h2⟩ := enumD_at h
    refine ⟨u, by rw [List.getElem?_cons_succ]; exact h1, ?_⟩
    rw [h2, Nat.add_right_comm k 1 i]
    rfl
theorem enumD_len : ∀ (ds : List D) (k : Nat), (enumD k ds).length = ds.length
  | [], _ => rfl
  | x :: xs, k => by unfold enumD; rw [List.length_cons, List.length_cons, enumD_len xs]
def dEnum (f : De D) : De (List D) := bnd f fun d s => match d with
  | .list xs => some (.ok (enumD 0 xs) s)
  | .tuple xs => some (.ok (enumD 0 xs) s)
  | _ => none
def lEnum : D → Option (List D)
  | .list xs => some (enumD 0 xs)
  | .tuple xs => some (enumD 0 xs)
  | _ => none
theorem eEnum {e : De D} {s s1 : S} {v : D} {ds : List D} (h : e s = some (.ok v s1)) (hl : lEnum v = some ds) : dEnum e s = some (.ok ds s1) := by
  unfold dEnum bnd
  rw [h]
  unfold lEnum at hl
  split at hl
  · cases hl; rfl
  · cases hl; rfl
  · cases hl
section
variable {G : Gam} {a b c e : Expr} {fa fb fc : De D} {pos p : Pos}
theorem i_enum {elts : List Expr} {kk : Nat} {tpos : Pos} (hm : G.mg ("enumerate" : Str) = none) (hh1 : SE G a fa) (hg : G.sc.names.lookup ("enumerate" : Str) = some .globalImplicit := by rfl) (hs : ∀ X : Cx, starEach [a] X.env = [(false, eval a X.env)] := by intro _; rfl) :
    SI G (.Tuple elts kk tpos) (.Call (.Name "enumerate" p) [a] [] pos) (dEnum fa) := by
  revert hh1
  rintro ⟨te, pe, he⟩
  refine ⟨OdE.iEnumA G.K (tCons te tNil), fun X h => by have z := OdE.pi_enumA (elts := elts) (kk := kk) (tpos := tpos) (p := p) (pos := pos) (h.gl hg) (h.mn hm) (pa_cons (pe X h) pa_nil (hs X)) (hs X); rw [h.K] at z; exact z,
    fun E P H σ s R st hp => he E P H σ s _ st (po_step hp fun d s1 P1 H1 ee st1 gr1 h1 v hv => ?_)⟩
  cases d <;> first | exact h1.elim | skip
  · rename_i ds
    obtain ⟨q, xs, rfl, pq, w1, w2⟩ := hv.lstOf
    refine ⟨q, xs, rfl, .inl ⟨.of w1, h1 P1 H1 st1 Gr.refl _ fun P' H' pk => ?_⟩⟩
    have k1 : H' q = some (.lst xs) := pk.kp _ _ pq w1
    refine ⟨fun i d hd => ?_, fun i hi => ?_⟩
    · obtain ⟨u, e1, rfl⟩ := enumD_at hd
      obtain ⟨u', f1, f2⟩ := (w2.k pk).get e1
      refine ⟨⟨xs, u', .of k1, f1⟩, fun x H'' hy E σ s st => ?_⟩
      obtain ⟨T, a1, rfl, hT, rfl, z1⟩ := hy
      rw [Nat.zero_add]
      exact lay_pair st hT (.int _) ((w2.k pk).geti (z1 xs (.of k1)) e1)
    · refine ⟨xs, .of k1, ?_⟩
      rw [w2.len]
      rw [enumD_len] at hi
      exact hi
  · rename_i ds
    obtain ⟨q, xs, rfl, pq, w1, w2⟩ := hv.tupOf
    refine ⟨q, xs, rfl, .inr ⟨.of w1, h1 P1 H1 st1 Gr.refl _ fun P' H' pk => ?_⟩⟩
    have k1 : H' q = some (.tup xs) := pk.kp _ _ pq w1
    refine ⟨fun i d hd => ?_, fun i hi => ?_⟩
    · obtain ⟨u, e1, rfl⟩ := enumD_at hd
      obtain ⟨u', f1, f2⟩ := (w2.k pk).get e1
      refine ⟨⟨xs, u', .of k1, f1⟩, fun x H'' hy E σ s st => ?_⟩
      obtain ⟨T, a1, rfl, hT, rfl, z1⟩ := hy
      rw [Nat.zero_add]
      exact lay_pair st hT (.int _) ((w2.k pk).geti (z1 xs (.of k1)) e1)
    · refine ⟨xs, .of k1, ?_⟩
      rw [w2.len]
      rw [enumD_len] at hi
      exact hi
end
end Od

namespace Od
open PySem PySem.Spec PyProof.Rows L2
def topS (i : Nat) : Stmt := PySem.Challenge.pw_oldsights_k11_faults_in_logs.main.body.getD i (.Pass ⟨0, 0, 0, 0⟩)
def clsBody : Stmt → List Stmt
  | .ClassDef _ _ _ b _ _ _ _ _ _ _ => b
  | _ => []
def topM (i j : Nat) : Stmt := (clsBody (topS i)).getD j (.Pass ⟨0, 0, 0, 0⟩)
section
variable {P : Program} {w : World} {K : PySem.W.Frag} {mg : Str → Option Value} {base : Heap} {k : Nat}
def g__wall : DeS := whileN (dB (dC (.bool true))) (sNil) 1000
def fs__wall : FS := ⟨1, false, false, runs false false 1 g__wall⟩
theorem fn__wall : fs__wall.n = 1 := rfl
abbrev s__wall : Stmt := topS 0
theorem d__wall (B : Bi mg)    (E : XK) : SB (gam P w K mg base ["k"] (defScope s__wall) k false E) (defBody s__wall) g__wall :=
  b_one (s_while 1000 (t_v (e_bl)) (b_one (s_pass)))
def g_is_below : DeS := sRet (dAndV (d1 (opE (dVar 0)) (fIsi .int)) (dAndV (dNotV (d1 (opE (dVar 0)) (fIsi .bool))) (dChain (opE (dC (.int 0))) (opE (dVar 0)) (opE (dVar 1)) (oLe) (oLt))))
def fs_is_below : FS := ⟨2, false, false, runs false false 2 g_is_below⟩
theorem fn_is_below : fs_is_below.n = 2 := rfl
abbrev s_is_below : Stmt := topS 9
theorem d_is_below (B : Bi mg)    (E : XK) : SB (gam P w K mg base ["thing", "many"] (defScope s_is_below) k false E) (defBody s_is_below) g_is_below :=
  b_one (s_ret rfl (e_and (e_isi .int B.isinstance B.int (v_e (e_var 0))) (e_and (e_not (e_isi .bool B.isinstance B.bool (v_e (e_var 0)))) (e_one (e_chain o_le o_lt (v_e (e_int)) (v_e (e_var 0)) (v_e (e_var 1)))))))
def g_is_kind : DeS := sSeq (sIf (dOr (dNot (dB (d1 (opE (dVar 1)) (fIsi .tuple)))) (dB (d2 (opE (d1 (opE (dVar 1)) fLen)) (opE (dC (.int 2))) (oNe)))) (sRet (dC (.bool false))) (sNil)) (sSeq (sAsg (dVar 1) (bTup 2 (bCons (bName 2) (bCons (bName 3) (bNil))))) (sSeq (sIf (dOr (dB (d2 (opE (dVar 2)) (opE (dTup (dCons (dC (.str "out")) (dCons (dC (.str "deed")) (dNil))))) (oIn true))) (dOr (dNot (dB (d1 (opE (dVar 3)) (fIsi .tuple)))) (dB (d2 (opE (d1 (opE (dVar 3)) fLen)) (opE (dVar 0)) (oNe))))) (sRet (dC (.bool false))) (sNil)) (sRet (d1 (opE (dLc (dItT (dVar 3)) [4] (bName 4) (dYes) (dOrV (d2 (opE (dVar 4)) (opE (dC .none)) (oIs)) (dFn fs_is_below (dCons (dVar 4) (dCons (dVar 0) (dNil))))))) fAll))))
def fs_is_kind : FS := ⟨2, false, false, runs false false 5 g_is_kind⟩
theorem fn_is_kind : fs_is_kind.n = 2 := rfl
abbrev s_is_kind : Stmt := topS 10
theorem d_is_kind (B : Bi mg) (h_is_below : DefG P w K mg base k "is_below" fs_is_below)   (E : XK) : SB (gam P w K mg base ["many", "thing", "who", "steps", "step"] (defScope s_is_kind) k false E) (defBody s_is_kind) g_is_kind :=
  b_cons (s_if (t_w (w_or (t_not (t_v (e_isi .tuple B.isinstance B.tuple (v_e (e_var 1))))) (w_or1 (t_cmp o_ne (v_e (e_call1 f_len B.len (v_e (e_var 1)))) (v_e (e_int)))))) (b_one (s_ret rfl (e_bl))) (b_nil))
    (b_cons (s_asg (e_var 1) (g_tup (gs_cons (g_name 2) (gs_cons (g_name 3) (gs_nil)))))
    (b_cons (s_if (t_w (w_or (t_cmp o_notIn (v_e (e_var 2)) (v_e (e_tup (a_cons (e_str) (a_cons (e_str) (a_nil)))))) (w_or (t_not (t_v (e_isi .tuple B.isinstance B.tuple (v_e (e_var 3))))) (w_or1 (t_cmp o_ne (v_e (e_call1 f_len B.len (v_e (e_var 3)))) (v_e (e_var 0))))))) (b_one (s_ret rfl (e_bl))) (b_nil))
    (b_one (s_ret rfl (e_call1 f_all B.all (v_o (o_comp [("step", 4)] (i_tup (e_var 3)) (g_name 4) (ts_nil) (e_or (e_cmp o_is (v_e (e_var 4)) (v_e (e_non))) (e_one (e_fn h_is_below rfl rfl (a_cons (e_var 4) (a_cons (e_var 0) (a_nil)))))))))))))
def g_is_book : DeS := sSeq (sIf (dOr (dNot (dB (d1 (opE (dVar 0)) (fIsi .tuple)))) (dB (d2 (opE (d1 (opE (dVar 0)) fLen)) (opE (dC (.int 2))) (oNe)))) (sRet (dC (.bool false))) (sNil)) (sSeq (sAsg (dVar 0) (bTup 2 (bCons (bName 1) (bCons (bName 2) (bNil))))) (sSeq (sIf (dOr (dNot (dB (dFn fs_is_below (dCons (dVar 1) (dCons (d2 (opE (dC (.int 10))) (opE (dC (.int 1))) oAdd) (dNil)))))) (dB (d2 (opE (dVar 1)) (opE (dC (.int 1))) (oLt)))) (sRet (dC (.bool false))) (sNil)) (sSeq (sIf (dOr (dNot (dB (d1 (opE (dVar 2)) (fIsi .tuple)))) (dNot (dB (dChain (opE (dC (.int 1))) (opE (d1 (opE (dVar 2)) fLen)) (opE (dC (.int 10))) (oLe) (oLe))))) (sRet (dC (.bool false))) (sNil)) (sRet (d1 (opE (dLc (dItT (dVar 2)) [3] (bName 3) (dYes) (dFn fs_is_kind (dCons (dVar 1) (dCons (dVar 3) (dNil)))))) fAll)))))
def fs_is_book : FS := ⟨1, false, false, runs false false 4 g_is_book⟩
theorem fn_is_book : fs_is_book.n = 1 := rfl
abbrev s_is_book : Stmt := topS 11
theorem d_is_book (B : Bi mg) (h_is_below : DefG P w K mg base k "is_below" fs_is_below) (h_is_kind : DefG P w K mg base k "is_kind" fs_is_kind) (C_MOST_KINDS : ∃ t, mg "MOST_KINDS" = some (.int 10 t)) (C_MOST_STATES : ∃ t, mg "MOST_STATES" = some (.int 10 t))  (E : XK) : SB (gam P w K mg base ["thing", "many", "kinds", "kind"] (defScope s_is_book) k false E) (defBody s_is_book) g_is_book :=
  b_cons (s_if (t_w (w_or (t_not (t_v (e_isi .tuple B.isinstance B.tuple (v_e (e_var 0))))) (w_or1 (t_cmp o_ne (v_e (e_call1 f_len B.len (v_e (e_var 0)))) (v_e (e_int)))))) (b_one (s_ret rfl (e_bl))) (b_nil))
    (b_cons (s_asg (e_var 0) (g_tup (gs_cons (g_name 1) (gs_cons (g_name 2) (gs_nil)))))
    (b_cons (s_if (t_w (w_or (t_not (t_v (e_fn h_is_below rfl rfl (a_cons (e_var 1) (a_cons (e_bin o_add (v_e (e_glob C_MOST_STATES)) (v_e (e_int))) (a_nil)))))) (w_or1 (t_cmp o_lt (v_e (e_var 1)) (v_e (e_int)))))) (b_one (s_ret rfl (e_bl))) (b_nil))
    (b_cons (s_if (t_w (w_or (t_not (t_v (e_isi .tuple B.isinstance B.tuple (v_e (e_var 2))))) (w_or1 (t_not (t_chain o_le o_le (v_e (e_int)) (v_e (e_call1 f_len B.len (v_e (e_var 2)))) (v_e (e_glob C_MOST_KINDS))))))) (b_one (s_ret rfl (e_bl))) (b_nil))
    (b_one (s_ret rfl (e_call1 f_all B.all (v_o (o_comp [("kind", 3)] (i_tup (e_var 2)) (g_name 3) (ts_nil) (e_fn h_is_kind rfl rfl (a_cons (e_var 1) (a_cons (e_var 3) (a_nil))))))))))))
def g_need_book : DeS := sIf (dNot (dB (dFn fs_is_book (dCons (dVar 0) (dNil))))) (sRaise "NoBook") (sNil)
def fs_need_book : FS := ⟨1, false, false, runs false false 1 g_need_book⟩
theorem fn_need_book : fs_need_book.n = 1 := rfl
abbrev s_need_book : Stmt := topS 12
theorem d_need_book (B : Bi mg) (h_is_book : DefG P w K mg base k "is_book" fs_is_book)  (X_NoBook : ∀ E N sc, ExD (gam P w K mg base N sc k false E) "NoBook") (E : XK) : SB (gam P w K mg base ["book"] (defScope s_need_book) k false E) (defBody s_need_book) g_need_book :=
  b_one (s_if (t_not (t_v (e_fn h_is_book rfl rfl (a_cons (e_var 0) (a_nil))))) (b_one (s_raise (X_NoBook _ _ _))) (b_nil))
def g_is_number : DeS := sRet (dFn fs_is_below (dCons (dVar 1) (dCons (d1 (opE (d2 (opE (dVar 0)) (opE (dC (.int 1))) oIx)) fLen) (dNil))))
def fs_is_number : FS := ⟨2, false, false, runs false false 2 g_is_number⟩
theorem fn_is_number : fs_is_number.n = 2 := rfl
abbrev s_is_number : Stmt := topS 13
theorem d_is_number (B : Bi mg) (h_is_below : DefG P w K mg base k "is_below" fs_is_below)   (E : XK) : SB (gam P w K mg base ["book", "thing"] (defScope s_is_number) k false E) (defBody s_is_number) g_is_number :=
  b_one (s_ret rfl (e_fn h_is_below rfl rfl (a_cons (e_var 1) (a_cons (e_call1 f_len B.len (v_e (e_ix (hs := fun _ _ => rfl) (v_e (e_var 0)) (v_e (e_int))))) (a_nil)))))
def g_is_out : DeS := sRet (dAndV (dFn fs_is_number (dCons (dVar 0) (dCons (dVar 1) (dNil)))) (d2 (opE (d2 (opE (d2 (opE (d2 (opE (dVar 0)) (opE (dC (.int 1))) oIx)) (opE (dVar 1)) oIx)) (opE (dC (.int 0))) oIx)) (opE (dC (.str "out"))) (oEq)))
def fs_is_out : FS := ⟨2, false, false, runs false false 2 g_is_out⟩
theorem fn_is_out : fs_is_out.n = 2 := rfl
abbrev s_is_out : Stmt := topS 14
theorem d_is_out (B : Bi mg) (h_is_number : DefG P w K mg base k "is_number" fs_is_number)   (E : XK) : SB (gam P w K mg base ["book", "thing"] (defScope s_is_out) k false E) (defBody s_is_out) g_is_out :=
  b_one (s_ret rfl (e_and (e_fn h_is_number rfl rfl (a_cons (e_var 0) (a_cons (e_var 1) (a_nil)))) (e_one (e_cmp o_eq (v_e (e_ix (hs := fun _ _ => rfl) (v_e (e_ix (hs := fun _ _ => rfl) (v_e (e_ix (hs := fun _ _ => rfl) (v_e (e_var 0)) (v_e (e_int)))) (v_e (e_var 1)))) (v_e (e_int)))) (v_e (e_str))))))
def g_is_deed : DeS := sRet (dAndV (dFn fs_is_number (dCons (dVar 0) (dCons (dVar 1) (dNil)))) (d2 (opE (d2 (opE (d2 (opE (d2 (opE (dVar 0)) (opE (dC (.int 1))) oIx)) (opE (dVar 1)) oIx)) (opE (dC (.int 0))) oIx)) (opE (dC (.str "deed"))) (oEq)))
def fs_is_deed : FS := ⟨2, false, false, runs false false 2 g_is_deed⟩
theorem fn_is_deed : fs_is_deed.n = 2 := rfl
abbrev s_is_deed : Stmt := topS 15
theorem d_is_deed (B : Bi mg) (h_is_number : DefG P w K mg base k "is_number" fs_is_number)   (E : XK) : SB (gam P w K mg base ["book", "thing"] (defScope s_is_deed) k false E) (defBody s_is_deed) g_is_deed :=
  b_one (s_ret rfl (e_and (e_fn h_is_number rfl rfl (a_cons (e_var 0) (a_cons (e_var 1) (a_nil)))) (e_one (e_cmp o_eq (v_e (e_ix (hs := fun _ _ => rfl) (v_e (e_ix (hs := fun _ _ => rfl) (v_e (e_ix (hs := fun _ _ => rfl) (v_e (e_var 0)) (v_e (e_int)))) (v_e (e_var 1)))) (v_e (e_int)))) (v_e (e_str))))))
def g_is_mark : DeS := sSeq (sIf (dOr (dNot (dB (d1 (opE (dVar 2)) (fIsi .tuple)))) (dNot (dB (d1 (opE (dLc (dItT (dVar 2)) [3] (bName 3) (dYes) (dFn fs_is_number (dCons (dVar 0) (dCons (dVar 3) (dNil)))))) fAll)))) (sRet (dC (.bool false))) (sNil)) (sSeq (sIf (dAnd (dB (d2 (opE (d2 (opE (dVar 1)) (opE (dC (.int 0))) oIx)) (opE (dC (.str "out"))) (oEq))) (dB (d2 (opE (d1 (opE (dVar 2)) fLen)) (opE (dC (.int 0))) (oGt)))) (sRet (dC (.bool false))) (sNil)) (sRet (d1 (opE (dLc (dZip (dVar 2) (dSl (opE (dVar 2)) (dPt (dC (.int 1))) (dNoP) slT)) [4, 5] (bTup 2 (bCons (bName 4) (bCons (bName 5) (bNil)))) (dYes) (d2 (opE (dVar 4)) (opE (dVar 5)) (oLt)))) fAll)))
def fs_is_mark : FS := ⟨3, false, false, runs false false 6 g_is_mark⟩
theorem fn_is_mark : fs_is_mark.n = 3 := rfl
abbrev s_is_mark : Stmt := topS 16
theorem d_is_mark (B : Bi mg) (h_is_number : DefG P w K mg base k "is_number" fs_is_number)   (E : XK) : SB (gam P w K mg base ["book", "kind", "thing", "k", "low", "high"] (defScope s_is_mark) k false E) (defBody s_is_mark) g_is_mark :=
  b_cons (s_if (t_w (w_or (t_not (t_v (e_isi .tuple B.isinstance B.tuple (v_e (e_var 2))))) (w_or1 (t_not (t_v (e_call1 f_all B.all (v_o (o_comp [("k", 3)] (i_tup (e_var 2)) (g_name 3) (ts_nil) (e_fn h_is_number rfl rfl (a_cons (e_var 0) (a_cons (e_var 3) (a_nil)))))))))))) (b_one (s_ret rfl (e_bl))) (b_nil))
    (b_cons (s_if (t_w (w_and (t_cmp o_eq (v_e (e_ix (hs := fun _ _ => rfl) (v_e (e_var 1)) (v_e (e_int)))) (v_e (e_str))) (w_and1 (t_cmp o_gt (v_e (e_call1 f_len B.len (v_e (e_var 2)))) (v_e (e_int)))))) (b_one (s_ret rfl (e_bl))) (b_nil))
    (b_one (s_ret rfl (e_call1 f_all B.all (v_o (o_comp [("low", 4), ("high", 5)] (i_zip B.zip (e_var 2) (e_slT (v_e (e_var 2)) (p_some (e_int)) (p_none))) (g_tup (gs_cons (g_name 4) (gs_cons (g_name 5) (gs_nil)))) (ts_nil) (e_cmp o_lt (v_e (e_var 4)) (v_e (e_var 5)))))))))
def g_is_marks_here : DeS := sSeq (sIf (dOr (dNot (dB (d1 (opE (dVar 1)) (fIsi .tuple)))) (dB (d2 (opE (d1 (opE (dVar 1)) fLen)) (opE (d1 (opE (d2 (opE (dVar 0)) (opE (dC (.int 1))) oIx)) fLen)) (oNe)))) (sRet (dC (.bool false))) (sNil)) (sRet (d1 (opE (dLc (dZip (d2 (opE (dVar 0)) (opE (dC (.int 1))) oIx) (dVar 1)) [2, 3] (bTup 2 (bCons (bName 2) (bCons (bName 3) (bNil)))) (dYes) (dFn fs_is_mark (dCons (dVar 0) (dCons (dVar 2) (dCons (dVar 3) (dNil))))))) fAll))
def fs_is_marks_here : FS := ⟨2, false, false, runs false false 4 g_is_marks_here⟩
theorem fn_is_marks_here : fs_is_marks_here.n = 2 := rfl
abbrev s_is_marks_here : Stmt := topS 17
theorem d_is_marks_here (B : Bi mg) (h_is_mark : DefG P w K mg base k "is_mark" fs_is_mark)   (E : XK) : SB (gam P w K mg base ["book", "thing", "kind", "mark"] (defScope s_is_marks_here) k false E) (defBody s_is_marks_here) g_is_marks_here :=
  b_cons (s_if (t_w (w_or (t_not (t_v (e_isi .tuple B.isinstance B.tuple (v_e (e_var 1))))) (w_or1 (t_cmp o_ne (v_e (e_call1 f_len B.len (v_e (e_var 1)))) (v_e (e_call1 f_len B.len (v_e (e_ix (hs := fun _ _ => rfl) (v_e (e_var 0)) (v_e (e_int)))))))))) (b_one (s_ret rfl (e_bl))) (b_nil))
    (b_one (s_ret rfl (e_call1 f_all B.all (v_o (o_comp [("kind", 2), ("mark", 3)] (i_zip B.zip (e_ix (hs := fun _ _ => rfl) (v_e (e_var 0)) (v_e (e_int))) (e_var 1)) (g_tup (gs_cons (g_name 2) (gs_cons (g_name 3) (gs_nil)))) (ts_nil) (e_fn h_is_mark rfl rfl (a_cons (e_var 0) (a_cons (e_var 2) (a_cons (e_var 3) (a_nil))))))))))
def g_behind : DeS := sRet (d2 (opE (d2 (opE (d2 (opE (d2 (opE (dVar 0)) (opE (dC (.int 1))) oIx)) (opE (dVar 2)) oIx)) (opE (dC (.int 1))) oIx)) (opE (dVar 1)) oIx)
def fs_behind : FS := ⟨3, false, false, runs false false 3 g_behind⟩
theorem fn_behind : fs_behind.n = 3 := rfl
abbrev s_behind : Stmt := topS 18
theorem d_behind (B : Bi mg)    (E : XK) : SB (gam P w K mg base ["book", "state", "k"] (defScope s_behind) k false E) (defBody s_behind) g_behind :=
  b_one (s_ret rfl (e_ix (hs := fun _ _ => rfl) (v_e (e_ix (hs := fun _ _ => rfl) (v_e (e_ix (hs := fun _ _ => rfl) (v_e (e_ix (hs := fun _ _ => rfl) (v_e (e_var 0)) (v_e (e_int)))) (v_e (e_var 2)))) (v_e (e_int)))) (v_e (e_var 1))))
def g_need_marks : DeS := sIf (dNot (dB (dFn fs_is_marks_here (dCons (dVar 0) (dCons (dVar 1) (dNil)))))) (sRaise "NoMarks") (sNil)
def fs_need_marks : FS := ⟨2, false, false, runs false false 2 g_need_marks⟩
theorem fn_need_marks : fs_need_marks.n = 2 := rfl
abbrev s_need_marks : Stmt := topS 19
theorem d_need_marks (B : Bi mg) (h_is_marks_here : DefG P w K mg base k "is_marks_here" fs_is_marks_here)  (X_NoMarks : ∀ E N sc, ExD (gam P w K mg base N sc k false E) "NoMarks") (E : XK) : SB (gam P w K mg base ["book", "marks"] (defScope s_need_marks) k false E) (defBody s_need_marks) g_need_marks :=
  b_one (s_if (t_not (t_v (e_fn h_is_marks_here rfl rfl (a_cons (e_var 0) (a_cons (e_var 1) (a_nil)))))) (b_one (s_raise (X_NoMarks _ _ _))) (b_nil))
def g_meets : DeS := sRet (d1 (opE (dLc (dItS (dVar 0)) [2] (bName 2) (dYes) (d2 (opE (dVar 2)) (opE (dVar 1)) (oIn false)))) fAny)
def fs_meets : FS := ⟨2, false, false, runs false false 3 g_meets⟩
theorem fn_meets : fs_meets.n = 2 := rfl
abbrev s_meets : Stmt := topS 20
theorem d_meets (B : Bi mg)    (E : XK) : SB (gam P w K mg base ["mark", "row", "k"] (defScope s_meets) k false E) (defBody s_meets) g_meets :=
  b_one (s_ret rfl (e_call1 f_any B.any (v_o (o_comp [("k", 2)] (i_seq (e_var 0)) (g_name 2) (ts_nil) (e_cmp o_in (v_e (e_var 2)) (v_e (e_var 1)))))))
def g_Talk_come : DeS := sSeq (sAsg (dFn fs_behind (dCons (dTkB 0) (dCons (d2 (opF 0 .st) (opE (dNeg (dC (.int 1)))) oIx) (dCons (dVar 1) (dNil))))) (bName 2)) (sSeq (sIf (dB (d2 (opE (dVar 2)) (opE (dC .none)) (oIsNot))) (sSeq (sTkMut 0 .ha (dCons (dVar 1) dNil) gApp) (sTkMut 0 .st (dCons (dVar 2) dNil) gApp)) (sNil)) (sRet (dVar 2)))
def fs_Talk_come : FS := ⟨2, true, false, runsK false 3 g_Talk_come⟩
theorem fn_Talk_come : fs_Talk_come.n = 2 := rfl
abbrev s_Talk_come : Stmt := topM 22 2
theorem d_Talk_come (B : Bi mg) (T : TalkC K) (h_behind : DefG P w K mg base k "behind" fs_behind)   (E : XK) : SB (gam P w K mg base ["self", "k", "state"] (defScope s_Talk_come) k false E) (defBody s_Talk_come) g_Talk_come :=
  b_cons (s_set 2 (e_fn h_behind rfl rfl (a_cons (e_tkb 0 T) (a_cons (e_ix (hs := fun _ _ => rfl) (v_tkf 0 .st T) (v_e (e_neg (e_int)))) (a_cons (e_var 1) (a_nil))))))
    (b_cons (s_if (t_cmp o_isNot (v_e (e_var 2)) (v_e (e_non))) (b_cons (s_tkApp 0 .ha T (e_var 1))
    (b_one (s_tkApp 0 .st T (e_var 2)))) (b_nil))
    (b_one (s_ret rfl (e_var 2))))
def g_Talk_look : DeS := sSeq (sAsg (d2 (opE (dC (.int 0))) (opE (d2 (opE (d1 (opF 0 .ha) fLen)) (opE (dVar 2)) oSub)) fMax2) (bName 3)) (sSeq (sTkMut 0 .mo (dCons (dVar 3) (dCons (dVar 1) dNil)) gPut) (sRet (d2 (opF 0 .st) (opE (dVar 3)) oIx)))
def fs_Talk_look : FS := ⟨3, true, false, runsK false 4 g_Talk_look⟩
theorem fn_Talk_look : fs_Talk_look.n = 3 := rfl
abbrev s_Talk_look : Stmt := topM 22 3
theorem d_Talk_look (B : Bi mg) (T : TalkC K)    (E : XK) : SB (gam P w K mg base ["self", "h", "late", "moment"] (defScope s_Talk_look) k false E) (defBody s_Talk_look) g_Talk_look :=
  b_cons (s_set 3 (e_call2 f_max2 B.max (v_e (e_int)) (v_e (e_bin o_sub (v_e (e_call1 f_len B.len (v_tkf 0 .ha T))) (v_e (e_var 2))))))
    (b_cons (s_tkPut 0 .mo T (e_var 3) (e_var 1))
    (b_one (s_ret rfl (e_ix (hs := fun _ _ => rfl) (v_tkf 0 .st T) (v_e (e_var 3))))))
def g_Talk_sight : DeS := sSeq (sAsg (dGetN (opF 0 .mo) (opE (dVar 1))) (bName 2)) (sRet (dIf (dB (d2 (opE (dVar 2)) (opE (dC .none)) (oIs))) (dC .none) (d2 (opF 0 .st) (opE (dVar 2)) oIx)))
def fs_Talk_sight : FS := ⟨2, true, false, runsK false 3 g_Talk_sight⟩
theorem fn_Talk_sight : fs_Talk_sight.n = 2 := rfl
abbrev s_Talk_sight : Stmt := topM 22 4
theorem d_Talk_sight (B : Bi mg) (T : TalkC K)    (E : XK) : SB (gam P w K mg base ["self", "h", "moment"] (defScope s_Talk_sight) k false E) (defBody s_Talk_sight) g_Talk_sight :=
  b_cons (s_set 2 (e_getN (v_tkf 0 .mo T) (v_e (e_var 1))))
    (b_one (s_ret rfl (e_if (t_cmp o_is (v_e (e_var 2)) (v_e (e_non))) (e_non) (e_ix (hs := fun _ _ => rfl) (v_tkf 0 .st T) (v_e (e_var 2))))))
def g_Talk_since : DeS := sSeq (sAsg (dGetN (opF 0 .mo) (opE (dVar 1))) (bName 2)) (sRet (dIf (dB (d2 (opE (dVar 2)) (opE (dC .none)) (oIs))) (dC .none) (dSh (dSl (opF 0 .ha) (dPt (dVar 2)) (dNoP) slL))))
def fs_Talk_since : FS := ⟨2, true, false, runsK false 3 g_Talk_since⟩
theorem fn_Talk_since : fs_Talk_since.n = 2 := rfl
abbrev s_Talk_since : Stmt := topM 22 5
theorem d_Talk_since (B : Bi mg) (T : TalkC K)    (E : XK) : SB (gam P w K mg base ["self", "h", "moment"] (defScope s_Talk_since) k false E) (defBody s_Talk_since) g_Talk_since :=
  b_cons (s_set 2 (e_getN (v_tkf 0 .mo T) (v_e (e_var 1))))
    (b_one (s_ret rfl (e_if (t_cmp o_is (v_e (e_var 2)) (v_e (e_non))) (e_non) (e_o (o_slL (v_tkf 0 .ha T) (p_some (e_var 2)) (p_none))))))
def g_Talk_allows : DeS := sSeq (sAsg (dFnK fs_Talk_sight 0 (dCons (dVar 1) (dNil))) (bName 3)) (sSeq (sIf (dOr (dB (d2 (opE (dVar 3)) (opE (dC .none)) (oIs))) (dB (d2 (opE (dFn fs_behind (dCons (dTkB 0) (dCons (dVar 3) (dCons (dVar 2) (dNil)))))) (opE (dC .none)) (oIs)))) (sRet (dC (.bool false))) (sNil)) (sRet (dAndV (d2 (opE (dFn fs_behind (dCons (dTkB 0) (dCons (d2 (opF 0 .st) (opE (dNeg (dC (.int 1)))) oIx) (dCons (dVar 2) (dNil)))))) (opE (dC .none)) (oIsNot)) (dNotV (dFn fs_meets (dCons (d2 (opE (dTkC 0)) (opE (dVar 2)) oIx) (dCons (dFnK fs_Talk_since 0 (dCons (dVar 1) (dNil))) (dNil))))))))
def fs_Talk_allows : FS := ⟨3, true, false, runsK false 4 g_Talk_allows⟩
theorem fn_Talk_allows : fs_Talk_allows.n = 3 := rfl
abbrev s_Talk_allows : Stmt := topM 22 6
theorem d_Talk_allows (B : Bi mg) (T : TalkC K) (h_Talk_sight : DefM P w K mg base k "sight" fs_Talk_sight) (h_behind : DefG P w K mg base k "behind" fs_behind) (h_meets : DefG P w K mg base k "meets" fs_meets) (h_Talk_since : DefM P w K mg base k "since" fs_Talk_since)   (E : XK) : SB (gam P w K mg base ["self", "h", "d", "seen"] (defScope s_Talk_allows) k false E) (defBody s_Talk_allows) g_Talk_allows :=
  b_cons (s_set 3 (e_mK 0 T h_Talk_sight rfl (a_cons (e_var 1) (a_nil))))
    (b_cons (s_if (t_w (w_or (t_cmp o_is (v_e (e_var 3)) (v_e (e_non))) (w_or1 (t_cmp o_is (v_e (e_fn h_behind rfl rfl (a_cons (e_tkb 0 T) (a_cons (e_var 3) (a_cons (e_var 2) (a_nil)))))) (v_e (e_non)))))) (b_one (s_ret rfl (e_bl))) (b_nil))
    (b_one (s_ret rfl (e_and (e_cmp o_isNot (v_e (e_fn h_behind rfl rfl (a_cons (e_tkb 0 T) (a_cons (e_ix (hs := fun _ _ => rfl) (v_tkf 0 .st T) (v_e (e_neg (e_int)))) (a_cons (e_var 2) (a_nil)))))) (v_e (e_non))) (e_one (e_not (e_fn h_meets rfl rfl (a_cons (e_ix (hs := fun _ _ => rfl) (v_e (e_tkc 0 T)) (v_e (e_var 2))) (a_cons (e_mK 0 T h_Talk_since rfl (a_cons (e_var 1) (a_nil))) (a_nil))))))))))
def g_Talk_do : DeS := sSeq (sIf (dNot (dB (dFnK fs_Talk_allows 0 (dCons (dVar 1) (dCons (dVar 2) (dNil)))))) (sRet (dC (.bool false))) (sNil)) (sSeq (sDrop (dFnK fs_Talk_come 0 (dCons (dVar 2) (dNil)))) (sSeq (sTkMut 0 .mo (dCons (d1 (opF 0 .ha) fLen) (dCons (dVar 1) dNil)) gPut) (sRet (dC (.bool true)))))
def fs_Talk_do : FS := ⟨3, true, false, runsK false 3 g_Talk_do⟩
theorem fn_Talk_do : fs_Talk_do.n = 3 := rfl
abbrev s_Talk_do : Stmt := topM 22 7
theorem d_Talk_do (B : Bi mg) (T : TalkC K) (h_Talk_allows : DefM P w K mg base k "allows" fs_Talk_allows) (h_Talk_come : DefM P w K mg base k "come" fs_Talk_come)   (E : XK) : SB (gam P w K mg base ["self", "h", "d"] (defScope s_Talk_do) k false E) (defBody s_Talk_do) g_Talk_do :=
  b_cons (s_if (t_not (t_v (e_mK 0 T h_Talk_allows rfl (a_cons (e_var 1) (a_cons (e_var 2) (a_nil)))))) (b_one (s_ret rfl (e_bl))) (b_nil))
    (b_cons (s_expr (e_mK 0 T h_Talk_come rfl (a_cons (e_var 2) (a_nil))))
    (b_cons (s_tkPut 0 .mo T (e_call1 f_len B.len (v_tkf 0 .ha T)) (e_var 1))
    (b_one (s_ret rfl (e_bl)))))
def g_is_helper : DeS := sRet (dFn fs_is_below (dCons (dVar 0) (dCons (dC (.int 100)) (dNil))))
def fs_is_helper : FS := ⟨1, false, false, runs false false 1 g_is_helper⟩
theorem fn_is_helper : fs_is_helper.n = 1 := rfl
abbrev s_is_helper : Stmt := topS 26
theorem d_is_helper (B : Bi mg) (h_is_below : DefG P w K mg base k "is_below" fs_is_below) (C_HELPERS : ∃ t, mg "HELPERS" = some (.int 100 t))  (E : XK) : SB (gam P w K mg base ["thing"] (defScope s_is_helper) k false E) (defBody s_is_helper) g_is_helper :=
  b_one (s_ret rfl (e_fn h_is_below rfl rfl (a_cons (e_var 0) (a_cons (e_glob C_HELPERS) (a_nil)))))
def g_is_late : DeS := sRet (dFn fs_is_below (dCons (dVar 0) (dCons (d2 (opE (dC (.int 1000))) (opE (dC (.int 1))) oAdd) (dNil))))
def fs_is_late : FS := ⟨1, false, false, runs false false 1 g_is_late⟩
theorem fn_is_late : fs_is_late.n = 1 := rfl
abbrev s_is_late : Stmt := topS 27
theorem d_is_late (B : Bi mg) (h_is_below : DefG P w K mg base k "is_below" fs_is_below) (C_LATEST : ∃ t, mg "LATEST" = some (.int 1000 t))  (E : XK) : SB (gam P w K mg base ["thing"] (defScope s_is_late) k false E) (defBody s_is_late) g_is_late :=
  b_one (s_ret rfl (e_fn h_is_below rfl rfl (a_cons (e_var 0) (a_cons (e_bin o_add (v_e (e_glob C_LATEST)) (v_e (e_int))) (a_nil)))))
def g_is_entry : DeS := sSeq (sIf (dNot (dB (d1 (opE (dVar 1)) (fIsi .tuple)))) (sRet (dC (.bool false))) (sNil)) (sSeq (sIf (dB (d2 (opE (d1 (opE (dVar 1)) fLen)) (opE (dC (.int 2))) (oEq))) (sRet (dAndV (d2 (opE (d2 (opE (dVar 1)) (opE (dC (.int 0))) oIx)) (opE (dC (.str "come"))) (oEq)) (dFn fs_is_out (dCons (dVar 0) (dCons (d2 (opE (dVar 1)) (opE (dC (.int 1))) oIx) (dNil)))))) (sNil)) (sSeq (sIf (dOr (dB (d2 (opE (d1 (opE (dVar 1)) fLen)) (opE (dC (.int 3))) (oNe))) (dNot (dB (dFn fs_is_helper (dCons (d2 (opE (dVar 1)) (opE (dC (.int 1))) oIx) (dNil)))))) (sRet (dC (.bool false))) (sNil)) (sSeq (sIf (dB (d2 (opE (d2 (opE (dVar 1)) (opE (dC (.int 0))) oIx)) (opE (dC (.str "look"))) (oEq))) (sRet (dFn fs_is_late (dCons (d2 (opE (dVar 1)) (opE (dC (.int 2))) oIx) (dNil)))) (sNil)) (sRet (dAndV (d2 (opE (d2 (opE (dVar 1)) (opE (dC (.int 0))) oIx)) (opE (dC (.str "do"))) (oEq)) (dFn fs_is_deed (dCons (dVar 0) (dCons (d2 (opE (dVar 1)) (opE (dC (.int 2))) oIx) (dNil)))))))))
def fs_is_entry : FS := ⟨2, false, false, runs false false 2 g_is_entry⟩
theorem fn_is_entry : fs_is_entry.n = 2 := rfl
abbrev s_is_entry : Stmt := topS 28
theorem d_is_entry (B : Bi mg) (h_is_out : DefG P w K mg base k "is_out" fs_is_out) (h_is_helper : DefG P w K mg base k "is_helper" fs_is_helper) (h_is_late : DefG P w K mg base k "is_late" fs_is_late) (h_is_deed : DefG P w K mg base k "is_deed" fs_is_deed)   (E : XK) : SB (gam P w K mg base ["book", "thing"] (defScope s_is_entry) k false E) (defBody s_is_entry) g_is_entry :=
  b_cons (s_if (t_not (t_v (e_isi .tuple B.isinstance B.tuple (v_e (e_var 1))))) (b_one (s_ret rfl (e_bl))) (b_nil))
    (b_cons (s_if (t_cmp o_eq (v_e (e_call1 f_len B.len (v_e (e_var 1)))) (v_e (e_int))) (b_one (s_ret rfl (e_and (e_cmp o_eq (v_e (e_ix (hs := fun _ _ => rfl) (v_e (e_var 1)) (v_e (e_int)))) (v_e (e_str))) (e_one (e_fn h_is_out rfl rfl (a_cons (e_var 0) (a_cons (e_ix (hs := fun _ _ => rfl) (v_e (e_var 1)) (v_e (e_int))) (a_nil)))))))) (b_nil))
    (b_cons (s_if (t_w (w_or (t_cmp o_ne (v_e (e_call1 f_len B.len (v_e (e_var 1)))) (v_e (e_int))) (w_or1 (t_not (t_v (e_fn h_is_helper rfl rfl (a_cons (e_ix (hs := fun _ _ => rfl) (v_e (e_var 1)) (v_e (e_int))) (a_nil)))))))) (b_one (s_ret rfl (e_bl))) (b_nil))
    (b_cons (s_if (t_cmp o_eq (v_e (e_ix (hs := fun _ _ => rfl) (v_e (e_var 1)) (v_e (e_int)))) (v_e (e_str))) (b_one (s_ret rfl (e_fn h_is_late rfl rfl (a_cons (e_ix (hs := fun _ _ => rfl) (v_e (e_var 1)) (v_e (e_int))) (a_nil))))) (b_nil))
    (b_one (s_ret rfl (e_and (e_cmp o_eq (v_e (e_ix (hs := fun _ _ => rfl) (v_e (e_var 1)) (v_e (e_int)))) (v_e (e_str))) (e_one (e_fn h_is_deed rfl rfl (a_cons (e_var 0) (a_cons (e_ix (hs := fun _ _ => rfl) (v_e (e_var 1)) (v_e (e_int))) (a_nil)))))))))))
def g_need_log : DeS := sIf (dOr (dNot (dB (d1 (opE (dVar 1)) (fIsi2 .list .tuple)))) (dNot (dB (d1 (opE (dLc (dItS (dVar 1)) [2] (bName 2) (dYes) (dFn fs_is_entry (dCons (dVar 0) (dCons (dVar 2) (dNil)))))) fAll)))) (sRaise "NoLog") (sNil)
def fs_need_log : FS := ⟨2, false, false, runs false false 3 g_need_log⟩
theorem fn_need_log : fs_need_log.n = 2 := rfl
abbrev s_need_log : Stmt := topS 29
theorem d_need_log (B : Bi mg) (h_is_entry : DefG P w K mg base k "is_entry" fs_is_entry)  (X_NoLog : ∀ E N sc, ExD (gam P w K mg base N sc k false E) "NoLog") (E : XK) : SB (gam P w K mg base ["book", "log", "entry"] (defScope s_need_log) k false E) (defBody s_need_log) g_need_log :=
  b_one (s_if (t_w (w_or (t_not (t_v (e_isi2 .list .tuple B.isinstance B.list B.tuple (v_e (e_var 1))))) (w_or1 (t_not (t_v (e_call1 f_all B.all (v_o (o_comp [("entry", 2)] (i_seq (e_var 1)) (g_name 2) (ts_nil) (e_fn h_is_entry rfl rfl (a_cons (e_var 0) (a_cons (e_var 2) (a_nil)))))))))))) (b_one (s_raise (X_NoLog _ _ _))) (b_nil))
def g_take : DeS := sSeq (sIf (dB (d2 (opE (d2 (opE (dVar 1)) (opE (dC (.int 0))) oIx)) (opE (dC (.str "come"))) (oEq))) (sRet (dFnK fs_Talk_come 0 (dCons (d2 (opE (dVar 1)) (opE (dC (.int 1))) oIx) (dNil)))) (sNil)) (sSeq (sIf (dB (d2 (opE (d2 (opE (dVar 1)) (opE (dC (.int 0))) oIx)) (opE (dC (.str "look"))) (oEq))) (sRet (dFnK fs_Talk_look 0 (dCons (d2 (opE (dVar 1)) (opE (dC (.int 1))) oIx) (dCons (d2 (opE (dVar 1)) (opE (dC (.int 2))) oIx) (dNil))))) (sNil)) (sRet (dFnK fs_Talk_do 0 (dCons (d2 (opE (dVar 1)) (opE (dC (.int 1))) oIx) (dCons (d2 (opE (dVar 1)) (opE (dC (.int 2))) oIx) (dNil))))))
def fs_take : FS := ⟨2, true, false, runsK false 2 g_take⟩
theorem fn_take : fs_take.n = 2 := rfl
abbrev s_take : Stmt := topS 30
theorem d_take (B : Bi mg) (T : TalkC K) (h_Talk_come : DefM P w K mg base k "come" fs_Talk_come) (h_Talk_look : DefM P w K mg base k "look" fs_Talk_look) (h_Talk_do : DefM P w K mg base k "do" fs_Talk_do)   (E : XK) : SB (gam P w K mg base ["talk", "entry"] (defScope s_take) k false E) (defBody s_take) g_take :=
  b_cons (s_if (t_cmp o_eq (v_e (e_ix (hs := fun _ _ => rfl) (v_e (e_var 1)) (v_e (e_int)))) (v_e (e_str))) (b_one (s_ret rfl (e_mK 0 T h_Talk_come rfl (a_cons (e_ix (hs := fun _ _ => rfl) (v_e (e_var 1)) (v_e (e_int))) (a_nil))))) (b_nil))
    (b_cons (s_if (t_cmp o_eq (v_e (e_ix (hs := fun _ _ => rfl) (v_e (e_var 1)) (v_e (e_int)))) (v_e (e_str))) (b_one (s_ret rfl (e_mK 0 T h_Talk_look rfl (a_cons (e_ix (hs := fun _ _ => rfl) (v_e (e_var 1)) (v_e (e_int))) (a_cons (e_ix (hs := fun _ _ => rfl) (v_e (e_var 1)) (v_e (e_int))) (a_nil)))))) (b_nil))
    (b_one (s_ret rfl (e_mK 0 T h_Talk_do rfl (a_cons (e_ix (hs := fun _ _ => rfl) (v_e (e_var 1)) (v_e (e_int))) (a_cons (e_ix (hs := fun _ _ => rfl) (v_e (e_var 1)) (v_e (e_int))) (a_nil)))))))
def g_would_overlook : DeS := sSeq (sIf (dB (d2 (opE (d2 (opE (dVar 2)) (opE (dC (.int 0))) oIx)) (opE (dC (.str "do"))) (oNe))) (sRet (dC (.bool false))) (sNil)) (sSeq (sAsg (dFnK fs_Talk_since 0 (dCons (d2 (opE (dVar 2)) (opE (dC (.int 1))) oIx) (dNil))) (bName 3)) (sRet (dAndV (d2 (opE (dVar 3)) (opE (dC .none)) (oIsNot)) (dFn fs_meets (dCons (d2 (opE (dVar 1)) (opE (d2 (opE (dVar 2)) (opE (dC (.int 2))) oIx)) oIx) (dCons (dVar 3) (dNil)))))))
def fs_would_overlook : FS := ⟨3, true, false, runsK false 4 g_would_overlook⟩
theorem fn_would_overlook : fs_would_overlook.n = 3 := rfl
abbrev s_would_overlook : Stmt := topS 31
theorem d_would_overlook (B : Bi mg) (T : TalkC K) (h_Talk_since : DefM P w K mg base k "since" fs_Talk_since) (h_meets : DefG P w K mg base k "meets" fs_meets)   (E : XK) : SB (gam P w K mg base ["talk", "page", "entry", "since"] (defScope s_would_overlook) k false E) (defBody s_would_overlook) g_would_overlook :=
  b_cons (s_if (t_cmp o_ne (v_e (e_ix (hs := fun _ _ => rfl) (v_e (e_var 2)) (v_e (e_int)))) (v_e (e_str))) (b_one (s_ret rfl (e_bl))) (b_nil))
    (b_cons (s_set 3 (e_mK 0 T h_Talk_since rfl (a_cons (e_ix (hs := fun _ _ => rfl) (v_e (e_var 2)) (v_e (e_int))) (a_nil))))
    (b_one (s_ret rfl (e_and (e_cmp o_isNot (v_e (e_var 3)) (v_e (e_non))) (e_one (e_fn h_meets rfl rfl (a_cons (e_ix (hs := fun _ _ => rfl) (v_e (e_var 1)) (v_e (e_ix (hs := fun _ _ => rfl) (v_e (e_var 2)) (v_e (e_int))))) (a_cons (e_var 3) (a_nil)))))))))
def g_faults_in : DeS := sSeq (sDrop (dFn fs_need_book (dCons (dVar 0) (dNil)))) (sSeq (sDrop (dFn fs_need_marks (dCons (dVar 0) (dCons (dVar 1) (dNil))))) (sSeq (sDrop (dFn fs_need_marks (dCons (dVar 0) (dCons (dVar 2) (dNil))))) (sSeq (sDrop (dFn fs_need_log (dCons (dVar 0) (dCons (dVar 3) (dNil))))) (sTalk 4 (dCons (dVar 0) (dCons (dVar 2) (dNil))) (sSeq (sSetO 5 (dLst (dNil))) (sSeq (sFor (dEnum (dVar 3)) (bTup 2 (bCons (bName 6) (bCons (bName 7) (bNil)))) (sSeq (sAsg (dFnK fs_would_overlook 4 (dCons (dVar 1) (dCons (dVar 7) (dNil)))) (bName 8)) (sSeq (sAsg (dFnK fs_take 4 (dCons (dVar 7) (dNil))) (bName 9)) (sIf (dAnd (dB (dVar 8)) (dB (d2 (opE (dVar 9)) (opE (dC (.bool true))) (oIs)))) (sMut 5 (dCons (dVar 6) dNil) gApp) (sNil))))) (sRetN 5)))))))
def fs_faults_in : FS := ⟨4, false, true, runs false true 10 g_faults_in⟩
theorem fn_faults_in : fs_faults_in.n = 4 := rfl
abbrev s_faults_in : Stmt := topS 32
theorem d_faults_in (B : Bi mg) (MT : MkT P w K mg base k) (T : TalkC K) (h_need_book : DefG P w K mg base k "need_book" fs_need_book) (h_need_marks : DefG P w K mg base k "need_marks" fs_need_marks) (h_need_log : DefG P w K mg base k "need_log" fs_need_log) (h_would_overlook : DefK P w K mg base k "would_overlook" fs_would_overlook) (h_take : DefK P w K mg base k "take" fs_take)   (E : XK) : SB (gam P w K mg base ["book", "page", "checks", "log", "talk", "places", "place", "entry", "overlooked", "told"] (defScope s_faults_in) k true E) (defBody s_faults_in) g_faults_in :=
  b_cons (s_expr (e_fn h_need_book rfl rfl (a_cons (e_var 0) (a_nil))))
    (b_cons (s_expr (e_fn h_need_marks rfl rfl (a_cons (e_var 0) (a_cons (e_var 1) (a_nil)))))
    (b_cons (s_expr (e_fn h_need_marks rfl rfl (a_cons (e_var 0) (a_cons (e_var 2) (a_nil)))))
    (b_cons (s_expr (e_fn h_need_log rfl rfl (a_cons (e_var 0) (a_cons (e_var 3) (a_nil)))))
    (b_talk 4 MT (a_cons (e_var 0) (a_cons (e_var 2) (a_nil)))
    (b_cons (s_setO 5 (o_lst (a_nil)))
    (b_cons (s_for (i_enum B.enumerate (e_var 3)) (g_tup (gs_cons (g_name 6) (gs_cons (g_name 7) (gs_nil)))) (b_cons (s_set 8 (e_fnK 4 h_would_overlook rfl (a_cons (e_var 1) (a_cons (e_var 7) (a_nil)))))
    (b_cons (s_set 9 (e_fnK 4 h_take rfl (a_cons (e_var 7) (a_nil))))
    (b_one (s_if (t_w (w_and (t_v (e_var 8)) (w_and1 (t_cmp o_is (v_e (e_var 9)) (v_e (e_bl)))))) (b_one (s_app 5 (e_var 6))) (b_nil))))))
    (b_one (s_retN 5 rfl))))))))
def g__law_mixed : DeS := sSeq (sAsg (d2 (opE (d1 (opE (d2 (opE (d2 (opE (d2 (opE (d2 (opE (d1 (opE (dVar 0)) fInt)) (opE (dC (.int 2147483647))) oMod)) (opE (dC (.int 48271))) oMul)) (opE (d2 (opE (dVar 1)) (opE (dC (.int 69621))) oMul)) oAdd)) (opE (dC (.int 1048583))) oAdd)) fInt)) (opE (dC (.int 2147483629))) oMod) (bName 2)) (sSeq (sAsg (d2 (opE (d1 (opE (d2 (opE (dVar 2)) (opE (dVar 2)) oMul)) fInt)) (opE (dC (.int 2147483587))) oMod) (bName 2)) (sRet (d2 (opE (d1 (opE (d2 (opE (dVar 2)) (opE (d2 (opE (dVar 2)) (opE (dC (.int 2))) oAdd)) oMul)) fInt)) (opE (dC (.int 2147483579))) oMod)))
def fs__law_mixed : FS := ⟨2, false, false, runs false false 3 g__law_mixed⟩
theorem fn__law_mixed : fs__law_mixed.n = 2 := rfl
abbrev s__law_mixed : Stmt := topS 34
theorem d__law_mixed (B : Bi mg)    (E : XK) : SB (gam P w K mg base ["cell", "k", "number"] (defScope s__law_mixed) k false E) (defBody s__law_mixed) g__law_mixed :=
  b_cons (s_set 2 (e_bin o_mod (v_e (e_ty1 f_int B.int (v_e (e_bin o_add (v_e (e_bin o_add (v_e (e_bin o_mul (v_e (e_bin o_mod (v_e (e_ty1 f_int B.int (v_e (e_var 0)))) (v_e (e_int)))) (v_e (e_int)))) (v_e (e_bin o_mul (v_e (e_var 1)) (v_e (e_int)))))) (v_e (e_int)))))) (v_e (e_int))))
    (b_cons (s_set 2 (e_bin o_mod (v_e (e_ty1 f_int B.int (v_e (e_bin o_mul (v_e (e_var 2)) (v_e (e_var 2)))))) (v_e (e_int))))
    (b_one (s_ret rfl (e_bin o_mod (v_e (e_ty1 f_int B.int (v_e (e_bin o_mul (v_e (e_var 2)) (v_e (e_bin o_add (v_e (e_var 2)) (v_e (e_int)))))))) (v_e (e_int))))))
def g__law_pile : DeS := sSeq (sAsg (dC (.int 0)) (bName 2)) (sSeq (sIf (dB (d2 (opE (dVar 1)) (opE (d1 (opE (dVar 0)) fLen)) (oLt))) (sAsg (d2 (opE (dVar 0)) (opE (dVar 1)) oIx) (bName 2)) (sNil)) (sSeq (sIf (dB (d2 (opE (dVar 2)) (opE (d2 (opE (dC (.int 10))) (opE (dC (.int 18))) oPow)) (oGe))) (sRet (dLst (dCons (d2 (opE (d1 (opE (d2 (opE (dVar 2)) (opE (d2 (opE (dC (.int 10))) (opE (dC (.int 18))) oPow)) oSub)) fInt)) (opE (d2 (opE (d2 (opE (d2 (opE (d2 (opE (dC (.int 10))) (opE (dC (.int 60))) oPow)) (opE (d2 (opE (dC (.int 10))) (opE (dC (.int 60))) oPow)) oMul)) (opE (d2 (opE (dC (.int 10))) (opE (dC (.int 60))) oPow)) oMul)) (opE (d2 (opE (dC (.int 10))) (opE (dC (.int 60))) oPow)) oMul)) oMod) (dNil)))) (sNil)) (sSeq (sAsg (dC (.int 0)) (bName 3)) (sSeq (sFor (dR1 (dC (.int 24))) (bName 4) (sAsg (d2 (opE (d2 (opE (dVar 3)) (opE (dC (.int 2147483579))) oMul)) (opE (dFn fs__law_mixed (dCons (dVar 2) (dCons (d2 (opE (d2 (opE (d2 (opE (dC (.int 7))) (opE (dVar 1)) oMul)) (opE (d2 (opE (dC (.int 100))) (opE (dVar 4)) oMul)) oAdd)) (opE (d2 (opE (dVar 4)) (opE (dVar 4)) oMul)) oAdd) (dNil))))) oAdd) (bName 3))) (sRet (dLst (dCons (dVar 3) (dNil))))))))
def fs__law_pile : FS := ⟨2, false, true, runs false true 5 g__law_pile⟩
theorem fn__law_pile : fs__law_pile.n = 2 := rfl
abbrev s__law_pile : Stmt := topS 35
theorem d__law_pile (B : Bi mg) (h__law_mixed : DefG P w K mg base k "_law_mixed" fs__law_mixed)   (E : XK) : SB (gam P w K mg base ["script", "k", "cell", "found", "j"] (defScope s__law_pile) k true E) (defBody s__law_pile) g__law_pile :=
  b_cons (s_set 2 (e_int))
    (b_cons (s_if (t_cmp o_lt (v_e (e_var 1)) (v_e (e_call1 f_len B.len (v_e (e_var 0))))) (b_one (s_set 2 (e_ix (hs := fun _ _ => rfl) (v_e (e_var 0)) (v_e (e_var 1))))) (b_nil))
    (b_cons (s_if (t_cmp o_ge (v_e (e_var 2)) (v_e (e_bin o_pow (v_e (e_int)) (v_e (e_int))))) (b_one (s_retO rfl (o_lst (a_cons (e_bin o_mod (v_e (e_ty1 f_int B.int (v_e (e_bin o_sub (v_e (e_var 2)) (v_e (e_bin o_pow (v_e (e_int)) (v_e (e_int)))))))) (v_e (e_bin o_mul (v_e (e_bin o_mul (v_e (e_bin o_mul (v_e (e_bin o_pow (v_e (e_int)) (v_e (e_int)))) (v_e (e_bin o_pow (v_e (e_int)) (v_e (e_int)))))) (v_e (e_bin o_pow (v_e (e_int)) (v_e (e_int)))))) (v_e (e_bin o_pow (v_e (e_int)) (v_e (e_int))))))) (a_nil))))) (b_nil))
    (b_cons (s_set 3 (e_int))
    (b_cons (s_for (i_r1 B.range (e_int)) (g_name 4) (b_one (s_set 3 (e_bin o_add (v_e (e_bin o_mul (v_e (e_var 3)) (v_e (e_int)))) (v_e (e_fn h__law_mixed rfl rfl (a_cons (e_var 2) (a_cons (e_bin o_add (v_e (e_bin o_add (v_e (e_bin o_mul (v_e (e_int)) (v_e (e_var 1)))) (v_e (e_bin o_mul (v_e (e_int)) (v_e (e_var 4)))))) (v_e (e_bin o_mul (v_e (e_var 4)) (v_e (e_var 4))))) (a_nil)))))))))
    (b_one (s_retO rfl (o_lst (a_cons (e_var 3) (a_nil)))))))))
def g__law_take : DeS := sSeq (sAsg (d2 (opE (d1 (opE (d2 (opB 0) (opE (dC (.int 0))) oIx)) fInt)) (opE (dVar 1)) oMod) (bName 2)) (sSeq (sMut 0 (dCons (d2 (opE (d2 (opB 0) (opE (dC (.int 0))) oIx)) (opE (dVar 1)) oDiv) (dCons (dC (.int 0)) dNil)) gSet) (sRet (dVar 2)))
def fs__law_take : FS := ⟨2, true, false, runs true false 3 g__law_take⟩
theorem fn__law_take : fs__law_take.n = 2 := rfl
abbrev s__law_take : Stmt := topS 36
theorem d__law_take (B : Bi mg)    (E : XK) : SB (gam P w K mg base ["pile", "size", "digit"] (defScope s__law_take) k false E) (defBody s__law_take) g__law_take :=
  b_cons (s_set 2 (e_bin o_mod (v_e (e_ty1 f_int B.int (v_e (e_ix (hs := fun _ _ => rfl) (v_n 0) (v_e (e_int)))))) (v_e (e_var 1))))
    (b_cons (s_setIx 0 (e_bin o_fdiv (v_e (e_ix (hs := fun _ _ => rfl) (v_n 0) (v_e (e_int)))) (v_e (e_var 1))) (e_int))
    (b_one (s_ret rfl (e_var 2))))
def g__law_pick : DeS := sRet (d2 (opE (dVar 1)) (opE (dFnI fs__law_take 0 (dCons (d1 (opE (dVar 1)) fLen) (dNil)))) oIx)
def fs__law_pick : FS := ⟨2, true, false, runs true false 2 g__law_pick⟩
theorem fn__law_pick : fs__law_pick.n = 2 := rfl
abbrev s__law_pick : Stmt := topS 37
theorem d__law_pick (B : Bi mg) (h__law_take : DefG P w K mg base k "_law_take" fs__law_take)   (E : XK) : SB (gam P w K mg base ["pile", "some"] (defScope s__law_pick) k false E) (defBody s__law_pick) g__law_pick :=
  b_one (s_ret rfl (e_ix (hs := fun _ _ => rfl) (v_e (e_var 1)) (v_e (e_fnI 0 h__law_take rfl rfl (a_cons (e_call1 f_len B.len (v_e (e_var 1))) (a_nil))))))
def g__law_book : DeS := sSeq (sPar false false 3 4 (d2 (opE (dC (.int 1))) (opE (dFnI fs__law_take 0 (dCons (dVar 1) (dNil)))) oAdd) (d2 (opE (dC (.int 1))) (opE (dFnI fs__law_take 0 (dCons (dVar 2) (dNil)))) oAdd)) (sSeq (sAsg (dFnI fs__law_take 0 (dCons (dC (.int 3)) (dNil))) (bName 5)) (sSeq (sSetO 6 (dLst (dNil))) (sSeq (sFor (dR1 (dVar 4)) (bName 7) (sSeq (sAsg (d2 (opE (dLst (dCons (dC (.str "out")) (dCons (dC (.str "deed")) (dCons (dC (.str "deed")) (dNil)))))) (opE (dFnI fs__law_take 0 (dCons (dC (.int 3)) (dNil)))) oIx) (bName 8)) (sSeq (sSetO 9 (dLst (dNil))) (sSeq (sFor (dR1 (dVar 3)) (bName 10) (sSeq (sAsg (d2 (opE (dFnI fs__law_take 0 (dCons (d2 (opE (dLst (dCons (dC (.int 2)) (dCons (dC (.int 3)) (dCons (dC (.int 6)) (dNil)))))) (opE (dVar 5)) oIx) (dNil)))) (opE (dC (.int 0))) (oEq)) (bName 11)) (sMut 9 (dCons (d2 (opE (dLst (dCons (dFnI fs__law_take 0 (dCons (dVar 3) (dNil))) (dCons (dC .none) (dNil))))) (opE (d1 (opE (dVar 11)) fInt)) oIx) dNil) gApp))) (sSeq (sIf (dAnd (dB (d2 (opE (dVar 7)) (opE (d2 (opE (dVar 4)) (opE (dC (.int 1))) oSub)) (oEq))) (dB (d2 (opE (dC (.str "deed"))) (opE (dLcO rowsD 6 [12] (bName 12) (dYes) (d2 (opE (dVar 12)) (opE (dC (.int 0))) oIx))) (oIn true)))) (sAsg (dC (.str "deed")) (bName 8)) (sNil)) (sMut 6 (dCons (dTup (dCons (dVar 8) (dCons (d1 (opB 9) fTuple) (dNil)))) dNil) gApp)))))) (sRet (dTup (dCons (dVar 3) (dCons (d1 (opB 6) fTuple) (dNil))))))))
def fs__law_book : FS := ⟨3, true, false, runs true false 13 g__law_book⟩
theorem fn__law_book : fs__law_book.n = 3 := rfl
abbrev s__law_book : Stmt := topS 38
theorem d__law_book (B : Bi mg) (h__law_take : DefG P w K mg base k "_law_take" fs__law_take)   (E : XK) : SB (gam P w K mg base ["pile", "most", "wide", "many", "count", "way", "kinds", "k", "who", "steps", "state", "gone", "kind"] (defScope s__law_book) k false E) (defBody s__law_book) g__law_book :=
  b_cons (s_par 3 4 (m_e (e_bin o_add (v_e (e_int)) (v_e (e_fnI 0 h__law_take rfl rfl (a_cons (e_var 1) (a_nil)))))) (m_e (e_bin o_add (v_e (e_int)) (v_e (e_fnI 0 h__law_take rfl rfl (a_cons (e_var 2) (a_nil)))))))
    (b_cons (s_set 5 (e_fnI 0 h__law_take rfl rfl (a_cons (e_int) (a_nil))))
    (b_cons (s_setO 6 (o_lst (a_nil)))
    (b_cons (s_for (i_r1 B.range (e_var 4)) (g_name 7) (b_cons (s_set 8 (e_ix (hs := fun _ _ => rfl) (v_o (o_lst (a_cons (e_str) (a_cons (e_str) (a_cons (e_str) (a_nil)))))) (v_e (e_fnI 0 h__law_take rfl rfl (a_cons (e_int) (a_nil))))))
    (b_cons (s_setO 9 (o_lst (a_nil)))
    (b_cons (s_for (i_r1 B.range (e_var 3)) (g_name 10) (b_cons (s_set 11 (e_cmp o_eq (v_e (e_fnI 0 h__law_take rfl rfl (a_cons (e_ix (hs := fun _ _ => rfl) (v_o (o_lst (a_cons (e_int) (a_cons (e_int) (a_cons (e_int) (a_nil)))))) (v_e (e_var 5))) (a_nil)))) (v_e (e_int))))
    (b_one (s_app 9 (e_ix (hs := fun _ _ => rfl) (v_o (o_lst (a_cons (e_fnI 0 h__law_take rfl rfl (a_cons (e_var 3) (a_nil))) (a_cons (e_non) (a_nil))))) (v_e (e_ty1 f_int B.int (v_e (e_var 11)))))))))
    (b_cons (s_if (t_w (w_and (t_cmp o_eq (v_e (e_var 7)) (v_e (e_bin o_sub (v_e (e_var 4)) (v_e (e_int))))) (w_and1 (t_cmp o_notIn (v_e (e_str)) (v_o (o_compO 6 [("kind", 12)] (g_name 12) (ts_nil) (e_ix (hs := fun _ _ => rfl) (v_e (e_var 12)) (v_e (e_int))))))))) (b_one (s_set 8 (e_str))) (b_nil))
    (b_one (s_app 6 (e_tup (a_cons (e_var 8) (a_cons (e_ty1 f_tuple B.tuple (v_n 9)) (a_nil)))))))))))
    (b_one (s_ret rfl (e_tup (a_cons (e_var 3) (a_cons (e_ty1 f_tuple B.tuple (v_n 6)) (a_nil)))))))))
def g__law_deeds : DeS := sRet (dLc (dR1 (d1 (opE (d2 (opE (dVar 0)) (opE (dC (.int 1))) oIx)) fLen)) [1] (bName 1) (dB (d2 (opE (d2 (opE (d2 (opE (d2 (opE (dVar 0)) (opE (dC (.int 1))) oIx)) (opE (dVar 1)) oIx)) (opE (dC (.int 0))) oIx)) (opE (dC (.str "deed"))) (oEq))) (dVar 1))
def fs__law_deeds : FS := ⟨1, false, true, runs false true 2 g__law_deeds⟩
theorem fn__law_deeds : fs__law_deeds.n = 1 := rfl
abbrev s__law_deeds : Stmt := topS 39
theorem d__law_deeds (B : Bi mg)    (E : XK) : SB (gam P w K mg base ["book", "k"] (defScope s__law_deeds) k true E) (defBody s__law_deeds) g__law_deeds :=
  b_one (s_retO rfl (o_comp [("k", 1)] (i_r1 B.range (e_call1 f_len B.len (v_e (e_ix (hs := fun _ _ => rfl) (v_e (e_var 0)) (v_e (e_int)))))) (g_name 1) (ts_one (t_cmp o_eq (v_e (e_ix (hs := fun _ _ => rfl) (v_e (e_ix (hs := fun _ _ => rfl) (v_e (e_ix (hs := fun _ _ => rfl) (v_e (e_var 0)) (v_e (e_int)))) (v_e (e_var 1)))) (v_e (e_int)))) (v_e (e_str)))) (e_var 1)))
def g__law_behind : DeS := sRet (d2 (opE (d2 (opE (d2 (opE (d2 (opE (dVar 0)) (opE (dC (.int 1))) oIx)) (opE (dVar 2)) oIx)) (opE (dC (.int 1))) oIx)) (opE (dVar 1)) oIx)
def fs__law_behind : FS := ⟨3, false, false, runs false false 3 g__law_behind⟩
theorem fn__law_behind : fs__law_behind.n = 3 := rfl
abbrev s__law_behind : Stmt := topS 40
theorem d__law_behind (B : Bi mg)    (E : XK) : SB (gam P w K mg base ["book", "state", "kind"] (defScope s__law_behind) k false E) (defBody s__law_behind) g__law_behind :=
  b_one (s_ret rfl (e_ix (hs := fun _ _ => rfl) (v_e (e_ix (hs := fun _ _ => rfl) (v_e (e_ix (hs := fun _ _ => rfl) (v_e (e_ix (hs := fun _ _ => rfl) (v_e (e_var 0)) (v_e (e_int)))) (v_e (e_var 2)))) (v_e (e_int)))) (v_e (e_var 1))))
def g__law_some : DeS := sRet (d1 (opE (dLc (dR1 (dVar 1)) [2] (bName 2) (dB (d2 (opE (dFnI fs__law_take 0 (dCons (dC (.int 2)) (dNil)))) (opE (dC (.int 0))) (oEq))) (dVar 2))) fTuple)
def fs__law_some : FS := ⟨2, true, false, runs true false 3 g__law_some⟩
theorem fn__law_some : fs__law_some.n = 2 := rfl
abbrev s__law_some : Stmt := topS 41
theorem d__law_some (B : Bi mg) (h__law_take : DefG P w K mg base k "_law_take" fs__law_take)   (E : XK) : SB (gam P w K mg base ["pile", "many", "k"] (defScope s__law_some) k false E) (defBody s__law_some) g__law_some :=
  b_one (s_ret rfl (e_ty1 f_tuple B.tuple (v_o (o_comp [("k", 2)] (i_r1 B.range (e_var 1)) (g_name 2) (ts_one (t_cmp o_eq (v_e (e_fnI 0 h__law_take rfl rfl (a_cons (e_int) (a_nil)))) (v_e (e_int)))) (e_var 2)))))
def g__law_marks : DeS := sSeq (sSetO 3 (dLst (dNil))) (sSeq (sFor (dItS (d2 (opE (dVar 1)) (opE (dC (.int 1))) oIx)) (bTup 2 (bCons (bName 4) (bCons (bName 5) (bNil)))) (sSeq (sAsg (dFnI fs__law_some 0 (dCons (d1 (opE (d2 (opE (dVar 1)) (opE (dC (.int 1))) oIx)) fLen) (dNil))) (bName 6)) (sSeq (sIf (dB (d2 (opE (dVar 2)) (opE (dC (.int 1))) (oEq))) (sAsg (dSl (opE (dVar 6)) (dNoP) (dPt (dFnI fs__law_take 0 (dCons (dC (.int 3)) (dNil)))) slT) (bName 6)) (sNil)) (sSeq (sIf (dOr (dB (d2 (opE (dVar 4)) (opE (dC (.str "out"))) (oEq))) (dB (d2 (opE (dVar 2)) (opE (dC (.int 2))) (oEq)))) (sAsg (dTup (dNil)) (bName 6)) (sNil)) (sMut 3 (dCons (dVar 6) dNil) gApp))))) (sRet (d1 (opB 3) fTuple)))
def fs__law_marks : FS := ⟨3, true, false, runs true false 7 g__law_marks⟩
theorem fn__law_marks : fs__law_marks.n = 3 := rfl
abbrev s__law_marks : Stmt := topS 42
theorem d__law_marks (B : Bi mg) (h__law_some : DefG P w K mg base k "_law_some" fs__law_some) (h__law_take : DefG P w K mg base k "_law_take" fs__law_take)   (E : XK) : SB (gam P w K mg base ["pile", "book", "way", "found", "who", "steps", "some"] (defScope s__law_marks) k false E) (defBody s__law_marks) g__law_marks :=
  b_cons (s_setO 3 (o_lst (a_nil)))
    (b_cons (s_for (i_seq (e_ix (hs := fun _ _ => rfl) (v_e (e_var 1)) (v_e (e_int)))) (g_tup (gs_cons (g_name 4) (gs_cons (g_name 5) (gs_nil)))) (b_cons (s_set 6 (e_fnI 0 h__law_some rfl rfl (a_cons (e_call1 f_len B.len (v_e (e_ix (hs := fun _ _ => rfl) (v_e (e_var 1)) (v_e (e_int))))) (a_nil))))
    (b_cons (s_if (t_cmp o_eq (v_e (e_var 2)) (v_e (e_int))) (b_one (s_set 6 (e_slT (v_e (e_var 6)) (p_none) (p_some (e_fnI 0 h__law_take rfl rfl (a_cons (e_int) (a_nil))))))) (b_nil))
    (b_cons (s_if (t_w (w_or (t_cmp o_eq (v_e (e_var 4)) (v_e (e_str))) (w_or1 (t_cmp o_eq (v_e (e_var 2)) (v_e (e_int)))))) (b_one (s_set 6 (e_tup (a_nil)))) (b_nil))
    (b_one (s_app 3 (e_var 6)))))))
    (b_one (s_ret rfl (e_ty1 f_tuple B.tuple (v_n 3)))))
def g__law_has : DeS := sRet (d2 (opE (dLc (dItL (dVar 0)) [2] (bName 2) (dB (d2 (opE (dVar 2)) (opE (dVar 1)) (oIn false))) (dVar 2))) (opE (dLst (dNil))) (oNe))
def fs__law_has : FS := ⟨2, false, false, runs false false 3 g__law_has⟩
theorem fn__law_has : fs__law_has.n = 2 := rfl
abbrev s__law_has : Stmt := topS 43
theorem d__law_has (B : Bi mg)    (E : XK) : SB (gam P w K mg base ["row", "some", "kind"] (defScope s__law_has) k false E) (defBody s__law_has) g__law_has :=
  b_one (s_ret rfl (e_cmp o_ne (v_o (o_comp [("kind", 2)] (i_list (e_var 0)) (g_name 2) (ts_one (t_cmp o_in (v_e (e_var 2)) (v_e (e_var 1)))) (e_var 2))) (v_o (o_lst (a_nil)))))
def g__law_entry : DeS := sSeq (sPar false false 3 4 (dFnI fs__law_take 0 (dCons (dC (.int 3)) (dNil))) (dFnI fs__law_take 0 (dCons (dVar 2) (dNil)))) (sSeq (sAsg (dSh (dLc (dR1 (d1 (opE (d2 (opE (dVar 1)) (opE (dC (.int 1))) oIx)) fLen)) [6] (bName 6) (dB (d2 (opE (d2 (opE (d2 (opE (d2 (opE (dVar 1)) (opE (dC (.int 1))) oIx)) (opE (dVar 6)) oIx)) (opE (dC (.int 0))) oIx)) (opE (dC (.str "out"))) (oEq))) (dVar 6))) (bName 5)) (sSeq (sIf (dAnd (dB (d2 (opE (dVar 3)) (opE (dC (.int 0))) (oEq))) (dB (d2 (opE (dVar 5)) (opE (dLst (dNil))) (oNe)))) (sRet (dTup (dCons (dC (.str "come")) (dCons (dFnI fs__law_pick 0 (dCons (dVar 5) (dNil))) (dNil))))) (sNil)) (sSeq (sIf (dB (d2 (opE (dVar 3)) (opE (dC (.int 1))) (oEq))) (sRet (dTup (dCons (dC (.str "look")) (dCons (dVar 4) (dCons (d2 (opE (dLst (dCons (dC (.int 0)) (dCons (dC (.int 0)) (dCons (dC (.int 0)) (dCons (dC (.int 1)) (dCons (dC (.int 2)) (dCons (dC (.int 9)) (dNil))))))))) (opE (dFnI fs__law_take 0 (dCons (dC (.int 6)) (dNil)))) oIx) (dNil)))))) (sNil)) (sRet (dTup (dCons (dC (.str "do")) (dCons (dVar 4) (dCons (dFnI fs__law_pick 0 (dCons (dSh (dFn fs__law_deeds (dCons (dVar 1) (dNil)))) (dNil))) (dNil)))))))))
def fs__law_entry : FS := ⟨3, true, false, runs true false 7 g__law_entry⟩
theorem fn__law_entry : fs__law_entry.n = 3 := rfl
abbrev s__law_entry : Stmt := topS 44
theorem d__law_entry (B : Bi mg) (h__law_take : DefG P w K mg base k "_law_take" fs__law_take) (h__law_pick : DefG P w K mg base k "_law_pick" fs__law_pick) (h__law_deeds : DefG P w K mg base k "_law_deeds" fs__law_deeds)   (E : XK) : SB (gam P w K mg base ["pile", "book", "helpers", "way", "h", "outs", "k"] (defScope s__law_entry) k false E) (defBody s__law_entry) g__law_entry :=
  b_cons (s_par 3 4 (m_e (e_fnI 0 h__law_take rfl rfl (a_cons (e_int) (a_nil)))) (m_e (e_fnI 0 h__law_take rfl rfl (a_cons (e_var 2) (a_nil)))))
    (b_cons (s_setLc 5 [("k", 6)] (i_r1 B.range (e_call1 f_len B.len (v_e (e_ix (hs := fun _ _ => rfl) (v_e (e_var 1)) (v_e (e_int)))))) (g_name 6) (ts_one (t_cmp o_eq (v_e (e_ix (hs := fun _ _ => rfl) (v_e (e_ix (hs := fun _ _ => rfl) (v_e (e_ix (hs := fun _ _ => rfl) (v_e (e_var 1)) (v_e (e_int)))) (v_e (e_var 6)))) (v_e (e_int)))) (v_e (e_str)))) (e_var 6))
    (b_cons (s_if (t_w (w_and (t_cmp o_eq (v_e (e_var 3)) (v_e (e_int))) (w_and1 (t_cmp o_ne (v_e (e_var 5)) (v_o (o_lst (a_nil))))))) (b_one (s_ret rfl (e_tup (a_cons (e_str) (a_cons (e_fnI 0 h__law_pick rfl rfl (a_cons (e_var 5) (a_nil))) (a_nil)))))) (b_nil))
    (b_cons (s_if (t_cmp o_eq (v_e (e_var 3)) (v_e (e_int))) (b_one (s_ret rfl (e_tup (a_cons (e_str) (a_cons (e_var 4) (a_cons (e_ix (hs := fun _ _ => rfl) (v_o (o_lst (a_cons (e_int) (a_cons (e_int) (a_cons (e_int) (a_cons (e_int) (a_cons (e_int) (a_cons (e_int) (a_nil))))))))) (v_e (e_fnI 0 h__law_take rfl rfl (a_cons (e_int) (a_nil))))) (a_nil))))))) (b_nil))
    (b_one (s_ret rfl (e_tup (a_cons (e_str) (a_cons (e_var 4) (a_cons (e_fnI 0 h__law_pick rfl rfl (a_cons (e_o (o_fn h__law_deeds rfl rfl (a_cons (e_var 1) (a_nil)))) (a_nil))) (a_nil))))))))))
def g__law_read : DeS := sSeq (sPar3 true true true 4 5 6 (dLst (dCons (dC (.int 0)) (dNil))) (dLst (dNil)) (dDicK)) (sSeq (sPar true true 7 8 (dLst (dNil)) (dLst (dNil))) (sSeq (sFor (dR1 (d1 (opE (dVar 3)) fLen)) (bName 9) (sSeq (sAsg (d2 (opE (dVar 3)) (opE (dVar 9)) oIx) (bName 10)) (sIf (dB (d2 (opE (d2 (opE (dVar 10)) (opE (dC (.int 0))) oIx)) (opE (dC (.str "come"))) (oEq))) (sSeq (sAsg (dFn fs__law_behind (dCons (dVar 0) (dCons (d2 (opB 4) (opE (dNeg (dC (.int 1)))) oIx) (dCons (d2 (opE (dVar 10)) (opE (dC (.int 1))) oIx) (dNil))))) (bName 11)) (sSeq (sMut 7 (dCons (dVar 11) dNil) gApp) (sIf (dB (d2 (opE (dVar 11)) (opE (dC .none)) (oIsNot))) (sSeq (sMut 4 (dCons (dVar 11) dNil) gApp) (sMut 5 (dCons (d2 (opE (dVar 10)) (opE (dC (.int 1))) oIx) dNil) gApp)) (sNil)))) (sIf (dB (d2 (opE (d2 (opE (dVar 10)) (opE (dC (.int 0))) oIx)) (opE (dC (.str "look"))) (oEq))) (sSeq (sMutD 6 (dCons (d2 (opE (dC (.int 0))) (opE (d2 (opE (d1 (opB 5) fLen)) (opE (d2 (opE (dVar 10)) (opE (dC (.int 2))) oIx)) oSub)) fMax2) (dCons (d2 (opE (dVar 10)) (opE (dC (.int 1))) oIx) dNil)) gPut) (sMut 7 (dCons (d2 (opB 4) (opE (d2 (opB 6) (opE (d2 (opE (dVar 10)) (opE (dC (.int 1))) oIx)) oDix)) oIx) dNil) gApp)) (sSeq (sPar false false 12 13 (d2 (opE (dVar 10)) (opE (dC (.int 1))) oIx) (d2 (opE (dVar 10)) (opE (dC (.int 2))) oIx)) (sSeq (sAsg (dAndV (d2 (opE (dVar 12)) (opB 6) (oDin false)) (d2 (opE (dFn fs__law_behind (dCons (dVar 0) (dCons (d2 (opB 4) (opE (dNeg (dC (.int 1)))) oIx) (dCons (dVar 13) (dNil)))))) (opE (dC .none)) (oIsNot))) (bName 14)) (sSeq (sIf (dB (dVar 14)) (sSeq (sPar false false 15 16 (dSh (dSl (opB 5) (dPt (d2 (opB 6) (opE (dVar 12)) oDix)) (dNoP) slL)) (d2 (opB 4) (opE (d2 (opB 6) (opE (dVar 12)) oDix)) oIx)) (sAsg (dAndV (d2 (opE (dFn fs__law_behind (dCons (dVar 0) (dCons (dVar 16) (dCons (dVar 13) (dNil)))))) (opE (dC .none)) (oIsNot)) (dNotV (dFn fs__law_has (dCons (dVar 15) (dCons (d2 (opE (dVar 2)) (opE (dVar 13)) oIx) (dNil)))))) (bName 14))) (sNil)) (sSeq (sMut 7 (dCons (dVar 14) dNil) gApp) (sIf (dB (dVar 14)) (sSeq (sIf (dB (dFn fs__law_has (dCons (dVar 15) (dCons (d2 (opE (dVar 1)) (opE (dVar 13)) oIx) (dNil))))) (sMut 8 (dCons (dVar 9) dNil) gApp) (sNil)) (sSeq (sMut 4 (dCons (dFn fs__law_behind (dCons (dVar 0) (dCons (d2 (opB 4) (opE (dNeg (dC (.int 1)))) oIx) (dCons (dVar 13) (dNil))))) dNil) gApp) (sSeq (sMut 5 (dCons (dVar 13) dNil) gApp) (sMutD 6 (dCons (d1 (opB 5) fLen) (dCons (dVar 12) dNil)) gPut)))) (sNil)))))))))) (sRet (dTup (dCons (dDem 7) (dCons (dDem 8) (dNil)))))))
def fs__law_read : FS := ⟨4, false, false, runs false false 17 g__law_read⟩
theorem fn__law_read : fs__law_read.n = 4 := rfl
abbrev s__law_read : Stmt := topS 45
theorem d__law_read (B : Bi mg) (h__law_behind : DefG P w K mg base k "_law_behind" fs__law_behind) (h__law_has : DefG P w K mg base k "_law_has" fs__law_has)   (E : XK) : SB (gam P w K mg base ["book", "page", "checks", "log", "states", "row", "sights", "told", "faults", "place", "entry", "state", "helper", "d", "good", "since", "seen"] (defScope s__law_read) k false E) (defBody s__law_read) g__law_read :=
  b_cons (s_par3 4 5 6 (m_o (o_lst (a_cons (e_int) (a_nil)))) (m_o (o_lst (a_nil))) (m_o (o_dicK)))
    (b_cons (s_par 7 8 (m_o (o_lst (a_nil))) (m_o (o_lst (a_nil))))
    (b_cons (s_for (i_r1 B.range (e_call1 f_len B.len (v_e (e_var 3)))) (g_name 9) (b_cons (s_set 10 (e_ix (hs := fun _ _ => rfl) (v_e (e_var 3)) (v_e (e_var 9))))
    (b_one (s_if (t_cmp o_eq (v_e (e_ix (hs := fun _ _ => rfl) (v_e (e_var 10)) (v_e (e_int)))) (v_e (e_str))) (b_cons (s_set 11 (e_fn h__law_behind rfl rfl (a_cons (e_var 0) (a_cons (e_ix (hs := fun _ _ => rfl) (v_n 4) (v_e (e_neg (e_int)))) (a_cons (e_ix (hs := fun _ _ => rfl) (v_e (e_var 10)) (v_e (e_int))) (a_nil))))))
    (b_cons (s_app 7 (e_var 11))
    (b_one (s_if (t_cmp o_isNot (v_e (e_var 11)) (v_e (e_non))) (b_cons (s_app 4 (e_var 11))
    (b_one (s_app 5 (e_ix (hs := fun _ _ => rfl) (v_e (e_var 10)) (v_e (e_int)))))) (b_nil))))) (b_one (s_if (t_cmp o_eq (v_e (e_ix (hs := fun _ _ => rfl) (v_e (e_var 10)) (v_e (e_int)))) (v_e (e_str))) (b_cons (s_put 6 (e_call2 f_max2 B.max (v_e (e_int)) (v_e (e_bin o_sub (v_e (e_call1 f_len B.len (v_n 5))) (v_e (e_ix (hs := fun _ _ => rfl) (v_e (e_var 10)) (v_e (e_int))))))) (e_ix (hs := fun _ _ => rfl) (v_e (e_var 10)) (v_e (e_int))))
    (b_one (s_app 7 (e_ix (hs := fun _ _ => rfl) (v_n 4) (v_e (e_dix (hs := fun _ _ => rfl) (v_n 6) (v_e (e_ix (hs := fun _ _ => rfl) (v_e (e_var 10)) (v_e (e_int)))))))))) (b_cons (s_par 12 13 (m_e (e_ix (hs := fun _ _ => rfl) (v_e (e_var 10)) (v_e (e_int)))) (m_e (e_ix (hs := fun _ _ => rfl) (v_e (e_var 10)) (v_e (e_int)))))
    (b_cons (s_set 14 (e_and (e_din (v_e (e_var 12)) (v_n 6)) (e_one (e_cmp o_isNot (v_e (e_fn h__law_behind rfl rfl (a_cons (e_var 0) (a_cons (e_ix (hs := fun _ _ => rfl) (v_n 4) (v_e (e_neg (e_int)))) (a_cons (e_var 13) (a_nil)))))) (v_e (e_non))))))
    (b_cons (s_if (t_v (e_var 14)) (b_cons (s_par 15 16 (m_e (e_o (o_slL (v_n 5) (p_some (e_dix (hs := fun _ _ => rfl) (v_n 6) (v_e (e_var 12)))) (p_none)))) (m_e (e_ix (hs := fun _ _ => rfl) (v_n 4) (v_e (e_dix (hs := fun _ _ => rfl) (v_n 6) (v_e (e_var 12)))))))
    (b_one (s_set 14 (e_and (e_cmp o_isNot (v_e (e_fn h__law_behind rfl rfl (a_cons (e_var 0) (a_cons (e_var 16) (a_cons (e_var 13) (a_nil)))))) (v_e (e_non))) (e_one (e_not (e_fn h__law_has rfl rfl (a_cons (e_var 15) (a_cons (e_ix (hs := fun _ _ => rfl) (v_e (e_var 2)) (v_e (e_var 13))) (a_nil)))))))))) (b_nil))
    (b_cons (s_app 7 (e_var 14))
    (b_one (s_if (t_v (e_var 14)) (b_cons (s_if (t_v (e_fn h__law_has rfl rfl (a_cons (e_var 15) (a_cons (e_ix (hs := fun _ _ => rfl) (v_e (e_var 1)) (v_e (e_var 13))) (a_nil))))) (b_one (s_app 8 (e_var 9))) (b_nil))
    (b_cons (s_app 4 (e_fn h__law_behind rfl rfl (a_cons (e_var 0) (a_cons (e_ix (hs := fun _ _ => rfl) (v_n 4) (v_e (e_neg (e_int)))) (a_cons (e_var 13) (a_nil))))))
    (b_cons (s_app 5 (e_var 13))
    (b_one (s_put 6 (e_call1 f_len B.len (v_n 5)) (e_var 12)))))) (b_nil)))))))))))))
    (b_one (s_ret rfl (e_tup (a_cons (e_dem 7) (a_cons (e_dem 8) (a_nil))))))))
def g__law_log : DeS := sSeq (sAsg (d2 (opE (dC (.int 1))) (opE (dFnI fs__law_take 0 (dCons (dC (.int 4)) (dNil)))) oAdd) (bName 2)) (sRet (dLc (dR1 (dFnI fs__law_take 0 (dCons (dC (.int 31)) (dNil)))) [3] (bName 3) (dYes) (dFnI fs__law_entry 0 (dCons (dVar 1) (dCons (dVar 2) (dNil))))))
def fs__law_log : FS := ⟨2, true, true, runs true true 4 g__law_log⟩
theorem fn__law_log : fs__law_log.n = 2 := rfl
abbrev s__law_log : Stmt := topS 46
theorem d__law_log (B : Bi mg) (h__law_take : DefG P w K mg base k "_law_take" fs__law_take) (h__law_entry : DefG P w K mg base k "_law_entry" fs__law_entry)   (E : XK) : SB (gam P w K mg base ["pile", "book", "helpers", "turn"] (defScope s__law_log) k true E) (defBody s__law_log) g__law_log :=
  b_cons (s_set 2 (e_bin o_add (v_e (e_int)) (v_e (e_fnI 0 h__law_take rfl rfl (a_cons (e_int) (a_nil))))))
    (b_one (s_retO rfl (o_comp [("turn", 3)] (i_r1 B.range (e_fnI 0 h__law_take rfl rfl (a_cons (e_int) (a_nil)))) (g_name 3) (ts_nil) (e_fnI 0 h__law_entry rfl rfl (a_cons (e_var 1) (a_cons (e_var 2) (a_nil)))))))
def g__law_good : DeS := sSeq (sAsg (d1 (opE (dLst (dCons (dVar 0) (dCons (dVar 1) (dCons (dVar 2) (dCons (dVar 3) (dNil))))))) fRepr) (bName 4)) (sSeq (sAsg (d2 (opE (dFn fs__law_read (dCons (dVar 0) (dCons (dVar 1) (dCons (dVar 2) (dCons (dVar 3) (dNil))))))) (opE (dC (.int 1))) oIx) (bName 5)) (sSeq (sSetO 6 (dFn fs_faults_in (dCons (dVar 0) (dCons (dVar 1) (dCons (dVar 2) (dCons (d1 (opE (dVar 3)) fTuple) (dNil))))))) (sSeq (sIf (dOr (dNot (dB (d1 (opB 6) (fIsi .list)))) (dOr (dB (d2 (opB 6) (opE (dVar 5)) (oNe))) (dB (d2 (opE (d1 (opB 6) fRepr)) (opE (d1 (opE (dVar 5)) fRepr)) (oNe))))) (sRet (dC (.bool false))) (sNil)) (sSeq (sMut 6 (dCons (dC .none) dNil) gApp) (sRet (dAndV (d2 (opE (dFn fs_faults_in (dCons (dVar 0) (dCons (dVar 1) (dCons (dVar 2) (dCons (dVar 3) (dNil))))))) (opE (dVar 5)) (oEq)) (d2 (opE (d1 (opE (dLst (dCons (dVar 0) (dCons (dVar 1) (dCons (dVar 2) (dCons (dVar 3) (dNil))))))) fRepr)) (opE (dVar 4)) (oEq))))))))
def fs__law_good : FS := ⟨4, false, false, runs false false 7 g__law_good⟩
theorem fn__law_good : fs__law_good.n = 4 := rfl
abbrev s__law_good : Stmt := topS 47
theorem d__law_good (B : Bi mg) (h__law_read : DefG P w K mg base k "_law_read" fs__law_read) (h_faults_in : DefG P w K mg base k "faults_in" fs_faults_in)   (E : XK) : SB (gam P w K mg base ["book", "page", "checks", "log", "kept", "due", "found"] (defScope s__law_good) k false E) (defBody s__law_good) g__law_good :=
  b_cons (s_set 4 (e_call1 f_repr B.repr (v_o (o_lst (a_cons (e_var 0) (a_cons (e_var 1) (a_cons (e_var 2) (a_cons (e_var 3) (a_nil)))))))))
    (b_cons (s_set 5 (e_ix (hs := fun _ _ => rfl) (v_e (e_fn h__law_read rfl rfl (a_cons (e_var 0) (a_cons (e_var 1) (a_cons (e_var 2) (a_cons (e_var 3) (a_nil))))))) (v_e (e_int))))
    (b_cons (s_setO 6 (o_fn h_faults_in rfl rfl (a_cons (e_var 0) (a_cons (e_var 1) (a_cons (e_var 2) (a_cons (e_ty1 f_tuple B.tuple (v_e (e_var 3))) (a_nil)))))))
    (b_cons (s_if (t_w (w_or (t_not (t_v (e_isi .list B.isinstance B.list (v_n 6)))) (w_or (t_cmp o_ne (v_n 6) (v_e (e_var 5))) (w_or1 (t_cmp o_ne (v_e (e_call1 f_repr B.repr (v_n 6))) (v_e (e_call1 f_repr B.repr (v_e (e_var 5))))))))) (b_one (s_ret rfl (e_bl))) (b_nil))
    (b_cons (s_app 6 (e_non))
    (b_one (s_ret rfl (e_and (e_cmp o_eq (v_o (o_fn h_faults_in rfl rfl (a_cons (e_var 0) (a_cons (e_var 1) (a_cons (e_var 2) (a_cons (e_var 3) (a_nil))))))) (v_e (e_var 5))) (e_one (e_cmp o_eq (v_e (e_call1 f_repr B.repr (v_o (o_lst (a_cons (e_var 0) (a_cons (e_var 1) (a_cons (e_var 2) (a_cons (e_var 3) (a_nil))))))))) (v_e (e_var 4)))))))))))
def g_law : DeS := sSeq (sFor (dR1 (d2 (opE (dC (.int 2))) (opE (d2 (opE (d1 (opE (dVar 0)) fLen)) (opE (dC (.int 8))) fMin2)) fMax2)) (bName 1) (sSeq (sSetO 2 (dFn fs__law_pile (dCons (dVar 0) (dCons (dVar 1) (dNil))))) (sSeq (sAsg (dFnI fs__law_book 2 (dCons (dC (.int 6)) (dCons (dC (.int 8)) (dNil)))) (bName 3)) (sSeq (sAsg (dFnI fs__law_marks 2 (dCons (dVar 3) (dCons (dC (.int 2)) (dNil)))) (bName 4)) (sFor (dItL (dSh (dLst (dCons (dC (.int 0)) (dCons (dC (.int 1)) (dNil)))))) (bName 5) (sSeq (sPar false false 6 7 (dFnI fs__law_marks 2 (dCons (dVar 3) (dCons (dVar 5) (dNil)))) (dSh (dFnI fs__law_log 2 (dCons (dVar 3) (dNil))))) (sSeq (sFor (dItL (dSh (dLst (dCons (dVar 4) (dCons (dFnI fs__law_marks 2 (dCons (dVar 3) (dCons (dC (.int 1)) (dNil)))) (dNil)))))) (bName 8) (sIf (dNot (dB (dFn fs__law_good (dCons (dVar 3) (dCons (dVar 6) (dCons (dVar 8) (dCons (dVar 7) (dNil)))))))) (sRet (dC (.bool false))) (sNil))) (sIf (dOr (dB (d2 (opE (dFn fs_faults_in (dCons (dVar 3) (dCons (dVar 6) (dCons (dVar 6) (dCons (dVar 7) (dNil))))))) (opE (dLst (dNil))) (oNe))) (dB (d2 (opE (dFn fs_faults_in (dCons (dVar 3) (dCons (dVar 4) (dCons (dVar 4) (dCons (dVar 7) (dNil))))))) (opE (dLst (dNil))) (oNe)))) (sRet (dC (.bool false))) (sNil))))))))) (sSeq (sAsg (dTup (dCons (dC (.int 2)) (dCons (dTup (dCons (dTup (dCons (dC (.str "out")) (dCons (dTup (dCons (dC (.int 1)) (dCons (dC (.int 1)) (dNil)))) (dNil)))) (dCons (dTup (dCons (dC (.str "deed")) (dCons (dTup (dCons (dC (.int 1)) (dCons (dC (.int 0)) (dNil)))) (dNil)))) (dNil)))) (dNil)))) (bName 9)) (sSeq (sAsg (dSh (dLst (dCons (dTup (dCons (dC (.str "look")) (dCons (dC (.int 0)) (dCons (dC (.int 0)) (dNil))))) (dCons (dTup (dCons (dC (.str "come")) (dCons (dC (.int 0)) (dNil)))) (dCons (dTup (dCons (dC (.str "do")) (dCons (dC (.int 0)) (dCons (dC (.int 1)) (dNil))))) (dCons (dTup (dCons (dC (.str "do")) (dCons (dC (.int 0)) (dCons (dC (.int 1)) (dNil))))) (dCons (dTup (dCons (dC (.str "look")) (dCons (dC (.int 0)) (dCons (dC (.int 1)) (dNil))))) (dCons (dTup (dCons (dC (.str "do")) (dCons (dC (.int 0)) (dCons (dC (.int 1)) (dNil))))) (dNil))))))))) (bName 7)) (sRet (dAndV (d2 (opE (dFn fs_faults_in (dCons (dVar 9) (dCons (dTup (dCons (dTup (dNil)) (dCons (dTup (dCons (dC (.int 0)) (dCons (dC (.int 1)) (dNil)))) (dNil)))) (dCons (dTup (dCons (dTup (dNil)) (dCons (dTup (dNil)) (dNil)))) (dCons (dVar 7) (dNil))))))) (opE (dLst (dCons (dC (.int 2)) (dCons (dC (.int 5)) (dNil))))) (oEq)) (d2 (opE (dFn fs_faults_in (dCons (dVar 9) (dCons (dTup (dCons (dTup (dNil)) (dCons (dTup (dCons (dC (.int 0)) (dNil))) (dNil)))) (dCons (dTup (dCons (dTup (dNil)) (dCons (dTup (dNil)) (dNil)))) (dCons (dVar 7) (dNil))))))) (opE (dLst (dCons (dC (.int 2)) (dNil)))) (oEq))))))
def fs_law : FS := ⟨1, false, false, runs false false 10 g_law⟩
theorem fn_law : fs_law.n = 1 := rfl
abbrev s_law : Stmt := topS 48
theorem d_law (B : Bi mg) (h__law_pile : DefG P w K mg base k "_law_pile" fs__law_pile) (h__law_book : DefG P w K mg base k "_law_book" fs__law_book) (h__law_marks : DefG P w K mg base k "_law_marks" fs__law_marks) (h__law_log : DefG P w K mg base k "_law_log" fs__law_log) (h__law_good : DefG P w K mg base k "_law_good" fs__law_good) (h_faults_in : DefG P w K mg base k "faults_in" fs_faults_in)   (E : XK) : SB (gam P w K mg base ["script", "k", "pile", "book", "none", "way", "page", "log", "checks", "one"] (defScope s_law) k false E) (defBody s_law) g_law :=
  b_cons (s_for (i_r1 B.range (e_call2 f_max2 B.max (v_e (e_int)) (v_e (e_call2 f_min2 B.min (v_e (e_call1 f_len B.len (v_e (e_var 0)))) (v_e (e_int)))))) (g_name 1) (b_cons (s_setO 2 (o_fn h__law_pile rfl rfl (a_cons (e_var 0) (a_cons (e_var 1) (a_nil)))))
    (b_cons (s_set 3 (e_fnI 2 h__law_book rfl rfl (a_cons (e_int) (a_cons (e_int) (a_nil)))))
    (b_cons (s_set 4 (e_fnI 2 h__law_marks rfl rfl (a_cons (e_var 3) (a_cons (e_int) (a_nil)))))
    (b_one (s_for (i_list (e_o (o_lst (a_cons (e_int) (a_cons (e_int) (a_nil)))))) (g_name 5) (b_cons (s_par 6 7 (m_e (e_fnI 2 h__law_marks rfl rfl (a_cons (e_var 3) (a_cons (e_var 5) (a_nil))))) (m_e (e_o (o_fnI 2 h__law_log rfl rfl (a_cons (e_var 3) (a_nil))))))
    (b_cons (s_for (i_list (e_o (o_lst (a_cons (e_var 4) (a_cons (e_fnI 2 h__law_marks rfl rfl (a_cons (e_var 3) (a_cons (e_int) (a_nil)))) (a_nil)))))) (g_name 8) (b_one (s_if (t_not (t_v (e_fn h__law_good rfl rfl (a_cons (e_var 3) (a_cons (e_var 6) (a_cons (e_var 8) (a_cons (e_var 7) (a_nil)))))))) (b_one (s_ret rfl (e_bl))) (b_nil))))
    (b_one (s_if (t_w (w_or (t_cmp o_ne (v_o (o_fn h_faults_in rfl rfl (a_cons (e_var 3) (a_cons (e_var 6) (a_cons (e_var 6) (a_cons (e_var 7) (a_nil))))))) (v_o (o_lst (a_nil)))) (w_or1 (t_cmp o_ne (v_o (o_fn h_faults_in rfl rfl (a_cons (e_var 3) (a_cons (e_var 4) (a_cons (e_var 4) (a_cons (e_var 7) (a_nil))))))) (v_o (o_lst (a_nil))))))) (b_one (s_ret rfl (e_bl))) (b_nil)))))))))))
    (b_cons (s_set 9 (e_tup (a_cons (e_int) (a_cons (e_tup (a_cons (e_tup (a_cons (e_str) (a_cons (e_tup (a_cons (e_int) (a_cons (e_int) (a_nil)))) (a_nil)))) (a_cons (e_tup (a_cons (e_str) (a_cons (e_tup (a_cons (e_int) (a_cons (e_int) (a_nil)))) (a_nil)))) (a_nil)))) (a_nil)))))
    (b_cons (s_set 7 (e_o (o_lst (a_cons (e_tup (a_cons (e_str) (a_cons (e_int) (a_cons (e_int) (a_nil))))) (a_cons (e_tup (a_cons (e_str) (a_cons (e_int) (a_nil)))) (a_cons (e_tup (a_cons (e_str) (a_cons (e_int) (a_cons (e_int) (a_nil))))) (a_cons (e_tup (a_cons (e_str) (a_cons (e_int) (a_cons (e_int) (a_nil))))) (a_cons (e_tup (a_cons (e_str) (a_cons (e_int) (a_cons (e_int) (a_nil))))) (a_cons (e_tup (a_cons (e_str) (a_cons (e_int) (a_cons (e_int) (a_nil))))) (a_nil))))))))))
    (b_one (s_ret rfl (e_and (e_cmp o_eq (v_o (o_fn h_faults_in rfl rfl (a_cons (e_var 9) (a_cons (e_tup (a_cons (e_tup (a_nil)) (a_cons (e_tup (a_cons (e_int) (a_cons (e_int) (a_nil)))) (a_nil)))) (a_cons (e_tup (a_cons (e_tup (a_nil)) (a_cons (e_tup (a_nil)) (a_nil)))) (a_cons (e_var 7) (a_nil))))))) (v_o (o_lst (a_cons (e_int) (a_cons (e_int) (a_nil)))))) (e_one (e_cmp o_eq (v_o (o_fn h_faults_in rfl rfl (a_cons (e_var 9) (a_cons (e_tup (a_cons (e_tup (a_nil)) (a_cons (e_tup (a_cons (e_int) (a_nil))) (a_nil)))) (a_cons (e_tup (a_cons (e_tup (a_nil)) (a_cons (e_tup (a_nil)) (a_nil)))) (a_cons (e_var 7) (a_nil))))))) (v_o (o_lst (a_cons (e_int) (a_nil)))))))))))
end
def l__wall (v0 : D) : Option (D) := (whl (fun t1 => (asB (.bool true)).bd fun b2 => some b2) (fun t1 => some ()) 1000 ()).bd fun t3 => some .none
theorem l__wall_of {v0 : D} {r : D} (h : l__wall v0 = some r) : fs__wall.f [v0] = some (.ret r .none) := by
  have e0 : fs__wall.f = runs false false 1 g__wall := rfl
  rw [e0]
  unfold g__wall
  unfold l__wall at h
  refine fnF ?_
  show Wp (sSeq _ sNil [.sh v0]) _
  replace h := bs h; obtain ⟨t3, ht3, h⟩ := h
  refine w_while (fun (t1 : Unit) (s : S) => s = [.sh v0]) ht3 rfl ?_ ?_ ?_
  · clear h ht3
    rintro t1 _ _ rfl h
    replace h := bs h; obtain ⟨b2, hb2, h⟩ := h
    cases h; exact ⟨_, (eB rfl hb2), rfl⟩
  · clear h ht3
    rintro t1 _ _ rfl h
    refine w_nil ?_
    cases h; exact c_end rfl
  · rintro _ rfl
    cases h; exact f_end
theorem c__wall {v0 : D} {Q : D → Prop} (h : So (l__wall v0) Q) : So (cF fs__wall [v0]) Q := so_cF (fun _ => l__wall_of) h
theorem q__wall {v0 r : D} (h : l__wall v0 = some r) : cF fs__wall [v0] = some r := cF_ok (l__wall_of h)
def l_is_below (v0 v1 : D) : Option (D) := (fIsi .int v0).bd fun a1 => (lAndV a1 ((fIsi .bool v0).bd fun a2 => (asB a2).bd fun b3 => (lAndV (.bool (!b3)) ((oLe (.int 0) v0).bd fun a4 => (lAndV a4 (oLt v0 v1)).bd fun a5 => some a5)).bd fun a6 => some a6)).bd fun a7 => some a7
theorem l_is_below_of {v0 v1 : D} {r : D} (h : l_is_below v0 v1 = some r) : fs_is_below.f [v0, v1] = some (.ret r .none) := by
  have e0 : fs_is_below.f = runs false false 2 g_is_below := rfl
  rw [e0]
  unfold g_is_below
  unfold l_is_below at h
  refine fnF ?_
  show Wp (sSeq _ sNil [.sh v0, .sh v1]) _
  replace h := bs h; obtain ⟨a1, ha1, h⟩ := h
  replace h := bs h; obtain ⟨a7, ha7, h⟩ := h
  cases h; exact w_retF (eAndV (e1E rfl ha1) ha7 (fun _ h => by
      replace h := bs h; obtain ⟨a2, ha2, h⟩ := h
      replace h := bs h; obtain ⟨b3, hb3, h⟩ := h
      replace h := bs h; obtain ⟨a6, ha6, h⟩ := h
      cases h; exact (eAndV (eNotV (e1E rfl ha2) hb3) ha6 (fun _ h => by
          replace h := bs h; obtain ⟨a4, ha4, h⟩ := h
          replace h := bs h; obtain ⟨a5, ha5, h⟩ := h
          cases h; exact (eChain rfl rfl ha4 ha5 (fun _ h => by
              exact ⟨_, rfl, h⟩))))))
theorem c_is_below {v0 v1 : D} {Q : D → Prop} (h : So (l_is_below v0 v1) Q) : So (cF fs_is_below [v0, v1]) Q := so_cF (fun _ => l_is_below_of) h
theorem q_is_below {v0 v1 r : D} (h : l_is_below v0 v1 = some r) : cF fs_is_below [v0, v1] = some r := cF_ok (l_is_below_of h)
def l_is_kind (v0 v1 : D) : Option (D) := (fIsi .tuple v1).bd fun a1 => (asB a1).bd fun b2 => (lOr (!b2) ((fLen v1).bd fun a3 => (oNe a3 (.int 2)).bd fun a4 => (asB a4).bd fun b5 => some b5)).bd fun a6 => if a6 = true then some (.bool false) else (lTup2 v1).bd fun q7 => (oIn true q7.1 (.tuple [(.str "out"), (.str "deed")])).bd fun a8 => (asB a8).bd fun b9 => (lOr b9 ((fIsi .tuple q7.2).bd fun a10 => (asB a10).bd fun b11 => (lOr (!b11) ((fLen q7.2).bd fun a12 => (oNe a12 v0).bd fun a13 => (asB a13).bd fun b14 => some b14)).bd fun a15 => some a15)).bd fun a16 => if a16 = true then some (.bool false) else (lT q7.2).bd fun d17 => (lc (fun d18 => (oIs d18 .none).bd fun a19 => (lOrV a19 ((cF fs_is_below [d18, v0]).bd fun a20 => some a20)).bd fun a21 => some [a21]) d17).bd fun z22 => (fAll (.list z22)).bd fun a23 => some a23
theorem l_is_kind_of {v0 v1 : D} {r : D} (h : l_is_kind v0 v1 = some r) : fs_is_kind.f [v0, v1] = some (.ret r .none) := by
  have e0 : fs_is_kind.f = runs false false 5 g_is_kind := rfl
  rw [e0]
  unfold g_is_kind
  unfold l_is_kind at h
  refine fnF ?_
  show Wp (sSeq _ sNil [.sh v0, .sh v1, .un, .un, .un]) _
  refine w_assoc ?_
  replace h := bs h; obtain ⟨a1, ha1, h⟩ := h
  replace h := bs h; obtain ⟨b2, hb2, h⟩ := h
  replace h := bs h; obtain ⟨a6, ha6, h⟩ := h
  refine w_if (eOr (dNot_of (eB (e1E rfl ha1) hb2)) ha6 (fun _ h => by
      replace h := bs h; obtain ⟨a3, ha3, h⟩ := h
      replace h := bs h; obtain ⟨a4, ha4, h⟩ := h
      replace h := bs h; obtain ⟨b5, hb5, h⟩ := h
      cases h; exact (eB (e2EE (e1E rfl ha3) rfl ha4) hb5))) (fun hb => ?_) (fun hb => ?_)
  · replace h := ifT h hb
    cases h; exact w_retF rfl
  · replace h := ifF h hb
    refine w_nil ?_
    refine w_assoc ?_
    replace h := bs h; obtain ⟨q7, hq7, h⟩ := h
    refine w_asg [.sh v0, .sh v1, .sh q7.1, .sh q7.2, .un] rfl (bT2 (lTup2_eq hq7) rfl rfl) ?_
    refine w_assoc ?_
    replace h := bs h; obtain ⟨a8, ha8, h⟩ := h
    replace h := bs h; obtain ⟨b9, hb9, h⟩ := h
    replace h := bs h; obtain ⟨a16, ha16, h⟩ := h
    refine w_if (eOr (eB (e2EE rfl (dTup_of (dCons_of rfl (dCons_of rfl rfl)) (Nat.le_of_ble_eq_true rfl)) ha8) hb9) ha16 (fun _ h => by
        replace h := bs h; obtain ⟨a10, ha10, h⟩ := h
        replace h := bs h; obtain ⟨b11, hb11, h⟩ := h
        replace h := bs h; obtain ⟨a15, ha15, h⟩ := h
        cases h; exact (eOr (dNot_of (eB (e1E rfl ha10) hb11)) ha15 (fun _ h => by
            replace h := bs h; obtain ⟨a12, ha12, h⟩ := h
            replace h := bs h; obtain ⟨a13, ha13, h⟩ := h
            replace h := bs h; obtain ⟨b14, hb14, h⟩ := h
            cases h; exact (eB (e2EE (e1E rfl ha12) rfl ha13) hb14))))) (fun hb => ?_) (fun hb => ?_)
    · replace h := ifT h hb
      cases h; exact w_retF rfl
    · replace h := ifF h hb
      refine w_nil ?_
      replace h := bs h; obtain ⟨d17, hd17, h⟩ := h
      replace h := bs h; obtain ⟨z22, hz22, h⟩ := h
      replace h := bs h; obtain ⟨a23, ha23, h⟩ := h
      cases h; exact w_retF (e1E (eLc (eItT rfl hd17) hz22 (fun d18 _ h => by
          replace h := bs h; obtain ⟨a19, ha19, h⟩ := h
          replace h := bs h; obtain ⟨a21, ha21, h⟩ := h
          cases h; exact stT (s1 := [.sh v0, .sh v1, .sh q7.1, .sh q7.2, .sh d18]) (s2 := [.sh v0, .sh v1, .sh q7.1, .sh q7.2, .sh d18]) (s3 := [.sh v0, .sh v1, .sh q7.1, .sh q7.2, .sh d18]) rfl rfl rfl (eOrV (e2EE rfl rfl ha19) ha21 (fun _ h => by
              replace h := bs h; obtain ⟨a20, ha20, h⟩ := h
              cases h; exact (eFn (dCons_of rfl (dCons_of rfl rfl)) ha20 rfl))) rfl rfl)) ha23)
theorem c_is_kind {v0 v1 : D} {Q : D → Prop} (h : So (l_is_kind v0 v1) Q) : So (cF fs_is_kind [v0, v1]) Q := so_cF (fun _ => l_is_kind_of) h
theorem q_is_kind {v0 v1 r : D} (h : l_is_kind v0 v1 = some r) : cF fs_is_kind [v0, v1] = some r := cF_ok (l_is_kind_of h)
def l_is_book (v0 : D) : Option (D) := (fIsi .tuple v0).bd fun a1 => (asB a1).bd fun b2 => (lOr (!b2) ((fLen v0).bd fun a3 => (oNe a3 (.int 2)).bd fun a4 => (asB a4).bd fun b5 => some b5)).bd fun a6 => if a6 = true then some (.bool false) else (lTup2 v0).bd fun q7 => (oAdd (.int 10) (.int 1)).bd fun a8 => (cF fs_is_below [q7.1, a8]).bd fun a9 => (asB a9).bd fun b10 => (lOr (!b10) ((oLt q7.1 (.int 1)).bd fun a11 => (asB a11).bd fun b12 => some b12)).bd fun a13 => if a13 = true then some (.bool false) else (fIsi .tuple q7.2).bd fun a14 => (asB a14).bd fun b15 => (lOr (!b15) ((fLen q7.2).bd fun a16 => (oLe (.int 1) a16).bd fun a17 => (lAndV a17 (oLe a16 (.int 10))).bd fun a18 => (asB a18).bd fun b19 => some (!b19))).bd fun a20 => if a20 = true then some (.bool false) else (lT q7.2).bd fun d21 => (lc (fun d22 => (cF fs_is_kind [q7.1, d22]).bd fun a23 => some [a23]) d21).bd fun z24 => (fAll (.list z24)).bd fun a25 => some a25
theorem l_is_book_of {v0 : D} {r : D} (h : l_is_book v0 = some r) : fs_is_book.f [v0] = some (.ret r .none) := by
  have e0 : fs_is_book.f = runs false false 4 g_is_book := rfl
  rw [e0]
  unfold g_is_book
  unfold l_is_book at h
  refine fnF ?_
  show Wp (sSeq _ sNil [.sh v0, .un, .un, .un]) _
  refine w_assoc ?_
  replace h := bs h; obtain ⟨a1, ha1, h⟩ := h
  replace h := bs h; obtain ⟨b2, hb2, h⟩ := h
  replace h := bs h; obtain ⟨a6, ha6, h⟩ := h
  refine w_if (eOr (dNot_of (eB (e1E rfl ha1) hb2)) ha6 (fun _ h => by
      replace h := bs h; obtain ⟨a3, ha3, h⟩ := h
      replace h := bs h; obtain ⟨a4, ha4, h⟩ := h
      replace h := bs h; obtain ⟨b5, hb5, h⟩ := h
      cases h; exact (eB (e2EE (e1E rfl ha3) rfl ha4) hb5))) (fun hb => ?_) (fun hb => ?_)
  · replace h := ifT h hb
    cases h; exact w_retF rfl
  · replace h := ifF h hb
    refine w_nil ?_
    refine w_assoc ?_
    replace h := bs h; obtain ⟨q7, hq7, h⟩ := h
    refine w_asg [.sh v0, .sh q7.1, .sh q7.2, .un] rfl (bT2 (lTup2_eq hq7) rfl rfl) ?_
    refine w_assoc ?_
    replace h := bs h; obtain ⟨a8, ha8, h⟩ := h
    replace h := bs h; obtain ⟨a9, ha9, h⟩ := h
    replace h := bs h; obtain ⟨b10, hb10, h⟩ := h
    replace h := bs h; obtain ⟨a13, ha13, h⟩ := h
    refine w_if (eOr (dNot_of (eB (eFn (dCons_of rfl (dCons_of (e2EE rfl rfl ha8) rfl)) ha9 rfl) hb10)) ha13 (fun _ h => by
        replace h := bs h; obtain ⟨a11, ha11, h⟩ := h
        replace h := bs h; obtain ⟨b12, hb12, h⟩ := h
        cases h; exact (eB (e2EE rfl rfl ha11) hb12))) (fun hb => ?_) (fun hb => ?_)
    · replace h := ifT h hb
      cases h; exact w_retF rfl
    · replace h := ifF h hb
      refine w_nil ?_
      refine w_assoc ?_
      replace h := bs h; obtain ⟨a14, ha14, h⟩ := h
      replace h := bs h; obtain ⟨b15, hb15, h⟩ := h
      replace h := bs h; obtain ⟨a20, ha20, h⟩ := h
      refine w_if (eOr (dNot_of (eB (e1E rfl ha14) hb15)) ha20 (fun _ h => by
          replace h := bs h; obtain ⟨a16, ha16, h⟩ := h
          replace h := bs h; obtain ⟨a17, ha17, h⟩ := h
          replace h := bs h; obtain ⟨a18, ha18, h⟩ := h
          replace h := bs h; obtain ⟨b19, hb19, h⟩ := h
          cases h; exact (dNot_of (eB (eChain rfl (e1E rfl ha16) ha17 ha18 (fun _ h => by
              exact ⟨_, rfl, h⟩)) hb19)))) (fun hb => ?_) (fun hb => ?_)
      · replace h := ifT h hb
        cases h; exact w_retF rfl
      · replace h := ifF h hb
        refine w_nil ?_
        replace h := bs h; obtain ⟨d21, hd21, h⟩ := h
        replace h := bs h; obtain ⟨z24, hz24, h⟩ := h
        replace h := bs h; obtain ⟨a25, ha25, h⟩ := h
        cases h; exact w_retF (e1E (eLc (eItT rfl hd21) hz24 (fun d22 _ h => by
            replace h := bs h; obtain ⟨a23, ha23, h⟩ := h
            cases h; exact stT (s1 := [.sh v0, .sh q7.1, .sh q7.2, .sh d22]) (s2 := [.sh v0, .sh q7.1, .sh q7.2, .sh d22]) (s3 := [.sh v0, .sh q7.1, .sh q7.2, .sh d22]) rfl rfl rfl (eFn (dCons_of rfl (dCons_of rfl rfl)) ha23 rfl) rfl rfl)) ha25)
theorem c_is_book {v0 : D} {Q : D → Prop} (h : So (l_is_book v0) Q) : So (cF fs_is_book [v0]) Q := so_cF (fun _ => l_is_book_of) h
theorem q_is_book {v0 r : D} (h : l_is_book v0 = some r) : cF fs_is_book [v0] = some r := cF_ok (l_is_book_of h)
def l_need_book (v0 : D) : Option (D) := (cF fs_is_book [v0]).bd fun a1 => (asB a1).bd fun b2 => if (!b2) = true then none else some .none
theorem l_need_book_of {v0 : D} {r : D} (h : l_need_book v0 = some r) : fs_need_book.f [v0] = some (.ret r .none) := by
  have e0 : fs_need_book.f = runs false false 1 g_need_book := rfl
  rw [e0]
  unfold g_need_book
  unfold l_need_book at h
  refine fnF ?_
  show Wp (sSeq _ sNil [.sh v0]) _
  replace h := bs h; obtain ⟨a1, ha1, h⟩ := h
  replace h := bs h; obtain ⟨b2, hb2, h⟩ := h
  refine w_if (dNot_of (eB (eFn (dCons_of rfl rfl) ha1 rfl) hb2)) (fun hb => ?_) (fun hb => ?_)
  · replace h := ifT h hb
    cases h
  · replace h := ifF h hb
    refine w_nil ?_
    cases h; exact f_end
theorem c_need_book {v0 : D} {Q : D → Prop} (h : So (l_need_book v0) Q) : So (cF fs_need_book [v0]) Q := so_cF (fun _ => l_need_book_of) h
theorem q_need_book {v0 r : D} (h : l_need_book v0 = some r) : cF fs_need_book [v0] = some r := cF_ok (l_need_book_of h)
def l_is_number (v0 v1 : D) : Option (D) := (oIx v0 (.int 1)).bd fun a1 => (fLen a1).bd fun a2 => (cF fs_is_below [v1, a2]).bd fun a3 => some a3
theorem l_is_number_of {v0 v1 : D} {r : D} (h : l_is_number v0 v1 = some r) : fs_is_number.f [v0, v1] = some (.ret r .none) := by
  have e0 : fs_is_number.f = runs false false 2 g_is_number := rfl
  rw [e0]
  unfold g_is_number
  unfold l_is_number at h
  refine fnF ?_
  show Wp (sSeq _ sNil [.sh v0, .sh v1]) _
  replace h := bs h; obtain ⟨a1, ha1, h⟩ := h
  replace h := bs h; obtain ⟨a2, ha2, h⟩ := h
  replace h := bs h; obtain ⟨a3, ha3, h⟩ := h
  cases h; exact w_retF (eFn (dCons_of rfl (dCons_of (e1E (e2EE rfl rfl ha1) ha2) rfl)) ha3 rfl)
theorem c_is_number {v0 v1 : D} {Q : D → Prop} (h : So (l_is_number v0 v1) Q) : So (cF fs_is_number [v0, v1]) Q := so_cF (fun _ => l_is_number_of) h
theorem q_is_number {v0 v1 r : D} (h : l_is_number v0 v1 = some r) : cF fs_is_number [v0, v1] = some r := cF_ok (l_is_number_of h)
def l_is_out (v0 v1 : D) : Option (D) := (cF fs_is_number [v0, v1]).bd fun a1 => (lAndV a1 ((oIx v0 (.int 1)).bd fun a2 => (oIx a2 v1).bd fun a3 => (oIx a3 (.int 0)).bd fun a4 => (oEq a4 (.str "out")).bd fun a5 => some a5)).bd fun a6 => some a6
theorem l_is_out_of {v0 v1 : D} {r : D} (h : l_is_out v0 v1 = some r) : fs_is_out.f [v0, v1] = some (.ret r .none) := by
  have e0 : fs_is_out.f = runs false false 2 g_is_out := rfl
  rw [e0]
  unfold g_is_out
  unfold l_is_out at h
  refine fnF ?_
  show Wp (sSeq _ sNil [.sh v0, .sh v1]) _
  replace h := bs h; obtain ⟨a1, ha1, h⟩ := h
  replace h := bs h; obtain ⟨a6, ha6, h⟩ := h
  cases h; exact w_retF (eAndV (eFn (dCons_of rfl (dCons_of rfl rfl)) ha1 rfl) ha6 (fun _ h => by
      replace h := bs h; obtain ⟨a2, ha2, h⟩ := h
      replace h := bs h; obtain ⟨a3, ha3, h⟩ := h
      replace h := bs h; obtain ⟨a4, ha4, h⟩ := h
      replace h := bs h; obtain ⟨a5, ha5, h⟩ := h
      cases h; exact (e2EE (e2EE (e2EE (e2EE rfl rfl ha2) rfl ha3) rfl ha4) rfl ha5)))
theorem c_is_out {v0 v1 : D} {Q : D → Prop} (h : So (l_is_out v0 v1) Q) : So (cF fs_is_out [v0, v1]) Q := so_cF (fun _ => l_is_out_of) h
theorem q_is_out {v0 v1 r : D} (h : l_is_out v0 v1 = some r) : cF fs_is_out [v0, v1] = some r := cF_ok (l_is_out_of h)
def l_is_deed (v0 v1 : D) : Option (D) := (cF fs_is_number [v0, v1]).bd fun a1 => (lAndV a1 ((oIx v0 (.int 1)).bd fun a2 => (oIx a2 v1).bd fun a3 => (oIx a3 (.int 0)).bd fun a4 => (oEq a4 (.str "deed")).bd fun a5 => some a5)).bd fun a6 => some a6
theorem l_is_deed_of {v0 v1 : D} {r : D} (h : l_is_deed v0 v1 = some r) : fs_is_deed.f [v0, v1] = some (.ret r .none) := by
  have e0 : fs_is_deed.f = runs false false 2 g_is_deed := rfl
  rw [e0]
  unfold g_is_deed
  unfold l_is_deed at h
  refine fnF ?_
  show Wp (sSeq _ sNil [.sh v0, .sh v1]) _
  replace h := bs h; obtain ⟨a1, ha1, h⟩ := h
  replace h := bs h; obtain ⟨a6, ha6, h⟩ := h
  cases h; exact w_retF (eAndV (eFn (dCons_of rfl (dCons_of rfl rfl)) ha1 rfl) ha6 (fun _ h => by
      replace h := bs h; obtain ⟨a2, ha2, h⟩ := h
      replace h := bs h; obtain ⟨a3, ha3, h⟩ := h
      replace h := bs h; obtain ⟨a4, ha4, h⟩ := h
      replace h := bs h; obtain ⟨a5, ha5, h⟩ := h
      cases h; exact (e2EE (e2EE (e2EE (e2EE rfl rfl ha2) rfl ha3) rfl ha4) rfl ha5)))
theorem c_is_deed {v0 v1 : D} {Q : D → Prop} (h : So (l_is_deed v0 v1) Q) : So (cF fs_is_deed [v0, v1]) Q := so_cF (fun _ => l_is_deed_of) h
theorem q_is_deed {v0 v1 r : D} (h : l_is_deed v0 v1 = some r) : cF fs_is_deed [v0, v1] = some r := cF_ok (l_is_deed_of h)
def l_is_mark (v0 v1 v2 : D) : Option (D) := (fIsi .tuple v2).bd fun a1 => (asB a1).bd fun b2 => (lOr (!b2) ((lT v2).bd fun d3 => (lc (fun d4 => (cF fs_is_number [v0, d4]).bd fun a5 => some [a5]) d3).bd fun z6 => (fAll (.list z6)).bd fun a7 => (asB a7).bd fun b8 => some (!b8))).bd fun a9 => if a9 = true then some (.bool false) else (oIx v1 (.int 0)).bd fun a10 => (oEq a10 (.str "out")).bd fun a11 => (asB a11).bd fun b12 => (lAnd b12 ((fLen v2).bd fun a13 => (oGt a13 (.int 0)).bd fun a14 => (asB a14).bd fun b15 => some b15)).bd fun a16 => if a16 = true then some (.bool false) else (asI (.int 1)).bd fun a17 => (slT v2 (some a17) none).bd fun a18 => (lZip v2 a18).bd fun d19 => (lc (fun d20 => (lTup2 d20).bd fun q21 => (oLt q21.1 q21.2).bd fun a22 => some [a22]) d19).bd fun z23 => (fAll (.list z23)).bd fun a24 => some a24
theorem l_is_mark_of {v0 v1 v2 : D} {r : D} (h : l_is_mark v0 v1 v2 = some r) : fs_is_mark.f [v0, v1, v2] = some (.ret r .none) := by
  have e0 : fs_is_mark.f = runs false false 6 g_is_mark := rfl
  rw [e0]
  unfold g_is_mark
  unfold l_is_mark at h
  refine fnF ?_
  show Wp (sSeq _ sNil [.sh v0, .sh v1, .sh v2, .un, .un, .un]) _
  refine w_assoc ?_
  replace h := bs h; obtain ⟨a1, ha1, h⟩ := h
  replace h := bs h; obtain ⟨b2, hb2, h⟩ := h
  replace h := bs h; obtain ⟨a9, ha9, h⟩ := h
  refine w_if (eOr (dNot_of (eB (e1E rfl ha1) hb2)) ha9 (fun _ h => by
      replace h := bs h; obtain ⟨d3, hd3, h⟩ := h
      replace h := bs h; obtain ⟨z6, hz6, h⟩ := h
      replace h := bs h; obtain ⟨a7, ha7, h⟩ := h
      replace h := bs h; obtain ⟨b8, hb8, h⟩ := h
      cases h; exact (dNot_of (eB (e1E (eLc (eItT rfl hd3) hz6 (fun d4 _ h => by
          replace h := bs h; obtain ⟨a5, ha5, h⟩ := h
          cases h; exact stT (s1 := [.sh v0, .sh v1, .sh v2, .sh d4, .un, .un]) (s2 := [.sh v0, .sh v1, .sh v2, .sh d4, .un, .un]) (s3 := [.sh v0, .sh v1, .sh v2, .sh d4, .un, .un]) rfl rfl rfl (eFn (dCons_of rfl (dCons_of rfl rfl)) ha5 rfl) rfl rfl)) ha7) hb8)))) (fun hb => ?_) (fun hb => ?_)
  · replace h := ifT h hb
    cases h; exact w_retF rfl
  · replace h := ifF h hb
    refine w_nil ?_
    refine w_assoc ?_
    replace h := bs h; obtain ⟨a10, ha10, h⟩ := h
    replace h := bs h; obtain ⟨a11, ha11, h⟩ := h
    replace h := bs h; obtain ⟨b12, hb12, h⟩ := h
    replace h := bs h; obtain ⟨a16, ha16, h⟩ := h
    refine w_if (eAnd (eB (e2EE (e2EE rfl rfl ha10) rfl ha11) hb12) ha16 (fun _ h => by
        replace h := bs h; obtain ⟨a13, ha13, h⟩ := h
        replace h := bs h; obtain ⟨a14, ha14, h⟩ := h
        replace h := bs h; obtain ⟨b15, hb15, h⟩ := h
        cases h; exact (eB (e2EE (e1E rfl ha13) rfl ha14) hb15))) (fun hb => ?_) (fun hb => ?_)
    · replace h := ifT h hb
      cases h; exact w_retF rfl
    · replace h := ifF h hb
      refine w_nil ?_
      replace h := bs h; obtain ⟨a17, ha17, h⟩ := h
      replace h := bs h; obtain ⟨a18, ha18, h⟩ := h
      replace h := bs h; obtain ⟨d19, hd19, h⟩ := h
      replace h := bs h; obtain ⟨z23, hz23, h⟩ := h
      replace h := bs h; obtain ⟨a24, ha24, h⟩ := h
      cases h; exact w_retF (e1E (eLc (eZip rfl (eSlE rfl (ePt rfl ha17) rfl ha18) hd19) hz23 (fun d20 _ h => by
          replace h := bs h; obtain ⟨q21, hq21, h⟩ := h
          replace h := bs h; obtain ⟨a22, ha22, h⟩ := h
          cases h; exact stT (s1 := [.sh v0, .sh v1, .sh v2, .un, .sh q21.1, .sh q21.2]) (s2 := [.sh v0, .sh v1, .sh v2, .un, .sh q21.1, .sh q21.2]) (s3 := [.sh v0, .sh v1, .sh v2, .un, .sh q21.1, .sh q21.2]) rfl (bT2 (lTup2_eq hq21) rfl rfl) rfl (e2EE rfl rfl ha22) rfl rfl)) ha24)
theorem c_is_mark {v0 v1 v2 : D} {Q : D → Prop} (h : So (l_is_mark v0 v1 v2) Q) : So (cF fs_is_mark [v0, v1, v2]) Q := so_cF (fun _ => l_is_mark_of) h
theorem q_is_mark {v0 v1 v2 r : D} (h : l_is_mark v0 v1 v2 = some r) : cF fs_is_mark [v0, v1, v2] = some r := cF_ok (l_is_mark_of h)
def l_is_marks_here (v0 v1 : D) : Option (D) := (fIsi .tuple v1).bd fun a1 => (asB a1).bd fun b2 => (lOr (!b2) ((fLen v1).bd fun a3 => (oIx v0 (.int 1)).bd fun a4 => (fLen a4).bd fun a5 => (oNe a3 a5).bd fun a6 => (asB a6).bd fun b7 => some b7)).bd fun a8 => if a8 = true then some (.bool false) else (oIx v0 (.int 1)).bd fun a9 => (lZip a9 v1).bd fun d10 => (lc (fun d11 => (lTup2 d11).bd fun q12 => (cF fs_is_mark [v0, q12.1, q12.2]).bd fun a13 => some [a13]) d10).bd fun z14 => (fAll (.list z14)).bd fun a15 => some a15
theorem l_is_marks_here_of {v0 v1 : D} {r : D} (h : l_is_marks_here v0 v1 = some r) : fs_is_marks_here.f [v0, v1] = some (.ret r .none) := by
  have e0 : fs_is_marks_here.f = runs false false 4 g_is_marks_here := rfl
  rw [e0]
  unfold g_is_marks_here
  unfold l_is_marks_here at h
  refine fnF ?_
  show Wp (sSeq _ sNil [.sh v0, .sh v1, .un, .un]) _
  refine w_assoc ?_
  replace h := bs h; obtain ⟨a1, ha1, h⟩ := h
  replace h := bs h; obtain ⟨b2, hb2, h⟩ := h
  replace h := bs h; obtain ⟨a8, ha8, h⟩ := h
  refine w_if (eOr (dNot_of (eB (e1E rfl ha1) hb2)) ha8 (fun _ h => by
      replace h := bs h; obtain ⟨a3, ha3, h⟩ := h
      replace h := bs h; obtain ⟨a4, ha4, h⟩ := h
      replace h := bs h; obtain ⟨a5, ha5, h⟩ := h
      replace h := bs h; obtain ⟨a6, ha6, h⟩ := h
      replace h := bs h; obtain ⟨b7, hb7, h⟩ := h
      cases h; exact (eB (e2EE (e1E rfl ha3) (e1E (e2EE rfl rfl ha4) ha5) ha6) hb7))) (fun hb => ?_) (fun hb => ?_)
  · replace h := ifT h hb
    cases h; exact w_retF rfl
  · replace h := ifF h hb
    refine w_nil ?_
    replace h := bs h; obtain ⟨a9, ha9, h⟩ := h
    replace h := bs h; obtain ⟨d10, hd10, h⟩ := h
    replace h := bs h; obtain ⟨z14, hz14, h⟩ := h
    replace h := bs h; obtain ⟨a15, ha15, h⟩ := h
    cases h; exact w_retF (e1E (eLc (eZip (e2EE rfl rfl ha9) rfl hd10) hz14 (fun d11 _ h => by
        replace h := bs h; obtain ⟨q12, hq12, h⟩ := h
        replace h := bs h; obtain ⟨a13, ha13, h⟩ := h
        cases h; exact stT (s1 := [.sh v0, .sh v1, .sh q12.1, .sh q12.2]) (s2 := [.sh v0, .sh v1, .sh q12.1, .sh q12.2]) (s3 := [.sh v0, .sh v1, .sh q12.1, .sh q12.2]) rfl (bT2 (lTup2_eq hq12) rfl rfl) rfl (eFn (dCons_of rfl (dCons_of rfl (dCons_of rfl rfl))) ha13 rfl) rfl rfl)) ha15)
theorem c_is_marks_here {v0 v1 : D} {Q : D → Prop} (h : So (l_is_marks_here v0 v1) Q) : So (cF fs_is_marks_here [v0, v1]) Q := so_cF (fun _ => l_is_marks_here_of) h
theorem q_is_marks_here {v0 v1 r : D} (h : l_is_marks_here v0 v1 = some r) : cF fs_is_marks_here [v0, v1] = some r := cF_ok (l_is_marks_here_of h)
def l_behind (v0 v1 v2 : D) : Option (D) := (oIx v0 (.int 1)).bd fun a1 => (oIx a1 v2).bd fun a2 => (oIx a2 (.int 1)).bd fun a3 => (oIx a3 v1).bd fun a4 => some a4
theorem l_behind_of {v0 v1 v2 : D} {r : D} (h : l_behind v0 v1 v2 = some r) : fs_behind.f [v0, v1, v2] = some (.ret r .none) := by
  have e0 : fs_behind.f = runs false false 3 g_behind := rfl
  rw [e0]
  unfold g_behind
  unfold l_behind at h
  refine fnF ?_
  show Wp (sSeq _ sNil [.sh v0, .sh v1, .sh v2]) _
  replace h := bs h; obtain ⟨a1, ha1, h⟩ := h
  replace h := bs h; obtain ⟨a2, ha2, h⟩ := h
  replace h := bs h; obtain ⟨a3, ha3, h⟩ := h
  replace h := bs h; obtain ⟨a4, ha4, h⟩ := h
  cases h; exact w_retF (e2EE (e2EE (e2EE (e2EE rfl rfl ha1) rfl ha2) rfl ha3) rfl ha4)
theorem c_behind {v0 v1 v2 : D} {Q : D → Prop} (h : So (l_behind v0 v1 v2) Q) : So (cF fs_behind [v0, v1, v2]) Q := so_cF (fun _ => l_behind_of) h
theorem q_behind {v0 v1 v2 r : D} (h : l_behind v0 v1 v2 = some r) : cF fs_behind [v0, v1, v2] = some r := cF_ok (l_behind_of h)
def l_need_marks (v0 v1 : D) : Option (D) := (cF fs_is_marks_here [v0, v1]).bd fun a1 => (asB a1).bd fun b2 => if (!b2) = true then none else some .none
theorem l_need_marks_of {v0 v1 : D} {r : D} (h : l_need_marks v0 v1 = some r) : fs_need_marks.f [v0, v1] = some (.ret r .none) := by
  have e0 : fs_need_marks.f = runs false false 2 g_need_marks := rfl
  rw [e0]
  unfold g_need_marks
  unfold l_need_marks at h
  refine fnF ?_
  show Wp (sSeq _ sNil [.sh v0, .sh v1]) _
  replace h := bs h; obtain ⟨a1, ha1, h⟩ := h
  replace h := bs h; obtain ⟨b2, hb2, h⟩ := h
  refine w_if (dNot_of (eB (eFn (dCons_of rfl (dCons_of rfl rfl)) ha1 rfl) hb2)) (fun hb => ?_) (fun hb => ?_)
  · replace h := ifT h hb
    cases h
  · replace h := ifF h hb
    refine w_nil ?_
    cases h; exact f_end
theorem c_need_marks {v0 v1 : D} {Q : D → Prop} (h : So (l_need_marks v0 v1) Q) : So (cF fs_need_marks [v0, v1]) Q := so_cF (fun _ => l_need_marks_of) h
theorem q_need_marks {v0 v1 r : D} (h : l_need_marks v0 v1 = some r) : cF fs_need_marks [v0, v1] = some r := cF_ok (l_need_marks_of h)
def l_meets (v0 v1 : D) : Option (D) := (lS v0).bd fun d1 => (lc (fun d2 => (oIn false d2 v1).bd fun a3 => some [a3]) d1).bd fun z4 => (fAny (.list z4)).bd fun a5 => some a5
theorem l_meets_of {v0 v1 : D} {r : D} (h : l_meets v0 v1 = some r) : fs_meets.f [v0, v1] = some (.ret r .none) := by
  have e0 : fs_meets.f = runs false false 3 g_meets := rfl
  rw [e0]
  unfold g_meets
  unfold l_meets at h
  refine fnF ?_
  show Wp (sSeq _ sNil [.sh v0, .sh v1, .un]) _
  replace h := bs h; obtain ⟨d1, hd1, h⟩ := h
  replace h := bs h; obtain ⟨z4, hz4, h⟩ := h
  replace h := bs h; obtain ⟨a5, ha5, h⟩ := h
  cases h; exact w_retF (e1E (eLc (eItS rfl hd1) hz4 (fun d2 _ h => by
      replace h := bs h; obtain ⟨a3, ha3, h⟩ := h
      cases h; exact stT (s1 := [.sh v0, .sh v1, .sh d2]) (s2 := [.sh v0, .sh v1, .sh d2]) (s3 := [.sh v0, .sh v1, .sh d2]) rfl rfl rfl (e2EE rfl rfl ha3) rfl rfl)) ha5)
theorem c_meets {v0 v1 : D} {Q : D → Prop} (h : So (l_meets v0 v1) Q) : So (cF fs_meets [v0, v1]) Q := so_cF (fun _ => l_meets_of) h
theorem q_meets {v0 v1 r : D} (h : l_meets v0 v1 = some r) : cF fs_meets [v0, v1] = some r := cF_ok (l_meets_of h)
def l_Talk_come (v0 v1 : D) : Option (D × D) := (lTkB v0).bd fun a1 => (lTk .st v0).bd fun a2 => (lNeg (.int 1)).bd fun a3 => (oIx a2 a3).bd fun a4 => (cF fs_behind [a1, a4, v1]).bd fun a5 => (oIsNot a5 .none).bd fun a6 => (asB a6).bd fun b7 => (if b7 = true then (lTk .ha v0).bd fun a9 => (gApp a9 [v1]).bd fun a10 => (lTkP .ha v0 a10).bd fun m11 => (lTk .st m11).bd fun a12 => (gApp a12 [a5]).bd fun a13 => (lTkP .st m11 a13).bd fun m14 => some m14 else some v0).bd fun t8 => some (a5, t8)
theorem l_Talk_come_of {v0 v1 : D} {r : D × D} (h : l_Talk_come v0 v1 = some r) : fs_Talk_come.f [v0, v1] = some (.ret r.1 r.2) := by
  have e0 : fs_Talk_come.f = runsK false 3 g_Talk_come := rfl
  rw [e0]
  unfold g_Talk_come
  unfold l_Talk_come at h
  refine fnK ?_
  show Wp (sSeq _ sNil [.tk v0, .sh v1, .un]) _
  refine w_assoc ?_
  replace h := bs h; obtain ⟨a1, ha1, h⟩ := h
  replace h := bs h; obtain ⟨a2, ha2, h⟩ := h
  replace h := bs h; obtain ⟨a3, ha3, h⟩ := h
  replace h := bs h; obtain ⟨a4, ha4, h⟩ := h
  replace h := bs h; obtain ⟨a5, ha5, h⟩ := h
  refine w_asg [.tk v0, .sh v1, .sh a5] (eFn (dCons_of (eTkB rfl ha1) (dCons_of (e2FE rfl ha2 (eNeg rfl ha3) rfl ha2 ha4) (dCons_of rfl rfl))) ha5 rfl) rfl ?_
  refine w_assoc ?_
  replace h := bs h; obtain ⟨a6, ha6, h⟩ := h
  replace h := bs h; obtain ⟨b7, hb7, h⟩ := h
  replace h := bs h; obtain ⟨t8, ht8, h⟩ := h
  refine w_join (fun (t8 : D) (s : S) => s = [.tk t8, .sh v1, .sh a5]) t8 (w_if (eB (e2EE rfl rfl ha6) hb7) (fun hb => ?_) (fun hb => ?_)) ?_
  · clear h; have h := ifT ht8 hb; clear ht8
    refine w_assoc ?_
    replace h := bs h; obtain ⟨a9, ha9, h⟩ := h
    replace h := bs h; obtain ⟨a10, ha10, h⟩ := h
    replace h := bs h; obtain ⟨m11, hm11, h⟩ := h
    refine w_tkMut [.tk m11, .sh v1, .sh a5] rfl (dCons_of rfl rfl) rfl ha9 ha10 hm11 rfl ?_
    replace h := bs h; obtain ⟨a12, ha12, h⟩ := h
    replace h := bs h; obtain ⟨a13, ha13, h⟩ := h
    replace h := bs h; obtain ⟨m14, hm14, h⟩ := h
    refine w_tkMut [.tk m14, .sh v1, .sh a5] rfl (dCons_of rfl rfl) rfl ha12 ha13 hm14 rfl ?_
    cases h; exact n_end rfl
  · clear h; have h := ifF ht8 hb; clear ht8
    refine w_nil ?_
    cases h; exact n_end rfl
  · rintro _ rfl
    cases h; exact w_retK rfl rfl
theorem c_Talk_come {v0 v1 : D} {Q : D × D → Prop} (h : So (l_Talk_come v0 v1) Q) : So (cI fs_Talk_come [v0, v1]) Q := so_cI (fun _ => l_Talk_come_of) h
theorem t_Talk_come {v0 v1 : D} {Q : D → Prop} (h : So (l_Talk_come v0 v1) fun q => Q q.1) : So (cF fs_Talk_come [v0, v1]) Q := so_cT (fun _ => l_Talk_come_of) h
def l_Talk_look (v0 v1 v2 : D) : Option (D × D) := (lTk .ha v0).bd fun a1 => (fLen a1).bd fun a2 => (oSub a2 v2).bd fun a3 => (fMax2 (.int 0) a3).bd fun a4 => (lTk .mo v0).bd fun a5 => (gPut a5 [a4, v1]).bd fun a6 => (lTkP .mo v0 a6).bd fun m7 => (lTk .st m7).bd fun a8 => (oIx a8 a4).bd fun a9 => some (a9, m7)
theorem l_Talk_look_of {v0 v1 v2 : D} {r : D × D} (h : l_Talk_look v0 v1 v2 = some r) : fs_Talk_look.f [v0, v1, v2] = some (.ret r.1 r.2) := by
  have e0 : fs_Talk_look.f = runsK false 4 g_Talk_look := rfl
  rw [e0]
  unfold g_Talk_look
  unfold l_Talk_look at h
  refine fnK ?_
  show Wp (sSeq _ sNil [.tk v0, .sh v1, .sh v2, .un]) _
  refine w_assoc ?_
  replace h := bs h; obtain ⟨a1, ha1, h⟩ := h
  replace h := bs h; obtain ⟨a2, ha2, h⟩ := h
  replace h := bs h; obtain ⟨a3, ha3, h⟩ := h
  replace h := bs h; obtain ⟨a4, ha4, h⟩ := h
  refine w_asg [.tk v0, .sh v1, .sh v2, .sh a4] (e2EE rfl (e2EE (e1F rfl ha1 ha2) rfl ha3) ha4) rfl ?_
  refine w_assoc ?_
  replace h := bs h; obtain ⟨a5, ha5, h⟩ := h
  replace h := bs h; obtain ⟨a6, ha6, h⟩ := h
  replace h := bs h; obtain ⟨m7, hm7, h⟩ := h
  refine w_tkMut [.tk m7, .sh v1, .sh v2, .sh a4] rfl (dCons_of rfl (dCons_of rfl rfl)) rfl ha5 ha6 hm7 rfl ?_
  replace h := bs h; obtain ⟨a8, ha8, h⟩ := h
  replace h := bs h; obtain ⟨a9, ha9, h⟩ := h
  cases h; exact w_retK (e2FE rfl ha8 rfl rfl ha8 ha9) rfl
theorem c_Talk_look {v0 v1 v2 : D} {Q : D × D → Prop} (h : So (l_Talk_look v0 v1 v2) Q) : So (cI fs_Talk_look [v0, v1, v2]) Q := so_cI (fun _ => l_Talk_look_of) h
theorem t_Talk_look {v0 v1 v2 : D} {Q : D → Prop} (h : So (l_Talk_look v0 v1 v2) fun q => Q q.1) : So (cF fs_Talk_look [v0, v1, v2]) Q := so_cT (fun _ => l_Talk_look_of) h
def l_Talk_sight (v0 v1 : D) : Option (D × D) := (lTk .mo v0).bd fun a1 => (lDi a1).bd fun a2 => (oGetN a1 v1).bd fun a3 => (oIs a3 .none).bd fun a4 => (asB a4).bd fun b5 => (if b5 = true then some .none else (lTk .st v0).bd fun a6 => (oIx a6 a3).bd fun a7 => some a7).bd fun a8 => some (a8, v0)
theorem l_Talk_sight_of {v0 v1 : D} {r : D × D} (h : l_Talk_sight v0 v1 = some r) : fs_Talk_sight.f [v0, v1] = some (.ret r.1 r.2) := by
  have e0 : fs_Talk_sight.f = runsK false 3 g_Talk_sight := rfl
  rw [e0]
  unfold g_Talk_sight
  unfold l_Talk_sight at h
  refine fnK ?_
  show Wp (sSeq _ sNil [.tk v0, .sh v1, .un]) _
  refine w_assoc ?_
  replace h := bs h; obtain ⟨a1, ha1, h⟩ := h
  replace h := bs h; obtain ⟨a2, ha2, h⟩ := h
  replace h := bs h; obtain ⟨a3, ha3, h⟩ := h
  refine w_asg [.tk v0, .sh v1, .sh a3] (eGetNF rfl ha1 (lDi_t ha2) rfl rfl ha1 ha3) rfl ?_
  replace h := bs h; obtain ⟨a4, ha4, h⟩ := h
  replace h := bs h; obtain ⟨b5, hb5, h⟩ := h
  replace h := bs h; obtain ⟨a8, ha8, h⟩ := h
  cases h; exact w_retK (eIf (eB (e2EE rfl rfl ha4) hb5) ha8 (fun _ h => by
      cases h; exact rfl) (fun _ h => by
      replace h := bs h; obtain ⟨a6, ha6, h⟩ := h
      replace h := bs h; obtain ⟨a7, ha7, h⟩ := h
      cases h; exact (e2FE rfl ha6 rfl rfl ha6 ha7))) rfl
theorem c_Talk_sight {v0 v1 : D} {Q : D × D → Prop} (h : So (l_Talk_sight v0 v1) Q) : So (cI fs_Talk_sight [v0, v1]) Q := so_cI (fun _ => l_Talk_sight_of) h
theorem t_Talk_sight {v0 v1 : D} {Q : D → Prop} (h : So (l_Talk_sight v0 v1) fun q => Q q.1) : So (cF fs_Talk_sight [v0, v1]) Q := so_cT (fun _ => l_Talk_sight_of) h
def l_Talk_since (v0 v1 : D) : Option (D × D) := (lTk .mo v0).bd fun a1 => (lDi a1).bd fun a2 => (oGetN a1 v1).bd fun a3 => (oIs a3 .none).bd fun a4 => (asB a4).bd fun b5 => (if b5 = true then some .none else (lTk .ha v0).bd fun a6 => (asI a3).bd fun a7 => (slL a6 (some a7) none).bd fun a8 => (lSh a8).bd fun u9 => some a8).bd fun a10 => some (a10, v0)
theorem l_Talk_since_of {v0 v1 : D} {r : D × D} (h : l_Talk_since v0 v1 = some r) : fs_Talk_since.f [v0, v1] = some (.ret r.1 r.2) := by
  have e0 : fs_Talk_since.f = runsK false 3 g_Talk_since := rfl
  rw [e0]
  unfold g_Talk_since
  unfold l_Talk_since at h
  refine fnK ?_
  show Wp (sSeq _ sNil [.tk v0, .sh v1, .un]) _
  refine w_assoc ?_
  replace h := bs h; obtain ⟨a1, ha1, h⟩ := h
  replace h := bs h; obtain ⟨a2, ha2, h⟩ := h
  replace h := bs h; obtain ⟨a3, ha3, h⟩ := h
  refine w_asg [.tk v0, .sh v1, .sh a3] (eGetNF rfl ha1 (lDi_t ha2) rfl rfl ha1 ha3) rfl ?_
  replace h := bs h; obtain ⟨a4, ha4, h⟩ := h
  replace h := bs h; obtain ⟨b5, hb5, h⟩ := h
  replace h := bs h; obtain ⟨a10, ha10, h⟩ := h
  cases h; exact w_retK (eIf (eB (e2EE rfl rfl ha4) hb5) ha10 (fun _ h => by
      cases h; exact rfl) (fun _ h => by
      replace h := bs h; obtain ⟨a6, ha6, h⟩ := h
      replace h := bs h; obtain ⟨a7, ha7, h⟩ := h
      replace h := bs h; obtain ⟨a8, ha8, h⟩ := h
      replace h := bs h; obtain ⟨u9, hu9, h⟩ := h
      cases h; exact (eSh (eSlF rfl ha6 (ePt rfl ha7) rfl rfl ha6 ha8) hu9))) rfl
theorem c_Talk_since {v0 v1 : D} {Q : D × D → Prop} (h : So (l_Talk_since v0 v1) Q) : So (cI fs_Talk_since [v0, v1]) Q := so_cI (fun _ => l_Talk_since_of) h
theorem t_Talk_since {v0 v1 : D} {Q : D → Prop} (h : So (l_Talk_since v0 v1) fun q => Q q.1) : So (cF fs_Talk_since [v0, v1]) Q := so_cT (fun _ => l_Talk_since_of) h
def l_Talk_allows (v0 v1 v2 : D) : Option (D × D) := (cK fs_Talk_sight v0 [v1]).bd fun q1 => (oIs q1.1 .none).bd fun a2 => (asB a2).bd fun b3 => (lOr b3 ((lTkB q1.2).bd fun a4 => (cF fs_behind [a4, q1.1, v2]).bd fun a5 => (oIs a5 .none).bd fun a6 => (asB a6).bd fun b7 => some b7)).bd fun a8 => if a8 = true then some ((.bool false), q1.2) else (lTkB q1.2).bd fun a9 => (lTk .st q1.2).bd fun a10 => (lNeg (.int 1)).bd fun a11 => (oIx a10 a11).bd fun a12 => (cF fs_behind [a9, a12, v2]).bd fun a13 => (oIsNot a13 .none).bd fun a14 => (lAndVE a14 q1.2 ((lTkC q1.2).bd fun a16 => (oIx a16 v2).bd fun a17 => (cK fs_Talk_since q1.2 [v1]).bd fun q18 => (cF fs_meets [a17, q18.1]).bd fun a19 => (asB a19).bd fun b20 => some ((.bool (!b20)), q18.2))).bd fun q21 => some (q21.1, q21.2)
theorem l_Talk_allows_of {v0 v1 v2 : D} {r : D × D} (h : l_Talk_allows v0 v1 v2 = some r) : fs_Talk_allows.f [v0, v1, v2] = some (.ret r.1 r.2) := by
  have e0 : fs_Talk_allows.f = runsK false 4 g_Talk_allows := rfl
  rw [e0]
  unfold g_Talk_allows
  unfold l_Talk_allows at h
  refine fnK ?_
  show Wp (sSeq _ sNil [.tk v0, .sh v1, .sh v2, .un]) _
  refine w_assoc ?_
  replace h := bs h; obtain ⟨q1, hq1, h⟩ := h
  refine w_asg [.tk q1.2, .sh v1, .sh v2, .sh q1.1] (eFnK rfl (dCons_of rfl rfl) rfl hq1 rfl rfl) rfl ?_
  refine w_assoc ?_
  replace h := bs h; obtain ⟨a2, ha2, h⟩ := h
  replace h := bs h; obtain ⟨b3, hb3, h⟩ := h
  replace h := bs h; obtain ⟨a8, ha8, h⟩ := h
  refine w_if (eOr (eB (e2EE rfl rfl ha2) hb3) ha8 (fun _ h => by
      replace h := bs h; obtain ⟨a4, ha4, h⟩ := h
      replace h := bs h; obtain ⟨a5, ha5, h⟩ := h
      replace h := bs h; obtain ⟨a6, ha6, h⟩ := h
      replace h := bs h; obtain ⟨b7, hb7, h⟩ := h
      cases h; exact (eB (e2EE (eFn (dCons_of (eTkB rfl ha4) (dCons_of rfl (dCons_of rfl rfl))) ha5 rfl) rfl ha6) hb7))) (fun hb => ?_) (fun hb => ?_)
  · replace h := ifT h hb
    cases h; exact w_retK rfl rfl
  · replace h := ifF h hb
    refine w_nil ?_
    replace h := bs h; obtain ⟨a9, ha9, h⟩ := h
    replace h := bs h; obtain ⟨a10, ha10, h⟩ := h
    replace h := bs h; obtain ⟨a11, ha11, h⟩ := h
    replace h := bs h; obtain ⟨a12, ha12, h⟩ := h
    replace h := bs h; obtain ⟨a13, ha13, h⟩ := h
    replace h := bs h; obtain ⟨a14, ha14, h⟩ := h
    replace h := bs h; obtain ⟨q21, hq21, h⟩ := h
    cases h; exact w_retK (eAndVE (fun m15 : D => ([.tk m15, .sh v1, .sh v2, .sh q1.1] : S)) (e2EE (eFn (dCons_of (eTkB rfl ha9) (dCons_of (e2FE rfl ha10 (eNeg rfl ha11) rfl ha10 ha12) (dCons_of rfl rfl))) ha13 rfl) rfl ha14) hq21 (fun _ h => by
        replace h := bs h; obtain ⟨a16, ha16, h⟩ := h
        replace h := bs h; obtain ⟨a17, ha17, h⟩ := h
        replace h := bs h; obtain ⟨q18, hq18, h⟩ := h
        replace h := bs h; obtain ⟨a19, ha19, h⟩ := h
        replace h := bs h; obtain ⟨b20, hb20, h⟩ := h
        cases h; exact (eNotV (eFn (dCons_of (e2EE (eTkC rfl ha16) rfl ha17) (dCons_of (eFnK rfl (dCons_of rfl rfl) rfl hq18 rfl rfl) rfl)) ha19 rfl) hb20))) rfl
theorem c_Talk_allows {v0 v1 v2 : D} {Q : D × D → Prop} (h : So (l_Talk_allows v0 v1 v2) Q) : So (cI fs_Talk_allows [v0, v1, v2]) Q := so_cI (fun _ => l_Talk_allows_of) h
theorem t_Talk_allows {v0 v1 v2 : D} {Q : D → Prop} (h : So (l_Talk_allows v0 v1 v2) fun q => Q q.1) : So (cF fs_Talk_allows [v0, v1, v2]) Q := so_cT (fun _ => l_Talk_allows_of) h
def l_Talk_do (v0 v1 v2 : D) : Option (D × D) := (cK fs_Talk_allows v0 [v1, v2]).bd fun q1 => (asB q1.1).bd fun b2 => if (!b2) = true then some ((.bool false), q1.2) else (cK fs_Talk_come q1.2 [v2]).bd fun q3 => (lTk .ha q3.2).bd fun a4 => (fLen a4).bd fun a5 => (lTk .mo q3.2).bd fun a6 => (gPut a6 [a5, v1]).bd fun a7 => (lTkP .mo q3.2 a7).bd fun m8 => some ((.bool true), m8)
theorem l_Talk_do_of {v0 v1 v2 : D} {r : D × D} (h : l_Talk_do v0 v1 v2 = some r) : fs_Talk_do.f [v0, v1, v2] = some (.ret r.1 r.2) := by
  have e0 : fs_Talk_do.f = runsK false 3 g_Talk_do := rfl
  rw [e0]
  unfold g_Talk_do
  unfold l_Talk_do at h
  refine fnK ?_
  show Wp (sSeq _ sNil [.tk v0, .sh v1, .sh v2]) _
  refine w_assoc ?_
  replace h := bs h; obtain ⟨q1, hq1, h⟩ := h
  replace h := bs h; obtain ⟨b2, hb2, h⟩ := h
  refine w_if (dNot_of (eB (eFnK rfl (dCons_of rfl (dCons_of rfl rfl)) rfl hq1 rfl rfl) hb2)) (fun hb => ?_) (fun hb => ?_)
  · replace h := ifT h hb
    cases h; exact w_retK rfl rfl
  · replace h := ifF h hb
    refine w_nil ?_
    refine w_assoc ?_
    replace h := bs h; obtain ⟨q3, hq3, h⟩ := h
    refine w_drop [.tk q3.2, .sh v1, .sh v2] (eFnK rfl (dCons_of rfl rfl) rfl hq3 rfl rfl) ?_
    refine w_assoc ?_
    replace h := bs h; obtain ⟨a4, ha4, h⟩ := h
    replace h := bs h; obtain ⟨a5, ha5, h⟩ := h
    replace h := bs h; obtain ⟨a6, ha6, h⟩ := h
    replace h := bs h; obtain ⟨a7, ha7, h⟩ := h
    replace h := bs h; obtain ⟨m8, hm8, h⟩ := h
    refine w_tkMut [.tk m8, .sh v1, .sh v2] rfl (dCons_of (e1F rfl ha4 ha5) (dCons_of rfl rfl)) rfl ha6 ha7 hm8 rfl ?_
    cases h; exact w_retK rfl rfl
theorem c_Talk_do {v0 v1 v2 : D} {Q : D × D → Prop} (h : So (l_Talk_do v0 v1 v2) Q) : So (cI fs_Talk_do [v0, v1, v2]) Q := so_cI (fun _ => l_Talk_do_of) h
theorem t_Talk_do {v0 v1 v2 : D} {Q : D → Prop} (h : So (l_Talk_do v0 v1 v2) fun q => Q q.1) : So (cF fs_Talk_do [v0, v1, v2]) Q := so_cT (fun _ => l_Talk_do_of) h
def l_is_helper (v0 : D) : Option (D) := (cF fs_is_below [v0, (.int 100)]).bd fun a1 => some a1
theorem l_is_helper_of {v0 : D} {r : D} (h : l_is_helper v0 = some r) : fs_is_helper.f [v0] = some (.ret r .none) := by
  have e0 : fs_is_helper.f = runs false false 1 g_is_helper := rfl
  rw [e0]
  unfold g_is_helper
  unfold l_is_helper at h
  refine fnF ?_
  show Wp (sSeq _ sNil [.sh v0]) _
  replace h := bs h; obtain ⟨a1, ha1, h⟩ := h
  cases h; exact w_retF (eFn (dCons_of rfl (dCons_of rfl rfl)) ha1 rfl)
theorem c_is_helper {v0 : D} {Q : D → Prop} (h : So (l_is_helper v0) Q) : So (cF fs_is_helper [v0]) Q := so_cF (fun _ => l_is_helper_of) h
theorem q_is_helper {v0 r : D} (h : l_is_helper v0 = some r) : cF fs_is_helper [v0] = some r := cF_ok (l_is_helper_of h)
def l_is_late (v0 : D) : Option (D) := (oAdd (.int 1000) (.int 1)).bd fun a1 => (cF fs_is_below [v0, a1]).bd fun a2 => some a2
theorem l_is_late_of {v0 : D} {r : D} (h : l_is_late v0 = some r) : fs_is_late.f [v0] = some (.ret r .none) := by
  have e0 : fs_is_late.f = runs false false 1 g_is_late := rfl
  rw [e0]
  unfold g_is_late
  unfold l_is_late at h
  refine fnF ?_
  show Wp (sSeq _ sNil [.sh v0]) _
  replace h := bs h; obtain ⟨a1, ha1, h⟩ := h
  replace h := bs h; obtain ⟨a2, ha2, h⟩ := h
  cases h; exact w_retF (eFn (dCons_of rfl (dCons_of (e2EE rfl rfl ha1) rfl)) ha2 rfl)
theorem c_is_late {v0 : D} {Q : D → Prop} (h : So (l_is_late v0) Q) : So (cF fs_is_late [v0]) Q := so_cF (fun _ => l_is_late_of) h
theorem q_is_late {v0 r : D} (h : l_is_late v0 = some r) : cF fs_is_late [v0] = some r := cF_ok (l_is_late_of h)
def l_is_entry (v0 v1 : D) : Option (D) := (fIsi .tuple v1).bd fun a1 => (asB a1).bd fun b2 => if (!b2) = true then some (.bool false) else (fLen v1).bd fun a3 => (oEq a3 (.int 2)).bd fun a4 => (asB a4).bd fun b5 => if b5 = true then (oIx v1 (.int 0)).bd fun a6 => (oEq a6 (.str "come")).bd fun a7 => (lAndV a7 ((oIx v1 (.int 1)).bd fun a8 => (cF fs_is_out [v0, a8]).bd fun a9 => some a9)).bd fun a10 => some a10 else (fLen v1).bd fun a11 => (oNe a11 (.int 3)).bd fun a12 => (asB a12).bd fun b13 => (lOr b13 ((oIx v1 (.int 1)).bd fun a14 => (cF fs_is_helper [a14]).bd fun a15 => (asB a15).bd fun b16 => some (!b16))).bd fun a17 => if a17 = true then some (.bool false) else (oIx v1 (.int 0)).bd fun a18 => (oEq a18 (.str "look")).bd fun a19 => (asB a19).bd fun b20 => if b20 = true then (oIx v1 (.int 2)).bd fun a21 => (cF fs_is_late [a21]).bd fun a22 => some a22 else (oIx v1 (.int 0)).bd fun a23 => (oEq a23 (.str "do")).bd fun a24 => (lAndV a24 ((oIx v1 (.int 2)).bd fun a25 => (cF fs_is_deed [v0, a25]).bd fun a26 => some a26)).bd fun a27 => some a27
theorem l_is_entry_of {v0 v1 : D} {r : D} (h : l_is_entry v0 v1 = some r) : fs_is_entry.f [v0, v1] = some (.ret r .none) := by
  have e0 : fs_is_entry.f = runs false false 2 g_is_entry := rfl
  rw [e0]
  unfold g_is_entry
  unfold l_is_entry at h
  refine fnF ?_
  show Wp (sSeq _ sNil [.sh v0, .sh v1]) _
  refine w_assoc ?_
  replace h := bs h; obtain ⟨a1, ha1, h⟩ := h
  replace h := bs h; obtain ⟨b2, hb2, h⟩ := h
  refine w_if (dNot_of (eB (e1E rfl ha1) hb2)) (fun hb => ?_) (fun hb => ?_)
  · replace h := ifT h hb
    cases h; exact w_retF rfl
  · replace h := ifF h hb
    refine w_nil ?_
    refine w_assoc ?_
    replace h := bs h; obtain ⟨a3, ha3, h⟩ := h
    replace h := bs h; obtain ⟨a4, ha4, h⟩ := h
    replace h := bs h; obtain ⟨b5, hb5, h⟩ := h
    refine w_if (eB (e2EE (e1E rfl ha3) rfl ha4) hb5) (fun hb => ?_) (fun hb => ?_)
    · replace h := ifT h hb
      replace h := bs h; obtain ⟨a6, ha6, h⟩ := h
      replace h := bs h; obtain ⟨a7, ha7, h⟩ := h
      replace h := bs h; obtain ⟨a10, ha10, h⟩ := h
      cases h; exact w_retF (eAndV (e2EE (e2EE rfl rfl ha6) rfl ha7) ha10 (fun _ h => by
          replace h := bs h; obtain ⟨a8, ha8, h⟩ := h
          replace h := bs h; obtain ⟨a9, ha9, h⟩ := h
          cases h; exact (eFn (dCons_of rfl (dCons_of (e2EE rfl rfl ha8) rfl)) ha9 rfl)))
    · replace h := ifF h hb
      refine w_nil ?_
      refine w_assoc ?_
      replace h := bs h; obtain ⟨a11, ha11, h⟩ := h
      replace h := bs h; obtain ⟨a12, ha12, h⟩ := h
      replace h := bs h; obtain ⟨b13, hb13, h⟩ := h
      replace h := bs h; obtain ⟨a17, ha17, h⟩ := h
      refine w_if (eOr (eB (e2EE (e1E rfl ha11) rfl ha12) hb13) ha17 (fun _ h => by
          replace h := bs h; obtain ⟨a14, ha14, h⟩ := h
          replace h := bs h; obtain ⟨a15, ha15, h⟩ := h
          replace h := bs h; obtain ⟨b16, hb16, h⟩ := h
          cases h; exact (dNot_of (eB (eFn (dCons_of (e2EE rfl rfl ha14) rfl) ha15 rfl) hb16)))) (fun hb => ?_) (fun hb => ?_)
      · replace h := ifT h hb
        cases h; exact w_retF rfl
      · replace h := ifF h hb
        refine w_nil ?_
        refine w_assoc ?_
        replace h := bs h; obtain ⟨a18, ha18, h⟩ := h
        replace h := bs h; obtain ⟨a19, ha19, h⟩ := h
        replace h := bs h; obtain ⟨b20, hb20, h⟩ := h
        refine w_if (eB (e2EE (e2EE rfl rfl ha18) rfl ha19) hb20) (fun hb => ?_) (fun hb => ?_)
        · replace h := ifT h hb
          replace h := bs h; obtain ⟨a21, ha21, h⟩ := h
          replace h := bs h; obtain ⟨a22, ha22, h⟩ := h
          cases h; exact w_retF (eFn (dCons_of (e2EE rfl rfl ha21) rfl) ha22 rfl)
        · replace h := ifF h hb
          refine w_nil ?_
          replace h := bs h; obtain ⟨a23, ha23, h⟩ := h
          replace h := bs h; obtain ⟨a24, ha24, h⟩ := h
          replace h := bs h; obtain ⟨a27, ha27, h⟩ := h
          cases h; exact w_retF (eAndV (e2EE (e2EE rfl rfl ha23) rfl ha24) ha27 (fun _ h => by
              replace h := bs h; obtain ⟨a25, ha25, h⟩ := h
              replace h := bs h; obtain ⟨a26, ha26, h⟩ := h
              cases h; exact (eFn (dCons_of rfl (dCons_of (e2EE rfl rfl ha25) rfl)) ha26 rfl)))
theorem c_is_entry {v0 v1 : D} {Q : D → Prop} (h : So (l_is_entry v0 v1) Q) : So (cF fs_is_entry [v0, v1]) Q := so_cF (fun _ => l_is_entry_of) h
theorem q_is_entry {v0 v1 r : D} (h : l_is_entry v0 v1 = some r) : cF fs_is_entry [v0, v1] = some r := cF_ok (l_is_entry_of h)
def l_need_log (v0 v1 : D) : Option (D) := (fIsi2 .list .tuple v1).bd fun a1 => (asB a1).bd fun b2 => (lOr (!b2) ((lS v1).bd fun d3 => (lc (fun d4 => (cF fs_is_entry [v0, d4]).bd fun a5 => some [a5]) d3).bd fun z6 => (fAll (.list z6)).bd fun a7 => (asB a7).bd fun b8 => some (!b8))).bd fun a9 => if a9 = true then none else some .none
theorem l_need_log_of {v0 v1 : D} {r : D} (h : l_need_log v0 v1 = some r) : fs_need_log.f [v0, v1] = some (.ret r .none) := by
  have e0 : fs_need_log.f = runs false false 3 g_need_log := rfl
  rw [e0]
  unfold g_need_log
  unfold l_need_log at h
  refine fnF ?_
  show Wp (sSeq _ sNil [.sh v0, .sh v1, .un]) _
  replace h := bs h; obtain ⟨a1, ha1, h⟩ := h
  replace h := bs h; obtain ⟨b2, hb2, h⟩ := h
  replace h := bs h; obtain ⟨a9, ha9, h⟩ := h
  refine w_if (eOr (dNot_of (eB (e1E rfl ha1) hb2)) ha9 (fun _ h => by
      replace h := bs h; obtain ⟨d3, hd3, h⟩ := h
      replace h := bs h; obtain ⟨z6, hz6, h⟩ := h
      replace h := bs h; obtain ⟨a7, ha7, h⟩ := h
      replace h := bs h; obtain ⟨b8, hb8, h⟩ := h
      cases h; exact (dNot_of (eB (e1E (eLc (eItS rfl hd3) hz6 (fun d4 _ h => by
          replace h := bs h; obtain ⟨a5, ha5, h⟩ := h
          cases h; exact stT (s1 := [.sh v0, .sh v1, .sh d4]) (s2 := [.sh v0, .sh v1, .sh d4]) (s3 := [.sh v0, .sh v1, .sh d4]) rfl rfl rfl (eFn (dCons_of rfl (dCons_of rfl rfl)) ha5 rfl) rfl rfl)) ha7) hb8)))) (fun hb => ?_) (fun hb => ?_)
  · replace h := ifT h hb
    cases h
  · replace h := ifF h hb
    refine w_nil ?_
    cases h; exact f_end
theorem c_need_log {v0 v1 : D} {Q : D → Prop} (h : So (l_need_log v0 v1) Q) : So (cF fs_need_log [v0, v1]) Q := so_cF (fun _ => l_need_log_of) h
theorem q_need_log {v0 v1 r : D} (h : l_need_log v0 v1 = some r) : cF fs_need_log [v0, v1] = some r := cF_ok (l_need_log_of h)
def l_take (v0 v1 : D) : Option (D × D) := (oIx v1 (.int 0)).bd fun a1 => (oEq a1 (.str "come")).bd fun a2 => (asB a2).bd fun b3 => if b3 = true then (oIx v1 (.int 1)).bd fun a4 => (cK fs_Talk_come v0 [a4]).bd fun q5 => some (q5.1, q5.2) else (oIx v1 (.int 0)).bd fun a6 => (oEq a6 (.str "look")).bd fun a7 => (asB a7).bd fun b8 => if b8 = true then (oIx v1 (.int 1)).bd fun a9 => (oIx v1 (.int 2)).bd fun a10 => (cK fs_Talk_look v0 [a9, a10]).bd fun q11 => some (q11.1, q11.2) else (oIx v1 (.int 1)).bd fun a12 => (oIx v1 (.int 2)).bd fun a13 => (cK fs_Talk_do v0 [a12, a13]).bd fun q14 => some (q14.1, q14.2)
theorem l_take_of {v0 v1 : D} {r : D × D} (h : l_take v0 v1 = some r) : fs_take.f [v0, v1] = some (.ret r.1 r.2) := by
  have e0 : fs_take.f = runsK false 2 g_take := rfl
  rw [e0]
  unfold g_take
  unfold l_take at h
  refine fnK ?_
  show Wp (sSeq _ sNil [.tk v0, .sh v1]) _
  refine w_assoc ?_
  replace h := bs h; obtain ⟨a1, ha1, h⟩ := h
  replace h := bs h; obtain ⟨a2, ha2, h⟩ := h
  replace h := bs h; obtain ⟨b3, hb3, h⟩ := h
  refine w_if (eB (e2EE (e2EE rfl rfl ha1) rfl ha2) hb3) (fun hb => ?_) (fun hb => ?_)
  · replace h := ifT h hb
    replace h := bs h; obtain ⟨a4, ha4, h⟩ := h
    replace h := bs h; obtain ⟨q5, hq5, h⟩ := h
    cases h; exact w_retK (eFnK rfl (dCons_of (e2EE rfl rfl ha4) rfl) rfl hq5 rfl rfl) rfl
  · replace h := ifF h hb
    refine w_nil ?_
    refine w_assoc ?_
    replace h := bs h; obtain ⟨a6, ha6, h⟩ := h
    replace h := bs h; obtain ⟨a7, ha7, h⟩ := h
    replace h := bs h; obtain ⟨b8, hb8, h⟩ := h
    refine w_if (eB (e2EE (e2EE rfl rfl ha6) rfl ha7) hb8) (fun hb => ?_) (fun hb => ?_)
    · replace h := ifT h hb
      replace h := bs h; obtain ⟨a9, ha9, h⟩ := h
      replace h := bs h; obtain ⟨a10, ha10, h⟩ := h
      replace h := bs h; obtain ⟨q11, hq11, h⟩ := h
      cases h; exact w_retK (eFnK rfl (dCons_of (e2EE rfl rfl ha9) (dCons_of (e2EE rfl rfl ha10) rfl)) rfl hq11 rfl rfl) rfl
    · replace h := ifF h hb
      refine w_nil ?_
      replace h := bs h; obtain ⟨a12, ha12, h⟩ := h
      replace h := bs h; obtain ⟨a13, ha13, h⟩ := h
      replace h := bs h; obtain ⟨q14, hq14, h⟩ := h
      cases h; exact w_retK (eFnK rfl (dCons_of (e2EE rfl rfl ha12) (dCons_of (e2EE rfl rfl ha13) rfl)) rfl hq14 rfl rfl) rfl
theorem c_take {v0 v1 : D} {Q : D × D → Prop} (h : So (l_take v0 v1) Q) : So (cI fs_take [v0, v1]) Q := so_cI (fun _ => l_take_of) h
theorem t_take {v0 v1 : D} {Q : D → Prop} (h : So (l_take v0 v1) fun q => Q q.1) : So (cF fs_take [v0, v1]) Q := so_cT (fun _ => l_take_of) h
def l_would_overlook (v0 v1 v2 : D) : Option (D × D) := (oIx v2 (.int 0)).bd fun a1 => (oNe a1 (.str "do")).bd fun a2 => (asB a2).bd fun b3 => if b3 = true then some ((.bool false), v0) else (oIx v2 (.int 1)).bd fun a4 => (cK fs_Talk_since v0 [a4]).bd fun q5 => (oIsNot q5.1 .none).bd fun a6 => (lAndV a6 ((oIx v2 (.int 2)).bd fun a7 => (oIx v1 a7).bd fun a8 => (cF fs_meets [a8, q5.1]).bd fun a9 => some a9)).bd fun a10 => some (a10, q5.2)
theorem l_would_overlook_of {v0 v1 v2 : D} {r : D × D} (h : l_would_overlook v0 v1 v2 = some r) : fs_would_overlook.f [v0, v1, v2] = some (.ret r.1 r.2) := by
  have e0 : fs_would_overlook.f = runsK false 4 g_would_overlook := rfl
  rw [e0]
  unfold g_would_overlook
  unfold l_would_overlook at h
  refine fnK ?_
  show Wp (sSeq _ sNil [.tk v0, .sh v1, .sh v2, .un]) _
  refine w_assoc ?_
  replace h := bs h; obtain ⟨a1, ha1, h⟩ := h
  replace h := bs h; obtain ⟨a2, ha2, h⟩ := h
  replace h := bs h; obtain ⟨b3, hb3, h⟩ := h
  refine w_if (eB (e2EE (e2EE rfl rfl ha1) rfl ha2) hb3) (fun hb => ?_) (fun hb => ?_)
  · replace h := ifT h hb
    cases h; exact w_retK rfl rfl
  · replace h := ifF h hb
    refine w_nil ?_
    refine w_assoc ?_
    replace h := bs h; obtain ⟨a4, ha4, h⟩ := h
    replace h := bs h; obtain ⟨q5, hq5, h⟩ := h
    refine w_asg [.tk q5.2, .sh v1, .sh v2, .sh q5.1] (eFnK rfl (dCons_of (e2EE rfl rfl ha4) rfl) rfl hq5 rfl rfl) rfl ?_
    replace h := bs h; obtain ⟨a6, ha6, h⟩ := h
    replace h := bs h; obtain ⟨a10, ha10, h⟩ := h
    cases h; exact w_retK (eAndV (e2EE rfl rfl ha6) ha10 (fun _ h => by
        replace h := bs h; obtain ⟨a7, ha7, h⟩ := h
        replace h := bs h; obtain ⟨a8, ha8, h⟩ := h
        replace h := bs h; obtain ⟨a9, ha9, h⟩ := h
        cases h; exact (eFn (dCons_of (e2EE rfl (e2EE rfl rfl ha7) ha8) (dCons_of rfl rfl)) ha9 rfl))) rfl
theorem c_would_overlook {v0 v1 v2 : D} {Q : D × D → Prop} (h : So (l_would_overlook v0 v1 v2) Q) : So (cI fs_would_overlook [v0, v1, v2]) Q := so_cI (fun _ => l_would_overlook_of) h
theorem t_would_overlook {v0 v1 v2 : D} {Q : D → Prop} (h : So (l_would_overlook v0 v1 v2) fun q => Q q.1) : So (cF fs_would_overlook [v0, v1, v2]) Q := so_cT (fun _ => l_would_overlook_of) h
def l_faults_in (v0 v1 v2 v3 : D) : Option (D) := (cF fs_need_book [v0]).bd fun a1 => (cF fs_need_marks [v0, v1]).bd fun a2 => (cF fs_need_marks [v0, v2]).bd fun a3 => (cF fs_need_log [v0, v3]).bd fun a4 => (lEnum v3).bd fun d5 => (fold (fun d11 t6 => (lTup2 d11).bd fun q12 => (cK fs_would_overlook t6.1 [v1, q12.2]).bd fun q13 => (cK fs_take q13.2 [q12.2]).bd fun q14 => (asB q13.1).bd fun b15 => (lAnd b15 ((oIs q14.1 (.bool true)).bd fun a16 => (asB a16).bd fun b17 => some b17)).bd fun a18 => if a18 = true then (gApp t6.2 [q12.1]).bd fun a19 => some (q14.2, a19) else some (q14.2, t6.2)) d5 ((tkN v0 v2), (.list []))).bd fun t20 => some t20.2
theorem l_faults_in_of {v0 v1 v2 v3 : D} {r : D} (h : l_faults_in v0 v1 v2 v3 = some r) : fs_faults_in.f [v0, v1, v2, v3] = some (.ret r .none) := by
  have e0 : fs_faults_in.f = runs false true 10 g_faults_in := rfl
  rw [e0]
  unfold g_faults_in
  unfold l_faults_in at h
  refine fnF ?_
  show Wp (sSeq _ sNil [.sh v0, .sh v1, .sh v2, .sh v3, .un, .un, .un, .un, .un, .un]) _
  refine w_assoc ?_
  replace h := bs h; obtain ⟨a1, ha1, h⟩ := h
  refine w_drop [.sh v0, .sh v1, .sh v2, .sh v3, .un, .un, .un, .un, .un, .un] (eFn (dCons_of rfl rfl) ha1 rfl) ?_
  refine w_assoc ?_
  replace h := bs h; obtain ⟨a2, ha2, h⟩ := h
  refine w_drop [.sh v0, .sh v1, .sh v2, .sh v3, .un, .un, .un, .un, .un, .un] (eFn (dCons_of rfl (dCons_of rfl rfl)) ha2 rfl) ?_
  refine w_assoc ?_
  replace h := bs h; obtain ⟨a3, ha3, h⟩ := h
  refine w_drop [.sh v0, .sh v1, .sh v2, .sh v3, .un, .un, .un, .un, .un, .un] (eFn (dCons_of rfl (dCons_of rfl rfl)) ha3 rfl) ?_
  refine w_assoc ?_
  replace h := bs h; obtain ⟨a4, ha4, h⟩ := h
  refine w_drop [.sh v0, .sh v1, .sh v2, .sh v3, .un, .un, .un, .un, .un, .un] (eFn (dCons_of rfl (dCons_of rfl rfl)) ha4 rfl) ?_
  refine w_talk (s2 := [.sh v0, .sh v1, .sh v2, .sh v3, .tk (tkN v0 v2), .un, .un, .un, .un, .un]) (dCons_of rfl (dCons_of rfl rfl)) rfl rfl ?_
  refine w_assoc ?_
  refine w_setO [.sh v0, .sh v1, .sh v2, .sh v3, .tk (tkN v0 v2), .ow (.list []), .un, .un, .un, .un] (dLst_of rfl (Nat.le_of_ble_eq_true rfl)) rfl ?_
  refine w_assoc ?_
  replace h := bs h; obtain ⟨d5, hd5, h⟩ := h
  replace h := bs h; obtain ⟨t20, ht20, h⟩ := h
  refine w_for (fun (t6 : D × D) (s : S) => ∃ y7 : Option D, ∃ y8 : Option D, ∃ y9 : Option D, ∃ y10 : Option D, s = [.sh v0, .sh v1, .sh v2, .sh v3, .tk t6.1, .ow t6.2, jk y7, jk y8, jk y9, jk y10]) (eEnum rfl hd5) ht20 ⟨none, none, none, none, rfl⟩ ?_ ?_
  · clear h ht20
    rintro d11 t6 _ _ ⟨y7, y8, y9, y10, rfl⟩ h
    replace h := bs h; obtain ⟨q12, hq12, h⟩ := h
    refine ⟨[.sh v0, .sh v1, .sh v2, .sh v3, .tk t6.1, .ow t6.2, .sh q12.1, .sh q12.2, jk y9, jk y10], (bT2 (lTup2_eq hq12) rfl rfl), ?_⟩
    refine w_assoc ?_
    replace h := bs h; obtain ⟨q13, hq13, h⟩ := h
    refine w_asg [.sh v0, .sh v1, .sh v2, .sh v3, .tk q13.2, .ow t6.2, .sh q12.1, .sh q12.2, .sh q13.1, jk y10] (eFnK rfl (dCons_of rfl (dCons_of rfl rfl)) rfl hq13 rfl rfl) rfl ?_
    refine w_assoc ?_
    replace h := bs h; obtain ⟨q14, hq14, h⟩ := h
    refine w_asg [.sh v0, .sh v1, .sh v2, .sh v3, .tk q14.2, .ow t6.2, .sh q12.1, .sh q12.2, .sh q13.1, .sh q14.1] (eFnK rfl (dCons_of rfl rfl) rfl hq14 rfl rfl) rfl ?_
    replace h := bs h; obtain ⟨b15, hb15, h⟩ := h
    replace h := bs h; obtain ⟨a18, ha18, h⟩ := h
    refine w_if (eAnd (eB rfl hb15) ha18 (fun _ h => by
        replace h := bs h; obtain ⟨a16, ha16, h⟩ := h
        replace h := bs h; obtain ⟨b17, hb17, h⟩ := h
        cases h; exact (eB (e2EE rfl rfl ha16) hb17))) (fun hb => ?_) (fun hb => ?_)
    · replace h := ifT h hb
      replace h := bs h; obtain ⟨a19, ha19, h⟩ := h
      refine w_mut [.sh v0, .sh v1, .sh v2, .sh v3, .tk q14.2, .ow a19, .sh q12.1, .sh q12.2, .sh q13.1, .sh q14.1] (gApp_l ha19) rfl (dCons_of rfl rfl) rfl ha19 rfl ?_
      cases h; exact c_end ⟨(some q12.1), (some q12.2), (some q13.1), (some q14.1), rfl⟩
    · replace h := ifF h hb
      refine w_nil ?_
      cases h; exact c_end ⟨(some q12.1), (some q12.2), (some q13.1), (some q14.1), rfl⟩
  · rintro _ ⟨y21, y22, y23, y24, rfl⟩
    cases h; exact w_retN rfl ⟨_, rfl, rfl⟩
theorem c_faults_in {v0 v1 v2 v3 : D} {Q : D → Prop} (h : So (l_faults_in v0 v1 v2 v3) Q) : So (cF fs_faults_in [v0, v1, v2, v3]) Q := so_cF (fun _ => l_faults_in_of) h
theorem q_faults_in {v0 v1 v2 v3 r : D} (h : l_faults_in v0 v1 v2 v3 = some r) : cF fs_faults_in [v0, v1, v2, v3] = some r := cF_ok (l_faults_in_of h)
def l__law_mixed (v0 v1 : D) : Option (D) := (fInt v0).bd fun a1 => (oMod a1 (.int 2147483647)).bd fun a2 => (oMul a2 (.int 48271)).bd fun a3 => (oMul v1 (.int 69621)).bd fun a4 => (oAdd a3 a4).bd fun a5 => (oAdd a5 (.int 1048583)).bd fun a6 => (fInt a6).bd fun a7 => (oMod a7 (.int 2147483629)).bd fun a8 => (oMul a8 a8).bd fun a9 => (fInt a9).bd fun a10 => (oMod a10 (.int 2147483587)).bd fun a11 => (oAdd a11 (.int 2)).bd fun a12 => (oMul a11 a12).bd fun a13 => (fInt a13).bd fun a14 => (oMod a14 (.int 2147483579)).bd fun a15 => some a15
theorem l__law_mixed_of {v0 v1 : D} {r : D} (h : l__law_mixed v0 v1 = some r) : fs__law_mixed.f [v0, v1] = some (.ret r .none) := by
  have e0 : fs__law_mixed.f = runs false false 3 g__law_mixed := rfl
  rw [e0]
  unfold g__law_mixed
  unfold l__law_mixed at h
  refine fnF ?_
  show Wp (sSeq _ sNil [.sh v0, .sh v1, .un]) _
  refine w_assoc ?_
  replace h := bs h; obtain ⟨a1, ha1, h⟩ := h
  replace h := bs h; obtain ⟨a2, ha2, h⟩ := h
  replace h := bs h; obtain ⟨a3, ha3, h⟩ := h
  replace h := bs h; obtain ⟨a4, ha4, h⟩ := h
  replace h := bs h; obtain ⟨a5, ha5, h⟩ := h
  replace h := bs h; obtain ⟨a6, ha6, h⟩ := h
  replace h := bs h; obtain ⟨a7, ha7, h⟩ := h
  replace h := bs h; obtain ⟨a8, ha8, h⟩ := h
  refine w_asg [.sh v0, .sh v1, .sh a8] (e2EE (e1E (e2EE (e2EE (e2EE (e2EE (e1E rfl ha1) rfl ha2) rfl ha3) (e2EE rfl rfl ha4) ha5) rfl ha6) ha7) rfl ha8) rfl ?_
  refine w_assoc ?_
  replace h := bs h; obtain ⟨a9, ha9, h⟩ := h
  replace h := bs h; obtain ⟨a10, ha10, h⟩ := h
  replace h := bs h; obtain ⟨a11, ha11, h⟩ := h
  refine w_asg [.sh v0, .sh v1, .sh a11] (e2EE (e1E (e2EE rfl rfl ha9) ha10) rfl ha11) rfl ?_
  replace h := bs h; obtain ⟨a12, ha12, h⟩ := h
  replace h := bs h; obtain ⟨a13, ha13, h⟩ := h
  replace h := bs h; obtain ⟨a14, ha14, h⟩ := h
  replace h := bs h; obtain ⟨a15, ha15, h⟩ := h
  cases h; exact w_retF (e2EE (e1E (e2EE rfl (e2EE rfl rfl ha12) ha13) ha14) rfl ha15)
theorem c__law_mixed {v0 v1 : D} {Q : D → Prop} (h : So (l__law_mixed v0 v1) Q) : So (cF fs__law_mixed [v0, v1]) Q := so_cF (fun _ => l__law_mixed_of) h
theorem q__law_mixed {v0 v1 r : D} (h : l__law_mixed v0 v1 = some r) : cF fs__law_mixed [v0, v1] = some r := cF_ok (l__law_mixed_of h)
def l__law_pile (v0 v1 : D) : Option (D) := (fLen v0).bd fun a1 => (oLt v1 a1).bd fun a2 => (asB a2).bd fun b3 => (if b3 = true then (oIx v0 v1).bd fun a5 => some a5 else some (.int 0)).bd fun t4 => (oPow (.int 10) (.int 18)).bd fun a6 => (oGe t4 a6).bd fun a7 => (asB a7).bd fun b8 => if b8 = true then (oPow (.int 10) (.int 18)).bd fun a9 => (oSub t4 a9).bd fun a10 => (fInt a10).bd fun a11 => (oPow (.int 10) (.int 60)).bd fun a12 => (oPow (.int 10) (.int 60)).bd fun a13 => (oMul a12 a13).bd fun a14 => (oPow (.int 10) (.int 60)).bd fun a15 => (oMul a14 a15).bd fun a16 => (oPow (.int 10) (.int 60)).bd fun a17 => (oMul a16 a17).bd fun a18 => (oMod a11 a18).bd fun a19 => some (.list [a19]) else (lR1 (.int 24)).bd fun d20 => (fold (fun d23 t21 => (oMul t21 (.int 2147483579)).bd fun a24 => (oMul (.int 7) v1).bd fun a25 => (oMul (.int 100) d23).bd fun a26 => (oAdd a25 a26).bd fun a27 => (oMul d23 d23).bd fun a28 => (oAdd a27 a28).bd fun a29 => (cF fs__law_mixed [t4, a29]).bd fun a30 => (oAdd a24 a30).bd fun a31 => some a31) d20 (.int 0)).bd fun t32 => some (.list [t32])
theorem l__law_pile_of {v0 v1 : D} {r : D} (h : l__law_pile v0 v1 = some r) : fs__law_pile.f [v0, v1] = some (.ret r .none) := by
  have e0 : fs__law_pile.f = runs false true 5 g__law_pile := rfl
  rw [e0]
  unfold g__law_pile
  unfold l__law_pile at h
  refine fnF ?_
  show Wp (sSeq _ sNil [.sh v0, .sh v1, .un, .un, .un]) _
  refine w_assoc ?_
  refine w_asg [.sh v0, .sh v1, .sh (.int 0), .un, .un] rfl rfl ?_
  refine w_assoc ?_
  replace h := bs h; obtain ⟨a1, ha1, h⟩ := h
  replace h := bs h; obtain ⟨a2, ha2, h⟩ := h
  replace h := bs h; obtain ⟨b3, hb3, h⟩ := h
  replace h := bs h; obtain ⟨t4, ht4, h⟩ := h
  refine w_join (fun (t4 : D) (s : S) => s = [.sh v0, .sh v1, .sh t4, .un, .un]) t4 (w_if (eB (e2EE rfl (e1E rfl ha1) ha2) hb3) (fun hb => ?_) (fun hb => ?_)) ?_
  · clear h; have h := ifT ht4 hb; clear ht4
    replace h := bs h; obtain ⟨a5, ha5, h⟩ := h
    refine w_asg [.sh v0, .sh v1, .sh a5, .un, .un] (e2EE rfl rfl ha5) rfl ?_
    cases h; exact n_end rfl
  · clear h; have h := ifF ht4 hb; clear ht4
    refine w_nil ?_
    cases h; exact n_end rfl
  · rintro _ rfl
    refine w_assoc ?_
    replace h := bs h; obtain ⟨a6, ha6, h⟩ := h
    replace h := bs h; obtain ⟨a7, ha7, h⟩ := h
    replace h := bs h; obtain ⟨b8, hb8, h⟩ := h
    refine w_if (eB (e2EE rfl (e2EE rfl rfl ha6) ha7) hb8) (fun hb => ?_) (fun hb => ?_)
    · replace h := ifT h hb
      replace h := bs h; obtain ⟨a9, ha9, h⟩ := h
      replace h := bs h; obtain ⟨a10, ha10, h⟩ := h
      replace h := bs h; obtain ⟨a11, ha11, h⟩ := h
      replace h := bs h; obtain ⟨a12, ha12, h⟩ := h
      replace h := bs h; obtain ⟨a13, ha13, h⟩ := h
      replace h := bs h; obtain ⟨a14, ha14, h⟩ := h
      replace h := bs h; obtain ⟨a15, ha15, h⟩ := h
      replace h := bs h; obtain ⟨a16, ha16, h⟩ := h
      replace h := bs h; obtain ⟨a17, ha17, h⟩ := h
      replace h := bs h; obtain ⟨a18, ha18, h⟩ := h
      replace h := bs h; obtain ⟨a19, ha19, h⟩ := h
      cases h; exact w_retF (dLst_of (dCons_of (e2EE (e1E (e2EE rfl (e2EE rfl rfl ha9) ha10) ha11) (e2EE (e2EE (e2EE (e2EE rfl rfl ha12) (e2EE rfl rfl ha13) ha14) (e2EE rfl rfl ha15) ha16) (e2EE rfl rfl ha17) ha18) ha19) rfl) (Nat.le_of_ble_eq_true rfl))
    · replace h := ifF h hb
      refine w_nil ?_
      refine w_assoc ?_
      refine w_asg [.sh v0, .sh v1, .sh t4, .sh (.int 0), .un] rfl rfl ?_
      refine w_assoc ?_
      replace h := bs h; obtain ⟨d20, hd20, h⟩ := h
      replace h := bs h; obtain ⟨t32, ht32, h⟩ := h
      refine w_for (fun (t21 : D) (s : S) => ∃ y22 : Option D, s = [.sh v0, .sh v1, .sh t4, .sh t21, jk y22]) (eR1 rfl hd20) ht32 ⟨none, rfl⟩ ?_ ?_
      · clear h ht32
        rintro d23 t21 _ _ ⟨y22, rfl⟩ h
        refine ⟨[.sh v0, .sh v1, .sh t4, .sh t21, .sh d23], rfl, ?_⟩
        replace h := bs h; obtain ⟨a24, ha24, h⟩ := h
        replace h := bs h; obtain ⟨a25, ha25, h⟩ := h
        replace h := bs h; obtain ⟨a26, ha26, h⟩ := h
        replace h := bs h; obtain ⟨a27, ha27, h⟩ := h
        replace h := bs h; obtain ⟨a28, ha28, h⟩ := h
        replace h := bs h; obtain ⟨a29, ha29, h⟩ := h
        replace h := bs h; obtain ⟨a30, ha30, h⟩ := h
        replace h := bs h; obtain ⟨a31, ha31, h⟩ := h
        refine w_asg [.sh v0, .sh v1, .sh t4, .sh a31, .sh d23] (e2EE (e2EE rfl rfl ha24) (eFn (dCons_of rfl (dCons_of (e2EE (e2EE (e2EE rfl rfl ha25) (e2EE rfl rfl ha26) ha27) (e2EE rfl rfl ha28) ha29) rfl)) ha30 rfl) ha31) rfl ?_
        cases h; exact c_end ⟨(some d23), rfl⟩
      · rintro _ ⟨y33, rfl⟩
        cases h; exact w_retF (dLst_of (dCons_of rfl rfl) (Nat.le_of_ble_eq_true rfl))
theorem c__law_pile {v0 v1 : D} {Q : D → Prop} (h : So (l__law_pile v0 v1) Q) : So (cF fs__law_pile [v0, v1]) Q := so_cF (fun _ => l__law_pile_of) h
theorem q__law_pile {v0 v1 r : D} (h : l__law_pile v0 v1 = some r) : cF fs__law_pile [v0, v1] = some r := cF_ok (l__law_pile_of h)
def l__law_take (v0 v1 : D) : Option (D × D) := (oIx v0 (.int 0)).bd fun a1 => (fInt a1).bd fun a2 => (oMod a2 v1).bd fun a3 => (oIx v0 (.int 0)).bd fun a4 => (oDiv a4 v1).bd fun a5 => (gSet v0 [a5, (.int 0)]).bd fun a6 => some (a3, a6)
theorem l__law_take_of {v0 v1 : D} {r : D × D} (h : l__law_take v0 v1 = some r) : fs__law_take.f [v0, v1] = some (.ret r.1 r.2) := by
  have e0 : fs__law_take.f = runs true false 3 g__law_take := rfl
  rw [e0]
  unfold g__law_take
  unfold l__law_take at h
  refine fnT ?_
  show Wp (sSeq _ sNil [.io v0, .sh v1, .un]) _
  refine w_assoc ?_
  replace h := bs h; obtain ⟨a1, ha1, h⟩ := h
  replace h := bs h; obtain ⟨a2, ha2, h⟩ := h
  replace h := bs h; obtain ⟨a3, ha3, h⟩ := h
  refine w_asg [.io v0, .sh v1, .sh a3] (e2EE (e1E (e2BE rfl rfl rfl ha1) ha2) rfl ha3) rfl ?_
  refine w_assoc ?_
  replace h := bs h; obtain ⟨a4, ha4, h⟩ := h
  replace h := bs h; obtain ⟨a5, ha5, h⟩ := h
  replace h := bs h; obtain ⟨a6, ha6, h⟩ := h
  refine w_mut [.io a6, .sh v1, .sh a3] (gSet_l ha6) rfl (dCons_of (e2EE (e2BE rfl rfl rfl ha4) rfl ha5) (dCons_of rfl rfl)) rfl ha6 rfl ?_
  cases h; exact w_retT rfl rfl
theorem c__law_take {v0 v1 : D} {Q : D × D → Prop} (h : So (l__law_take v0 v1) Q) : So (cI fs__law_take [v0, v1]) Q := so_cI (fun _ => l__law_take_of) h
theorem t__law_take {v0 v1 : D} {Q : D → Prop} (h : So (l__law_take v0 v1) fun q => Q q.1) : So (cF fs__law_take [v0, v1]) Q := so_cT (fun _ => l__law_take_of) h
def l__law_pick (v0 v1 : D) : Option (D × D) := (fLen v1).bd fun a1 => (cI fs__law_take [v0, a1]).bd fun q2 => (oIx v1 q2.1).bd fun a3 => some (a3, q2.2)
theorem l__law_pick_of {v0 v1 : D} {r : D × D} (h : l__law_pick v0 v1 = some r) : fs__law_pick.f [v0, v1] = some (.ret r.1 r.2) := by
  have e0 : fs__law_pick.f = runs true false 2 g__law_pick := rfl
  rw [e0]
  unfold g__law_pick
  unfold l__law_pick at h
  refine fnT ?_
  show Wp (sSeq _ sNil [.io v0, .sh v1]) _
  replace h := bs h; obtain ⟨a1, ha1, h⟩ := h
  replace h := bs h; obtain ⟨q2, hq2, h⟩ := h
  replace h := bs h; obtain ⟨a3, ha3, h⟩ := h
  cases h; exact w_retT (e2EE rfl (eFnI rfl (dCons_of (e1E rfl ha1) rfl) rfl hq2 rfl rfl) ha3) rfl
theorem c__law_pick {v0 v1 : D} {Q : D × D → Prop} (h : So (l__law_pick v0 v1) Q) : So (cI fs__law_pick [v0, v1]) Q := so_cI (fun _ => l__law_pick_of) h
theorem t__law_pick {v0 v1 : D} {Q : D → Prop} (h : So (l__law_pick v0 v1) fun q => Q q.1) : So (cF fs__law_pick [v0, v1]) Q := so_cT (fun _ => l__law_pick_of) h
def l__law_book (v0 v1 v2 : D) : Option (D × D) := (cI fs__law_take [v0, v1]).bd fun q1 => (oAdd (.int 1) q1.1).bd fun a2 => (cI fs__law_take [q1.2, v2]).bd fun q3 => (oAdd (.int 1) q3.1).bd fun a4 => (cI fs__law_take [q3.2, (.int 3)]).bd fun q5 => (lR1 a4).bd fun d6 => (fold (fun d13 t7 => (cI fs__law_take [t7.1, (.int 3)]).bd fun q14 => (oIx (.list [(.str "out"), (.str "deed"), (.str "deed")]) q14.1).bd fun a15 => (lR1 a2).bd fun d16 => (fold (fun d20 t17 => (oIx (.list [(.int 2), (.int 3), (.int 6)]) q5.1).bd fun a21 => (cI fs__law_take [t17.1, a21]).bd fun q22 => (oEq q22.1 (.int 0)).bd fun a23 => (cI fs__law_take [q22.2, a2]).bd fun q24 => (fInt a23).bd fun a25 => (oIx (.list [q24.1, .none]) a25).bd fun a26 => (gApp t17.2 [a26]).bd fun a27 => some (q24.2, a27)) d16 (q14.2, (.list []))).bd fun t28 => (oSub a4 (.int 1)).bd fun a31 => (oEq d13 a31).bd fun a32 => (asB a32).bd fun b33 => (lAnd b33 ((rowsD t7.2).bd fun d34 => (lc (fun d35 => (oIx d35 (.int 0)).bd fun a36 => some [a36]) d34).bd fun z37 => (oIn true (.str "deed") (.list z37)).bd fun a38 => (asB a38).bd fun b39 => some b39)).bd fun a40 => (if a40 = true then some (.str "deed") else some a15).bd fun t41 => (fTuple t28.2).bd fun a42 => (gApp t7.2 [(.tuple [t41, a42])]).bd fun a43 => some (t28.1, a43)) d6 (q5.2, (.list []))).bd fun t44 => (fTuple t44.2).bd fun a50 => some ((.tuple [a2, a50]), t44.1)
theorem l__law_book_of {v0 v1 v2 : D} {r : D × D} (h : l__law_book v0 v1 v2 = some r) : fs__law_book.f [v0, v1, v2] = some (.ret r.1 r.2) := by
  have e0 : fs__law_book.f = runs true false 13 g__law_book := rfl
  rw [e0]
  unfold g__law_book
  unfold l__law_book at h
  refine fnT ?_
  show Wp (sSeq _ sNil [.io v0, .sh v1, .sh v2, .un, .un, .un, .un, .un, .un, .un, .un, .un, .un]) _
  refine w_assoc ?_
  replace h := bs h; obtain ⟨q1, hq1, h⟩ := h
  replace h := bs h; obtain ⟨a2, ha2, h⟩ := h
  replace h := bs h; obtain ⟨q3, hq3, h⟩ := h
  replace h := bs h; obtain ⟨a4, ha4, h⟩ := h
  refine w_par [.io q3.2, .sh v1, .sh v2, .sh a2, .sh a4, .un, .un, .un, .un, .un, .un, .un, .un] (e2EE rfl (eFnI rfl (dCons_of rfl rfl) rfl hq1 rfl rfl) ha2) (e2EE rfl (eFnI rfl (dCons_of rfl rfl) rfl hq3 rfl rfl) ha4) rfl ?_
  refine w_assoc ?_
  replace h := bs h; obtain ⟨q5, hq5, h⟩ := h
  refine w_asg [.io q5.2, .sh v1, .sh v2, .sh a2, .sh a4, .sh q5.1, .un, .un, .un, .un, .un, .un, .un] (eFnI rfl (dCons_of rfl rfl) rfl hq5 rfl rfl) rfl ?_
  refine w_assoc ?_
  refine w_setO [.io q5.2, .sh v1, .sh v2, .sh a2, .sh a4, .sh q5.1, .ow (.list []), .un, .un, .un, .un, .un, .un] (dLst_of rfl (Nat.le_of_ble_eq_true rfl)) rfl ?_
  refine w_assoc ?_
  replace h := bs h; obtain ⟨d6, hd6, h⟩ := h
  replace h := bs h; obtain ⟨t44, ht44, h⟩ := h
  refine w_for (fun (t7 : D × D) (s : S) => ∃ y8 : Option D, ∃ y9 : Option D, ∃ y10 : Sl, ∃ y11 : Option D, ∃ y12 : Option D, s = [.io t7.1, .sh v1, .sh v2, .sh a2, .sh a4, .sh q5.1, .ow t7.2, jk y8, jk y9, y10, jk y11, jk y12, .un]) (eR1 rfl hd6) ht44 ⟨none, none, .un, none, none, rfl⟩ ?_ ?_
  · clear h ht44
    rintro d13 t7 _ _ ⟨y8, y9, y10, y11, y12, rfl⟩ h
    refine ⟨[.io t7.1, .sh v1, .sh v2, .sh a2, .sh a4, .sh q5.1, .ow t7.2, .sh d13, jk y9, y10, jk y11, jk y12, .un], rfl, ?_⟩
    refine w_assoc ?_
    replace h := bs h; obtain ⟨q14, hq14, h⟩ := h
    replace h := bs h; obtain ⟨a15, ha15, h⟩ := h
    refine w_asg [.io q14.2, .sh v1, .sh v2, .sh a2, .sh a4, .sh q5.1, .ow t7.2, .sh d13, .sh a15, y10, jk y11, jk y12, .un] (e2EE (dLst_of (dCons_of rfl (dCons_of rfl (dCons_of rfl rfl))) (Nat.le_of_ble_eq_true rfl)) (eFnI rfl (dCons_of rfl rfl) rfl hq14 rfl rfl) ha15) rfl ?_
    refine w_assoc ?_
    refine w_setO [.io q14.2, .sh v1, .sh v2, .sh a2, .sh a4, .sh q5.1, .ow t7.2, .sh d13, .sh a15, .ow (.list []), jk y11, jk y12, .un] (dLst_of rfl (Nat.le_of_ble_eq_true rfl)) rfl ?_
    refine w_assoc ?_
    replace h := bs h; obtain ⟨d16, hd16, h⟩ := h
    replace h := bs h; obtain ⟨t28, ht28, h⟩ := h
    refine w_for (fun (t17 : D × D) (s : S) => ∃ y18 : Option D, ∃ y19 : Option D, s = [.io t17.1, .sh v1, .sh v2, .sh a2, .sh a4, .sh q5.1, .ow t7.2, .sh d13, .sh a15, .ow t17.2, jk y18, jk y19, .un]) (eR1 rfl hd16) ht28 ⟨y11, y12, rfl⟩ ?_ ?_
    · clear h ht28
      rintro d20 t17 _ _ ⟨y18, y19, rfl⟩ h
      refine ⟨[.io t17.1, .sh v1, .sh v2, .sh a2, .sh a4, .sh q5.1, .ow t7.2, .sh d13, .sh a15, .ow t17.2, .sh d20, jk y19, .un], rfl, ?_⟩
      refine w_assoc ?_
      replace h := bs h; obtain ⟨a21, ha21, h⟩ := h
      replace h := bs h; obtain ⟨q22, hq22, h⟩ := h
      replace h := bs h; obtain ⟨a23, ha23, h⟩ := h
      refine w_asg [.io q22.2, .sh v1, .sh v2, .sh a2, .sh a4, .sh q5.1, .ow t7.2, .sh d13, .sh a15, .ow t17.2, .sh d20, .sh a23, .un] (e2EE (eFnI rfl (dCons_of (e2EE (dLst_of (dCons_of rfl (dCons_of rfl (dCons_of rfl rfl))) (Nat.le_of_ble_eq_true rfl)) rfl ha21) rfl) rfl hq22 rfl rfl) rfl ha23) rfl ?_
      replace h := bs h; obtain ⟨q24, hq24, h⟩ := h
      replace h := bs h; obtain ⟨a25, ha25, h⟩ := h
      replace h := bs h; obtain ⟨a26, ha26, h⟩ := h
      replace h := bs h; obtain ⟨a27, ha27, h⟩ := h
      refine w_mut [.io q24.2, .sh v1, .sh v2, .sh a2, .sh a4, .sh q5.1, .ow t7.2, .sh d13, .sh a15, .ow a27, .sh d20, .sh a23, .un] (gApp_l ha27) rfl (dCons_of (e2EE (dLst_of (dCons_of (eFnI rfl (dCons_of rfl rfl) rfl hq24 rfl rfl) (dCons_of rfl rfl)) (Nat.le_of_ble_eq_true rfl)) (e1E rfl ha25) ha26) rfl) rfl ha27 rfl ?_
      cases h; exact c_end ⟨(some d20), (some a23), rfl⟩
    · rintro _ ⟨y29, y30, rfl⟩
      refine w_assoc ?_
      replace h := bs h; obtain ⟨a31, ha31, h⟩ := h
      replace h := bs h; obtain ⟨a32, ha32, h⟩ := h
      replace h := bs h; obtain ⟨b33, hb33, h⟩ := h
      replace h := bs h; obtain ⟨a40, ha40, h⟩ := h
      replace h := bs h; obtain ⟨t41, ht41, h⟩ := h
      refine w_join (fun (t41 : D) (s : S) => s = [.io t28.1, .sh v1, .sh v2, .sh a2, .sh a4, .sh q5.1, .ow t7.2, .sh d13, .sh t41, .ow t28.2, jk y29, jk y30, .un]) t41 (w_if (eAnd (eB (e2EE rfl (e2EE rfl rfl ha31) ha32) hb33) ha40 (fun _ h => by
          replace h := bs h; obtain ⟨d34, hd34, h⟩ := h
          replace h := bs h; obtain ⟨z37, hz37, h⟩ := h
          replace h := bs h; obtain ⟨a38, ha38, h⟩ := h
          replace h := bs h; obtain ⟨b39, hb39, h⟩ := h
          cases h; exact (eB (e2EE rfl (eLcO [.io t28.1, .sh v1, .sh v2, .sh a2, .sh a4, .sh q5.1, .un, .sh d13, .sh a15, .ow t28.2, jk y29, jk y30, .un] rfl rfl hd34 hz37 rfl (fun d35 _ h => by
              replace h := bs h; obtain ⟨a36, ha36, h⟩ := h
              cases h; exact stT (s1 := [.io t28.1, .sh v1, .sh v2, .sh a2, .sh a4, .sh q5.1, .un, .sh d13, .sh a15, .ow t28.2, jk y29, jk y30, .sh d35]) (s2 := [.io t28.1, .sh v1, .sh v2, .sh a2, .sh a4, .sh q5.1, .un, .sh d13, .sh a15, .ow t28.2, jk y29, jk y30, .sh d35]) (s3 := [.io t28.1, .sh v1, .sh v2, .sh a2, .sh a4, .sh q5.1, .un, .sh d13, .sh a15, .ow t28.2, jk y29, jk y30, .sh d35]) rfl rfl rfl (e2EE rfl rfl ha36) rfl rfl) rfl rfl) ha38) hb39))) (fun hb => ?_) (fun hb => ?_)) ?_
      · clear h; have h := ifT ht41 hb; clear ht41
        refine w_asg [.io t28.1, .sh v1, .sh v2, .sh a2, .sh a4, .sh q5.1, .ow t7.2, .sh d13, .sh (.str "deed"), .ow t28.2, jk y29, jk y30, .un] rfl rfl ?_
        cases h; exact n_end rfl
      · clear h; have h := ifF ht41 hb; clear ht41
        refine w_nil ?_
        cases h; exact n_end rfl
      · rintro _ rfl
        replace h := bs h; obtain ⟨a42, ha42, h⟩ := h
        replace h := bs h; obtain ⟨a43, ha43, h⟩ := h
        refine w_mut [.io t28.1, .sh v1, .sh v2, .sh a2, .sh a4, .sh q5.1, .ow a43, .sh d13, .sh t41, .ow t28.2, jk y29, jk y30, .un] (gApp_l ha43) rfl (dCons_of (dTup_of (dCons_of rfl (dCons_of (e1B rfl ha42) rfl)) (Nat.le_of_ble_eq_true rfl)) rfl) rfl ha43 rfl ?_
        cases h; exact c_end ⟨(some d13), (some t41), (.ow t28.2), y29, y30, rfl⟩
  · rintro _ ⟨y45, y46, y47, y48, y49, rfl⟩
    replace h := bs h; obtain ⟨a50, ha50, h⟩ := h
    cases h; exact w_retT (dTup_of (dCons_of rfl (dCons_of (e1B rfl ha50) rfl)) (Nat.le_of_ble_eq_true rfl)) rfl
theorem c__law_book {v0 v1 v2 : D} {Q : D × D → Prop} (h : So (l__law_book v0 v1 v2) Q) : So (cI fs__law_book [v0, v1, v2]) Q := so_cI (fun _ => l__law_book_of) h
theorem t__law_book {v0 v1 v2 : D} {Q : D → Prop} (h : So (l__law_book v0 v1 v2) fun q => Q q.1) : So (cF fs__law_book [v0, v1, v2]) Q := so_cT (fun _ => l__law_book_of) h
def l__law_deeds (v0 : D) : Option (D) := (oIx v0 (.int 1)).bd fun a1 => (fLen a1).bd fun a2 => (lR1 a2).bd fun d3 => (lc (fun d4 => (oIx v0 (.int 1)).bd fun a5 => (oIx a5 d4).bd fun a6 => (oIx a6 (.int 0)).bd fun a7 => (oEq a7 (.str "deed")).bd fun a8 => (asB a8).bd fun b9 => if b9 = true then some [d4] else some []) d3).bd fun z10 => some (.list z10)
theorem l__law_deeds_of {v0 : D} {r : D} (h : l__law_deeds v0 = some r) : fs__law_deeds.f [v0] = some (.ret r .none) := by
  have e0 : fs__law_deeds.f = runs false true 2 g__law_deeds := rfl
  rw [e0]
  unfold g__law_deeds
  unfold l__law_deeds at h
  refine fnF ?_
  show Wp (sSeq _ sNil [.sh v0, .un]) _
  replace h := bs h; obtain ⟨a1, ha1, h⟩ := h
  replace h := bs h; obtain ⟨a2, ha2, h⟩ := h
  replace h := bs h; obtain ⟨d3, hd3, h⟩ := h
  replace h := bs h; obtain ⟨z10, hz10, h⟩ := h
  cases h; exact w_retF (eLc (eR1 (e1E (e2EE rfl rfl ha1) ha2) hd3) hz10 (fun d4 _ h => by
      replace h := bs h; obtain ⟨a5, ha5, h⟩ := h
      replace h := bs h; obtain ⟨a6, ha6, h⟩ := h
      replace h := bs h; obtain ⟨a7, ha7, h⟩ := h
      replace h := bs h; obtain ⟨a8, ha8, h⟩ := h
      replace h := bs h; obtain ⟨b9, hb9, h⟩ := h
      rcases Bool.eq_false_or_eq_true b9 with hb | hb
      · replace h := ifT h hb
        cases h; exact stT (s1 := [.sh v0, .sh d4]) (s2 := [.sh v0, .sh d4]) (s3 := [.sh v0, .sh d4]) rfl rfl (bvT (eB (e2EE (e2EE (e2EE (e2EE rfl rfl ha5) rfl ha6) rfl ha7) rfl ha8) hb9) hb) rfl rfl rfl
      · replace h := ifF h hb
        cases h; exact stF (s1 := [.sh v0, .sh d4]) (s2 := [.sh v0, .sh d4]) rfl rfl (bvT (eB (e2EE (e2EE (e2EE (e2EE rfl rfl ha5) rfl ha6) rfl ha7) rfl ha8) hb9) hb) rfl rfl))
theorem c__law_deeds {v0 : D} {Q : D → Prop} (h : So (l__law_deeds v0) Q) : So (cF fs__law_deeds [v0]) Q := so_cF (fun _ => l__law_deeds_of) h
theorem q__law_deeds {v0 r : D} (h : l__law_deeds v0 = some r) : cF fs__law_deeds [v0] = some r := cF_ok (l__law_deeds_of h)
def l__law_behind (v0 v1 v2 : D) : Option (D) := (oIx v0 (.int 1)).bd fun a1 => (oIx a1 v2).bd fun a2 => (oIx a2 (.int 1)).bd fun a3 => (oIx a3 v1).bd fun a4 => some a4
theorem l__law_behind_of {v0 v1 v2 : D} {r : D} (h : l__law_behind v0 v1 v2 = some r) : fs__law_behind.f [v0, v1, v2] = some (.ret r .none) := by
  have e0 : fs__law_behind.f = runs false false 3 g__law_behind := rfl
  rw [e0]
  unfold g__law_behind
  unfold l__law_behind at h
  refine fnF ?_
  show Wp (sSeq _ sNil [.sh v0, .sh v1, .sh v2]) _
  replace h := bs h; obtain ⟨a1, ha1, h⟩ := h
  replace h := bs h; obtain ⟨a2, ha2, h⟩ := h
  replace h := bs h; obtain ⟨a3, ha3, h⟩ := h
  replace h := bs h; obtain ⟨a4, ha4, h⟩ := h
  cases h; exact w_retF (e2EE (e2EE (e2EE (e2EE rfl rfl ha1) rfl ha2) rfl ha3) rfl ha4)
theorem c__law_behind {v0 v1 v2 : D} {Q : D → Prop} (h : So (l__law_behind v0 v1 v2) Q) : So (cF fs__law_behind [v0, v1, v2]) Q := so_cF (fun _ => l__law_behind_of) h
theorem q__law_behind {v0 v1 v2 r : D} (h : l__law_behind v0 v1 v2 = some r) : cF fs__law_behind [v0, v1, v2] = some r := cF_ok (l__law_behind_of h)
def l__law_some (v0 v1 : D) : Option (D × D) := (lR1 v1).bd fun d1 => (lcS (fun d3 m4 => (cI fs__law_take [m4, (.int 2)]).bd fun q5 => (oEq q5.1 (.int 0)).bd fun a6 => (asB a6).bd fun b7 => if b7 = true then some ([d3], q5.2) else some ([], q5.2)) d1 v0).bd fun z8 => (fTuple (.list z8.1)).bd fun a9 => some (a9, z8.2)
theorem l__law_some_of {v0 v1 : D} {r : D × D} (h : l__law_some v0 v1 = some r) : fs__law_some.f [v0, v1] = some (.ret r.1 r.2) := by
  have e0 : fs__law_some.f = runs true false 3 g__law_some := rfl
  rw [e0]
  unfold g__law_some
  unfold l__law_some at h
  refine fnT ?_
  show Wp (sSeq _ sNil [.io v0, .sh v1, .un]) _
  replace h := bs h; obtain ⟨d1, hd1, h⟩ := h
  replace h := bs h; obtain ⟨z8, hz8, h⟩ := h
  replace h := bs h; obtain ⟨a9, ha9, h⟩ := h
  cases h; exact w_retT (e1E (eLcS (fun m2 : D => ([.io m2, .sh v1, .un] : S)) (eR1 rfl hd1) hz8 (fun d3 m4 _ h => by
      replace h := bs h; obtain ⟨q5, hq5, h⟩ := h
      replace h := bs h; obtain ⟨a6, ha6, h⟩ := h
      replace h := bs h; obtain ⟨b7, hb7, h⟩ := h
      rcases Bool.eq_false_or_eq_true b7 with hb | hb
      · replace h := ifT h hb
        cases h; exact stT (s1 := [.io m4, .sh v1, .sh d3]) (s2 := [.io q5.2, .sh v1, .sh d3]) (s3 := [.io q5.2, .sh v1, .sh d3]) rfl rfl (bvT (eB (e2EE (eFnI rfl (dCons_of rfl rfl) rfl hq5 rfl rfl) rfl ha6) hb7) hb) rfl rfl rfl
      · replace h := ifF h hb
        cases h; exact stF (s1 := [.io m4, .sh v1, .sh d3]) (s2 := [.io q5.2, .sh v1, .sh d3]) rfl rfl (bvT (eB (e2EE (eFnI rfl (dCons_of rfl rfl) rfl hq5 rfl rfl) rfl ha6) hb7) hb) rfl rfl)) ha9) rfl
theorem c__law_some {v0 v1 : D} {Q : D × D → Prop} (h : So (l__law_some v0 v1) Q) : So (cI fs__law_some [v0, v1]) Q := so_cI (fun _ => l__law_some_of) h
theorem t__law_some {v0 v1 : D} {Q : D → Prop} (h : So (l__law_some v0 v1) fun q => Q q.1) : So (cF fs__law_some [v0, v1]) Q := so_cT (fun _ => l__law_some_of) h
def l__law_marks (v0 v1 v2 : D) : Option (D × D) := (oIx v1 (.int 1)).bd fun a1 => (lS a1).bd fun d2 => (fold (fun d7 t3 => (lTup2 d7).bd fun q8 => (oIx v1 (.int 1)).bd fun a9 => (fLen a9).bd fun a10 => (cI fs__law_some [t3.1, a10]).bd fun q11 => (oEq v2 (.int 1)).bd fun a12 => (asB a12).bd fun b13 => (if b13 = true then (cI fs__law_take [q11.2, (.int 3)]).bd fun q15 => (asI q15.1).bd fun a16 => (slT q11.1 none (some a16)).bd fun a17 => some (q15.2, a17) else some (q11.2, q11.1)).bd fun t14 => (oEq q8.1 (.str "out")).bd fun a18 => (asB a18).bd fun b19 => (lOr b19 ((oEq v2 (.int 2)).bd fun a20 => (asB a20).bd fun b21 => some b21)).bd fun a22 => (if a22 = true then some (.tuple []) else some t14.2).bd fun t23 => (gApp t3.2 [t23]).bd fun a24 => some (t14.1, a24)) d2 (v0, (.list []))).bd fun t25 => (fTuple t25.2).bd fun a29 => some (a29, t25.1)
theorem l__law_marks_of {v0 v1 v2 : D} {r : D × D} (h : l__law_marks v0 v1 v2 = some r) : fs__law_marks.f [v0, v1, v2] = some (.ret r.1 r.2) := by
  have e0 : fs__law_marks.f = runs true false 7 g__law_marks := rfl
  rw [e0]
  unfold g__law_marks
  unfold l__law_marks at h
  refine fnT ?_
  show Wp (sSeq _ sNil [.io v0, .sh v1, .sh v2, .un, .un, .un, .un]) _
  refine w_assoc ?_
  refine w_setO [.io v0, .sh v1, .sh v2, .ow (.list []), .un, .un, .un] (dLst_of rfl (Nat.le_of_ble_eq_true rfl)) rfl ?_
  refine w_assoc ?_
  replace h := bs h; obtain ⟨a1, ha1, h⟩ := h
  replace h := bs h; obtain ⟨d2, hd2, h⟩ := h
  replace h := bs h; obtain ⟨t25, ht25, h⟩ := h
  refine w_for (fun (t3 : D × D) (s : S) => ∃ y4 : Option D, ∃ y5 : Option D, ∃ y6 : Option D, s = [.io t3.1, .sh v1, .sh v2, .ow t3.2, jk y4, jk y5, jk y6]) (eItS (e2EE rfl rfl ha1) hd2) ht25 ⟨none, none, none, rfl⟩ ?_ ?_
  · clear h ht25
    rintro d7 t3 _ _ ⟨y4, y5, y6, rfl⟩ h
    replace h := bs h; obtain ⟨q8, hq8, h⟩ := h
    refine ⟨[.io t3.1, .sh v1, .sh v2, .ow t3.2, .sh q8.1, .sh q8.2, jk y6], (bT2 (lTup2_eq hq8) rfl rfl), ?_⟩
    refine w_assoc ?_
    replace h := bs h; obtain ⟨a9, ha9, h⟩ := h
    replace h := bs h; obtain ⟨a10, ha10, h⟩ := h
    replace h := bs h; obtain ⟨q11, hq11, h⟩ := h
    refine w_asg [.io q11.2, .sh v1, .sh v2, .ow t3.2, .sh q8.1, .sh q8.2, .sh q11.1] (eFnI rfl (dCons_of (e1E (e2EE rfl rfl ha9) ha10) rfl) rfl hq11 rfl rfl) rfl ?_
    refine w_assoc ?_
    replace h := bs h; obtain ⟨a12, ha12, h⟩ := h
    replace h := bs h; obtain ⟨b13, hb13, h⟩ := h
    replace h := bs h; obtain ⟨t14, ht14, h⟩ := h
    refine w_join (fun (t14 : D × D) (s : S) => s = [.io t14.1, .sh v1, .sh v2, .ow t3.2, .sh q8.1, .sh q8.2, .sh t14.2]) t14 (w_if (eB (e2EE rfl rfl ha12) hb13) (fun hb => ?_) (fun hb => ?_)) ?_
    · clear h; have h := ifT ht14 hb; clear ht14
      replace h := bs h; obtain ⟨q15, hq15, h⟩ := h
      replace h := bs h; obtain ⟨a16, ha16, h⟩ := h
      replace h := bs h; obtain ⟨a17, ha17, h⟩ := h
      refine w_asg [.io q15.2, .sh v1, .sh v2, .ow t3.2, .sh q8.1, .sh q8.2, .sh a17] (eSlE rfl rfl (ePt (eFnI rfl (dCons_of rfl rfl) rfl hq15 rfl rfl) ha16) ha17) rfl ?_
      cases h; exact n_end rfl
    · clear h; have h := ifF ht14 hb; clear ht14
      refine w_nil ?_
      cases h; exact n_end rfl
    · rintro _ rfl
      refine w_assoc ?_
      replace h := bs h; obtain ⟨a18, ha18, h⟩ := h
      replace h := bs h; obtain ⟨b19, hb19, h⟩ := h
      replace h := bs h; obtain ⟨a22, ha22, h⟩ := h
      replace h := bs h; obtain ⟨t23, ht23, h⟩ := h
      refine w_join (fun (t23 : D) (s : S) => s = [.io t14.1, .sh v1, .sh v2, .ow t3.2, .sh q8.1, .sh q8.2, .sh t23]) t23 (w_if (eOr (eB (e2EE rfl rfl ha18) hb19) ha22 (fun _ h => by
          replace h := bs h; obtain ⟨a20, ha20, h⟩ := h
          replace h := bs h; obtain ⟨b21, hb21, h⟩ := h
          cases h; exact (eB (e2EE rfl rfl ha20) hb21))) (fun hb => ?_) (fun hb => ?_)) ?_
      · clear h; have h := ifT ht23 hb; clear ht23
        refine w_asg [.io t14.1, .sh v1, .sh v2, .ow t3.2, .sh q8.1, .sh q8.2, .sh (.tuple [])] (dTup_of rfl (Nat.le_of_ble_eq_true rfl)) rfl ?_
        cases h; exact n_end rfl
      · clear h; have h := ifF ht23 hb; clear ht23
        refine w_nil ?_
        cases h; exact n_end rfl
      · rintro _ rfl
        replace h := bs h; obtain ⟨a24, ha24, h⟩ := h
        refine w_mut [.io t14.1, .sh v1, .sh v2, .ow a24, .sh q8.1, .sh q8.2, .sh t23] (gApp_l ha24) rfl (dCons_of rfl rfl) rfl ha24 rfl ?_
        cases h; exact c_end ⟨(some q8.1), (some q8.2), (some t23), rfl⟩
  · rintro _ ⟨y26, y27, y28, rfl⟩
    replace h := bs h; obtain ⟨a29, ha29, h⟩ := h
    cases h; exact w_retT (e1B rfl ha29) rfl
theorem c__law_marks {v0 v1 v2 : D} {Q : D × D → Prop} (h : So (l__law_marks v0 v1 v2) Q) : So (cI fs__law_marks [v0, v1, v2]) Q := so_cI (fun _ => l__law_marks_of) h
theorem t__law_marks {v0 v1 v2 : D} {Q : D → Prop} (h : So (l__law_marks v0 v1 v2) fun q => Q q.1) : So (cF fs__law_marks [v0, v1, v2]) Q := so_cT (fun _ => l__law_marks_of) h
def l__law_has (v0 v1 : D) : Option (D) := (lL v0).bd fun d1 => (lc (fun d2 => (oIn false d2 v1).bd fun a3 => (asB a3).bd fun b4 => if b4 = true then some [d2] else some []) d1).bd fun z5 => (oNe (.list z5) (.list [])).bd fun a6 => some a6
theorem l__law_has_of {v0 v1 : D} {r : D} (h : l__law_has v0 v1 = some r) : fs__law_has.f [v0, v1] = some (.ret r .none) := by
  have e0 : fs__law_has.f = runs false false 3 g__law_has := rfl
  rw [e0]
  unfold g__law_has
  unfold l__law_has at h
  refine fnF ?_
  show Wp (sSeq _ sNil [.sh v0, .sh v1, .un]) _
  replace h := bs h; obtain ⟨d1, hd1, h⟩ := h
  replace h := bs h; obtain ⟨z5, hz5, h⟩ := h
  replace h := bs h; obtain ⟨a6, ha6, h⟩ := h
  cases h; exact w_retF (e2EE (eLc (eItL rfl hd1) hz5 (fun d2 _ h => by
      replace h := bs h; obtain ⟨a3, ha3, h⟩ := h
      replace h := bs h; obtain ⟨b4, hb4, h⟩ := h
      rcases Bool.eq_false_or_eq_true b4 with hb | hb
      · replace h := ifT h hb
        cases h; exact stT (s1 := [.sh v0, .sh v1, .sh d2]) (s2 := [.sh v0, .sh v1, .sh d2]) (s3 := [.sh v0, .sh v1, .sh d2]) rfl rfl (bvT (eB (e2EE rfl rfl ha3) hb4) hb) rfl rfl rfl
      · replace h := ifF h hb
        cases h; exact stF (s1 := [.sh v0, .sh v1, .sh d2]) (s2 := [.sh v0, .sh v1, .sh d2]) rfl rfl (bvT (eB (e2EE rfl rfl ha3) hb4) hb) rfl rfl)) (dLst_of rfl (Nat.le_of_ble_eq_true rfl)) ha6)
theorem c__law_has {v0 v1 : D} {Q : D → Prop} (h : So (l__law_has v0 v1) Q) : So (cF fs__law_has [v0, v1]) Q := so_cF (fun _ => l__law_has_of) h
theorem q__law_has {v0 v1 r : D} (h : l__law_has v0 v1 = some r) : cF fs__law_has [v0, v1] = some r := cF_ok (l__law_has_of h)
def l__law_entry (v0 v1 v2 : D) : Option (D × D) := (cI fs__law_take [v0, (.int 3)]).bd fun q1 => (cI fs__law_take [q1.2, v2]).bd fun q2 => (oIx v1 (.int 1)).bd fun a3 => (fLen a3).bd fun a4 => (lR1 a4).bd fun d5 => (lc (fun d6 => (oIx v1 (.int 1)).bd fun a7 => (oIx a7 d6).bd fun a8 => (oIx a8 (.int 0)).bd fun a9 => (oEq a9 (.str "out")).bd fun a10 => (asB a10).bd fun b11 => if b11 = true then some [d6] else some []) d5).bd fun z12 => (oEq q1.1 (.int 0)).bd fun a13 => (asB a13).bd fun b14 => (lAnd b14 ((oNe (.list z12) (.list [])).bd fun a15 => (asB a15).bd fun b16 => some b16)).bd fun a17 => if a17 = true then (cI fs__law_pick [q2.2, (.list z12)]).bd fun q18 => some ((.tuple [(.str "come"), q18.1]), q18.2) else (oEq q1.1 (.int 1)).bd fun a19 => (asB a19).bd fun b20 => if b20 = true then (cI fs__law_take [q2.2, (.int 6)]).bd fun q21 => (oIx (.list [(.int 0), (.int 0), (.int 0), (.int 1), (.int 2), (.int 9)]) q21.1).bd fun a22 => some ((.tuple [(.str "look"), q2.1, a22]), q21.2) else (cF fs__law_deeds [v1]).bd fun a23 => (lSh a23).bd fun u24 => (cI fs__law_pick [q2.2, a23]).bd fun q25 => some ((.tuple [(.str "do"), q2.1, q25.1]), q25.2)
theorem l__law_entry_of {v0 v1 v2 : D} {r : D × D} (h : l__law_entry v0 v1 v2 = some r) : fs__law_entry.f [v0, v1, v2] = some (.ret r.1 r.2) := by
  have e0 : fs__law_entry.f = runs true false 7 g__law_entry := rfl
  rw [e0]
  unfold g__law_entry
  unfold l__law_entry at h
  refine fnT ?_
  show Wp (sSeq _ sNil [.io v0, .sh v1, .sh v2, .un, .un, .un, .un]) _
  refine w_assoc ?_
  replace h := bs h; obtain ⟨q1, hq1, h⟩ := h
  replace h := bs h; obtain ⟨q2, hq2, h⟩ := h
  refine w_par [.io q2.2, .sh v1, .sh v2, .sh q1.1, .sh q2.1, .un, .un] (eFnI rfl (dCons_of rfl rfl) rfl hq1 rfl rfl) (eFnI rfl (dCons_of rfl rfl) rfl hq2 rfl rfl) rfl ?_
  refine w_assoc ?_
  replace h := bs h; obtain ⟨a3, ha3, h⟩ := h
  replace h := bs h; obtain ⟨a4, ha4, h⟩ := h
  replace h := bs h; obtain ⟨d5, hd5, h⟩ := h
  replace h := bs h; obtain ⟨z12, hz12, h⟩ := h
  refine w_asg [.io q2.2, .sh v1, .sh v2, .sh q1.1, .sh q2.1, .sh (.list z12), .un] (eShL (eLc (eR1 (e1E (e2EE rfl rfl ha3) ha4) hd5) hz12 (fun d6 _ h => by
      replace h := bs h; obtain ⟨a7, ha7, h⟩ := h
      replace h := bs h; obtain ⟨a8, ha8, h⟩ := h
      replace h := bs h; obtain ⟨a9, ha9, h⟩ := h
      replace h := bs h; obtain ⟨a10, ha10, h⟩ := h
      replace h := bs h; obtain ⟨b11, hb11, h⟩ := h
      rcases Bool.eq_false_or_eq_true b11 with hb | hb
      · replace h := ifT h hb
        cases h; exact stT (s1 := [.io q2.2, .sh v1, .sh v2, .sh q1.1, .sh q2.1, .un, .sh d6]) (s2 := [.io q2.2, .sh v1, .sh v2, .sh q1.1, .sh q2.1, .un, .sh d6]) (s3 := [.io q2.2, .sh v1, .sh v2, .sh q1.1, .sh q2.1, .un, .sh d6]) rfl rfl (bvT (eB (e2EE (e2EE (e2EE (e2EE rfl rfl ha7) rfl ha8) rfl ha9) rfl ha10) hb11) hb) rfl rfl rfl
      · replace h := ifF h hb
        cases h; exact stF (s1 := [.io q2.2, .sh v1, .sh v2, .sh q1.1, .sh q2.1, .un, .sh d6]) (s2 := [.io q2.2, .sh v1, .sh v2, .sh q1.1, .sh q2.1, .un, .sh d6]) rfl rfl (bvT (eB (e2EE (e2EE (e2EE (e2EE rfl rfl ha7) rfl ha8) rfl ha9) rfl ha10) hb11) hb) rfl rfl))) rfl ?_
  refine w_assoc ?_
  replace h := bs h; obtain ⟨a13, ha13, h⟩ := h
  replace h := bs h; obtain ⟨b14, hb14, h⟩ := h
  replace h := bs h; obtain ⟨a17, ha17, h⟩ := h
  refine w_if (eAnd (eB (e2EE rfl rfl ha13) hb14) ha17 (fun _ h => by
      replace h := bs h; obtain ⟨a15, ha15, h⟩ := h
      replace h := bs h; obtain ⟨b16, hb16, h⟩ := h
      cases h; exact (eB (e2EE rfl (dLst_of rfl (Nat.le_of_ble_eq_true rfl)) ha15) hb16))) (fun hb => ?_) (fun hb => ?_)
  · replace h := ifT h hb
    replace h := bs h; obtain ⟨q18, hq18, h⟩ := h
    cases h; exact w_retT (dTup_of (dCons_of rfl (dCons_of (eFnI rfl (dCons_of rfl rfl) rfl hq18 rfl rfl) rfl)) (Nat.le_of_ble_eq_true rfl)) rfl
  · replace h := ifF h hb
    refine w_nil ?_
    refine w_assoc ?_
    replace h := bs h; obtain ⟨a19, ha19, h⟩ := h
    replace h := bs h; obtain ⟨b20, hb20, h⟩ := h
    refine w_if (eB (e2EE rfl rfl ha19) hb20) (fun hb => ?_) (fun hb => ?_)
    · replace h := ifT h hb
      replace h := bs h; obtain ⟨q21, hq21, h⟩ := h
      replace h := bs h; obtain ⟨a22, ha22, h⟩ := h
      cases h; exact w_retT (dTup_of (dCons_of rfl (dCons_of rfl (dCons_of (e2EE (dLst_of (dCons_of rfl (dCons_of rfl (dCons_of rfl (dCons_of rfl (dCons_of rfl (dCons_of rfl rfl)))))) (Nat.le_of_ble_eq_true rfl)) (eFnI rfl (dCons_of rfl rfl) rfl hq21 rfl rfl) ha22) rfl))) (Nat.le_of_ble_eq_true rfl)) rfl
    · replace h := ifF h hb
      refine w_nil ?_
      replace h := bs h; obtain ⟨a23, ha23, h⟩ := h
      replace h := bs h; obtain ⟨u24, hu24, h⟩ := h
      replace h := bs h; obtain ⟨q25, hq25, h⟩ := h
      cases h; exact w_retT (dTup_of (dCons_of rfl (dCons_of rfl (dCons_of (eFnI rfl (dCons_of (eSh (eFn (dCons_of rfl rfl) ha23 rfl) hu24) rfl) rfl hq25 rfl rfl) rfl))) (Nat.le_of_ble_eq_true rfl)) rfl
theorem c__law_entry {v0 v1 v2 : D} {Q : D × D → Prop} (h : So (l__law_entry v0 v1 v2) Q) : So (cI fs__law_entry [v0, v1, v2]) Q := so_cI (fun _ => l__law_entry_of) h
theorem t__law_entry {v0 v1 v2 : D} {Q : D → Prop} (h : So (l__law_entry v0 v1 v2) fun q => Q q.1) : So (cF fs__law_entry [v0, v1, v2]) Q := so_cT (fun _ => l__law_entry_of) h
def l__law_read (v0 v1 v2 v3 : D) : Option (D) := (fLen v3).bd fun a1 => (lR1 a1).bd fun d2 => (fold (fun d11 t3 => (oIx v3 d11).bd fun a12 => (oIx a12 (.int 0)).bd fun a13 => (oEq a13 (.str "come")).bd fun a14 => (asB a14).bd fun b15 => if b15 = true then (lNeg (.int 1)).bd fun a16 => (oIx t3.1 a16).bd fun a17 => (oIx a12 (.int 1)).bd fun a18 => (cF fs__law_behind [v0, a17, a18]).bd fun a19 => (gApp t3.2.2.2.1 [a19]).bd fun a20 => (oIsNot a19 .none).bd fun a21 => (asB a21).bd fun b22 => if b22 = true then (gApp t3.1 [a19]).bd fun a23 => (oIx a12 (.int 1)).bd fun a24 => (gApp t3.2.1 [a24]).bd fun a25 => some (a23, a25, t3.2.2.1, a20, t3.2.2.2.2.1, t3.2.2.2.2.2) else some (t3.1, t3.2.1, t3.2.2.1, a20, t3.2.2.2.2.1, t3.2.2.2.2.2) else (oIx a12 (.int 0)).bd fun a26 => (oEq a26 (.str "look")).bd fun a27 => (asB a27).bd fun b28 => if b28 = true then (fLen t3.2.1).bd fun a29 => (oIx a12 (.int 2)).bd fun a30 => (oSub a29 a30).bd fun a31 => (fMax2 (.int 0) a31).bd fun a32 => (oIx a12 (.int 1)).bd fun a33 => (gPut t3.2.2.1 [a32, a33]).bd fun a34 => (oIx a12 (.int 1)).bd fun a35 => (oDix a34 a35).bd fun a36 => (oIx t3.1 a36).bd fun a37 => (gApp t3.2.2.2.1 [a37]).bd fun a38 => some (t3.1, t3.2.1, a34, a38, t3.2.2.2.2.1, t3.2.2.2.2.2) else (oIx a12 (.int 1)).bd fun a39 => (oIx a12 (.int 2)).bd fun a40 => (oDin false a39 t3.2.2.1).bd fun a41 => (lAndV a41 ((lNeg (.int 1)).bd fun a42 => (oIx t3.1 a42).bd fun a43 => (cF fs__law_behind [v0, a43, a40]).bd fun a44 => (oIsNot a44 .none).bd fun a45 => some a45)).bd fun a46 => (asB a46).bd fun b47 => (if b47 = true then (oDix t3.2.2.1 a39).bd fun a50 => (asI a50).bd fun a51 => (slL t3.2.1 (some a51) none).bd fun a52 => (lSh a52).bd fun u53 => (oDix t3.2.2.1 a39).bd fun a54 => (oIx t3.1 a54).bd fun a55 => (cF fs__law_behind [v0, a55, a40]).bd fun a56 => (oIsNot a56 .none).bd fun a57 => (lAndV a57 ((oIx v2 a40).bd fun a58 => (cF fs__law_has [a52, a58]).bd fun a59 => (asB a59).bd fun b60 => some (.bool (!b60)))).bd fun a61 => some (a61, (some a52)) else some (a46, t3.2.2.2.2.2)).bd fun t48 => (gApp t3.2.2.2.1 [t48.1]).bd fun a62 => (asB t48.1).bd fun b63 => if b63 = true then (t48.2).bd fun a64 => (oIx v1 a40).bd fun a65 => (cF fs__law_has [a64, a65]).bd fun a66 => (asB a66).bd fun b67 => (if b67 = true then (gApp t3.2.2.2.2.1 [d11]).bd fun a69 => some a69 else some t3.2.2.2.2.1).bd fun t68 => (lNeg (.int 1)).bd fun a70 => (oIx t3.1 a70).bd fun a71 => (cF fs__law_behind [v0, a71, a40]).bd fun a72 => (gApp t3.1 [a72]).bd fun a73 => (gApp t3.2.1 [a40]).bd fun a74 => (fLen a74).bd fun a75 => (gPut t3.2.2.1 [a75, a39]).bd fun a76 => some (a73, a74, a76, a62, t68, (some a64)) else some (t3.1, t3.2.1, t3.2.2.1, a62, t3.2.2.2.2.1, t48.2)) d2 ((.list [(.int 0)]), (.list []), (.dict []), (.list []), (.list []), none)).bd fun t77 => (lSh t77.2.2.2.1).bd fun u85 => (lSh t77.2.2.2.2.1).bd fun u86 => some (.tuple [t77.2.2.2.1, t77.2.2.2.2.1])
theorem l__law_read_of {v0 v1 v2 v3 : D} {r : D} (h : l__law_read v0 v1 v2 v3 = some r) : fs__law_read.f [v0, v1, v2, v3] = some (.ret r .none) := by
  have e0 : fs__law_read.f = runs false false 17 g__law_read := rfl
  rw [e0]
  unfold g__law_read
  unfold l__law_read at h
  refine fnF ?_
  show Wp (sSeq _ sNil [.sh v0, .sh v1, .sh v2, .sh v3, .un, .un, .un, .un, .un, .un, .un, .un, .un, .un, .un, .un, .un]) _
  refine w_assoc ?_
  refine w_par3 [.sh v0, .sh v1, .sh v2, .sh v3, .ow (.list [(.int 0)]), .ow (.list []), .ow (.dict []), .un, .un, .un, .un, .un, .un, .un, .un, .un, .un] (dLst_of (dCons_of rfl rfl) (Nat.le_of_ble_eq_true rfl)) (dLst_of rfl (Nat.le_of_ble_eq_true rfl)) rfl rfl ?_
  refine w_assoc ?_
  refine w_par [.sh v0, .sh v1, .sh v2, .sh v3, .ow (.list [(.int 0)]), .ow (.list []), .ow (.dict []), .ow (.list []), .ow (.list []), .un, .un, .un, .un, .un, .un, .un, .un] (dLst_of rfl (Nat.le_of_ble_eq_true rfl)) (dLst_of rfl (Nat.le_of_ble_eq_true rfl)) rfl ?_
  refine w_assoc ?_
  replace h := bs h; obtain ⟨a1, ha1, h⟩ := h
  replace h := bs h; obtain ⟨d2, hd2, h⟩ := h
  replace h := bs h; obtain ⟨t77, ht77, h⟩ := h
  refine w_for (fun (t3 : D × D × D × D × D × Option D) (s : S) => ∃ y4 : Option D, ∃ y5 : Option D, ∃ y6 : Option D, ∃ y7 : Option D, ∃ y8 : Option D, ∃ y9 : Option D, ∃ y10 : Option D, s = [.sh v0, .sh v1, .sh v2, .sh v3, .ow t3.1, .ow t3.2.1, .ow t3.2.2.1, .ow t3.2.2.2.1, .ow t3.2.2.2.2.1, jk y4, jk y5, jk y6, jk y7, jk y8, jk y9, jk t3.2.2.2.2.2, jk y10]) (eR1 (e1E rfl ha1) hd2) ht77 ⟨none, none, none, none, none, none, none, rfl⟩ ?_ ?_
  · clear h ht77
    rintro d11 t3 _ _ ⟨y4, y5, y6, y7, y8, y9, y10, rfl⟩ h
    refine ⟨[.sh v0, .sh v1, .sh v2, .sh v3, .ow t3.1, .ow t3.2.1, .ow t3.2.2.1, .ow t3.2.2.2.1, .ow t3.2.2.2.2.1, .sh d11, jk y5, jk y6, jk y7, jk y8, jk y9, jk t3.2.2.2.2.2, jk y10], rfl, ?_⟩
    refine w_assoc ?_
    replace h := bs h; obtain ⟨a12, ha12, h⟩ := h
    refine w_asg [.sh v0, .sh v1, .sh v2, .sh v3, .ow t3.1, .ow t3.2.1, .ow t3.2.2.1, .ow t3.2.2.2.1, .ow t3.2.2.2.2.1, .sh d11, .sh a12, jk y6, jk y7, jk y8, jk y9, jk t3.2.2.2.2.2, jk y10] (e2EE rfl rfl ha12) rfl ?_
    replace h := bs h; obtain ⟨a13, ha13, h⟩ := h
    replace h := bs h; obtain ⟨a14, ha14, h⟩ := h
    replace h := bs h; obtain ⟨b15, hb15, h⟩ := h
    refine w_if (eB (e2EE (e2EE rfl rfl ha13) rfl ha14) hb15) (fun hb => ?_) (fun hb => ?_)
    · replace h := ifT h hb
      refine w_assoc ?_
      replace h := bs h; obtain ⟨a16, ha16, h⟩ := h
      replace h := bs h; obtain ⟨a17, ha17, h⟩ := h
      replace h := bs h; obtain ⟨a18, ha18, h⟩ := h
      replace h := bs h; obtain ⟨a19, ha19, h⟩ := h
      refine w_asg [.sh v0, .sh v1, .sh v2, .sh v3, .ow t3.1, .ow t3.2.1, .ow t3.2.2.1, .ow t3.2.2.2.1, .ow t3.2.2.2.2.1, .sh d11, .sh a12, .sh a19, jk y7, jk y8, jk y9, jk t3.2.2.2.2.2, jk y10] (eFn (dCons_of rfl (dCons_of (e2BE rfl (eNeg rfl ha16) rfl ha17) (dCons_of (e2EE rfl rfl ha18) rfl))) ha19 rfl) rfl ?_
      refine w_assoc ?_
      replace h := bs h; obtain ⟨a20, ha20, h⟩ := h
      refine w_mut [.sh v0, .sh v1, .sh v2, .sh v3, .ow t3.1, .ow t3.2.1, .ow t3.2.2.1, .ow a20, .ow t3.2.2.2.2.1, .sh d11, .sh a12, .sh a19, jk y7, jk y8, jk y9, jk t3.2.2.2.2.2, jk y10] (gApp_l ha20) rfl (dCons_of rfl rfl) rfl ha20 rfl ?_
      replace h := bs h; obtain ⟨a21, ha21, h⟩ := h
      replace h := bs h; obtain ⟨b22, hb22, h⟩ := h
      refine w_if (eB (e2EE rfl rfl ha21) hb22) (fun hb => ?_) (fun hb => ?_)
      · replace h := ifT h hb
        refine w_assoc ?_
        replace h := bs h; obtain ⟨a23, ha23, h⟩ := h
        refine w_mut [.sh v0, .sh v1, .sh v2, .sh v3, .ow a23, .ow t3.2.1, .ow t3.2.2.1, .ow a20, .ow t3.2.2.2.2.1, .sh d11, .sh a12, .sh a19, jk y7, jk y8, jk y9, jk t3.2.2.2.2.2, jk y10] (gApp_l ha23) rfl (dCons_of rfl rfl) rfl ha23 rfl ?_
        replace h := bs h; obtain ⟨a24, ha24, h⟩ := h
        replace h := bs h; obtain ⟨a25, ha25, h⟩ := h
        refine w_mut [.sh v0, .sh v1, .sh v2, .sh v3, .ow a23, .ow a25, .ow t3.2.2.1, .ow a20, .ow t3.2.2.2.2.1, .sh d11, .sh a12, .sh a19, jk y7, jk y8, jk y9, jk t3.2.2.2.2.2, jk y10] (gApp_l ha25) rfl (dCons_of (e2EE rfl rfl ha24) rfl) rfl ha25 rfl ?_
        cases h; exact c_end ⟨(some d11), (some a12), (some a19), y7, y8, y9, y10, rfl⟩
      · replace h := ifF h hb
        refine w_nil ?_
        cases h; exact c_end ⟨(some d11), (some a12), (some a19), y7, y8, y9, y10, rfl⟩
    · replace h := ifF h hb
      replace h := bs h; obtain ⟨a26, ha26, h⟩ := h
      replace h := bs h; obtain ⟨a27, ha27, h⟩ := h
      replace h := bs h; obtain ⟨b28, hb28, h⟩ := h
      refine w_if (eB (e2EE (e2EE rfl rfl ha26) rfl ha27) hb28) (fun hb => ?_) (fun hb => ?_)
      · replace h := ifT h hb
        refine w_assoc ?_
        replace h := bs h; obtain ⟨a29, ha29, h⟩ := h
        replace h := bs h; obtain ⟨a30, ha30, h⟩ := h
        replace h := bs h; obtain ⟨a31, ha31, h⟩ := h
        replace h := bs h; obtain ⟨a32, ha32, h⟩ := h
        replace h := bs h; obtain ⟨a33, ha33, h⟩ := h
        replace h := bs h; obtain ⟨a34, ha34, h⟩ := h
        refine w_mutD [.sh v0, .sh v1, .sh v2, .sh v3, .ow t3.1, .ow t3.2.1, .ow a34, .ow t3.2.2.2.1, .ow t3.2.2.2.2.1, .sh d11, .sh a12, jk y6, jk y7, jk y8, jk y9, jk t3.2.2.2.2.2, jk y10] (gPut_d ha34) rfl (dCons_of (e2EE rfl (e2EE (e1B rfl ha29) (e2EE rfl rfl ha30) ha31) ha32) (dCons_of (e2EE rfl rfl ha33) rfl)) rfl ha34 rfl ?_
        replace h := bs h; obtain ⟨a35, ha35, h⟩ := h
        replace h := bs h; obtain ⟨a36, ha36, h⟩ := h
        replace h := bs h; obtain ⟨a37, ha37, h⟩ := h
        replace h := bs h; obtain ⟨a38, ha38, h⟩ := h
        refine w_mut [.sh v0, .sh v1, .sh v2, .sh v3, .ow t3.1, .ow t3.2.1, .ow a34, .ow a38, .ow t3.2.2.2.2.1, .sh d11, .sh a12, jk y6, jk y7, jk y8, jk y9, jk t3.2.2.2.2.2, jk y10] (gApp_l ha38) rfl (dCons_of (e2BE rfl (e2BE rfl (e2EE rfl rfl ha35) rfl ha36) rfl ha37) rfl) rfl ha38 rfl ?_
        cases h; exact c_end ⟨(some d11), (some a12), y6, y7, y8, y9, y10, rfl⟩
      · replace h := ifF h hb
        refine w_assoc ?_
        replace h := bs h; obtain ⟨a39, ha39, h⟩ := h
        replace h := bs h; obtain ⟨a40, ha40, h⟩ := h
        refine w_par [.sh v0, .sh v1, .sh v2, .sh v3, .ow t3.1, .ow t3.2.1, .ow t3.2.2.1, .ow t3.2.2.2.1, .ow t3.2.2.2.2.1, .sh d11, .sh a12, jk y6, .sh a39, .sh a40, jk y9, jk t3.2.2.2.2.2, jk y10] (e2EE rfl rfl ha39) (e2EE rfl rfl ha40) rfl ?_
        refine w_assoc ?_
        replace h := bs h; obtain ⟨a41, ha41, h⟩ := h
        replace h := bs h; obtain ⟨a46, ha46, h⟩ := h
        refine w_asg [.sh v0, .sh v1, .sh v2, .sh v3, .ow t3.1, .ow t3.2.1, .ow t3.2.2.1, .ow t3.2.2.2.1, .ow t3.2.2.2.2.1, .sh d11, .sh a12, jk y6, .sh a39, .sh a40, .sh a46, jk t3.2.2.2.2.2, jk y10] (eAndV (e2EB rfl rfl ha41) ha46 (fun _ h => by
            replace h := bs h; obtain ⟨a42, ha42, h⟩ := h
            replace h := bs h; obtain ⟨a43, ha43, h⟩ := h
            replace h := bs h; obtain ⟨a44, ha44, h⟩ := h
            replace h := bs h; obtain ⟨a45, ha45, h⟩ := h
            cases h; exact (e2EE (eFn (dCons_of rfl (dCons_of (e2BE rfl (eNeg rfl ha42) rfl ha43) (dCons_of rfl rfl))) ha44 rfl) rfl ha45))) rfl ?_
        refine w_assoc ?_
        replace h := bs h; obtain ⟨b47, hb47, h⟩ := h
        replace h := bs h; obtain ⟨t48, ht48, h⟩ := h
        refine w_join (fun (t48 : D × Option D) (s : S) => ∃ y49 : Option D, s = [.sh v0, .sh v1, .sh v2, .sh v3, .ow t3.1, .ow t3.2.1, .ow t3.2.2.1, .ow t3.2.2.2.1, .ow t3.2.2.2.2.1, .sh d11, .sh a12, jk y6, .sh a39, .sh a40, .sh t48.1, jk t48.2, jk y49]) t48 (w_if (eB rfl hb47) (fun hb => ?_) (fun hb => ?_)) ?_
        · clear h; have h := ifT ht48 hb; clear ht48
          refine w_assoc ?_
          replace h := bs h; obtain ⟨a50, ha50, h⟩ := h
          replace h := bs h; obtain ⟨a51, ha51, h⟩ := h
          replace h := bs h; obtain ⟨a52, ha52, h⟩ := h
          replace h := bs h; obtain ⟨u53, hu53, h⟩ := h
          replace h := bs h; obtain ⟨a54, ha54, h⟩ := h
          replace h := bs h; obtain ⟨a55, ha55, h⟩ := h
          refine w_par [.sh v0, .sh v1, .sh v2, .sh v3, .ow t3.1, .ow t3.2.1, .ow t3.2.2.1, .ow t3.2.2.2.1, .ow t3.2.2.2.2.1, .sh d11, .sh a12, jk y6, .sh a39, .sh a40, .sh a46, .sh a52, .sh a55] (eSh (eSlB rfl (ePt (e2BE rfl rfl rfl ha50) ha51) rfl rfl ha52) hu53) (e2BE rfl (e2BE rfl rfl rfl ha54) rfl ha55) rfl ?_
          replace h := bs h; obtain ⟨a56, ha56, h⟩ := h
          replace h := bs h; obtain ⟨a57, ha57, h⟩ := h
          replace h := bs h; obtain ⟨a61, ha61, h⟩ := h
          refine w_asg [.sh v0, .sh v1, .sh v2, .sh v3, .ow t3.1, .ow t3.2.1, .ow t3.2.2.1, .ow t3.2.2.2.1, .ow t3.2.2.2.2.1, .sh d11, .sh a12, jk y6, .sh a39, .sh a40, .sh a61, .sh a52, .sh a55] (eAndV (e2EE (eFn (dCons_of rfl (dCons_of rfl (dCons_of rfl rfl))) ha56 rfl) rfl ha57) ha61 (fun _ h => by
              replace h := bs h; obtain ⟨a58, ha58, h⟩ := h
              replace h := bs h; obtain ⟨a59, ha59, h⟩ := h
              replace h := bs h; obtain ⟨b60, hb60, h⟩ := h
              cases h; exact (eNotV (eFn (dCons_of rfl (dCons_of (e2EE rfl rfl ha58) rfl)) ha59 rfl) hb60))) rfl ?_
          cases h; exact n_end ⟨(some a55), rfl⟩
        · clear h; have h := ifF ht48 hb; clear ht48
          refine w_nil ?_
          cases h; exact n_end ⟨y10, rfl⟩
        · rintro _ ⟨y49, rfl⟩
          refine w_assoc ?_
          replace h := bs h; obtain ⟨a62, ha62, h⟩ := h
          refine w_mut [.sh v0, .sh v1, .sh v2, .sh v3, .ow t3.1, .ow t3.2.1, .ow t3.2.2.1, .ow a62, .ow t3.2.2.2.2.1, .sh d11, .sh a12, jk y6, .sh a39, .sh a40, .sh t48.1, jk t48.2, jk y49] (gApp_l ha62) rfl (dCons_of rfl rfl) rfl ha62 rfl ?_
          replace h := bs h; obtain ⟨b63, hb63, h⟩ := h
          refine w_if (eB rfl hb63) (fun hb => ?_) (fun hb => ?_)
          · replace h := ifT h hb
            refine w_assoc ?_
            replace h := bs h; obtain ⟨a64, ha64, h⟩ := h; rw [ha64]
            replace h := bs h; obtain ⟨a65, ha65, h⟩ := h
            replace h := bs h; obtain ⟨a66, ha66, h⟩ := h
            replace h := bs h; obtain ⟨b67, hb67, h⟩ := h
            replace h := bs h; obtain ⟨t68, ht68, h⟩ := h
            refine w_join (fun (t68 : D) (s : S) => s = [.sh v0, .sh v1, .sh v2, .sh v3, .ow t3.1, .ow t3.2.1, .ow t3.2.2.1, .ow a62, .ow t68, .sh d11, .sh a12, jk y6, .sh a39, .sh a40, .sh t48.1, .sh a64, jk y49]) t68 (w_if (eB (eFn (dCons_of rfl (dCons_of (e2EE rfl rfl ha65) rfl)) ha66 rfl) hb67) (fun hb => ?_) (fun hb => ?_)) ?_
            · clear h; have h := ifT ht68 hb; clear ht68
              replace h := bs h; obtain ⟨a69, ha69, h⟩ := h
              refine w_mut [.sh v0, .sh v1, .sh v2, .sh v3, .ow t3.1, .ow t3.2.1, .ow t3.2.2.1, .ow a62, .ow a69, .sh d11, .sh a12, jk y6, .sh a39, .sh a40, .sh t48.1, .sh a64, jk y49] (gApp_l ha69) rfl (dCons_of rfl rfl) rfl ha69 rfl ?_
              cases h; exact n_end rfl
            · clear h; have h := ifF ht68 hb; clear ht68
              refine w_nil ?_
              cases h; exact n_end rfl
            · rintro _ rfl
              refine w_assoc ?_
              replace h := bs h; obtain ⟨a70, ha70, h⟩ := h
              replace h := bs h; obtain ⟨a71, ha71, h⟩ := h
              replace h := bs h; obtain ⟨a72, ha72, h⟩ := h
              replace h := bs h; obtain ⟨a73, ha73, h⟩ := h
              refine w_mut [.sh v0, .sh v1, .sh v2, .sh v3, .ow a73, .ow t3.2.1, .ow t3.2.2.1, .ow a62, .ow t68, .sh d11, .sh a12, jk y6, .sh a39, .sh a40, .sh t48.1, .sh a64, jk y49] (gApp_l ha73) rfl (dCons_of (eFn (dCons_of rfl (dCons_of (e2BE rfl (eNeg rfl ha70) rfl ha71) (dCons_of rfl rfl))) ha72 rfl) rfl) rfl ha73 rfl ?_
              refine w_assoc ?_
              replace h := bs h; obtain ⟨a74, ha74, h⟩ := h
              refine w_mut [.sh v0, .sh v1, .sh v2, .sh v3, .ow a73, .ow a74, .ow t3.2.2.1, .ow a62, .ow t68, .sh d11, .sh a12, jk y6, .sh a39, .sh a40, .sh t48.1, .sh a64, jk y49] (gApp_l ha74) rfl (dCons_of rfl rfl) rfl ha74 rfl ?_
              replace h := bs h; obtain ⟨a75, ha75, h⟩ := h
              replace h := bs h; obtain ⟨a76, ha76, h⟩ := h
              refine w_mutD [.sh v0, .sh v1, .sh v2, .sh v3, .ow a73, .ow a74, .ow a76, .ow a62, .ow t68, .sh d11, .sh a12, jk y6, .sh a39, .sh a40, .sh t48.1, .sh a64, jk y49] (gPut_d ha76) rfl (dCons_of (e1B rfl ha75) (dCons_of rfl rfl)) rfl ha76 rfl ?_
              cases h; exact c_end ⟨(some d11), (some a12), y6, (some a39), (some a40), (some t48.1), y49, rfl⟩
          · replace h := ifF h hb
            refine w_nil ?_
            cases h; exact c_end ⟨(some d11), (some a12), y6, (some a39), (some a40), (some t48.1), y49, rfl⟩
  · rintro _ ⟨y78, y79, y80, y81, y82, y83, y84, rfl⟩
    replace h := bs h; obtain ⟨u85, hu85, h⟩ := h
    replace h := bs h; obtain ⟨u86, hu86, h⟩ := h
    cases h; exact w_retF (dTup_of (dCons_of (eDem rfl hu85 rfl) (dCons_of (eDem rfl hu86 rfl) rfl)) (Nat.le_of_ble_eq_true rfl))
theorem c__law_read {v0 v1 v2 v3 : D} {Q : D → Prop} (h : So (l__law_read v0 v1 v2 v3) Q) : So (cF fs__law_read [v0, v1, v2, v3]) Q := so_cF (fun _ => l__law_read_of) h
theorem q__law_read {v0 v1 v2 v3 r : D} (h : l__law_read v0 v1 v2 v3 = some r) : cF fs__law_read [v0, v1, v2, v3] = some r := cF_ok (l__law_read_of h)
def l__law_log (v0 v1 : D) : Option (D × D) := (cI fs__law_take [v0, (.int 4)]).bd fun q1 => (oAdd (.int 1) q1.1).bd fun a2 => (cI fs__law_take [q1.2, (.int 31)]).bd fun q3 => (lR1 q3.1).bd fun d4 => (lcS (fun d6 m7 => (cI fs__law_entry [m7, v1, a2]).bd fun q8 => some ([q8.1], q8.2)) d4 q3.2).bd fun z9 => some ((.list z9.1), z9.2)
theorem l__law_log_of {v0 v1 : D} {r : D × D} (h : l__law_log v0 v1 = some r) : fs__law_log.f [v0, v1] = some (.ret r.1 r.2) := by
  have e0 : fs__law_log.f = runs true true 4 g__law_log := rfl
  rw [e0]
  unfold g__law_log
  unfold l__law_log at h
  refine fnT ?_
  show Wp (sSeq _ sNil [.io v0, .sh v1, .un, .un]) _
  refine w_assoc ?_
  replace h := bs h; obtain ⟨q1, hq1, h⟩ := h
  replace h := bs h; obtain ⟨a2, ha2, h⟩ := h
  refine w_asg [.io q1.2, .sh v1, .sh a2, .un] (e2EE rfl (eFnI rfl (dCons_of rfl rfl) rfl hq1 rfl rfl) ha2) rfl ?_
  replace h := bs h; obtain ⟨q3, hq3, h⟩ := h
  replace h := bs h; obtain ⟨d4, hd4, h⟩ := h
  replace h := bs h; obtain ⟨z9, hz9, h⟩ := h
  cases h; exact w_retT (eLcS (fun m5 : D => ([.io m5, .sh v1, .sh a2, .un] : S)) (eR1 (eFnI rfl (dCons_of rfl rfl) rfl hq3 rfl rfl) hd4) hz9 (fun d6 m7 _ h => by
      replace h := bs h; obtain ⟨q8, hq8, h⟩ := h
      cases h; exact stT (s1 := [.io m7, .sh v1, .sh a2, .sh d6]) (s2 := [.io m7, .sh v1, .sh a2, .sh d6]) (s3 := [.io q8.2, .sh v1, .sh a2, .sh d6]) rfl rfl rfl (eFnI rfl (dCons_of rfl (dCons_of rfl rfl)) rfl hq8 rfl rfl) rfl rfl)) rfl
theorem c__law_log {v0 v1 : D} {Q : D × D → Prop} (h : So (l__law_log v0 v1) Q) : So (cI fs__law_log [v0, v1]) Q := so_cI (fun _ => l__law_log_of) h
theorem t__law_log {v0 v1 : D} {Q : D → Prop} (h : So (l__law_log v0 v1) fun q => Q q.1) : So (cF fs__law_log [v0, v1]) Q := so_cT (fun _ => l__law_log_of) h
def l__law_good (v0 v1 v2 v3 : D) : Option (D) := (fRepr (.list [v0, v1, v2, v3])).bd fun a1 => (cF fs__law_read [v0, v1, v2, v3]).bd fun a2 => (oIx a2 (.int 1)).bd fun a3 => (fTuple v3).bd fun a4 => (cF fs_faults_in [v0, v1, v2, a4]).bd fun a5 => (fIsi .list a5).bd fun a6 => (asB a6).bd fun b7 => (lOr (!b7) ((oNe a5 a3).bd fun a8 => (asB a8).bd fun b9 => (lOr b9 ((fRepr a5).bd fun a10 => (fRepr a3).bd fun a11 => (oNe a10 a11).bd fun a12 => (asB a12).bd fun b13 => some b13)).bd fun a14 => some a14)).bd fun a15 => if a15 = true then some (.bool false) else (gApp a5 [.none]).bd fun a16 => (cF fs_faults_in [v0, v1, v2, v3]).bd fun a17 => (oEq a17 a3).bd fun a18 => (lAndV a18 ((fRepr (.list [v0, v1, v2, v3])).bd fun a19 => (oEq a19 a1).bd fun a20 => some a20)).bd fun a21 => some a21
theorem l__law_good_of {v0 v1 v2 v3 : D} {r : D} (h : l__law_good v0 v1 v2 v3 = some r) : fs__law_good.f [v0, v1, v2, v3] = some (.ret r .none) := by
  have e0 : fs__law_good.f = runs false false 7 g__law_good := rfl
  rw [e0]
  unfold g__law_good
  unfold l__law_good at h
  refine fnF ?_
  show Wp (sSeq _ sNil [.sh v0, .sh v1, .sh v2, .sh v3, .un, .un, .un]) _
  refine w_assoc ?_
  replace h := bs h; obtain ⟨a1, ha1, h⟩ := h
  refine w_asg [.sh v0, .sh v1, .sh v2, .sh v3, .sh a1, .un, .un] (e1E (dLst_of (dCons_of rfl (dCons_of rfl (dCons_of rfl (dCons_of rfl rfl)))) (Nat.le_of_ble_eq_true rfl)) ha1) rfl ?_
  refine w_assoc ?_
  replace h := bs h; obtain ⟨a2, ha2, h⟩ := h
  replace h := bs h; obtain ⟨a3, ha3, h⟩ := h
  refine w_asg [.sh v0, .sh v1, .sh v2, .sh v3, .sh a1, .sh a3, .un] (e2EE (eFn (dCons_of rfl (dCons_of rfl (dCons_of rfl (dCons_of rfl rfl)))) ha2 rfl) rfl ha3) rfl ?_
  refine w_assoc ?_
  replace h := bs h; obtain ⟨a4, ha4, h⟩ := h
  replace h := bs h; obtain ⟨a5, ha5, h⟩ := h
  refine w_setO [.sh v0, .sh v1, .sh v2, .sh v3, .sh a1, .sh a3, .ow a5] (eFn (dCons_of rfl (dCons_of rfl (dCons_of rfl (dCons_of (e1E rfl ha4) rfl)))) ha5 rfl) rfl ?_
  refine w_assoc ?_
  replace h := bs h; obtain ⟨a6, ha6, h⟩ := h
  replace h := bs h; obtain ⟨b7, hb7, h⟩ := h
  replace h := bs h; obtain ⟨a15, ha15, h⟩ := h
  refine w_if (eOr (dNot_of (eB (e1B rfl ha6) hb7)) ha15 (fun _ h => by
      replace h := bs h; obtain ⟨a8, ha8, h⟩ := h
      replace h := bs h; obtain ⟨b9, hb9, h⟩ := h
      replace h := bs h; obtain ⟨a14, ha14, h⟩ := h
      cases h; exact (eOr (eB (e2BE rfl rfl rfl ha8) hb9) ha14 (fun _ h => by
          replace h := bs h; obtain ⟨a10, ha10, h⟩ := h
          replace h := bs h; obtain ⟨a11, ha11, h⟩ := h
          replace h := bs h; obtain ⟨a12, ha12, h⟩ := h
          replace h := bs h; obtain ⟨b13, hb13, h⟩ := h
          cases h; exact (eB (e2EE (e1B rfl ha10) (e1E rfl ha11) ha12) hb13))))) (fun hb => ?_) (fun hb => ?_)
  · replace h := ifT h hb
    cases h; exact w_retF rfl
  · replace h := ifF h hb
    refine w_nil ?_
    refine w_assoc ?_
    replace h := bs h; obtain ⟨a16, ha16, h⟩ := h
    refine w_mut [.sh v0, .sh v1, .sh v2, .sh v3, .sh a1, .sh a3, .ow a16] (gApp_l ha16) rfl (dCons_of rfl rfl) rfl ha16 rfl ?_
    replace h := bs h; obtain ⟨a17, ha17, h⟩ := h
    replace h := bs h; obtain ⟨a18, ha18, h⟩ := h
    replace h := bs h; obtain ⟨a21, ha21, h⟩ := h
    cases h; exact w_retF (eAndV (e2EE (eFn (dCons_of rfl (dCons_of rfl (dCons_of rfl (dCons_of rfl rfl)))) ha17 rfl) rfl ha18) ha21 (fun _ h => by
        replace h := bs h; obtain ⟨a19, ha19, h⟩ := h
        replace h := bs h; obtain ⟨a20, ha20, h⟩ := h
        cases h; exact (e2EE (e1E (dLst_of (dCons_of rfl (dCons_of rfl (dCons_of rfl (dCons_of rfl rfl)))) (Nat.le_of_ble_eq_true rfl)) ha19) rfl ha20)))
theorem c__law_good {v0 v1 v2 v3 : D} {Q : D → Prop} (h : So (l__law_good v0 v1 v2 v3) Q) : So (cF fs__law_good [v0, v1, v2, v3]) Q := so_cF (fun _ => l__law_good_of) h
theorem q__law_good {v0 v1 v2 v3 r : D} (h : l__law_good v0 v1 v2 v3 = some r) : cF fs__law_good [v0, v1, v2, v3] = some r := cF_ok (l__law_good_of h)
def l_law (v0 : D) : Option (D) := (fLen v0).bd fun a1 => (fMin2 a1 (.int 8)).bd fun a2 => (fMax2 (.int 2) a2).bd fun a3 => (lR1 a3).bd fun d4 => (foldR (fun d14 t5 => (cF fs__law_pile [v0, d14]).bd fun a15 => (cI fs__law_book [a15, (.int 6), (.int 8)]).bd fun q16 => (cI fs__law_marks [q16.2, q16.1, (.int 2)]).bd fun q17 => (lL (.list [(.int 0), (.int 1)])).bd fun d18 => (foldR (fun d24 t19 => (cI fs__law_marks [t19, q16.1, d24]).bd fun q25 => (cI fs__law_log [q25.2, q16.1]).bd fun q26 => (lSh q26.1).bd fun u27 => (cI fs__law_marks [q26.2, q16.1, (.int 1)]).bd fun q28 => (lL (.list [q17.1, q28.1])).bd fun d29 => (foldR (fun d32 t30 => (cF fs__law_good [q16.1, q25.1, d32, q26.1]).bd fun a33 => (asB a33).bd fun b34 => if (!b34) = true then some (.rt (.bool false)) else some (.nx ())) d29 ()).bd fun o44 => match o44 with | .inl t35 => ((cF fs_faults_in [q16.1, q25.1, q25.1, q26.1]).bd fun a37 => (oNe a37 (.list [])).bd fun a38 => (asB a38).bd fun b39 => (lOr b39 ((cF fs_faults_in [q16.1, q17.1, q17.1, q26.1]).bd fun a40 => (oNe a40 (.list [])).bd fun a41 => (asB a41).bd fun b42 => some b42)).bd fun a43 => if a43 = true then some (.rt (.bool false)) else some (.nx q28.2)) | .inr r45 => some (.rt r45)) d18 q17.2).bd fun o51 => match o51 with | .inl t46 => (some (.nx ())) | .inr r52 => some (.rt r52)) d4 ()).bd fun o67 => match o67 with | .inl t53 => ((cF fs_faults_in [(.tuple [(.int 2), (.tuple [(.tuple [(.str "out"), (.tuple [(.int 1), (.int 1)])]), (.tuple [(.str "deed"), (.tuple [(.int 1), (.int 0)])])])]), (.tuple [(.tuple []), (.tuple [(.int 0), (.int 1)])]), (.tuple [(.tuple []), (.tuple [])]), (.list [(.tuple [(.str "look"), (.int 0), (.int 0)]), (.tuple [(.str "come"), (.int 0)]), (.tuple [(.str "do"), (.int 0), (.int 1)]), (.tuple [(.str "do"), (.int 0), (.int 1)]), (.tuple [(.str "look"), (.int 0), (.int 1)]), (.tuple [(.str "do"), (.int 0), (.int 1)])])]).bd fun a62 => (oEq a62 (.list [(.int 2), (.int 5)])).bd fun a63 => (lAndV a63 ((cF fs_faults_in [(.tuple [(.int 2), (.tuple [(.tuple [(.str "out"), (.tuple [(.int 1), (.int 1)])]), (.tuple [(.str "deed"), (.tuple [(.int 1), (.int 0)])])])]), (.tuple [(.tuple []), (.tuple [(.int 0)])]), (.tuple [(.tuple []), (.tuple [])]), (.list [(.tuple [(.str "look"), (.int 0), (.int 0)]), (.tuple [(.str "come"), (.int 0)]), (.tuple [(.str "do"), (.int 0), (.int 1)]), (.tuple [(.str "do"), (.int 0), (.int 1)]), (.tuple [(.str "look"), (.int 0), (.int 1)]), (.tuple [(.str "do"), (.int 0), (.int 1)])])]).bd fun a64 => (oEq a64 (.list [(.int 2)])).bd fun a65 => some a65)).bd fun a66 => some a66) | .inr r68 => some r68
theorem l_law_of {v0 : D} {r : D} (h : l_law v0 = some r) : fs_law.f [v0] = some (.ret r .none) := by
  have e0 : fs_law.f = runs false false 10 g_law := rfl
  rw [e0]
  unfold g_law
  unfold l_law at h
  refine fnF ?_
  show Wp (sSeq _ sNil [.sh v0, .un, .un, .un, .un, .un, .un, .un, .un, .un]) _
  refine w_assoc ?_
  replace h := bs h; obtain ⟨a1, ha1, h⟩ := h
  replace h := bs h; obtain ⟨a2, ha2, h⟩ := h
  replace h := bs h; obtain ⟨a3, ha3, h⟩ := h
  replace h := bs h; obtain ⟨d4, hd4, h⟩ := h
  replace h := bs h; obtain ⟨o67, ho67, h⟩ := h
  refine w_forR (fun (t5 : Unit) (s : S) => ∃ y6 : Option D, ∃ y7 : Sl, ∃ y8 : Option D, ∃ y9 : Option D, ∃ y10 : Option D, ∃ y11 : Option D, ∃ y12 : Option D, ∃ y13 : Option D, s = [.sh v0, jk y6, y7, jk y8, jk y9, jk y10, jk y11, jk y12, jk y13, .un]) RrF (eR1 (e2EE rfl (e2EE (e1E rfl ha1) rfl ha2) ha3) hd4) ho67 ⟨none, .un, none, none, none, none, none, none, rfl⟩ ?_ ?_ ?_
  · clear h ho67
    rintro d14 t5 _ _ ⟨y6, y7, y8, y9, y10, y11, y12, y13, rfl⟩ h
    refine ⟨[.sh v0, .sh d14, y7, jk y8, jk y9, jk y10, jk y11, jk y12, jk y13, .un], rfl, ?_⟩
    refine w_assoc ?_
    replace h := bs h; obtain ⟨a15, ha15, h⟩ := h
    refine w_setO [.sh v0, .sh d14, .ow a15, jk y8, jk y9, jk y10, jk y11, jk y12, jk y13, .un] (eFn (dCons_of rfl (dCons_of rfl rfl)) ha15 rfl) rfl ?_
    refine w_assoc ?_
    replace h := bs h; obtain ⟨q16, hq16, h⟩ := h
    refine w_asg [.sh v0, .sh d14, .ow q16.2, .sh q16.1, jk y9, jk y10, jk y11, jk y12, jk y13, .un] (eFnI rfl (dCons_of rfl (dCons_of rfl rfl)) rfl hq16 rfl rfl) rfl ?_
    refine w_assoc ?_
    replace h := bs h; obtain ⟨q17, hq17, h⟩ := h
    refine w_asg [.sh v0, .sh d14, .ow q17.2, .sh q16.1, .sh q17.1, jk y10, jk y11, jk y12, jk y13, .un] (eFnI rfl (dCons_of rfl (dCons_of rfl rfl)) rfl hq17 rfl rfl) rfl ?_
    replace h := bs h; obtain ⟨d18, hd18, h⟩ := h
    replace h := bs h; obtain ⟨o51, ho51, h⟩ := h
    refine w_forR (fun (t19 : D) (s : S) => ∃ y20 : Option D, ∃ y21 : Option D, ∃ y22 : Option D, ∃ y23 : Option D, s = [.sh v0, .sh d14, .ow t19, .sh q16.1, .sh q17.1, jk y20, jk y21, jk y22, jk y23, .un]) RrF (eItL (eShL (dLst_of (dCons_of rfl (dCons_of rfl rfl)) (Nat.le_of_ble_eq_true rfl))) hd18) ho51 ⟨y10, y11, y12, y13, rfl⟩ ?_ ?_ ?_
    · clear h ho51
      rintro d24 t19 _ _ ⟨y20, y21, y22, y23, rfl⟩ h
      refine ⟨[.sh v0, .sh d14, .ow t19, .sh q16.1, .sh q17.1, .sh d24, jk y21, jk y22, jk y23, .un], rfl, ?_⟩
      refine w_assoc ?_
      replace h := bs h; obtain ⟨q25, hq25, h⟩ := h
      replace h := bs h; obtain ⟨q26, hq26, h⟩ := h
      replace h := bs h; obtain ⟨u27, hu27, h⟩ := h
      refine w_par [.sh v0, .sh d14, .ow q26.2, .sh q16.1, .sh q17.1, .sh d24, .sh q25.1, .sh q26.1, jk y23, .un] (eFnI rfl (dCons_of rfl (dCons_of rfl rfl)) rfl hq25 rfl rfl) (eSh (eFnI rfl (dCons_of rfl rfl) rfl hq26 rfl rfl) hu27) rfl ?_
      refine w_assoc ?_
      replace h := bs h; obtain ⟨q28, hq28, h⟩ := h
      replace h := bs h; obtain ⟨d29, hd29, h⟩ := h
      replace h := bs h; obtain ⟨o44, ho44, h⟩ := h
      refine w_forR (fun (t30 : Unit) (s : S) => ∃ y31 : Option D, s = [.sh v0, .sh d14, .ow q28.2, .sh q16.1, .sh q17.1, .sh d24, .sh q25.1, .sh q26.1, jk y31, .un]) RrF (eItL (eShL (dLst_of (dCons_of rfl (dCons_of (eFnI rfl (dCons_of rfl (dCons_of rfl rfl)) rfl hq28 rfl rfl) rfl)) (Nat.le_of_ble_eq_true rfl))) hd29) ho44 ⟨y23, rfl⟩ ?_ ?_ ?_
      · clear h ho44
        rintro d32 t30 _ _ ⟨y31, rfl⟩ h
        refine ⟨[.sh v0, .sh d14, .ow q28.2, .sh q16.1, .sh q17.1, .sh d24, .sh q25.1, .sh q26.1, .sh d32, .un], rfl, ?_⟩
        replace h := bs h; obtain ⟨a33, ha33, h⟩ := h
        replace h := bs h; obtain ⟨b34, hb34, h⟩ := h
        refine w_if (dNot_of (eB (eFn (dCons_of rfl (dCons_of rfl (dCons_of rfl (dCons_of rfl rfl)))) ha33 rfl) hb34)) (fun hb => ?_) (fun hb => ?_)
        · replace h := ifT h hb
          cases h; exact w_retL rfl rrF
        · replace h := ifF h hb
          refine w_nil ?_
          cases h; exact l_end ⟨(some d32), rfl⟩
      · rintro t35 rfl _ ⟨y36, rfl⟩
        dsimp only at h
        replace h := bs h; obtain ⟨a37, ha37, h⟩ := h
        replace h := bs h; obtain ⟨a38, ha38, h⟩ := h
        replace h := bs h; obtain ⟨b39, hb39, h⟩ := h
        replace h := bs h; obtain ⟨a43, ha43, h⟩ := h
        refine w_if (eOr (eB (e2EE (eFn (dCons_of rfl (dCons_of rfl (dCons_of rfl (dCons_of rfl rfl)))) ha37 rfl) (dLst_of rfl (Nat.le_of_ble_eq_true rfl)) ha38) hb39) ha43 (fun _ h => by
            replace h := bs h; obtain ⟨a40, ha40, h⟩ := h
            replace h := bs h; obtain ⟨a41, ha41, h⟩ := h
            replace h := bs h; obtain ⟨b42, hb42, h⟩ := h
            cases h; exact (eB (e2EE (eFn (dCons_of rfl (dCons_of rfl (dCons_of rfl (dCons_of rfl rfl)))) ha40 rfl) (dLst_of rfl (Nat.le_of_ble_eq_true rfl)) ha41) hb42))) (fun hb => ?_) (fun hb => ?_)
        · replace h := ifT h hb
          cases h; exact w_retL rfl rrF
        · replace h := ifF h hb
          refine w_nil ?_
          cases h; exact l_end ⟨(some d24), (some q25.1), (some q26.1), y36, rfl⟩
      · rintro r45 rfl _ _ hr
        dsimp only at h
        cases h; exact l_rt hr
    · rintro t46 rfl _ ⟨y47, y48, y49, y50, rfl⟩
      dsimp only at h
      cases h; exact l_end ⟨(some d14), (.ow t46), (some q16.1), (some q17.1), y47, y48, y49, y50, rfl⟩
    · rintro r52 rfl _ _ hr
      dsimp only at h
      cases h; exact l_rt hr
  · rintro t53 rfl _ ⟨y54, y55, y56, y57, y58, y59, y60, y61, rfl⟩
    dsimp only at h
    refine w_assoc ?_
    refine w_asg [.sh v0, jk y54, y55, jk y56, jk y57, jk y58, jk y59, jk y60, jk y61, .sh (.tuple [(.int 2), (.tuple [(.tuple [(.str "out"), (.tuple [(.int 1), (.int 1)])]), (.tuple [(.str "deed"), (.tuple [(.int 1), (.int 0)])])])])] (dTup_of (dCons_of rfl (dCons_of (dTup_of (dCons_of (dTup_of (dCons_of rfl (dCons_of (dTup_of (dCons_of rfl (dCons_of rfl rfl)) (Nat.le_of_ble_eq_true rfl)) rfl)) (Nat.le_of_ble_eq_true rfl)) (dCons_of (dTup_of (dCons_of rfl (dCons_of (dTup_of (dCons_of rfl (dCons_of rfl rfl)) (Nat.le_of_ble_eq_true rfl)) rfl)) (Nat.le_of_ble_eq_true rfl)) rfl)) (Nat.le_of_ble_eq_true rfl)) rfl)) (Nat.le_of_ble_eq_true rfl)) rfl ?_
    refine w_assoc ?_
    refine w_asg [.sh v0, jk y54, y55, jk y56, jk y57, jk y58, jk y59, .sh (.list [(.tuple [(.str "look"), (.int 0), (.int 0)]), (.tuple [(.str "come"), (.int 0)]), (.tuple [(.str "do"), (.int 0), (.int 1)]), (.tuple [(.str "do"), (.int 0), (.int 1)]), (.tuple [(.str "look"), (.int 0), (.int 1)]), (.tuple [(.str "do"), (.int 0), (.int 1)])]), jk y61, .sh (.tuple [(.int 2), (.tuple [(.tuple [(.str "out"), (.tuple [(.int 1), (.int 1)])]), (.tuple [(.str "deed"), (.tuple [(.int 1), (.int 0)])])])])] (eShL (dLst_of (dCons_of (dTup_of (dCons_of rfl (dCons_of rfl (dCons_of rfl rfl))) (Nat.le_of_ble_eq_true rfl)) (dCons_of (dTup_of (dCons_of rfl (dCons_of rfl rfl)) (Nat.le_of_ble_eq_true rfl)) (dCons_of (dTup_of (dCons_of rfl (dCons_of rfl (dCons_of rfl rfl))) (Nat.le_of_ble_eq_true rfl)) (dCons_of (dTup_of (dCons_of rfl (dCons_of rfl (dCons_of rfl rfl))) (Nat.le_of_ble_eq_true rfl)) (dCons_of (dTup_of (dCons_of rfl (dCons_of rfl (dCons_of rfl rfl))) (Nat.le_of_ble_eq_true rfl)) (dCons_of (dTup_of (dCons_of rfl (dCons_of rfl (dCons_of rfl rfl))) (Nat.le_of_ble_eq_true rfl)) rfl)))))) (Nat.le_of_ble_eq_true rfl))) rfl ?_
    replace h := bs h; obtain ⟨a62, ha62, h⟩ := h
    replace h := bs h; obtain ⟨a63, ha63, h⟩ := h
    replace h := bs h; obtain ⟨a66, ha66, h⟩ := h
    cases h; exact w_retF (eAndV (e2EE (eFn (dCons_of rfl (dCons_of (dTup_of (dCons_of (dTup_of rfl (Nat.le_of_ble_eq_true rfl)) (dCons_of (dTup_of (dCons_of rfl (dCons_of rfl rfl)) (Nat.le_of_ble_eq_true rfl)) rfl)) (Nat.le_of_ble_eq_true rfl)) (dCons_of (dTup_of (dCons_of (dTup_of rfl (Nat.le_of_ble_eq_true rfl)) (dCons_of (dTup_of rfl (Nat.le_of_ble_eq_true rfl)) rfl)) (Nat.le_of_ble_eq_true rfl)) (dCons_of rfl rfl)))) ha62 rfl) (dLst_of (dCons_of rfl (dCons_of rfl rfl)) (Nat.le_of_ble_eq_true rfl)) ha63) ha66 (fun _ h => by
        replace h := bs h; obtain ⟨a64, ha64, h⟩ := h
        replace h := bs h; obtain ⟨a65, ha65, h⟩ := h
        cases h; exact (e2EE (eFn (dCons_of rfl (dCons_of (dTup_of (dCons_of (dTup_of rfl (Nat.le_of_ble_eq_true rfl)) (dCons_of (dTup_of (dCons_of rfl rfl) (Nat.le_of_ble_eq_true rfl)) rfl)) (Nat.le_of_ble_eq_true rfl)) (dCons_of (dTup_of (dCons_of (dTup_of rfl (Nat.le_of_ble_eq_true rfl)) (dCons_of (dTup_of rfl (Nat.le_of_ble_eq_true rfl)) rfl)) (Nat.le_of_ble_eq_true rfl)) (dCons_of rfl rfl)))) ha64 rfl) (dLst_of (dCons_of rfl rfl) (Nat.le_of_ble_eq_true rfl)) ha65)))
  · rintro r68 rfl _ _ hr
    dsimp only at h
    cases h; exact rrFq hr
theorem c_law {v0 : D} {Q : D → Prop} (h : So (l_law v0) Q) : So (cF fs_law [v0]) Q := so_cF (fun _ => l_law_of) h
theorem q_law {v0 r : D} (h : l_law v0 = some r) : cF fs_law [v0] = some r := cF_ok (l_law_of h)
end Od

namespace Od
open PySem PySem.Spec PyProof.Rows L2
/-! piles -/
abbrev pD (p : Int) : D := .list [.int p]
theorem take_c (p n : Int) (hn : 0 < n) (hb : n < 2 ^ 64) : cI fs__law_take [pD p, .int n] = some (.int (p % n), pD (p / n)) := by
  refine so_eq (c__law_take (so_of (a := (.int (p % n), pD (p / n))) ?_ rfl))
  unfold l__law_take
  simp -dsimp -implicitDefEqProofs only [bind_some', asB_b, asI_i, lL_l, lT_t, lS_l, lS_t, lSh_l, lSh_d, lTup2_t, lTup3_t, lAndV_t, lAndV_f, lOrV_t, lOrV_f, lAnd_t, lAnd_f, lOr_t, lOr_f, lAndV_b, lOrV_b, lAnd_b, lOr_b, lZip_l, lZip_t, fLen_l, fLen_t, fTuple_l, fTuple_t, fList_l, fList_t, fInt_i, fInt_b, oIx_l, oIx_t, oAdd_i, oSub_i, oLt_i, oLe_i, oGt_i, oGe_i, oIs_n, oIsNot_n, isNone_o, isNone_i, isNone_n, isNone_l, isNone_t, oEq_int, oNe_int, oEq_str, oNe_str, slT_f, slT_t, atD_0, atD_1, atD_2, atD_3, atD_4, atD_nat, fIsi_n, fIsi_i, fIsi_b, fIsi_s, fIsi_l, fIsi_t, fIsi2_n, fIsi2_i, fIsi2_b, fIsi2_s, fIsi2_l, fIsi2_t, oD_some, oD_none, Option.isSome_some, Option.isSome_none, List.length_cons, List.length_nil, List.length_map, List.getElem?_cons_zero, List.getElem?_cons_succ, Option.map_some, Option.map_none, List.getElem?_map, if_true, if_false, ite_true, ite_false, ↓reduceIte, Bool.not_true, Bool.not_false, Bool.true_and, Bool.false_and, Bool.and_true, Bool.and_false, Bool.true_or, Bool.false_or, Bool.or_true, Bool.or_false, Bool.not_not, decide_true, decide_false, Int.cast_ofNat_Int, Int.reduceAdd, Int.reduceSub, Int.reduceMul, Nat.reduceAdd, Nat.zero_add, reduceCtorEq, oMod_i, oDiv_i, cMod_of hn, cDiv_of hn hb]
  rfl
theorem take_so (p : Int) (n : Nat) (hn : 0 < n) (hb : n < 2 ^ 62) : So (cI fs__law_take [pD p, .int n]) fun q => ∃ (j : Nat) (p' : Int), j < n ∧ q = (.int j, pD p') := by
  refine so_of (take_c p n (by omega) (by omega)) ⟨(p % n).toNat, p / n, ?_, ?_⟩
  · have := Int.emod_lt_of_pos p (show (0 : Int) < n by omega)
    have := Int.emod_nonneg p (show (n : Int) ≠ 0 by omega)
    omega
  · rw [Int.toNat_of_nonneg (Int.emod_nonneg p (show (n : Int) ≠ 0 by omega))]
theorem mixed_so (c k : Int) (hk : k.natAbs < 2 ^ 64) : So (cF fs__law_mixed [.int c, .int k]) fun d => ∃ r : Int, 0 ≤ r ∧ r < 2 ^ 31 ∧ d = .int r := by
  have f1 : cMul (c % 2147483647) 48271 = true := cMul_of 31 16 (by omega) (by omega) (by omega)
  have f2 : cMul k 69621 = true := cMul_of 64 17 hk (by omega) (by omega)
  have m1 : ∀ x, cMod x 2147483647 = true := fun x => cMod_of (by omega)
  have m2 : ∀ x, cMod x 2147483629 = true := fun x => cMod_of (by omega)
  have m3 : ∀ x, cMod x 2147483587 = true := fun x => cMod_of (by omega)
  have m4 : ∀ x, cMod x 2147483579 = true := fun x => cMod_of (by omega)
  refine c__law_mixed ?_
  unfold l__law_mixed
  generalize hn : (c % 2147483647 * 48271 + k * 69621 + 1048583) % 2147483629 = n1
  simp -dsimp -implicitDefEqProofs only [bind_some', asB_b, asI_i, lL_l, lT_t, lS_l, lS_t, lSh_l, lSh_d, lTup2_t, lTup3_t, lAndV_t, lAndV_f, lOrV_t, lOrV_f, lAnd_t, lAnd_f, lOr_t, lOr_f, lAndV_b, lOrV_b, lAnd_b, lOr_b, lZip_l, lZip_t, fLen_l, fLen_t, fTuple_l, fTuple_t, fList_l, fList_t, fInt_i, fInt_b, oIx_l, oIx_t, oAdd_i, oSub_i, oLt_i, oLe_i, oGt_i, oGe_i, oIs_n, oIsNot_n, isNone_o, isNone_i, isNone_n, isNone_l, isNone_t, oEq_int, oNe_int, oEq_str, oNe_str, slT_f, slT_t, atD_0, atD_1, atD_2, atD_3, atD_4, atD_nat, fIsi_n, fIsi_i, fIsi_b, fIsi_s, fIsi_l, fIsi_t, fIsi2_n, fIsi2_i, fIsi2_b, fIsi2_s, fIsi2_l, fIsi2_t, oD_some, oD_none, Option.isSome_some, Option.isSome_none, List.length_cons, List.length_nil, List.length_map, List.getElem?_cons_zero, List.getElem?_cons_succ, Option.map_some, Option.map_none, List.getElem?_map, if_true, if_false, ite_true, ite_false, ↓reduceIte, Bool.not_true, Bool.not_false, Bool.true_and, Bool.false_and, Bool.and_true, Bool.and_false, Bool.true_or, Bool.false_or, Bool.or_true, Bool.or_false, Bool.not_not, decide_true, decide_false, Int.cast_ofNat_Int, Int.reduceAdd, Int.reduceSub, Int.reduceMul, Nat.reduceAdd, Nat.zero_add, reduceCtorEq, oMul_i, oMod_i, f1, f2, m1, m2, m3, m4, hn]
  generalize hn2 : (n1 * n1) % 2147483587 = n2
  have h2 : cMul n1 n1 = true := cMul_of 31 31 (by omega) (by omega) (by omega)
  have h3 : cMul n2 (n2 + 2) = true := cMul_of 31 32 (by omega) (by omega) (by omega)
  simp -dsimp -implicitDefEqProofs only [bind_some', asB_b, asI_i, lL_l, lT_t, lS_l, lS_t, lSh_l, lSh_d, lTup2_t, lTup3_t, lAndV_t, lAndV_f, lOrV_t, lOrV_f, lAnd_t, lAnd_f, lOr_t, lOr_f, lAndV_b, lOrV_b, lAnd_b, lOr_b, lZip_l, lZip_t, fLen_l, fLen_t, fTuple_l, fTuple_t, fList_l, fList_t, fInt_i, fInt_b, oIx_l, oIx_t, oAdd_i, oSub_i, oLt_i, oLe_i, oGt_i, oGe_i, oIs_n, oIsNot_n, isNone_o, isNone_i, isNone_n, isNone_l, isNone_t, oEq_int, oNe_int, oEq_str, oNe_str, slT_f, slT_t, atD_0, atD_1, atD_2, atD_3, atD_4, atD_nat, fIsi_n, fIsi_i, fIsi_b, fIsi_s, fIsi_l, fIsi_t, fIsi2_n, fIsi2_i, fIsi2_b, fIsi2_s, fIsi2_l, fIsi2_t, oD_some, oD_none, Option.isSome_some, Option.isSome_none, List.length_cons, List.length_nil, List.length_map, List.getElem?_cons_zero, List.getElem?_cons_succ, Option.map_some, Option.map_none, List.getElem?_map, if_true, if_false, ite_true, ite_false, ↓reduceIte, Bool.not_true, Bool.not_false, Bool.true_and, Bool.false_and, Bool.and_true, Bool.and_false, Bool.true_or, Bool.false_or, Bool.or_true, Bool.or_false, Bool.not_not, decide_true, decide_false, Int.cast_ofNat_Int, Int.reduceAdd, Int.reduceSub, Int.reduceMul, Nat.reduceAdd, Nat.zero_add, reduceCtorEq, oMul_i, oMod_i, m3, h2, hn2, h3, m4]
  exact so_ret ⟨_, by omega, by omega, rfl⟩
theorem natAbs_lt {p : Int} {a : Nat} (h0 : 0 ≤ p) (h1 : p < 2 ^ a) : p.natAbs < 2 ^ a := by
  have e : ((2 ^ a : Nat) : Int) = 2 ^ a := by rw [Int.natCast_pow]; rfl
  omega
theorem scr_len (ns : List Int) : fLen (scrD ns) = some (.int ns.length) := by
  show some (PyData.int ((ns.map PyData.int).length : Nat)) = _
  rw [List.length_map]
theorem scr_at (ns : List Int) (k : Nat) (h : k < ns.length) : oIx (scrD ns) (.int k) = some (.int ns[k]) := by
  show atD (ns.map .int) (k : Int) = _
  rw [atD_nat, List.getElem?_map, List.getElem?_eq_getElem h]
  rfl
theorem pow10_18 : oPow (.int 10) (.int 18) = some (.int (10 ^ 18)) := by kernel_rfl
theorem pow10_60 : oPow (.int 10) (.int 60) = some (.int (10 ^ 60)) := by kernel_rfl
theorem pile_so (ns : List Int) (k : Nat) (hk : k < 64) : So (cF fs__law_pile [scrD ns, .int k]) fun d => ∃ p, d = pD p := by
  refine c__law_pile ?_
  unfold l__law_pile
  simp -dsimp -implicitDefEqProofs only [bind_some', asB_b, asI_i, lL_l, lT_t, lS_l, lS_t, lSh_l, lSh_d, lTup2_t, lTup3_t, lAndV_t, lAndV_f, lOrV_t, lOrV_f, lAnd_t, lAnd_f, lOr_t, lOr_f, lAndV_b, lOrV_b, lAnd_b, lOr_b, lZip_l, lZip_t, fLen_l, fLen_t, fTuple_l, fTuple_t, fList_l, fList_t, fInt_i, fInt_b, oIx_l, oIx_t, oAdd_i, oSub_i, oLt_i, oLe_i, oGt_i, oGe_i, oIs_n, oIsNot_n, isNone_o, isNone_i, isNone_n, isNone_l, isNone_t, oEq_int, oNe_int, oEq_str, oNe_str, slT_f, slT_t, atD_0, atD_1, atD_2, atD_3, atD_4, atD_nat, fIsi_n, fIsi_i, fIsi_b, fIsi_s, fIsi_l, fIsi_t, fIsi2_n, fIsi2_i, fIsi2_b, fIsi2_s, fIsi2_l, fIsi2_t, oD_some, oD_none, Option.isSome_some, Option.isSome_none, List.length_cons, List.length_nil, List.length_map, List.getElem?_cons_zero, List.getElem?_cons_succ, Option.map_some, Option.map_none, List.getElem?_map, if_true, if_false, ite_true, ite_false, ↓reduceIte, Bool.not_true, Bool.not_false, Bool.true_and, Bool.false_and, Bool.and_true, Bool.and_false, Bool.true_or, Bool.false_or, Bool.or_true, Bool.or_false, Bool.not_not, decide_true, decide_false, Int.cast_ofNat_Int, Int.reduceAdd, Int.reduceSub, Int.reduceMul, Nat.reduceAdd, Nat.zero_add, reduceCtorEq, scr_len]
  refine so_bind (fun d => ∃ c : Int, d = .int c) ?_ ?_
  · refine so_if (fun h => ?_) fun h => so_ret ⟨0, rfl⟩
    have hl : k < ns.length := by have := of_decide_eq_true h; omega
    rw [scr_at ns k hl]
    exact so_ret ⟨_, rfl⟩
  · rintro _ ⟨c, rfl⟩
    have c3 : cMul (10 ^ 60) (10 ^ 60) = true := by kernel_rfl
    have c4 : cMul (10 ^ 60 * 10 ^ 60) (10 ^ 60) = true := by kernel_rfl
    have c5 : cMul (10 ^ 60 * 10 ^ 60 * 10 ^ 60) (10 ^ 60) = true := by kernel_rfl
    have c6 : ∀ x, cMod x (10 ^ 60 * 10 ^ 60 * 10 ^ 60 * 10 ^ 60) = true := fun x => cMod_of (by decide +kernel)
    simp -dsimp -implicitDefEqProofs only [pow10_18, bind_some', oGe_i, asB_b]
    refine so_if (fun _ => ?_) fun _ => ?_
    · simp -dsimp -implicitDefEqProofs only [pow10_60, bind_some', oSub_i, fInt_i, oMul_i, oMod_i, c3, c4, c5, c6, if_true, ite_true]
      exact so_ret ⟨_, rfl⟩
    · rw [show lR1 (.int 24) = some ((List.range 24).map fun k => .int (k : Nat)) from lR1_n 24 (by omega)]
      rw [bind_some']
      refine so_bind _ (so_fold (fun j t => ∃ p : Int, 0 ≤ p ∧ p < 2 ^ (33 * j + 1) ∧ t = .int p) ⟨0, by omega, by omega, rfl⟩ ?_) ?_
      · rintro j d _ hd ⟨p, p0, p1, rfl⟩
        rw [List.getElem?_map] at hd
        obtain ⟨i, e, rfl⟩ := Option.map_eq_some_iff.mp hd
        obtain ⟨hl, e2⟩ := List.getElem?_eq_some_iff.mp e
        rw [List.getElem_range] at e2
        subst e2
        rw [List.length_range] at hl
        have jj : (j : Int) * j ≤ 24 * 24 := Int.mul_le_mul (by omega) (by omega) (by omega) (by omega)
        have j0 : 0 ≤ (j : Int) * j := Int.mul_nonneg (by omega) (by omega)
        have m0 : cMul p 2147483579 = true := cMul_of (33 * j + 1) 31 (natAbs_lt p0 p1) (by omega) (by omega)
        have m1 : cMul 7 (k : Int) = true := cMul_of 3 6 (by omega) (by omega) (by omega)
        have m2 : cMul 100 (j : Int) = true := cMul_of 7 6 (by omega) (by omega) (by omega)
        have m3 : cMul (j : Int) (j : Int) = true := cMul_of 6 6 (by omega) (by omega) (by omega)
        simp -dsimp -implicitDefEqProofs only [bind_some', asB_b, asI_i, lL_l, lT_t, lS_l, lS_t, lSh_l, lSh_d, lTup2_t, lTup3_t, lAndV_t, lAndV_f, lOrV_t, lOrV_f, lAnd_t, lAnd_f, lOr_t, lOr_f, lAndV_b, lOrV_b, lAnd_b, lOr_b, lZip_l, lZip_t, fLen_l, fLen_t, fTuple_l, fTuple_t, fList_l, fList_t, fInt_i, fInt_b, oIx_l, oIx_t, oAdd_i, oSub_i, oLt_i, oLe_i, oGt_i, oGe_i, oIs_n, oIsNot_n, isNone_o, isNone_i, isNone_n, isNone_l, isNone_t, oEq_int, oNe_int, oEq_str, oNe_str, slT_f, slT_t, atD_0, atD_1, atD_2, atD_3, atD_4, atD_nat, fIsi_n, fIsi_i, fIsi_b, fIsi_s, fIsi_l, fIsi_t, fIsi2_n, fIsi2_i, fIsi2_b, fIsi2_s, fIsi2_l, fIsi2_t, oD_some, oD_none, Option.isSome_some, Option.isSome_none, List.length_cons, List.length_nil, List.length_map, List.getElem?_cons_zero, List.getElem?_cons_succ, Option.map_some, Option.map_none, List.getElem?_map, if_true, if_false, ite_true, ite_false, ↓reduceIte, Bool.not_true, Bool.not_false, Bool.true_and, Bool.false_and, Bool.and_true, Bool.and_false, Bool.true_or, Bool.false_or, Bool.or_true, Bool.or_false, Bool.not_not, decide_true, decide_false, Int.cast_ofNat_Int, Int.reduceAdd, Int.reduceSub, Int.reduceMul, Nat.reduceAdd, Nat.zero_add, reduceCtorEq, oMul_i, m0, m1, m2, m3]
        refine so_bind _ (mixed_so c (7 * (k : Int) + 100 * (j : Int) + (j : Int) * (j : Int)) (by omega)) ?_
        rintro _ ⟨r, r0, r1, rfl⟩
        refine so_ret ⟨p * 2147483579 + r, by omega, ?_, rfl⟩
        have e : (2 : Int) ^ (33 * (j + 1) + 1) = 2 ^ (33 * j + 1) * 2 ^ 33 := by rw [← Int.pow_add]; congr 1
        omega
      · rintro _ ⟨p, _, _, rfl⟩
        exact so_ret ⟨p, rfl⟩
theorem pick_so (p : Int) (ds : List D) (h0 : ds ≠ []) (h1 : ds.length < 2 ^ 62) : So (cI fs__law_pick [pD p, .list ds]) fun q => ∃ (d : D) (p' : Int), d ∈ ds ∧ q = (d, pD p') := by
  refine c__law_pick ?_
  unfold l__law_pick
  simp -dsimp -implicitDefEqProofs only [bind_some', asB_b, asI_i, lL_l, lT_t, lS_l, lS_t, lSh_l, lSh_d, lTup2_t, lTup3_t, lAndV_t, lAndV_f, lOrV_t, lOrV_f, lAnd_t, lAnd_f, lOr_t, lOr_f, lAndV_b, lOrV_b, lAnd_b, lOr_b, lZip_l, lZip_t, fLen_l, fLen_t, fTuple_l, fTuple_t, fList_l, fList_t, fInt_i, fInt_b, oIx_l, oIx_t, oAdd_i, oSub_i, oLt_i, oLe_i, oGt_i, oGe_i, oIs_n, oIsNot_n, isNone_o, isNone_i, isNone_n, isNone_l, isNone_t, oEq_int, oNe_int, oEq_str, oNe_str, slT_f, slT_t, atD_0, atD_1, atD_2, atD_3, atD_4, atD_nat, fIsi_n, fIsi_i, fIsi_b, fIsi_s, fIsi_l, fIsi_t, fIsi2_n, fIsi2_i, fIsi2_b, fIsi2_s, fIsi2_l, fIsi2_t, oD_some, oD_none, Option.isSome_some, Option.isSome_none, List.length_cons, List.length_nil, List.length_map, List.getElem?_cons_zero, List.getElem?_cons_succ, Option.map_some, Option.map_none, List.getElem?_map, if_true, if_false, ite_true, ite_false, ↓reduceIte, Bool.not_true, Bool.not_false, Bool.true_and, Bool.false_and, Bool.and_true, Bool.and_false, Bool.true_or, Bool.false_or, Bool.or_true, Bool.or_false, Bool.not_not, decide_true, decide_false, Int.cast_ofNat_Int, Int.reduceAdd, Int.reduceSub, Int.reduceMul, Nat.reduceAdd, Nat.zero_add, reduceCtorEq]
  refine so_bind _ (take_so p ds.length (List.length_pos_iff.mpr h0) h1) ?_
  rintro _ ⟨j, p', hj, rfl⟩
  simp -dsimp -implicitDefEqProofs only [bind_some', asB_b, asI_i, lL_l, lT_t, lS_l, lS_t, lSh_l, lSh_d, lTup2_t, lTup3_t, lAndV_t, lAndV_f, lOrV_t, lOrV_f, lAnd_t, lAnd_f, lOr_t, lOr_f, lAndV_b, lOrV_b, lAnd_b, lOr_b, lZip_l, lZip_t, fLen_l, fLen_t, fTuple_l, fTuple_t, fList_l, fList_t, fInt_i, fInt_b, oIx_l, oIx_t, oAdd_i, oSub_i, oLt_i, oLe_i, oGt_i, oGe_i, oIs_n, oIsNot_n, isNone_o, isNone_i, isNone_n, isNone_l, isNone_t, oEq_int, oNe_int, oEq_str, oNe_str, slT_f, slT_t, atD_0, atD_1, atD_2, atD_3, atD_4, atD_nat, fIsi_n, fIsi_i, fIsi_b, fIsi_s, fIsi_l, fIsi_t, fIsi2_n, fIsi2_i, fIsi2_b, fIsi2_s, fIsi2_l, fIsi2_t, oD_some, oD_none, Option.isSome_some, Option.isSome_none, List.length_cons, List.length_nil, List.length_map, List.getElem?_cons_zero, List.getElem?_cons_succ, Option.map_some, Option.map_none, List.getElem?_map, if_true, if_false, ite_true, ite_false, ↓reduceIte, Bool.not_true, Bool.not_false, Bool.true_and, Bool.false_and, Bool.and_true, Bool.and_false, Bool.true_or, Bool.false_or, Bool.or_true, Bool.or_false, Bool.not_not, decide_true, decide_false, Int.cast_ofNat_Int, Int.reduceAdd, Int.reduceSub, Int.reduceMul, Nat.reduceAdd, Nat.zero_add, reduceCtorEq, List.getElem?_eq_getElem hj]
  exact so_ret ⟨_, _, List.getElem_mem hj, rfl⟩
end Od

namespace Od
open PySem PySem.Spec PyProof.Rows L2
/-! books -/
def ksD (b : Bk) : D := .tuple (b.ks.map kindD)
theorem bk0 (b : Bk) : oIx (bkD b) (.int 0) = some (.int b.m) := rfl
theorem bk1 (b : Bk) : oIx (bkD b) (.int 1) = some (ksD b) := rfl
theorem ksLen (b : Bk) : fLen (ksD b) = some (.int b.ks.length) := by
  unfold ksD; rw [fLen_t, List.length_map]
theorem ksAt (b : Bk) (k : Nat) : oIx (ksD b) (.int k) = (b.ks[k]?).map kindD := by
  unfold ksD; rw [oIx_t, atD_nat, List.getElem?_map]
theorem kind0 (q : Bool × List (Option Nat)) : oIx (kindD q) (.int 0) = some (whoD q.1) := rfl
theorem kind1 (q : Bool × List (Option Nat)) : oIx (kindD q) (.int 1) = some (.tuple (q.2.map oD)) := rfl
theorem kindT (q : Bool × List (Option Nat)) : lTup2 (kindD q) = some (whoD q.1, .tuple (q.2.map oD)) := rfl
theorem stAt (l : List (Option Nat)) (s : Nat) : oIx (.tuple (l.map oD)) (.int s) = (l[s]?).map oD := by
  rw [oIx_t, atD_nat, List.getElem?_map]
theorem Bk.at_eq {b : Bk} {k : Nat} (hk : k < b.ks.length) (s : Nat) (hs : s < (b.ks[k]).2.length) : b.at s k = (b.ks[k]).2[s] := by
  unfold Bk.at
  rw [List.getElem?_eq_getElem hk]
  show (((b.ks[k]).2[s]?).bind id) = _
  rw [List.getElem?_eq_getElem hs]
  rfl
theorem who_eq (b : Bool) : oEq (whoD b) (.str "deed") = some (.bool b) := by cases b <;> kernel_rfl
theorem who_out (b : Bool) : oEq (whoD b) (.str "out") = some (.bool (!b)) := by cases b <;> kernel_rfl
/-- behind, however it is called -/
theorem behind_l {b : Bk} (ok : b.Ok) {s k : Nat} (hs : s < b.m) (hk : k < b.ks.length) : ((oIx (bkD b) (.int 1)).bd fun a1 => (oIx a1 (.int k)).bd fun a2 => (oIx a2 (.int 1)).bd fun a3 => (oIx a3 (.int s)).bd fun a4 => some a4) = some (oD (b.at s k)) := by
  have hl := ok.len _ (List.getElem_mem hk)
  have hs2 : s < (b.ks[k]).2.length := by omega
  simp -dsimp -implicitDefEqProofs only [bind_some', asB_b, asI_i, lL_l, lT_t, lS_l, lS_t, lSh_l, lSh_d, lTup2_t, lTup3_t, lAndV_t, lAndV_f, lOrV_t, lOrV_f, lAnd_t, lAnd_f, lOr_t, lOr_f, lAndV_b, lOrV_b, lAnd_b, lOr_b, lZip_l, lZip_t, fLen_l, fLen_t, fTuple_l, fTuple_t, fList_l, fList_t, fInt_i, fInt_b, oIx_l, oIx_t, oAdd_i, oSub_i, oLt_i, oLe_i, oGt_i, oGe_i, oIs_n, oIsNot_n, isNone_o, isNone_i, isNone_n, isNone_l, isNone_t, oEq_int, oNe_int, oEq_str, oNe_str, slT_f, slT_t, atD_0, atD_1, atD_2, atD_3, atD_4, atD_nat, fIsi_n, fIsi_i, fIsi_b, fIsi_s, fIsi_l, fIsi_t, fIsi2_n, fIsi2_i, fIsi2_b, fIsi2_s, fIsi2_l, fIsi2_t, oD_some, oD_none, Option.isSome_some, Option.isSome_none, List.length_cons, List.length_nil, List.length_map, List.getElem?_cons_zero, List.getElem?_cons_succ, Option.map_some, Option.map_none, List.getElem?_map, if_true, if_false, ite_true, ite_false, ↓reduceIte, Bool.not_true, Bool.not_false, Bool.true_and, Bool.false_and, Bool.and_true, Bool.and_false, Bool.true_or, Bool.false_or, Bool.or_true, Bool.or_false, Bool.not_not, decide_true, decide_false, Int.cast_ofNat_Int, Int.reduceAdd, Int.reduceSub, Int.reduceMul, Nat.reduceAdd, Nat.zero_add, reduceCtorEq, bk1, ksAt, List.getElem?_eq_getElem hk, kind1, stAt, List.getElem?_eq_getElem hs2, Bk.at_eq hk s hs2]
/-! rows -/
def IsRow (d : D) (r : List Nat) : Prop := d = .list (natL r) ∨ d = .tuple (natL r)
theorem IsRow.s {d : D} {r : List Nat} (h : IsRow d r) : lS d = some (natL r) := by rcases h with rfl | rfl <;> rfl
theorem natL_len (r : List Nat) : (natL r).length = r.length := List.length_map _
theorem natL_ne {r : List Nat} (h : r ≠ []) : natL r ≠ [] := by
  cases r with
  | nil => exact absurd rfl h
  | cons _ _ => exact nofun
theorem emp_f {r : List Nat} (h : (!r.isEmpty) = true) : r ≠ [] := by
  rintro rfl; cases h
theorem nodup_le : ∀ (m : Nat) (l : List Nat), l.Nodup → (∀ x ∈ l, x < m) → l.length ≤ m
  | 0, l, _, h => by
    cases l with
    | nil => exact Nat.le_refl _
    | cons x l => exact absurd (h x List.mem_cons_self) (Nat.not_lt_zero _)
  | m + 1, l, nd, h => by
    by_cases hm : m ∈ l
    · have z := nodup_le m (l.erase m) (nd.erase m) fun x hx => by
        have h1 := h x (List.mem_of_mem_erase hx)
        have h2 : x ≠ m := fun e => by subst e; exact (List.Nodup.not_mem_erase nd) hx
        omega
      rw [List.length_erase_of_mem hm] at z
      omega
    · have z := nodup_le m l nd fun x hx => by
        have h1 := h x hx
        have h2 : x ≠ m := fun e => by subst e; exact hm hx
        omega
      omega
theorem nat_pick {r : List Nat} {d : D} (h : d ∈ natL r) : ∃ k ∈ r, d = .int (k : Nat) := by
  obtain ⟨k, hk, rfl⟩ := List.mem_map.mp h
  exact ⟨k, hk, rfl⟩
structure RowOk (b : Bk) (r : List Nat) : Prop where
  lt : ∀ k ∈ r, k < b.ks.length
  len : r.length ≤ 1000
theorem deed_at {b : Bk} {d : Nat} (h : b.deed d = true) : ∃ hd : d < b.ks.length, (b.ks[d]).1 = true := by
  unfold Bk.deed at h
  obtain ⟨q, h1, h2⟩ := Option.map_eq_some_iff.mp (eq_of_beq h)
  obtain ⟨hd, e⟩ := List.getElem?_eq_some_iff.mp h1
  exact ⟨hd, by rw [e]; exact h2⟩
theorem Bk.Ok.at_lt {b : Bk} (ok : b.Ok) {s k t : Nat} (h : b.at s k = some t) : t < b.m := by
  unfold Bk.at at h
  obtain ⟨o, h1, h2⟩ := Option.bind_eq_some_iff.mp h
  obtain ⟨q, h3, h4⟩ := Option.bind_eq_some_iff.mp h1
  have h2 : o = some t := h2
  subst h2
  exact ok.lt q (List.mem_of_getElem? h3) t (List.mem_of_getElem? h4)
theorem led_cons (b : Bk) (t k : Nat) (r : List Nat) : b.led t (k :: r) = (b.at t k).bd fun u => b.led u r := rfl
theorem Bk.Ok.led_lt {b : Bk} (ok : b.Ok) : ∀ {r : List Nat} {s t : Nat}, s < b.m → b.led s r = some t → t < b.m
  | [], s, t, hs, h => by cases h; exact hs
  | k :: r, s, t, hs, h => by
    rw [led_cons] at h
    obtain ⟨u, h1, h2⟩ := Option.bind_eq_some_iff.mp h
    exact ok.led_lt (ok.at_lt h1) h2
/-- the walk along a row, by whichever function tells the step -/
theorem led_l {b : Bk} (ok : b.Ok) {fs : FS} (hf : ∀ s k, s < b.m → k < b.ks.length → cF fs [bkD b, .int (s : Nat), .int (k : Nat)] = some (oD (b.at s k))) : ∀ (r : List Nat) (s : Nat), s < b.m → (∀ k ∈ r, k < b.ks.length) →
    ((foldR (ρ := D) (fun d4 t2 => (cF fs [bkD b, t2, d4]).bd fun a5 => (oIs a5 .none).bd fun a6 => (asB a6).bd fun b7 => if b7 = true then some (.rt .none) else some (.nx a5)) (natL r) (.int s)).bd fun o10 => match o10 with | .inl t8 => (some t8) | .inr r11 => some r11) = some (oD (b.led s r))
  | [], s, _, _ => rfl
  | k :: r, s, hs, hk => by
    have e := hf s k hs (hk k List.mem_cons_self)
    show Option.bind (Option.bind (Option.bind (cF fs [bkD b, .int s, .int k]) _) _) _ = _
    rw [e, led_cons]
    cases h : b.at s k with
    | none => rfl
    | some u => exact led_l ok hf r u (ok.at_lt h) fun x m => hk x (List.mem_cons_of_mem _ m)
/-! trials -/
def Bk.trial (b : Bk) (d : Nat) (ahead between : List Nat) : Prop := ∃ t u, b.led 0 ahead = some t ∧ (b.at t d).isSome = true ∧ b.led t between = some u ∧ (b.at u d).isSome = true
theorem eqv_int (i j : Nat) : PyData.eqv (.int i) (.int j) = decide (i = j) := by
  by_cases h : i = j
  · subst h; rw [decide_eq_true rfl]; simp [PyData.eqv]
  · rw [decide_eq_false h]
    have : ¬ (i : Int) = j := by omega
    simp [PyData.eqv, this]
theorem any_nat (r : List Nat) (k : Nat) : ((natL r).any fun z => PyData.eqv z (.int k)) = r.contains k := by
  induction r with
  | nil => rfl
  | cons x r ih =>
    unfold natL at ih ⊢
    rw [List.map_cons, List.any_cons, ih]
    show (PyData.eqv (.int x) (.int k) || _) = _
    rw [eqv_int, List.contains_cons]
    by_cases h : x = k
    · subst h; simp
    · rw [decide_eq_false h]
      have : (k == x) = false := beq_eq_false_iff_ne.mpr fun z => h z.symm
      rw [this]
theorem shp_nats (r : List Nat) : PyData.canLayAll0 (natL r) = true ∧ PyData.depthAll (natL r) = 0 ∧ noDic.noDics (natL r) = true := by
  induction r with
  | nil => exact ⟨rfl, rfl, rfl⟩
  | cons x r ih =>
    obtain ⟨h1, h2, h3⟩ := ih
    unfold natL at h1 h2 h3 ⊢
    rw [List.map_cons]
    refine ⟨?_, ?_, ?_⟩
    · unfold PyData.canLayAll0
      rw [h1]; rfl
    · unfold PyData.depthAll
      rw [h2]; rfl
    · unfold noDic.noDics
      rw [h3]; rfl
theorem eqOk_row {row : D} {r : List Nat} (hr : IsRow row r) (k : Nat) : eqOk (.int k) row = true := by
  obtain ⟨h1, h2, h3⟩ := shp_nats r
  have e1 : noDic row = true := by
    rcases hr with rfl | rfl <;> exact h3
  have e2 : SeqAt.shaped row = true := by
    unfold SeqAt.shaped
    rcases hr with rfl | rfl
    · unfold PyData.canLay0 PyData.depth
      rw [h1, h2]; rfl
    · unfold PyData.canLay0 PyData.depth
      rw [h1, h2]; rfl
  unfold eqOk
  rw [e1, e2]
  rfl
theorem in_row {row : D} {r : List Nat} (hr : IsRow row r) (k : Nat) : oIn false (.int k) row = some (.bool (r.contains k)) := by
  have e := eqOk_row hr k
  rcases hr with rfl | rfl
  · unfold oIn
    dsimp only
    rw [if_pos e, if_neg (by decide), any_nat]
  · unfold oIn
    dsimp only
    rw [if_pos e, if_neg (by decide), any_nat]
theorem eqOk_nats (r : List Nat) : eqOk (.list (natL r)) (.list []) = true := by
  obtain ⟨h1, h2, h3⟩ := shp_nats r
  unfold eqOk SeqAt.shaped
  have e1 : noDic (.list (natL r)) = true := h3
  have e2 : PyData.canLay0 (.list (natL r)) = true := by unfold PyData.canLay0; exact h1
  have e3 : PyData.depth (.list (natL r)) = 1 := by unfold PyData.depth; rw [h2]
  rw [e1, e2, e3]
  rfl
theorem oNe_nil (r : List Nat) : oNe (.list (natL r)) (.list []) = some (.bool (!r.isEmpty)) := by
  rw [oNe_list_nil _ (eqOk_nats r)]
  cases r <;> rfl
theorem oEq_nil (r : List Nat) : oEq (.list (natL r)) (.list []) = some (.bool r.isEmpty) := by
  rw [oEq_list_nil _ (eqOk_nats r)]
  cases r <;> rfl
end Od

namespace Od
open PySem PySem.Spec PyProof.Rows L2
theorem is_below_c (i m : Int) : cF fs_is_below [.int i, .int m] = some (.bool (decide (0 ≤ i) && decide (i < m))) := by
  refine q_is_below ?_
  unfold l_is_below
  simp -dsimp -implicitDefEqProofs only [bind_some', asB_b, asI_i, lL_l, lT_t, lS_l, lS_t, lSh_l, lSh_d, lTup2_t, lTup3_t, lAndV_t, lAndV_f, lOrV_t, lOrV_f, lAnd_t, lAnd_f, lOr_t, lOr_f, lAndV_b, lOrV_b, lAnd_b, lOr_b, lZip_l, lZip_t, fLen_l, fLen_t, fTuple_l, fTuple_t, fList_l, fList_t, fInt_i, fInt_b, oIx_l, oIx_t, oAdd_i, oSub_i, oLt_i, oLe_i, oGt_i, oGe_i, oIs_n, oIsNot_n, isNone_o, isNone_i, isNone_n, isNone_l, isNone_t, oEq_int, oNe_int, oEq_str, oNe_str, slT_f, slT_t, atD_0, atD_1, atD_2, atD_3, atD_4, atD_nat, fIsi_n, fIsi_i, fIsi_b, fIsi_s, fIsi_l, fIsi_t, fIsi2_n, fIsi2_i, fIsi2_b, fIsi2_s, fIsi2_l, fIsi2_t, oD_some, oD_none, Option.isSome_some, Option.isSome_none, List.length_cons, List.length_nil, List.length_map, List.getElem?_cons_zero, List.getElem?_cons_succ, Option.map_some, Option.map_none, List.getElem?_map, if_true, if_false, ite_true, ite_false, ↓reduceIte, Bool.not_true, Bool.not_false, Bool.true_and, Bool.false_and, Bool.and_true, Bool.and_false, Bool.true_or, Bool.false_or, Bool.or_true, Bool.or_false, Bool.not_not, decide_true, decide_false, Int.cast_ofNat_Int, Int.reduceAdd, Int.reduceSub, Int.reduceMul, Nat.reduceAdd, Nat.zero_add, reduceCtorEq]
theorem is_number_c (b : Bk) (i : Int) : cF fs_is_number [bkD b, .int i] = some (.bool (decide (0 ≤ i) && decide (i < b.ks.length))) := by
  refine q_is_number ?_
  unfold l_is_number
  simp -dsimp -implicitDefEqProofs only [bind_some', asB_b, asI_i, lL_l, lT_t, lS_l, lS_t, lSh_l, lSh_d, lTup2_t, lTup3_t, lAndV_t, lAndV_f, lOrV_t, lOrV_f, lAnd_t, lAnd_f, lOr_t, lOr_f, lAndV_b, lOrV_b, lAnd_b, lOr_b, lZip_l, lZip_t, fLen_l, fLen_t, fTuple_l, fTuple_t, fList_l, fList_t, fInt_i, fInt_b, oIx_l, oIx_t, oAdd_i, oSub_i, oLt_i, oLe_i, oGt_i, oGe_i, oIs_n, oIsNot_n, isNone_o, isNone_i, isNone_n, isNone_l, isNone_t, oEq_int, oNe_int, oEq_str, oNe_str, slT_f, slT_t, atD_0, atD_1, atD_2, atD_3, atD_4, atD_nat, fIsi_n, fIsi_i, fIsi_b, fIsi_s, fIsi_l, fIsi_t, fIsi2_n, fIsi2_i, fIsi2_b, fIsi2_s, fIsi2_l, fIsi2_t, oD_some, oD_none, Option.isSome_some, Option.isSome_none, List.length_cons, List.length_nil, List.length_map, List.getElem?_cons_zero, List.getElem?_cons_succ, Option.map_some, Option.map_none, List.getElem?_map, if_true, if_false, ite_true, ite_false, ↓reduceIte, Bool.not_true, Bool.not_false, Bool.true_and, Bool.false_and, Bool.and_true, Bool.and_false, Bool.true_or, Bool.false_or, Bool.or_true, Bool.or_false, Bool.not_not, decide_true, decide_false, Int.cast_ofNat_Int, Int.reduceAdd, Int.reduceSub, Int.reduceMul, Nat.reduceAdd, Nat.zero_add, reduceCtorEq, bk1, ksLen, is_below_c]
theorem is_number_n (b : Bk) {k : Nat} (h : k < b.ks.length) : cF fs_is_number [bkD b, .int k] = some (.bool true) := by
  rw [is_number_c, decide_eq_true (by omega), decide_eq_true (by omega)]; rfl
theorem is_kind_c {b : Bk} (ok : b.Ok) {q : Bool × List (Option Nat)} (hq : q ∈ b.ks) : cF fs_is_kind [.int b.m, kindD q] = some (.bool true) := by
  have hl := ok.len q hq
  have who : oIn true (whoD q.1) (.tuple [.str "out", .str "deed"]) = some (.bool false) := by
    cases q.1 <;> kernel_rfl
  have all : lc (fun d18 => (oIs d18 .none).bd fun a19 => (lOrV a19 ((cF fs_is_below [d18, .int b.m]).bd fun a20 => some a20)).bd fun a21 => some [a21]) (q.2.map oD) = some (q.2.map fun _ => .bool true) := by
    refine lc_each _ (by have := ok.m1; omega) fun o ho => ?_
    cases o with
    | none => rfl
    | some n =>
      have hn := ok.lt q hq n ho
      have e : cF fs_is_below [.int n, .int b.m] = some (.bool true) := by
        rw [is_below_c, decide_eq_true (by omega), decide_eq_true (by omega)]; rfl
      simp -dsimp -implicitDefEqProofs only [bind_some', asB_b, asI_i, lL_l, lT_t, lS_l, lS_t, lSh_l, lSh_d, lTup2_t, lTup3_t, lAndV_t, lAndV_f, lOrV_t, lOrV_f, lAnd_t, lAnd_f, lOr_t, lOr_f, lAndV_b, lOrV_b, lAnd_b, lOr_b, lZip_l, lZip_t, fLen_l, fLen_t, fTuple_l, fTuple_t, fList_l, fList_t, fInt_i, fInt_b, oIx_l, oIx_t, oAdd_i, oSub_i, oLt_i, oLe_i, oGt_i, oGe_i, oIs_n, oIsNot_n, isNone_o, isNone_i, isNone_n, isNone_l, isNone_t, oEq_int, oNe_int, oEq_str, oNe_str, slT_f, slT_t, atD_0, atD_1, atD_2, atD_3, atD_4, atD_nat, fIsi_n, fIsi_i, fIsi_b, fIsi_s, fIsi_l, fIsi_t, fIsi2_n, fIsi2_i, fIsi2_b, fIsi2_s, fIsi2_l, fIsi2_t, oD_some, oD_none, Option.isSome_some, Option.isSome_none, List.length_cons, List.length_nil, List.length_map, List.getElem?_cons_zero, List.getElem?_cons_succ, Option.map_some, Option.map_none, List.getElem?_map, if_true, if_false, ite_true, ite_false, ↓reduceIte, Bool.not_true, Bool.not_false, Bool.true_and, Bool.false_and, Bool.and_true, Bool.and_false, Bool.true_or, Bool.false_or, Bool.or_true, Bool.or_false, Bool.not_not, decide_true, decide_false, Int.cast_ofNat_Int, Int.reduceAdd, Int.reduceSub, Int.reduceMul, Nat.reduceAdd, Nat.zero_add, reduceCtorEq, e]
  refine q_is_kind ?_
  unfold l_is_kind
  simp -dsimp -implicitDefEqProofs only [bind_some', asB_b, asI_i, lL_l, lT_t, lS_l, lS_t, lSh_l, lSh_d, lTup2_t, lTup3_t, lAndV_t, lAndV_f, lOrV_t, lOrV_f, lAnd_t, lAnd_f, lOr_t, lOr_f, lAndV_b, lOrV_b, lAnd_b, lOr_b, lZip_l, lZip_t, fLen_l, fLen_t, fTuple_l, fTuple_t, fList_l, fList_t, fInt_i, fInt_b, oIx_l, oIx_t, oAdd_i, oSub_i, oLt_i, oLe_i, oGt_i, oGe_i, oIs_n, oIsNot_n, isNone_o, isNone_i, isNone_n, isNone_l, isNone_t, oEq_int, oNe_int, oEq_str, oNe_str, slT_f, slT_t, atD_0, atD_1, atD_2, atD_3, atD_4, atD_nat, fIsi_n, fIsi_i, fIsi_b, fIsi_s, fIsi_l, fIsi_t, fIsi2_n, fIsi2_i, fIsi2_b, fIsi2_s, fIsi2_l, fIsi2_t, oD_some, oD_none, Option.isSome_some, Option.isSome_none, List.length_cons, List.length_nil, List.length_map, List.getElem?_cons_zero, List.getElem?_cons_succ, Option.map_some, Option.map_none, List.getElem?_map, if_true, if_false, ite_true, ite_false, ↓reduceIte, Bool.not_true, Bool.not_false, Bool.true_and, Bool.false_and, Bool.and_true, Bool.and_false, Bool.true_or, Bool.false_or, Bool.or_true, Bool.or_false, Bool.not_not, decide_true, decide_false, Int.cast_ofNat_Int, Int.reduceAdd, Int.reduceSub, Int.reduceMul, Nat.reduceAdd, Nat.zero_add, reduceCtorEq, show fIsi .tuple (kindD q) = some (.bool true) from rfl, show fLen (kindD q) = some (.int 2) from rfl, kindT, who, hl, decide_true, all, fAll_true]
theorem is_book_c {b : Bk} (ok : b.Ok) : cF fs_is_book [bkD b] = some (.bool true) := by
  have h1 := ok.m0
  have h2 := ok.m1
  have h3 := ok.k0
  have h4 := ok.k1
  have e1 : cF fs_is_below [.int b.m, .int 11] = some (.bool true) := by
    rw [is_below_c, decide_eq_true (by omega), decide_eq_true (by omega)]; rfl
  have all : lc (fun d22 => (cF fs_is_kind [.int b.m, d22]).bd fun a23 => some [a23]) (b.ks.map kindD) = some (b.ks.map fun _ => .bool true) := by
    refine lc_each _ (by omega) fun q hq => ?_
    simp -dsimp -implicitDefEqProofs only [bind_some', asB_b, asI_i, lL_l, lT_t, lS_l, lS_t, lSh_l, lSh_d, lTup2_t, lTup3_t, lAndV_t, lAndV_f, lOrV_t, lOrV_f, lAnd_t, lAnd_f, lOr_t, lOr_f, lAndV_b, lOrV_b, lAnd_b, lOr_b, lZip_l, lZip_t, fLen_l, fLen_t, fTuple_l, fTuple_t, fList_l, fList_t, fInt_i, fInt_b, oIx_l, oIx_t, oAdd_i, oSub_i, oLt_i, oLe_i, oGt_i, oGe_i, oIs_n, oIsNot_n, isNone_o, isNone_i, isNone_n, isNone_l, isNone_t, oEq_int, oNe_int, oEq_str, oNe_str, slT_f, slT_t, atD_0, atD_1, atD_2, atD_3, atD_4, atD_nat, fIsi_n, fIsi_i, fIsi_b, fIsi_s, fIsi_l, fIsi_t, fIsi2_n, fIsi2_i, fIsi2_b, fIsi2_s, fIsi2_l, fIsi2_t, oD_some, oD_none, Option.isSome_some, Option.isSome_none, List.length_cons, List.length_nil, List.length_map, List.getElem?_cons_zero, List.getElem?_cons_succ, Option.map_some, Option.map_none, List.getElem?_map, if_true, if_false, ite_true, ite_false, ↓reduceIte, Bool.not_true, Bool.not_false, Bool.true_and, Bool.false_and, Bool.and_true, Bool.and_false, Bool.true_or, Bool.false_or, Bool.or_true, Bool.or_false, Bool.not_not, decide_true, decide_false, Int.cast_ofNat_Int, Int.reduceAdd, Int.reduceSub, Int.reduceMul, Nat.reduceAdd, Nat.zero_add, reduceCtorEq, is_kind_c ok hq]
  refine q_is_book ?_
  unfold l_is_book bkD
  simp -dsimp -implicitDefEqProofs only [bind_some', asB_b, asI_i, lL_l, lT_t, lS_l, lS_t, lSh_l, lSh_d, lTup2_t, lTup3_t, lAndV_t, lAndV_f, lOrV_t, lOrV_f, lAnd_t, lAnd_f, lOr_t, lOr_f, lAndV_b, lOrV_b, lAnd_b, lOr_b, lZip_l, lZip_t, fLen_l, fLen_t, fTuple_l, fTuple_t, fList_l, fList_t, fInt_i, fInt_b, oIx_l, oIx_t, oAdd_i, oSub_i, oLt_i, oLe_i, oGt_i, oGe_i, oIs_n, oIsNot_n, isNone_o, isNone_i, isNone_n, isNone_l, isNone_t, oEq_int, oNe_int, oEq_str, oNe_str, slT_f, slT_t, atD_0, atD_1, atD_2, atD_3, atD_4, atD_nat, fIsi_n, fIsi_i, fIsi_b, fIsi_s, fIsi_l, fIsi_t, fIsi2_n, fIsi2_i, fIsi2_b, fIsi2_s, fIsi2_l, fIsi2_t, oD_some, oD_none, Option.isSome_some, Option.isSome_none, List.length_cons, List.length_nil, List.length_map, List.getElem?_cons_zero, List.getElem?_cons_succ, Option.map_some, Option.map_none, List.getElem?_map, if_true, if_false, ite_true, ite_false, ↓reduceIte, Bool.not_true, Bool.not_false, Bool.true_and, Bool.false_and, Bool.and_true, Bool.and_false, Bool.true_or, Bool.false_or, Bool.or_true, Bool.or_false, Bool.not_not, decide_true, decide_false, Int.cast_ofNat_Int, Int.reduceAdd, Int.reduceSub, Int.reduceMul, Nat.reduceAdd, Nat.zero_add, reduceCtorEq, e1, all, fAll_true, decide_eq_false (show ¬ (b.m : Int) < 1 by omega), decide_eq_true (show (1 : Int) ≤ b.ks.length by omega), decide_eq_true (show (b.ks.length : Int) ≤ 10 by omega)]
theorem need_book_c {b : Bk} (ok : b.Ok) : cF fs_need_book [bkD b] = some .none := by
  refine q_need_book ?_
  unfold l_need_book
  simp -dsimp -implicitDefEqProofs only [bind_some', asB_b, asI_i, lL_l, lT_t, lS_l, lS_t, lSh_l, lSh_d, lTup2_t, lTup3_t, lAndV_t, lAndV_f, lOrV_t, lOrV_f, lAnd_t, lAnd_f, lOr_t, lOr_f, lAndV_b, lOrV_b, lAnd_b, lOr_b, lZip_l, lZip_t, fLen_l, fLen_t, fTuple_l, fTuple_t, fList_l, fList_t, fInt_i, fInt_b, oIx_l, oIx_t, oAdd_i, oSub_i, oLt_i, oLe_i, oGt_i, oGe_i, oIs_n, oIsNot_n, isNone_o, isNone_i, isNone_n, isNone_l, isNone_t, oEq_int, oNe_int, oEq_str, oNe_str, slT_f, slT_t, atD_0, atD_1, atD_2, atD_3, atD_4, atD_nat, fIsi_n, fIsi_i, fIsi_b, fIsi_s, fIsi_l, fIsi_t, fIsi2_n, fIsi2_i, fIsi2_b, fIsi2_s, fIsi2_l, fIsi2_t, oD_some, oD_none, Option.isSome_some, Option.isSome_none, List.length_cons, List.length_nil, List.length_map, List.getElem?_cons_zero, List.getElem?_cons_succ, Option.map_some, Option.map_none, List.getElem?_map, if_true, if_false, ite_true, ite_false, ↓reduceIte, Bool.not_true, Bool.not_false, Bool.true_and, Bool.false_and, Bool.and_true, Bool.and_false, Bool.true_or, Bool.false_or, Bool.or_true, Bool.or_false, Bool.not_not, decide_true, decide_false, Int.cast_ofNat_Int, Int.reduceAdd, Int.reduceSub, Int.reduceMul, Nat.reduceAdd, Nat.zero_add, reduceCtorEq, is_book_c ok]
end Od

namespace Od
open PySem PySem.Spec PyProof.Rows L2
theorem behind_c {b : Bk} (ok : b.Ok) {s k : Nat} (hs : s < b.m) (hk : k < b.ks.length) : cF fs_behind [bkD b, .int s, .int k] = some (oD (b.at s k)) := q_behind (behind_l ok hs hk)
theorem is_deed_c {b : Bk} {d : Nat} (h : b.deed d = true) : cF fs_is_deed [bkD b, .int d] = some (.bool true) := by
  obtain ⟨hd, e⟩ := deed_at h
  refine q_is_deed ?_
  unfold l_is_deed
  simp -dsimp -implicitDefEqProofs only [bind_some', asB_b, asI_i, lL_l, lT_t, lS_l, lS_t, lSh_l, lSh_d, lTup2_t, lTup3_t, lAndV_t, lAndV_f, lOrV_t, lOrV_f, lAnd_t, lAnd_f, lOr_t, lOr_f, lAndV_b, lOrV_b, lAnd_b, lOr_b, lZip_l, lZip_t, fLen_l, fLen_t, fTuple_l, fTuple_t, fList_l, fList_t, fInt_i, fInt_b, oIx_l, oIx_t, oAdd_i, oSub_i, oLt_i, oLe_i, oGt_i, oGe_i, oIs_n, oIsNot_n, isNone_o, isNone_i, isNone_n, isNone_l, isNone_t, oEq_int, oNe_int, oEq_str, oNe_str, slT_f, slT_t, atD_0, atD_1, atD_2, atD_3, atD_4, atD_nat, fIsi_n, fIsi_i, fIsi_b, fIsi_s, fIsi_l, fIsi_t, fIsi2_n, fIsi2_i, fIsi2_b, fIsi2_s, fIsi2_l, fIsi2_t, oD_some, oD_none, Option.isSome_some, Option.isSome_none, List.length_cons, List.length_nil, List.length_map, List.getElem?_cons_zero, List.getElem?_cons_succ, Option.map_some, Option.map_none, List.getElem?_map, if_true, if_false, ite_true, ite_false, ↓reduceIte, Bool.not_true, Bool.not_false, Bool.true_and, Bool.false_and, Bool.and_true, Bool.and_false, Bool.true_or, Bool.false_or, Bool.or_true, Bool.or_false, Bool.not_not, decide_true, decide_false, Int.cast_ofNat_Int, Int.reduceAdd, Int.reduceSub, Int.reduceMul, Nat.reduceAdd, Nat.zero_add, reduceCtorEq, is_number_n b hd, bk1, ksAt, List.getElem?_eq_getElem hd, kind0, e, who_eq]
end Od

namespace Od
open PySem PySem.Spec PyProof.Rows L2
/-! marks -/
theorem is_mark_c {b : Bk} {q : Bool × List (Option Nat)} {r : List Nat} (h1 : ∀ k ∈ r, k < b.ks.length) (h2 : Asc r) (h3 : q.1 = false → r = []) (hl : r.length ≤ 1000) : cF fs_is_mark [bkD b, kindD q, markD r] = some (.bool true) := by
  have all : lc (fun d4 => (cF fs_is_number [bkD b, d4]).bd fun a5 => some [a5]) (natL r) = some (r.map fun _ => .bool true) := by
    refine lc_each _ (by omega) fun k hk => ?_
    unfold nD
    simp -dsimp -implicitDefEqProofs only [bind_some', asB_b, asI_i, lL_l, lT_t, lS_l, lS_t, lSh_l, lSh_d, lTup2_t, lTup3_t, lAndV_t, lAndV_f, lOrV_t, lOrV_f, lAnd_t, lAnd_f, lOr_t, lOr_f, lAndV_b, lOrV_b, lAnd_b, lOr_b, lZip_l, lZip_t, fLen_l, fLen_t, fTuple_l, fTuple_t, fList_l, fList_t, fInt_i, fInt_b, oIx_l, oIx_t, oAdd_i, oSub_i, oLt_i, oLe_i, oGt_i, oGe_i, oIs_n, oIsNot_n, isNone_o, isNone_i, isNone_n, isNone_l, isNone_t, oEq_int, oNe_int, oEq_str, oNe_str, slT_f, slT_t, atD_0, atD_1, atD_2, atD_3, atD_4, atD_nat, fIsi_n, fIsi_i, fIsi_b, fIsi_s, fIsi_l, fIsi_t, fIsi2_n, fIsi2_i, fIsi2_b, fIsi2_s, fIsi2_l, fIsi2_t, oD_some, oD_none, Option.isSome_some, Option.isSome_none, List.length_cons, List.length_nil, List.length_map, List.getElem?_cons_zero, List.getElem?_cons_succ, Option.map_some, Option.map_none, List.getElem?_map, if_true, if_false, ite_true, ite_false, ↓reduceIte, Bool.not_true, Bool.not_false, Bool.true_and, Bool.false_and, Bool.and_true, Bool.and_false, Bool.true_or, Bool.false_or, Bool.or_true, Bool.or_false, Bool.not_not, decide_true, decide_false, Int.cast_ofNat_Int, Int.reduceAdd, Int.reduceSub, Int.reduceMul, Nat.reduceAdd, Nat.zero_add, reduceCtorEq, is_number_n b (h1 k hk)]
  have two : lc (fun d20 => (lTup2 d20).bd fun q21 => (oLt q21.1 q21.2).bd fun a22 => some [a22]) ((r.zip (r.drop 1)).map fun p => .tuple [nD p.1, nD p.2]) = some ((r.zip (r.drop 1)).map fun _ => .bool true) := by
    refine lc_each _ (by rw [List.length_zip]; omega) fun p hp => ?_
    have := h2 p hp
    unfold nD
    simp -dsimp -implicitDefEqProofs only [bind_some', asB_b, asI_i, lL_l, lT_t, lS_l, lS_t, lSh_l, lSh_d, lTup2_t, lTup3_t, lAndV_t, lAndV_f, lOrV_t, lOrV_f, lAnd_t, lAnd_f, lOr_t, lOr_f, lAndV_b, lOrV_b, lAnd_b, lOr_b, lZip_l, lZip_t, fLen_l, fLen_t, fTuple_l, fTuple_t, fList_l, fList_t, fInt_i, fInt_b, oIx_l, oIx_t, oAdd_i, oSub_i, oLt_i, oLe_i, oGt_i, oGe_i, oIs_n, oIsNot_n, isNone_o, isNone_i, isNone_n, isNone_l, isNone_t, oEq_int, oNe_int, oEq_str, oNe_str, slT_f, slT_t, atD_0, atD_1, atD_2, atD_3, atD_4, atD_nat, fIsi_n, fIsi_i, fIsi_b, fIsi_s, fIsi_l, fIsi_t, fIsi2_n, fIsi2_i, fIsi2_b, fIsi2_s, fIsi2_l, fIsi2_t, oD_some, oD_none, Option.isSome_some, Option.isSome_none, List.length_cons, List.length_nil, List.length_map, List.getElem?_cons_zero, List.getElem?_cons_succ, Option.map_some, Option.map_none, List.getElem?_map, if_true, if_false, ite_true, ite_false, ↓reduceIte, Bool.not_true, Bool.not_false, Bool.true_and, Bool.false_and, Bool.and_true, Bool.and_false, Bool.true_or, Bool.false_or, Bool.or_true, Bool.or_false, Bool.not_not, decide_true, decide_false, Int.cast_ofNat_Int, Int.reduceAdd, Int.reduceSub, Int.reduceMul, Nat.reduceAdd, Nat.zero_add, reduceCtorEq, decide_eq_true (show (p.1 : Int) < p.2 by omega)]
  refine q_is_mark ?_
  unfold l_is_mark
  have e0 : lT (markD r) = some (natL r) := rfl
  have e1 : fIsi .tuple (markD r) = some (.bool true) := rfl
  have e2 : fLen (markD r) = some (.int r.length) := by unfold markD; rw [fLen_t, natL_len]
  have e3 : (!q.1 && decide ((0 : Int) < r.length)) = false := by
    cases hq : q.1 with
    | true => rfl
    | false => rw [h3 hq]; rfl
  have e4 : slT (markD r) (some 1) none = some (.tuple ((r.drop 1).map nD)) := by
    unfold markD; rw [slT_f, cut_from1]; unfold natL; rw [List.map_drop]
  have e5 : lZip (markD r) (.tuple ((r.drop 1).map nD)) = some ((r.zip (r.drop 1)).map fun p => .tuple [nD p.1, nD p.2]) := by
    rw [← zipD_map]; rfl
  simp -dsimp -implicitDefEqProofs only [bind_some', asB_b, asI_i, lL_l, lT_t, lS_l, lS_t, lSh_l, lSh_d, lTup2_t, lTup3_t, lAndV_t, lAndV_f, lOrV_t, lOrV_f, lAnd_t, lAnd_f, lOr_t, lOr_f, lAndV_b, lOrV_b, lAnd_b, lOr_b, lZip_l, lZip_t, fLen_l, fLen_t, fTuple_l, fTuple_t, fList_l, fList_t, fInt_i, fInt_b, oIx_l, oIx_t, oAdd_i, oSub_i, oLt_i, oLe_i, oGt_i, oGe_i, oIs_n, oIsNot_n, isNone_o, isNone_i, isNone_n, isNone_l, isNone_t, oEq_int, oNe_int, oEq_str, oNe_str, slT_f, slT_t, atD_0, atD_1, atD_2, atD_3, atD_4, atD_nat, fIsi_n, fIsi_i, fIsi_b, fIsi_s, fIsi_l, fIsi_t, fIsi2_n, fIsi2_i, fIsi2_b, fIsi2_s, fIsi2_l, fIsi2_t, oD_some, oD_none, Option.isSome_some, Option.isSome_none, List.length_cons, List.length_nil, List.length_map, List.getElem?_cons_zero, List.getElem?_cons_succ, Option.map_some, Option.map_none, List.getElem?_map, if_true, if_false, ite_true, ite_false, ↓reduceIte, Bool.not_true, Bool.not_false, Bool.true_and, Bool.false_and, Bool.and_true, Bool.and_false, Bool.true_or, Bool.false_or, Bool.or_true, Bool.or_false, Bool.not_not, decide_true, decide_false, Int.cast_ofNat_Int, Int.reduceAdd, Int.reduceSub, Int.reduceMul, Nat.reduceAdd, Nat.zero_add, reduceCtorEq, e0, e1, e2, all, fAll_true, kind0, who_out, e3, e4, e5, two, Bool.false_eq_true]
theorem is_marks_here_c {b : Bk} (ok : b.Ok) {ms : List (List Nat)} (h : MarksOk b ms) : cF fs_is_marks_here [bkD b, marksD ms] = some (.bool true) := by
  have h4 := ok.k1
  have all : lc (fun d11 => (lTup2 d11).bd fun q12 => (cF fs_is_mark [bkD b, q12.1, q12.2]).bd fun a13 => some [a13]) ((b.ks.zip ms).map fun p => .tuple [kindD p.1, markD p.2]) = some ((b.ks.zip ms).map fun _ => .bool true) := by
    refine lc_each _ (by rw [List.length_zip]; omega) fun p hp => ?_
    have hm := (List.of_mem_zip hp).2
    simp -dsimp -implicitDefEqProofs only [bind_some', asB_b, asI_i, lL_l, lT_t, lS_l, lS_t, lSh_l, lSh_d, lTup2_t, lTup3_t, lAndV_t, lAndV_f, lOrV_t, lOrV_f, lAnd_t, lAnd_f, lOr_t, lOr_f, lAndV_b, lOrV_b, lAnd_b, lOr_b, lZip_l, lZip_t, fLen_l, fLen_t, fTuple_l, fTuple_t, fList_l, fList_t, fInt_i, fInt_b, oIx_l, oIx_t, oAdd_i, oSub_i, oLt_i, oLe_i, oGt_i, oGe_i, oIs_n, oIsNot_n, isNone_o, isNone_i, isNone_n, isNone_l, isNone_t, oEq_int, oNe_int, oEq_str, oNe_str, slT_f, slT_t, atD_0, atD_1, atD_2, atD_3, atD_4, atD_nat, fIsi_n, fIsi_i, fIsi_b, fIsi_s, fIsi_l, fIsi_t, fIsi2_n, fIsi2_i, fIsi2_b, fIsi2_s, fIsi2_l, fIsi2_t, oD_some, oD_none, Option.isSome_some, Option.isSome_none, List.length_cons, List.length_nil, List.length_map, List.getElem?_cons_zero, List.getElem?_cons_succ, Option.map_some, Option.map_none, List.getElem?_map, if_true, if_false, ite_true, ite_false, ↓reduceIte, Bool.not_true, Bool.not_false, Bool.true_and, Bool.false_and, Bool.and_true, Bool.and_false, Bool.true_or, Bool.false_or, Bool.or_true, Bool.or_false, Bool.not_not, decide_true, decide_false, Int.cast_ofNat_Int, Int.reduceAdd, Int.reduceSub, Int.reduceMul, Nat.reduceAdd, Nat.zero_add, reduceCtorEq, is_mark_c (h.lt _ hm) (h.asc _ hm) (h.out p hp) (h.sm _ hm)]
  refine q_is_marks_here ?_
  unfold l_is_marks_here
  have e1 : fIsi .tuple (marksD ms) = some (.bool true) := rfl
  have e2 : fLen (marksD ms) = some (.int b.ks.length) := by unfold marksD; rw [fLen_t, List.length_map, h.len]
  have e5 : lZip (ksD b) (marksD ms) = some ((b.ks.zip ms).map fun p => .tuple [kindD p.1, markD p.2]) := by
    rw [← zipD_map]; rfl
  simp -dsimp -implicitDefEqProofs only [bind_some', asB_b, asI_i, lL_l, lT_t, lS_l, lS_t, lSh_l, lSh_d, lTup2_t, lTup3_t, lAndV_t, lAndV_f, lOrV_t, lOrV_f, lAnd_t, lAnd_f, lOr_t, lOr_f, lAndV_b, lOrV_b, lAnd_b, lOr_b, lZip_l, lZip_t, fLen_l, fLen_t, fTuple_l, fTuple_t, fList_l, fList_t, fInt_i, fInt_b, oIx_l, oIx_t, oAdd_i, oSub_i, oLt_i, oLe_i, oGt_i, oGe_i, oIs_n, oIsNot_n, isNone_o, isNone_i, isNone_n, isNone_l, isNone_t, oEq_int, oNe_int, oEq_str, oNe_str, slT_f, slT_t, atD_0, atD_1, atD_2, atD_3, atD_4, atD_nat, fIsi_n, fIsi_i, fIsi_b, fIsi_s, fIsi_l, fIsi_t, fIsi2_n, fIsi2_i, fIsi2_b, fIsi2_s, fIsi2_l, fIsi2_t, oD_some, oD_none, Option.isSome_some, Option.isSome_none, List.length_cons, List.length_nil, List.length_map, List.getElem?_cons_zero, List.getElem?_cons_succ, Option.map_some, Option.map_none, List.getElem?_map, if_true, if_false, ite_true, ite_false, ↓reduceIte, Bool.not_true, Bool.not_false, Bool.true_and, Bool.false_and, Bool.and_true, Bool.and_false, Bool.true_or, Bool.false_or, Bool.or_true, Bool.or_false, Bool.not_not, decide_true, decide_false, Int.cast_ofNat_Int, Int.reduceAdd, Int.reduceSub, Int.reduceMul, Nat.reduceAdd, Nat.zero_add, reduceCtorEq, e1, e2, bk1, ksLen, e5, all, fAll_true]
end Od

namespace Od
open PySem PySem.Spec PyProof.Rows L2
theorem need_marks_c {b : Bk} (ok : b.Ok) {ms : List (List Nat)} (h : MarksOk b ms) : cF fs_need_marks [bkD b, marksD ms] = some .none := by
  refine q_need_marks ?_
  unfold l_need_marks
  simp -dsimp -implicitDefEqProofs only [bind_some', asB_b, asI_i, lL_l, lT_t, lS_l, lS_t, lSh_l, lSh_d, lTup2_t, lTup3_t, lAndV_t, lAndV_f, lOrV_t, lOrV_f, lAnd_t, lAnd_f, lOr_t, lOr_f, lAndV_b, lOrV_b, lAnd_b, lOr_b, lZip_l, lZip_t, fLen_l, fLen_t, fTuple_l, fTuple_t, fList_l, fList_t, fInt_i, fInt_b, oIx_l, oIx_t, oAdd_i, oSub_i, oLt_i, oLe_i, oGt_i, oGe_i, oIs_n, oIsNot_n, isNone_o, isNone_i, isNone_n, isNone_l, isNone_t, oEq_int, oNe_int, oEq_str, oNe_str, slT_f, slT_t, atD_0, atD_1, atD_2, atD_3, atD_4, atD_nat, fIsi_n, fIsi_i, fIsi_b, fIsi_s, fIsi_l, fIsi_t, fIsi2_n, fIsi2_i, fIsi2_b, fIsi2_s, fIsi2_l, fIsi2_t, oD_some, oD_none, Option.isSome_some, Option.isSome_none, List.length_cons, List.length_nil, List.length_map, List.getElem?_cons_zero, List.getElem?_cons_succ, Option.map_some, Option.map_none, List.getElem?_map, if_true, if_false, ite_true, ite_false, ↓reduceIte, Bool.not_true, Bool.not_false, Bool.true_and, Bool.false_and, Bool.and_true, Bool.and_false, Bool.true_or, Bool.false_or, Bool.or_true, Bool.or_false, Bool.not_not, decide_true, decide_false, Int.cast_ofNat_Int, Int.reduceAdd, Int.reduceSub, Int.reduceMul, Nat.reduceAdd, Nat.zero_add, reduceCtorEq, is_marks_here_c ok h]
end Od

namespace Od
open PySem PySem.Spec PyProof.Rows L2
theorem meets_c {mk : List Nat} {row : D} {r : List Nat} (hr : IsRow row r) (hl : mk.length ≤ 1000) : cF fs_meets [markD mk, row] = some (.bool (mk.any fun k => r.contains k)) := by
  have all : lc (fun d2 => (oIn false d2 row).bd fun a3 => some [a3]) (natL mk) = some (mk.map fun k => .bool (r.contains k)) := by
    refine lc_each _ (by omega) fun k hk => ?_
    unfold nD
    simp -dsimp -implicitDefEqProofs only [bind_some', asB_b, asI_i, lL_l, lT_t, lS_l, lS_t, lSh_l, lSh_d, lTup2_t, lTup3_t, lAndV_t, lAndV_f, lOrV_t, lOrV_f, lAnd_t, lAnd_f, lOr_t, lOr_f, lAndV_b, lOrV_b, lAnd_b, lOr_b, lZip_l, lZip_t, fLen_l, fLen_t, fTuple_l, fTuple_t, fList_l, fList_t, fInt_i, fInt_b, oIx_l, oIx_t, oAdd_i, oSub_i, oLt_i, oLe_i, oGt_i, oGe_i, oIs_n, oIsNot_n, isNone_o, isNone_i, isNone_n, isNone_l, isNone_t, oEq_int, oNe_int, oEq_str, oNe_str, slT_f, slT_t, atD_0, atD_1, atD_2, atD_3, atD_4, atD_nat, fIsi_n, fIsi_i, fIsi_b, fIsi_s, fIsi_l, fIsi_t, fIsi2_n, fIsi2_i, fIsi2_b, fIsi2_s, fIsi2_l, fIsi2_t, oD_some, oD_none, Option.isSome_some, Option.isSome_none, List.length_cons, List.length_nil, List.length_map, List.getElem?_cons_zero, List.getElem?_cons_succ, Option.map_some, Option.map_none, List.getElem?_map, if_true, if_false, ite_true, ite_false, ↓reduceIte, Bool.not_true, Bool.not_false, Bool.true_and, Bool.false_and, Bool.and_true, Bool.and_false, Bool.true_or, Bool.false_or, Bool.or_true, Bool.or_false, Bool.not_not, decide_true, decide_false, Int.cast_ofNat_Int, Int.reduceAdd, Int.reduceSub, Int.reduceMul, Nat.reduceAdd, Nat.zero_add, reduceCtorEq, in_row hr]
  refine q_meets ?_
  unfold l_meets
  have e0 : lS (markD mk) = some (natL mk) := rfl
  simp -dsimp -implicitDefEqProofs only [bind_some', asB_b, asI_i, lL_l, lT_t, lS_l, lS_t, lSh_l, lSh_d, lTup2_t, lTup3_t, lAndV_t, lAndV_f, lOrV_t, lOrV_f, lAnd_t, lAnd_f, lOr_t, lOr_f, lAndV_b, lOrV_b, lAnd_b, lOr_b, lZip_l, lZip_t, fLen_l, fLen_t, fTuple_l, fTuple_t, fList_l, fList_t, fInt_i, fInt_b, oIx_l, oIx_t, oAdd_i, oSub_i, oLt_i, oLe_i, oGt_i, oGe_i, oIs_n, oIsNot_n, isNone_o, isNone_i, isNone_n, isNone_l, isNone_t, oEq_int, oNe_int, oEq_str, oNe_str, slT_f, slT_t, atD_0, atD_1, atD_2, atD_3, atD_4, atD_nat, fIsi_n, fIsi_i, fIsi_b, fIsi_s, fIsi_l, fIsi_t, fIsi2_n, fIsi2_i, fIsi2_b, fIsi2_s, fIsi2_l, fIsi2_t, oD_some, oD_none, Option.isSome_some, Option.isSome_none, List.length_cons, List.length_nil, List.length_map, List.getElem?_cons_zero, List.getElem?_cons_succ, Option.map_some, Option.map_none, List.getElem?_map, if_true, if_false, ite_true, ite_false, ↓reduceIte, Bool.not_true, Bool.not_false, Bool.true_and, Bool.false_and, Bool.and_true, Bool.and_false, Bool.true_or, Bool.false_or, Bool.or_true, Bool.or_false, Bool.not_not, decide_true, decide_false, Int.cast_ofNat_Int, Int.reduceAdd, Int.reduceSub, Int.reduceMul, Nat.reduceAdd, Nat.zero_add, reduceCtorEq, e0, all, fAny_map]
def hits (ms : List (List Nat)) (d : Nat) (r : List Nat) : Bool := (ms.getD d []).any fun k => r.contains k
theorem marks_at {ms : List (List Nat)} {d : Nat} (h : d < ms.length) : oIx (marksD ms) (.int d) = some (markD (ms.getD d [])) := by
  unfold marksD
  rw [oIx_t, atD_nat, List.getElem?_map, List.getElem?_eq_getElem h, List.getD_eq_getElem?_getD, List.getElem?_eq_getElem h]
  rfl
theorem MarksOk.smD {b : Bk} {ms : List (List Nat)} (h : MarksOk b ms) (d : Nat) : (ms.getD d []).length ≤ 1000 := by
  rw [List.getD_eq_getElem?_getD]
  cases e : ms[d]? with
  | none => exact Nat.zero_le _
  | some r => exact h.sm r (List.mem_of_getElem? e)
section
variable {b : Bk} (ok : b.Ok) {ms : List (List Nat)} (hm : MarksOk b ms) {d : Nat} (hd : b.deed d = true) {ahead between : List Nat} {A B : D} (hA : IsRow A ahead) (hB : IsRow B between) (rA : RowOk b ahead) (rB : RowOk b between) (h : b.trial d ahead between)
include ok hm hd hA hB rA rB h
end
end Od

namespace Od
open PySem PySem.Spec PyProof.Rows L2
/-! dicts from numbers to what is made of anything -/
def encM {α : Type} (enc : α → D) (p : Nat × α) : D × D := (nD p.1, enc p.2)
def mD {α : Type} (enc : α → D) (F : List (Nat × α)) : D := .dict (F.map (encM enc))
def lookM {α : Type} (t : Nat) : List (Nat × α) → Option α
  | [] => none
  | p :: F => if p.1 = t then some p.2 else lookM t F
def putM {α : Type} (t : Nat) (a : α) (F : List (Nat × α)) : List (Nat × α) := if (lookM t F).isSome = true then F.map fun p => if p.1 = t then (p.1, a) else p else F ++ [(t, a)]
section
variable {α : Type} {enc : α → D}
theorem key_n (a t : Nat) : keyOf (nD a) = some (.inl (t : Int)) ↔ a = t := by
  constructor
  · intro z
    unfold nD keyOf at z
    injection z with z
    injection z with z
    omega
  · rintro rfl; rfl
theorem lookK_M (t : Nat) : ∀ F : List (Nat × α), lookK (.inl (t : Int)) (F.map (encM enc)) = (lookM t F).map enc
  | [] => rfl
  | p :: F => by
    rw [List.map_cons]
    show (if keyOf (nD p.1) = some (.inl (t : Int)) then some (enc p.2) else lookK (.inl (t : Int)) (F.map (encM enc))) = _
    unfold lookM
    by_cases h : p.1 = t
    · rw [if_pos ((key_n _ _).mpr h), if_pos h]; rfl
    · rw [if_neg (fun z => h ((key_n _ _).mp z)), if_neg h, lookK_M t F]
theorem dGet_M (t : Nat) (F : List (Nat × α)) : dGet (F.map (encM enc)) (.int t) = some ((lookM t F).map enc) := by
  rw [← lookK_M]
  cases F with
  | nil => rfl
  | cons p F => rfl
theorem din_M (t : Nat) (F : List (Nat × α)) (neg : Bool) : oDin neg (.int t) (mD enc F) = some (.bool (if neg = true then !(lookM t F).isSome else (lookM t F).isSome)) := by
  unfold oDin mD
  dsimp only
  rw [dGet_M]
  cases lookM t F <;> rfl
theorem dix_M {t : Nat} {F : List (Nat × α)} {a : α} (h : lookM t F = some a) : oDix (mD enc F) (.int t) = some (enc a) := by
  unfold oDix mD
  dsimp only
  rw [dGet_M, h]
  rfl
theorem isDi_M (F : List (Nat × α)) : isDi (mD enc F) = true := by
  cases F with
  | nil => rfl
  | cons p F =>
    cases F <;> rfl
theorem getN_M (t : Nat) (F : List (Nat × α)) : oGetN (mD enc F) (.int t) = some (((lookM t F).map enc).getD .none) := by
  unfold oGetN mD
  dsimp only
  rw [dGet_M]
  rfl
theorem lDi_M (F : List (Nat × α)) : lDi (mD enc F) = some () := by
  unfold lDi
  rw [if_pos (isDi_M F)]
theorem gPut_M (t : Nat) (a : α) (F : List (Nat × α)) (hl : F.length < 100000) : gPut (mD enc F) [enc a, .int t] = some (mD enc (putM t a F)) := by
  have e : gPut (mD enc F) [enc a, .int t] = (keyOf (.int t)).bind fun k => if (F.map (encM enc)).length < 100000 then some (.dict (putDK k (enc a) (F.map (encM enc)))) else none := by
    unfold mD
    cases F with
    | nil => rfl
    | cons p F => rfl
  rw [e]
  show (if (F.map (encM enc)).length < 100000 then some (PyData.dict (putDK (.inl (t : Int)) (enc a) (F.map (encM enc)))) else none) = _
  rw [if_pos (by rw [List.length_map]; exact hl)]
  unfold putDK putM
  rw [lookK_M]
  cases h : lookM t F with
  | none =>
    rw [if_neg (by exact Bool.false_ne_true), if_neg (by exact Bool.false_ne_true)]
    unfold mD
    rw [List.map_append]
    rfl
  | some x =>
    rw [if_pos (show (Option.map enc (some x)).isSome = true from rfl), if_pos (show (some x).isSome = true from rfl)]
    unfold mD
    rw [List.map_map, List.map_map]
    congr 2
    refine List.map_congr_left fun p _ => ?_
    show (if keyOf (nD p.1) = some (.inl (t : Int)) then (nD p.1, enc a) else (nD p.1, enc p.2)) = encM enc (if p.1 = t then (p.1, a) else p)
    by_cases c : p.1 = t
    · rw [if_pos ((key_n _ _).mpr c), if_pos c]; rfl
    · rw [if_neg (fun z => c ((key_n _ _).mp z)), if_neg c]; rfl
theorem putM_len (t : Nat) (a : α) (F : List (Nat × α)) : (putM t a F).length ≤ F.length + 1 := by
  unfold putM
  split
  · rw [List.length_map]; omega
  · rw [List.length_append, List.length_singleton]; omega
theorem lookM_mem {t : Nat} : ∀ {F : List (Nat × α)} {a : α}, lookM t F = some a → (t, a) ∈ F
  | q :: F, r, h => by
    unfold lookM at h
    split at h
    · rename_i c; cases h; subst c; exact List.mem_cons_self
    · exact List.mem_cons_of_mem _ (lookM_mem h)
theorem putM_mem {t : Nat} {a : α} {F : List (Nat × α)} {p : Nat × α} (h : p ∈ putM t a F) : p = (t, a) ∨ p ∈ F := by
  unfold putM at h
  split at h
  · obtain ⟨q, hq, e⟩ := List.mem_map.mp h
    split at e
    · rename_i c; left; rw [← e, c]
    · right; rw [← e]; exact hq
  · rcases List.mem_append.mp h with z | z
    · exact .inr z
    · exact .inl (List.mem_singleton.mp z)
theorem lookM_cons (t : Nat) (p : Nat × α) (F : List (Nat × α)) : lookM t (p :: F) = if p.1 = t then some p.2 else lookM t F := rfl
theorem lookM_nil (t : Nat) : lookM t ([] : List (Nat × α)) = none := rfl
theorem lookM_app (t : Nat) (G : List (Nat × α)) : ∀ F : List (Nat × α), lookM t (F ++ G) = (lookM t F).or (lookM t G)
  | [] => rfl
  | p :: F => by
    rw [List.cons_append, lookM_cons, lookM_cons]
    split
    · rfl
    · exact lookM_app t G F
theorem lookM_map (t u : Nat) (a : α) : ∀ F : List (Nat × α), lookM u (F.map fun p => if p.1 = t then (p.1, a) else p) = if u = t then (lookM u F).map fun _ => a else lookM u F
  | [] => by
    rw [List.map_nil]
    split <;> rfl
  | p :: F => by
    rw [List.map_cons, lookM_cons, lookM_cons, lookM_map t u a F]
    by_cases c : p.1 = t
    · rw [if_pos c]
      dsimp only
      by_cases d : p.1 = u
      · rw [if_pos d, if_pos d, if_pos (by omega)]; rfl
      · rw [if_neg d, if_neg d]
    · rw [if_neg c]
      by_cases d : p.1 = u
      · rw [if_pos d, if_pos d, if_neg (by omega)]
      · rw [if_neg d, if_neg d]
theorem lookM_put (t u : Nat) (a : α) (F : List (Nat × α)) : lookM u (putM t a F) = if u = t then some a else lookM u F := by
  unfold putM
  cases h : lookM t F with
  | none =>
    rw [if_neg (by exact Bool.false_ne_true), lookM_app, lookM_cons, lookM_nil]
    by_cases c : u = t
    · subst c
      rw [h, if_pos rfl]; rfl
    · rw [if_neg c, if_neg (fun z => c z.symm)]
      cases lookM u F <;> rfl
  | some x =>
    rw [if_pos (show (some x).isSome = true from rfl), lookM_map]
    by_cases c : u = t
    · subst c
      rw [if_pos rfl, if_pos rfl, h]; rfl
    · rw [if_neg c, if_neg c]
end
end Od

namespace Od
open PySem PySem.Spec PyProof.Rows L2
/-! logs and talks -/
inductive Ent where
  | come (k : Nat) | look (h late : Nat) | deed (h d : Nat)
def entD : Ent → D
  | .come k => .tuple [.str "come", .int k]
  | .look h l => .tuple [.str "look", .int h, .int l]
  | .deed h d => .tuple [.str "do", .int h, .int d]
def Bk.out (b : Bk) (d : Nat) : Bool := (b.ks[d]?).map (·.1) == some false
def Ent.Ok (b : Bk) : Ent → Prop
  | .come k => b.out k = true
  | .look h l => h < 100 ∧ l ≤ 1000
  | .deed h d => h < 100 ∧ b.deed d = true
structure Talk where
  sts : List Nat
  hap : List Nat
  mom : List (Nat × Nat)
abbrev momD (m : List (Nat × Nat)) : D := mD nD m
def tkD (b : Bk) (ms : List (List Nat)) (T : Talk) : D := (Tk.mk (bkD b) (marksD ms) (natL T.sts) (natL T.hap) (T.mom.map (encM nD))).D
def Talk.last (T : Talk) : Nat := T.sts.getD (T.sts.length - 1) 0
def Talk.come (b : Bk) (T : Talk) (k : Nat) : Talk :=
  match b.at T.last k with
  | none => T
  | some t => { T with sts := T.sts ++ [t], hap := T.hap ++ [k] }
def Talk.mo (T : Talk) (late : Nat) : Nat := T.hap.length - late
def Talk.look (T : Talk) (h late : Nat) : Talk := { T with mom := putM h (T.mo late) T.mom }
def Talk.sight (T : Talk) (h : Nat) : Option Nat := (lookM h T.mom).map fun m => T.sts.getD m 0
def Talk.since (T : Talk) (h : Nat) : Option (List Nat) := (lookM h T.mom).map fun m => T.hap.drop m
def Talk.allows (b : Bk) (ms : List (List Nat)) (T : Talk) (h d : Nat) : Bool :=
  match lookM h T.mom with
  | none => false
  | some m => (b.at (T.sts.getD m 0) d).isSome && (b.at T.last d).isSome && !hits ms d (T.hap.drop m)
def Talk.done (b : Bk) (T : Talk) (h d : Nat) : Talk := { T.come b d with mom := putM h (T.come b d).hap.length (T.come b d).mom }
def Talk.step (b : Bk) (ms : List (List Nat)) (T : Talk) : Ent → Talk
  | .come k => T.come b k
  | .look h l => T.look h l
  | .deed h d => if T.allows b ms h d = true then T.done b h d else T
def Talk.ans (b : Bk) (ms : List (List Nat)) (T : Talk) : Ent → D
  | .come k => oD (b.at T.last k)
  | .look _ l => .int (T.sts.getD (T.mo l) 0 : Nat)
  | .deed h d => .bool (T.allows b ms h d)
def Talk.run (b : Bk) (ms : List (List Nat)) : Talk → List Ent → List D
  | _, [] => []
  | T, e :: es => T.ans b ms e :: Talk.run b ms (T.step b ms e) es
def Talk.end_ (b : Bk) (ms : List (List Nat)) (T : Talk) (es : List Ent) : Talk := es.foldl (Talk.step b ms) T
def Talk.new : Talk := ⟨[0], [], []⟩
structure Talk.Ok (b : Bk) (n : Nat) (T : Talk) : Prop where
  len : T.sts.length = T.hap.length + 1
  lt : ∀ s ∈ T.sts, s < b.m
  ks : ∀ k ∈ T.hap, k < b.ks.length
  hl : T.hap.length ≤ n
  ml : T.mom.length ≤ n
  mm : ∀ p ∈ T.mom, p.2 ≤ T.hap.length
theorem Talk.Ok.up {b : Bk} {n m : Nat} {T : Talk} (h : T.Ok b n) (le : n ≤ m) : T.Ok b m := ⟨h.len, h.lt, h.ks, Nat.le_trans h.hl le, Nat.le_trans h.ml le, h.mm⟩
theorem Talk.Ok.at {b : Bk} {n : Nat} {T : Talk} (h : T.Ok b n) {j : Nat} (hj : j ≤ T.hap.length) : T.sts.getD j 0 < b.m ∧ T.sts[j]? = some (T.sts.getD j 0) := by
  have hl : j < T.sts.length := by rw [h.len]; omega
  rw [List.getD_eq_getElem?_getD, List.getElem?_eq_getElem hl]
  exact ⟨h.lt _ (List.getElem_mem hl), rfl⟩
theorem Talk.Ok.last_lt {b : Bk} {n : Nat} {T : Talk} (h : T.Ok b n) : T.last < b.m := (h.at (j := T.sts.length - 1) (by rw [h.len]; omega)).1
theorem Talk.Ok.mom {b : Bk} {n : Nat} {T : Talk} (h : T.Ok b n) {u m : Nat} (e : lookM u T.mom = some m) : m ≤ T.hap.length := h.mm _ (lookM_mem e)
theorem new_ok {b : Bk} (ok : b.Ok) (n : Nat) : Talk.new.Ok b n := ⟨rfl, fun s hs => by rw [List.mem_singleton.mp hs]; exact ok.m0, nofun, Nat.zero_le _, Nat.zero_le _, nofun⟩
theorem come_ok {b : Bk} (ok : b.Ok) {n : Nat} {T : Talk} (h : T.Ok b n) {k : Nat} (hk : k < b.ks.length) : (T.come b k).Ok b (n + 1) := by
  unfold Talk.come
  cases e : b.at T.last k with
  | none => exact h.up (Nat.le_succ n)
  | some t =>
    refine ⟨?_, fun s hs => ?_, fun s hs => ?_, ?_, Nat.le_succ_of_le h.ml, fun p hp => ?_⟩
    · show (T.sts ++ [t]).length = (T.hap ++ [k]).length + 1
      rw [List.length_append, List.length_append, h.len]; rfl
    · rcases List.mem_append.mp hs with z | z
      · exact h.lt s z
      · rw [List.mem_singleton.mp z]; exact ok.at_lt e
    · rcases List.mem_append.mp hs with z | z
      · exact h.ks s z
      · rw [List.mem_singleton.mp z]; exact hk
    · show (T.hap ++ [k]).length ≤ n + 1
      rw [List.length_append]
      have := h.hl
      exact Nat.succ_le_succ this
    · show p.2 ≤ (T.hap ++ [k]).length
      rw [List.length_append]
      exact Nat.le_succ_of_le (h.mm p hp)
theorem put_ok {b : Bk} {n : Nat} {T : Talk} (h : T.Ok b n) (h1 : T.hap.length ≤ n + 1) (u m : Nat) (hm : m ≤ T.hap.length) : Talk.Ok b (n + 1) { T with mom := putM u m T.mom } := by
  refine ⟨h.len, h.lt, h.ks, h1, ?_, fun p hp => ?_⟩
  · have := putM_len u m T.mom
    have := h.ml
    show (putM u m T.mom).length ≤ n + 1
    omega
  · rcases putM_mem hp with z | z
    · rw [z]; exact hm
    · exact h.mm p z
theorem done_ok {b : Bk} (ok : b.Ok) {n : Nat} {T : Talk} (h : T.Ok b n) {u k : Nat} (hk : k < b.ks.length) : (T.done b u k).Ok b (n + 1) := by
  have z := come_ok ok h hk
  have hm : (T.come b k).mom = T.mom := by
    unfold Talk.come
    cases b.at T.last k <;> rfl
  refine ⟨z.len, z.lt, z.ks, z.hl, ?_, fun p hp => ?_⟩
  · show (putM u (T.come b k).hap.length (T.come b k).mom).length ≤ n + 1
    rw [hm]
    have := putM_len u (T.come b k).hap.length T.mom
    have := h.ml
    omega
  · rcases putM_mem hp with q | q
    · rw [q]; exact Nat.le_refl _
    · exact z.mm p q
theorem out_lt {b : Bk} {d : Nat} (h : b.out d = true) : ∃ hd : d < b.ks.length, (b.ks[d]).1 = false := by
  unfold Bk.out at h
  obtain ⟨q, h1, h2⟩ := Option.map_eq_some_iff.mp (eq_of_beq h)
  obtain ⟨hd, e⟩ := List.getElem?_eq_some_iff.mp h1
  exact ⟨hd, by rw [e]; exact h2⟩
theorem step_ok {b : Bk} (ok : b.Ok) {ms : List (List Nat)} {n : Nat} {T : Talk} (h : T.Ok b n) {e : Ent} (he : e.Ok b) : (T.step b ms e).Ok b (n + 1) := by
  cases e with
  | come k => exact come_ok ok h (out_lt he).1
  | look u l => exact put_ok h (Nat.le_succ_of_le h.hl) u (T.mo l) (Nat.sub_le _ _)
  | deed u d =>
    show Talk.Ok b (n + 1) (if T.allows b ms u d = true then T.done b u d else T)
    split
    · exact done_ok ok h (deed_at he.2).1
    · exact h.up (Nat.le_succ n)
/-! the program's talk -/
theorem lTk_st (b : Bk) (ms : List (List Nat)) (T : Talk) : lTk .st (tkD b ms T) = some (.list (natL T.sts)) := rfl
theorem lTk_ha (b : Bk) (ms : List (List Nat)) (T : Talk) : lTk .ha (tkD b ms T) = some (.list (natL T.hap)) := rfl
theorem lTk_mo (b : Bk) (ms : List (List Nat)) (T : Talk) : lTk .mo (tkD b ms T) = some (momD T.mom) := rfl
theorem lTkB_t (b : Bk) (ms : List (List Nat)) (T : Talk) : lTkB (tkD b ms T) = some (bkD b) := rfl
theorem lTkC_t (b : Bk) (ms : List (List Nat)) (T : Talk) : lTkC (tkD b ms T) = some (marksD ms) := rfl
theorem lTkP_st (b : Bk) (ms : List (List Nat)) (T : Talk) (l : List Nat) : lTkP .st (tkD b ms T) (.list (natL l)) = some (tkD b ms { T with sts := l }) := rfl
theorem lTkP_ha (b : Bk) (ms : List (List Nat)) (T : Talk) (l : List Nat) : lTkP .ha (tkD b ms T) (.list (natL l)) = some (tkD b ms { T with hap := l }) := rfl
theorem lTkP_mo (b : Bk) (ms : List (List Nat)) (T : Talk) (l : List (Nat × Nat)) : lTkP .mo (tkD b ms T) (momD l) = some (tkD b ms { T with mom := l }) := rfl
theorem tkN_t (b : Bk) (ms : List (List Nat)) : tkN (bkD b) (marksD ms) = tkD b ms .new := rfl
theorem atD_neg1 (ds : List D) (h : ds ≠ []) : atD ds (-1) = ds[ds.length - 1]? := by
  unfold atD ixN
  have hl : 0 < ds.length := List.length_pos_iff.mpr h
  rw [if_neg (by omega), if_pos (by omega)]
  show ds[((-1 : Int) + (ds.length : Int)).toNat]? = _
  congr 1
  omega
theorem last_at {b : Bk} {n : Nat} {T : Talk} (h : T.Ok b n) : oIx (.list (natL T.sts)) (.int (-1)) = some (.int (T.last : Nat)) := by
  rw [oIx_l, atD_neg1 _ (natL_ne (by have := h.len; intro z; rw [z] at this; cases this)), natL_len]
  unfold natL
  rw [List.getElem?_map, (h.at (j := T.sts.length - 1) (by rw [h.len]; omega)).2]
  rfl
theorem sts_at {b : Bk} {n : Nat} {T : Talk} (h : T.Ok b n) {j : Nat} (hj : j ≤ T.hap.length) : oIx (.list (natL T.sts)) (.int (j : Nat)) = some (.int (T.sts.getD j 0 : Nat)) := by
  rw [oIx_l, atD_nat]
  unfold natL
  rw [List.getElem?_map, (h.at hj).2]
  rfl
theorem natL_app (r : List Nat) (k : Nat) : natL r ++ [.int (k : Nat)] = natL (r ++ [k]) := by
  unfold natL
  rw [List.map_append]
  rfl
theorem cut_nat (r : List Nat) {m : Nat} (h : m ≤ r.length) : cutD (natL r) (some (m : Int)) none = natL (r.drop m) := by
  unfold cutD
  rw [HT.sIx_nat, natL_len, Nat.min_eq_left h]
  unfold HT.sIx
  dsimp only
  unfold natL
  rw [← List.map_drop, List.take_of_length_le (by rw [List.length_map, List.length_drop]; exact Nat.le_refl _)]
theorem slL_f (ds : List D) (i : Int) : slL (.list ds) (some i) none = some (.list (cutD ds (some i) none)) := rfl
theorem lNeg1 : lNeg (.int 1) = some (.int (-1)) := rfl
theorem cK_t (fs : FS) (b : Bk) (ms : List (List Nat)) (T : Talk) (ds : List D) : cK fs (tkD b ms T) ds = cI fs (tkD b ms T :: ds) := rfl
theorem max0 (a b : Nat) : fMax2 (.int 0) (.int ((a : Int) - (b : Int))) = some (.int ((a - b : Nat) : Int)) := by
  show some (PyData.int (if (a : Int) - b > 0 then (a : Int) - b else 0)) = _
  congr 2
  split <;> omega
theorem is_out_c {b : Bk} {d : Nat} (h : b.out d = true) : cF fs_is_out [bkD b, .int d] = some (.bool true) := by
  obtain ⟨hd, hk⟩ := out_lt h
  refine q_is_out ?_
  unfold l_is_out
  simp -dsimp -implicitDefEqProofs only [bind_some', asB_b, asI_i, lL_l, lT_t, lS_l, lS_t, lSh_l, lSh_d, lTup2_t, lTup3_t, lAndV_t, lAndV_f, lOrV_t, lOrV_f, lAnd_t, lAnd_f, lOr_t, lOr_f, lAndV_b, lOrV_b, lAnd_b, lOr_b, lZip_l, lZip_t, fLen_l, fLen_t, fTuple_l, fTuple_t, fList_l, fList_t, fInt_i, fInt_b, oIx_l, oIx_t, oAdd_i, oSub_i, oLt_i, oLe_i, oGt_i, oGe_i, oIs_n, oIsNot_n, isNone_o, isNone_i, isNone_n, isNone_l, isNone_t, oEq_int, oNe_int, oEq_str, oNe_str, slT_f, slT_t, atD_0, atD_1, atD_2, atD_3, atD_4, atD_nat, fIsi_n, fIsi_i, fIsi_b, fIsi_s, fIsi_l, fIsi_t, fIsi2_n, fIsi2_i, fIsi2_b, fIsi2_s, fIsi2_l, fIsi2_t, oD_some, oD_none, Option.isSome_some, Option.isSome_none, List.length_cons, List.length_nil, List.length_map, List.getElem?_cons_zero, List.getElem?_cons_succ, Option.map_some, Option.map_none, List.getElem?_map, if_true, if_false, ite_true, ite_false, ↓reduceIte, Bool.not_true, Bool.not_false, Bool.true_and, Bool.false_and, Bool.and_true, Bool.and_false, Bool.true_or, Bool.false_or, Bool.or_true, Bool.or_false, Bool.not_not, decide_true, decide_false, Int.cast_ofNat_Int, Int.reduceAdd, Int.reduceSub, Int.reduceMul, Nat.reduceAdd, Nat.zero_add, reduceCtorEq, is_number_n b hd, bk1, ksAt, List.getElem?_eq_getElem hd, kind0, who_out, hk]
theorem below_n {i m : Nat} (h : i < m) : cF fs_is_below [.int i, .int m] = some (.bool true) := by
  rw [is_below_c, decide_eq_true (show (0 : Int) ≤ i by omega), decide_eq_true (show (i : Int) < m by omega)]; rfl
theorem is_helper_c {i : Nat} (h : i < 100) : cF fs_is_helper [.int i] = some (.bool true) := by
  refine q_is_helper ?_
  unfold l_is_helper
  have e : cF fs_is_below [.int i, .int 100] = some (.bool true) := below_n (m := 100) h
  simp -dsimp -implicitDefEqProofs only [bind_some', asB_b, asI_i, lL_l, lT_t, lS_l, lS_t, lSh_l, lSh_d, lTup2_t, lTup3_t, lAndV_t, lAndV_f, lOrV_t, lOrV_f, lAnd_t, lAnd_f, lOr_t, lOr_f, lAndV_b, lOrV_b, lAnd_b, lOr_b, lZip_l, lZip_t, fLen_l, fLen_t, fTuple_l, fTuple_t, fList_l, fList_t, fInt_i, fInt_b, oIx_l, oIx_t, oAdd_i, oSub_i, oLt_i, oLe_i, oGt_i, oGe_i, oIs_n, oIsNot_n, isNone_o, isNone_i, isNone_n, isNone_l, isNone_t, oEq_int, oNe_int, oEq_str, oNe_str, slT_f, slT_t, atD_0, atD_1, atD_2, atD_3, atD_4, atD_nat, fIsi_n, fIsi_i, fIsi_b, fIsi_s, fIsi_l, fIsi_t, fIsi2_n, fIsi2_i, fIsi2_b, fIsi2_s, fIsi2_l, fIsi2_t, oD_some, oD_none, Option.isSome_some, Option.isSome_none, List.length_cons, List.length_nil, List.length_map, List.getElem?_cons_zero, List.getElem?_cons_succ, Option.map_some, Option.map_none, List.getElem?_map, if_true, if_false, ite_true, ite_false, ↓reduceIte, Bool.not_true, Bool.not_false, Bool.true_and, Bool.false_and, Bool.and_true, Bool.and_false, Bool.true_or, Bool.false_or, Bool.or_true, Bool.or_false, Bool.not_not, decide_true, decide_false, Int.cast_ofNat_Int, Int.reduceAdd, Int.reduceSub, Int.reduceMul, Nat.reduceAdd, Nat.zero_add, reduceCtorEq, e]
theorem is_late_c {i : Nat} (h : i ≤ 1000) : cF fs_is_late [.int i] = some (.bool true) := by
  refine q_is_late ?_
  unfold l_is_late
  have e : cF fs_is_below [.int i, .int 1001] = some (.bool true) := below_n (m := 1001) (by omega)
  have e2 : ((1000 : Int) + 1) = 1001 := rfl
  simp -dsimp -implicitDefEqProofs only [bind_some', asB_b, asI_i, lL_l, lT_t, lS_l, lS_t, lSh_l, lSh_d, lTup2_t, lTup3_t, lAndV_t, lAndV_f, lOrV_t, lOrV_f, lAnd_t, lAnd_f, lOr_t, lOr_f, lAndV_b, lOrV_b, lAnd_b, lOr_b, lZip_l, lZip_t, fLen_l, fLen_t, fTuple_l, fTuple_t, fList_l, fList_t, fInt_i, fInt_b, oIx_l, oIx_t, oAdd_i, oSub_i, oLt_i, oLe_i, oGt_i, oGe_i, oIs_n, oIsNot_n, isNone_o, isNone_i, isNone_n, isNone_l, isNone_t, oEq_int, oNe_int, oEq_str, oNe_str, slT_f, slT_t, atD_0, atD_1, atD_2, atD_3, atD_4, atD_nat, fIsi_n, fIsi_i, fIsi_b, fIsi_s, fIsi_l, fIsi_t, fIsi2_n, fIsi2_i, fIsi2_b, fIsi2_s, fIsi2_l, fIsi2_t, oD_some, oD_none, Option.isSome_some, Option.isSome_none, List.length_cons, List.length_nil, List.length_map, List.getElem?_cons_zero, List.getElem?_cons_succ, Option.map_some, Option.map_none, List.getElem?_map, if_true, if_false, ite_true, ite_false, ↓reduceIte, Bool.not_true, Bool.not_false, Bool.true_and, Bool.false_and, Bool.and_true, Bool.and_false, Bool.true_or, Bool.false_or, Bool.or_true, Bool.or_false, Bool.not_not, decide_true, decide_false, Int.cast_ofNat_Int, Int.reduceAdd, Int.reduceSub, Int.reduceMul, Nat.reduceAdd, Nat.zero_add, reduceCtorEq, e2, e]
theorem s_lc : decide (Str.ofString "look" = Str.ofString "come") = false := by decide +kernel
theorem s_dc : decide (Str.ofString "do" = Str.ofString "come") = false := by decide +kernel
theorem s_dl : decide (Str.ofString "do" = Str.ofString "look") = false := by decide +kernel
theorem i32 : decide ((3 : Int) = 2) = false := by decide
theorem is_entry_c {b : Bk} {e : Ent} (he : e.Ok b) : cF fs_is_entry [bkD b, entD e] = some (.bool true) := by
  refine q_is_entry ?_
  unfold l_is_entry entD
  cases e with
  | come k => simp -dsimp -implicitDefEqProofs only [bind_some', asB_b, asI_i, lL_l, lT_t, lS_l, lS_t, lSh_l, lSh_d, lTup2_t, lTup3_t, lAndV_t, lAndV_f, lOrV_t, lOrV_f, lAnd_t, lAnd_f, lOr_t, lOr_f, lAndV_b, lOrV_b, lAnd_b, lOr_b, lZip_l, lZip_t, fLen_l, fLen_t, fTuple_l, fTuple_t, fList_l, fList_t, fInt_i, fInt_b, oIx_l, oIx_t, oAdd_i, oSub_i, oLt_i, oLe_i, oGt_i, oGe_i, oIs_n, oIsNot_n, isNone_o, isNone_i, isNone_n, isNone_l, isNone_t, oEq_int, oNe_int, oEq_str, oNe_str, slT_f, slT_t, atD_0, atD_1, atD_2, atD_3, atD_4, atD_nat, fIsi_n, fIsi_i, fIsi_b, fIsi_s, fIsi_l, fIsi_t, fIsi2_n, fIsi2_i, fIsi2_b, fIsi2_s, fIsi2_l, fIsi2_t, oD_some, oD_none, Option.isSome_some, Option.isSome_none, List.length_cons, List.length_nil, List.length_map, List.getElem?_cons_zero, List.getElem?_cons_succ, Option.map_some, Option.map_none, List.getElem?_map, if_true, if_false, ite_true, ite_false, ↓reduceIte, Bool.not_true, Bool.not_false, Bool.true_and, Bool.false_and, Bool.and_true, Bool.and_false, Bool.true_or, Bool.false_or, Bool.or_true, Bool.or_false, Bool.not_not, decide_true, decide_false, Int.cast_ofNat_Int, Int.reduceAdd, Int.reduceSub, Int.reduceMul, Nat.reduceAdd, Nat.zero_add, reduceCtorEq, is_out_c he]
  | look h l => simp -dsimp -implicitDefEqProofs only [bind_some', asB_b, asI_i, lL_l, lT_t, lS_l, lS_t, lSh_l, lSh_d, lTup2_t, lTup3_t, lAndV_t, lAndV_f, lOrV_t, lOrV_f, lAnd_t, lAnd_f, lOr_t, lOr_f, lAndV_b, lOrV_b, lAnd_b, lOr_b, lZip_l, lZip_t, fLen_l, fLen_t, fTuple_l, fTuple_t, fList_l, fList_t, fInt_i, fInt_b, oIx_l, oIx_t, oAdd_i, oSub_i, oLt_i, oLe_i, oGt_i, oGe_i, oIs_n, oIsNot_n, isNone_o, isNone_i, isNone_n, isNone_l, isNone_t, oEq_int, oNe_int, oEq_str, oNe_str, slT_f, slT_t, atD_0, atD_1, atD_2, atD_3, atD_4, atD_nat, fIsi_n, fIsi_i, fIsi_b, fIsi_s, fIsi_l, fIsi_t, fIsi2_n, fIsi2_i, fIsi2_b, fIsi2_s, fIsi2_l, fIsi2_t, oD_some, oD_none, Option.isSome_some, Option.isSome_none, List.length_cons, List.length_nil, List.length_map, List.getElem?_cons_zero, List.getElem?_cons_succ, Option.map_some, Option.map_none, List.getElem?_map, if_true, if_false, ite_true, ite_false, ↓reduceIte, Bool.not_true, Bool.not_false, Bool.true_and, Bool.false_and, Bool.and_true, Bool.and_false, Bool.true_or, Bool.false_or, Bool.or_true, Bool.or_false, Bool.not_not, decide_true, decide_false, Int.cast_ofNat_Int, Int.reduceAdd, Int.reduceSub, Int.reduceMul, Nat.reduceAdd, Nat.zero_add, reduceCtorEq, i32, s_lc, is_helper_c he.1, is_late_c he.2, Bool.false_eq_true]
  | deed h d => simp -dsimp -implicitDefEqProofs only [bind_some', asB_b, asI_i, lL_l, lT_t, lS_l, lS_t, lSh_l, lSh_d, lTup2_t, lTup3_t, lAndV_t, lAndV_f, lOrV_t, lOrV_f, lAnd_t, lAnd_f, lOr_t, lOr_f, lAndV_b, lOrV_b, lAnd_b, lOr_b, lZip_l, lZip_t, fLen_l, fLen_t, fTuple_l, fTuple_t, fList_l, fList_t, fInt_i, fInt_b, oIx_l, oIx_t, oAdd_i, oSub_i, oLt_i, oLe_i, oGt_i, oGe_i, oIs_n, oIsNot_n, isNone_o, isNone_i, isNone_n, isNone_l, isNone_t, oEq_int, oNe_int, oEq_str, oNe_str, slT_f, slT_t, atD_0, atD_1, atD_2, atD_3, atD_4, atD_nat, fIsi_n, fIsi_i, fIsi_b, fIsi_s, fIsi_l, fIsi_t, fIsi2_n, fIsi2_i, fIsi2_b, fIsi2_s, fIsi2_l, fIsi2_t, oD_some, oD_none, Option.isSome_some, Option.isSome_none, List.length_cons, List.length_nil, List.length_map, List.getElem?_cons_zero, List.getElem?_cons_succ, Option.map_some, Option.map_none, List.getElem?_map, if_true, if_false, ite_true, ite_false, ↓reduceIte, Bool.not_true, Bool.not_false, Bool.true_and, Bool.false_and, Bool.and_true, Bool.and_false, Bool.true_or, Bool.false_or, Bool.or_true, Bool.or_false, Bool.not_not, decide_true, decide_false, Int.cast_ofNat_Int, Int.reduceAdd, Int.reduceSub, Int.reduceMul, Nat.reduceAdd, Nat.zero_add, reduceCtorEq, i32, s_dc, s_dl, is_helper_c he.1, is_deed_c he.2, Bool.false_eq_true]
def logD (es : List Ent) : List D := es.map entD
def IsLog (d : D) (es : List Ent) : Prop := d = .list (logD es) ∨ d = .tuple (logD es)
theorem IsLog.s {d : D} {es : List Ent} (h : IsLog d es) : lS d = some (logD es) := by rcases h with rfl | rfl <;> rfl
structure LogOk (b : Bk) (es : List Ent) : Prop where
  ok : ∀ e ∈ es, e.Ok b
  len : es.length ≤ 500
theorem need_log_c {b : Bk} {log : D} {es : List Ent} (hl : IsLog log es) (h : LogOk b es) : cF fs_need_log [bkD b, log] = some .none := by
  refine q_need_log ?_
  unfold l_need_log
  have e1 : fIsi2 .list .tuple log = some (.bool true) := by rcases hl with rfl | rfl <;> rfl
  have e2 : lc (fun d4 => (cF fs_is_entry [bkD b, d4]).bd fun a5 => some [a5]) (logD es) = some (es.map fun _ => .bool true) := by
    refine lc_each _ (by have := h.len; omega) fun e he => ?_
    simp -dsimp -implicitDefEqProofs only [bind_some', asB_b, asI_i, lL_l, lT_t, lS_l, lS_t, lSh_l, lSh_d, lTup2_t, lTup3_t, lAndV_t, lAndV_f, lOrV_t, lOrV_f, lAnd_t, lAnd_f, lOr_t, lOr_f, lAndV_b, lOrV_b, lAnd_b, lOr_b, lZip_l, lZip_t, fLen_l, fLen_t, fTuple_l, fTuple_t, fList_l, fList_t, fInt_i, fInt_b, oIx_l, oIx_t, oAdd_i, oSub_i, oLt_i, oLe_i, oGt_i, oGe_i, oIs_n, oIsNot_n, isNone_o, isNone_i, isNone_n, isNone_l, isNone_t, oEq_int, oNe_int, oEq_str, oNe_str, slT_f, slT_t, atD_0, atD_1, atD_2, atD_3, atD_4, atD_nat, fIsi_n, fIsi_i, fIsi_b, fIsi_s, fIsi_l, fIsi_t, fIsi2_n, fIsi2_i, fIsi2_b, fIsi2_s, fIsi2_l, fIsi2_t, oD_some, oD_none, Option.isSome_some, Option.isSome_none, List.length_cons, List.length_nil, List.length_map, List.getElem?_cons_zero, List.getElem?_cons_succ, Option.map_some, Option.map_none, List.getElem?_map, if_true, if_false, ite_true, ite_false, ↓reduceIte, Bool.not_true, Bool.not_false, Bool.true_and, Bool.false_and, Bool.and_true, Bool.and_false, Bool.true_or, Bool.false_or, Bool.or_true, Bool.or_false, Bool.not_not, decide_true, decide_false, Int.cast_ofNat_Int, Int.reduceAdd, Int.reduceSub, Int.reduceMul, Nat.reduceAdd, Nat.zero_add, reduceCtorEq, is_entry_c (h.ok e he)]
  simp -dsimp -implicitDefEqProofs only [bind_some', asB_b, asI_i, lL_l, lT_t, lS_l, lS_t, lSh_l, lSh_d, lTup2_t, lTup3_t, lAndV_t, lAndV_f, lOrV_t, lOrV_f, lAnd_t, lAnd_f, lOr_t, lOr_f, lAndV_b, lOrV_b, lAnd_b, lOr_b, lZip_l, lZip_t, fLen_l, fLen_t, fTuple_l, fTuple_t, fList_l, fList_t, fInt_i, fInt_b, oIx_l, oIx_t, oAdd_i, oSub_i, oLt_i, oLe_i, oGt_i, oGe_i, oIs_n, oIsNot_n, isNone_o, isNone_i, isNone_n, isNone_l, isNone_t, oEq_int, oNe_int, oEq_str, oNe_str, slT_f, slT_t, atD_0, atD_1, atD_2, atD_3, atD_4, atD_nat, fIsi_n, fIsi_i, fIsi_b, fIsi_s, fIsi_l, fIsi_t, fIsi2_n, fIsi2_i, fIsi2_b, fIsi2_s, fIsi2_l, fIsi2_t, oD_some, oD_none, Option.isSome_some, Option.isSome_none, List.length_cons, List.length_nil, List.length_map, List.getElem?_cons_zero, List.getElem?_cons_succ, Option.map_some, Option.map_none, List.getElem?_map, if_true, if_false, ite_true, ite_false, ↓reduceIte, Bool.not_true, Bool.not_false, Bool.true_and, Bool.false_and, Bool.and_true, Bool.and_false, Bool.true_or, Bool.false_or, Bool.or_true, Bool.or_false, Bool.not_not, decide_true, decide_false, Int.cast_ofNat_Int, Int.reduceAdd, Int.reduceSub, Int.reduceMul, Nat.reduceAdd, Nat.zero_add, reduceCtorEq, e1, hl.s, e2, fAll_true, Bool.false_eq_true]
section
variable {b : Bk} (ok : b.Ok) {ms : List (List Nat)} {n : Nat} {T : Talk}
include ok
theorem tcome_c (h : T.Ok b n) (hn : n ≤ 1000) {k : Nat} (hk : k < b.ks.length) : cI fs_Talk_come [tkD b ms T, .int k] = some (oD (b.at T.last k), tkD b ms (T.come b k)) := by
  refine so_eq (c_Talk_come (so_of (a := (oD (b.at T.last k), tkD b ms (T.come b k))) ?_ rfl))
  have h1 := h.hl
  have h2 := h.len
  unfold l_Talk_come Talk.come
  simp -dsimp -implicitDefEqProofs only [bind_some', asB_b, asI_i, lL_l, lT_t, lS_l, lS_t, lSh_l, lSh_d, lTup2_t, lTup3_t, lAndV_t, lAndV_f, lOrV_t, lOrV_f, lAnd_t, lAnd_f, lOr_t, lOr_f, lAndV_b, lOrV_b, lAnd_b, lOr_b, lZip_l, lZip_t, fLen_l, fLen_t, fTuple_l, fTuple_t, fList_l, fList_t, fInt_i, fInt_b, oIx_l, oIx_t, oAdd_i, oSub_i, oLt_i, oLe_i, oGt_i, oGe_i, oIs_n, oIsNot_n, isNone_o, isNone_i, isNone_n, isNone_l, isNone_t, oEq_int, oNe_int, oEq_str, oNe_str, slT_f, slT_t, atD_0, atD_1, atD_2, atD_3, atD_4, atD_nat, fIsi_n, fIsi_i, fIsi_b, fIsi_s, fIsi_l, fIsi_t, fIsi2_n, fIsi2_i, fIsi2_b, fIsi2_s, fIsi2_l, fIsi2_t, oD_some, oD_none, Option.isSome_some, Option.isSome_none, List.length_cons, List.length_nil, List.length_map, List.getElem?_cons_zero, List.getElem?_cons_succ, Option.map_some, Option.map_none, List.getElem?_map, if_true, if_false, ite_true, ite_false, ↓reduceIte, Bool.not_true, Bool.not_false, Bool.true_and, Bool.false_and, Bool.and_true, Bool.and_false, Bool.true_or, Bool.false_or, Bool.or_true, Bool.or_false, Bool.not_not, decide_true, decide_false, Int.cast_ofNat_Int, Int.reduceAdd, Int.reduceSub, Int.reduceMul, Nat.reduceAdd, Nat.zero_add, reduceCtorEq, lTkB_t, lTk_st, lNeg1, last_at h, behind_c ok h.last_lt hk]
  cases e : b.at T.last k with
  | none => simp -dsimp -implicitDefEqProofs only [bind_some', asB_b, asI_i, lL_l, lT_t, lS_l, lS_t, lSh_l, lSh_d, lTup2_t, lTup3_t, lAndV_t, lAndV_f, lOrV_t, lOrV_f, lAnd_t, lAnd_f, lOr_t, lOr_f, lAndV_b, lOrV_b, lAnd_b, lOr_b, lZip_l, lZip_t, fLen_l, fLen_t, fTuple_l, fTuple_t, fList_l, fList_t, fInt_i, fInt_b, oIx_l, oIx_t, oAdd_i, oSub_i, oLt_i, oLe_i, oGt_i, oGe_i, oIs_n, oIsNot_n, isNone_o, isNone_i, isNone_n, isNone_l, isNone_t, oEq_int, oNe_int, oEq_str, oNe_str, slT_f, slT_t, atD_0, atD_1, atD_2, atD_3, atD_4, atD_nat, fIsi_n, fIsi_i, fIsi_b, fIsi_s, fIsi_l, fIsi_t, fIsi2_n, fIsi2_i, fIsi2_b, fIsi2_s, fIsi2_l, fIsi2_t, oD_some, oD_none, Option.isSome_some, Option.isSome_none, List.length_cons, List.length_nil, List.length_map, List.getElem?_cons_zero, List.getElem?_cons_succ, Option.map_some, Option.map_none, List.getElem?_map, if_true, if_false, ite_true, ite_false, ↓reduceIte, Bool.not_true, Bool.not_false, Bool.true_and, Bool.false_and, Bool.and_true, Bool.and_false, Bool.true_or, Bool.false_or, Bool.or_true, Bool.or_false, Bool.not_not, decide_true, decide_false, Int.cast_ofNat_Int, Int.reduceAdd, Int.reduceSub, Int.reduceMul, Nat.reduceAdd, Nat.zero_add, reduceCtorEq, Bool.false_eq_true]
  | some t =>
    simp -dsimp -implicitDefEqProofs only [bind_some', asB_b, asI_i, lL_l, lT_t, lS_l, lS_t, lSh_l, lSh_d, lTup2_t, lTup3_t, lAndV_t, lAndV_f, lOrV_t, lOrV_f, lAnd_t, lAnd_f, lOr_t, lOr_f, lAndV_b, lOrV_b, lAnd_b, lOr_b, lZip_l, lZip_t, fLen_l, fLen_t, fTuple_l, fTuple_t, fList_l, fList_t, fInt_i, fInt_b, oIx_l, oIx_t, oAdd_i, oSub_i, oLt_i, oLe_i, oGt_i, oGe_i, oIs_n, oIsNot_n, isNone_o, isNone_i, isNone_n, isNone_l, isNone_t, oEq_int, oNe_int, oEq_str, oNe_str, slT_f, slT_t, atD_0, atD_1, atD_2, atD_3, atD_4, atD_nat, fIsi_n, fIsi_i, fIsi_b, fIsi_s, fIsi_l, fIsi_t, fIsi2_n, fIsi2_i, fIsi2_b, fIsi2_s, fIsi2_l, fIsi2_t, oD_some, oD_none, Option.isSome_some, Option.isSome_none, List.length_cons, List.length_nil, List.length_map, List.getElem?_cons_zero, List.getElem?_cons_succ, Option.map_some, Option.map_none, List.getElem?_map, if_true, if_false, ite_true, ite_false, ↓reduceIte, Bool.not_true, Bool.not_false, Bool.true_and, Bool.false_and, Bool.and_true, Bool.and_false, Bool.true_or, Bool.false_or, Bool.or_true, Bool.or_false, Bool.not_not, decide_true, decide_false, Int.cast_ofNat_Int, Int.reduceAdd, Int.reduceSub, Int.reduceMul, Nat.reduceAdd, Nat.zero_add, reduceCtorEq, lTk_ha, gApp_l' _ _ (show (natL T.hap).length < 100000 by rw [natL_len]; omega), natL_app, lTkP_ha, lTk_st, gApp_l' _ _ (show (natL T.sts).length < 100000 by rw [natL_len]; omega), lTkP_st]
theorem tlook_c (h : T.Ok b n) (hn : n ≤ 1000) (u l : Nat) : cI fs_Talk_look [tkD b ms T, .int u, .int l] = some (.int (T.sts.getD (T.mo l) 0 : Nat), tkD b ms (T.look u l)) := by
  refine so_eq (c_Talk_look (so_of (a := (.int (T.sts.getD (T.mo l) 0 : Nat), tkD b ms (T.look u l))) ?_ rfl))
  have h1 := h.ml
  have e : gPut (momD T.mom) [.int ((T.hap.length - l : Nat) : Int), .int u] = some (momD (putM u (T.hap.length - l) T.mom)) := gPut_M u (T.hap.length - l) T.mom (by omega)
  unfold l_Talk_look
  simp -dsimp -implicitDefEqProofs only [bind_some', asB_b, asI_i, lL_l, lT_t, lS_l, lS_t, lSh_l, lSh_d, lTup2_t, lTup3_t, lAndV_t, lAndV_f, lOrV_t, lOrV_f, lAnd_t, lAnd_f, lOr_t, lOr_f, lAndV_b, lOrV_b, lAnd_b, lOr_b, lZip_l, lZip_t, fLen_l, fLen_t, fTuple_l, fTuple_t, fList_l, fList_t, fInt_i, fInt_b, oIx_l, oIx_t, oAdd_i, oSub_i, oLt_i, oLe_i, oGt_i, oGe_i, oIs_n, oIsNot_n, isNone_o, isNone_i, isNone_n, isNone_l, isNone_t, oEq_int, oNe_int, oEq_str, oNe_str, slT_f, slT_t, atD_0, atD_1, atD_2, atD_3, atD_4, atD_nat, fIsi_n, fIsi_i, fIsi_b, fIsi_s, fIsi_l, fIsi_t, fIsi2_n, fIsi2_i, fIsi2_b, fIsi2_s, fIsi2_l, fIsi2_t, oD_some, oD_none, Option.isSome_some, Option.isSome_none, List.length_cons, List.length_nil, List.length_map, List.getElem?_cons_zero, List.getElem?_cons_succ, Option.map_some, Option.map_none, List.getElem?_map, if_true, if_false, ite_true, ite_false, ↓reduceIte, Bool.not_true, Bool.not_false, Bool.true_and, Bool.false_and, Bool.and_true, Bool.and_false, Bool.true_or, Bool.false_or, Bool.or_true, Bool.or_false, Bool.not_not, decide_true, decide_false, Int.cast_ofNat_Int, Int.reduceAdd, Int.reduceSub, Int.reduceMul, Nat.reduceAdd, Nat.zero_add, reduceCtorEq, lTk_ha, natL_len, max0, lTk_mo, e, lTkP_mo, lTk_st, sts_at h (show T.hap.length - l ≤ T.hap.length by omega)]
  rfl
theorem tsight_c (h : T.Ok b n) (u : Nat) : cI fs_Talk_sight [tkD b ms T, .int u] = some (oD (T.sight u), tkD b ms T) := by
  refine so_eq (c_Talk_sight (so_of (a := (oD (T.sight u), tkD b ms T)) ?_ rfl))
  unfold l_Talk_sight Talk.sight
  simp -dsimp -implicitDefEqProofs only [bind_some', asB_b, asI_i, lL_l, lT_t, lS_l, lS_t, lSh_l, lSh_d, lTup2_t, lTup3_t, lAndV_t, lAndV_f, lOrV_t, lOrV_f, lAnd_t, lAnd_f, lOr_t, lOr_f, lAndV_b, lOrV_b, lAnd_b, lOr_b, lZip_l, lZip_t, fLen_l, fLen_t, fTuple_l, fTuple_t, fList_l, fList_t, fInt_i, fInt_b, oIx_l, oIx_t, oAdd_i, oSub_i, oLt_i, oLe_i, oGt_i, oGe_i, oIs_n, oIsNot_n, isNone_o, isNone_i, isNone_n, isNone_l, isNone_t, oEq_int, oNe_int, oEq_str, oNe_str, slT_f, slT_t, atD_0, atD_1, atD_2, atD_3, atD_4, atD_nat, fIsi_n, fIsi_i, fIsi_b, fIsi_s, fIsi_l, fIsi_t, fIsi2_n, fIsi2_i, fIsi2_b, fIsi2_s, fIsi2_l, fIsi2_t, oD_some, oD_none, Option.isSome_some, Option.isSome_none, List.length_cons, List.length_nil, List.length_map, List.getElem?_cons_zero, List.getElem?_cons_succ, Option.map_some, Option.map_none, List.getElem?_map, if_true, if_false, ite_true, ite_false, ↓reduceIte, Bool.not_true, Bool.not_false, Bool.true_and, Bool.false_and, Bool.and_true, Bool.and_false, Bool.true_or, Bool.false_or, Bool.or_true, Bool.or_false, Bool.not_not, decide_true, decide_false, Int.cast_ofNat_Int, Int.reduceAdd, Int.reduceSub, Int.reduceMul, Nat.reduceAdd, Nat.zero_add, reduceCtorEq, lTk_mo, lDi_M, getN_M]
  cases e : lookM u T.mom with
  | none => simp -dsimp -implicitDefEqProofs only [bind_some', asB_b, asI_i, lL_l, lT_t, lS_l, lS_t, lSh_l, lSh_d, lTup2_t, lTup3_t, lAndV_t, lAndV_f, lOrV_t, lOrV_f, lAnd_t, lAnd_f, lOr_t, lOr_f, lAndV_b, lOrV_b, lAnd_b, lOr_b, lZip_l, lZip_t, fLen_l, fLen_t, fTuple_l, fTuple_t, fList_l, fList_t, fInt_i, fInt_b, oIx_l, oIx_t, oAdd_i, oSub_i, oLt_i, oLe_i, oGt_i, oGe_i, oIs_n, oIsNot_n, isNone_o, isNone_i, isNone_n, isNone_l, isNone_t, oEq_int, oNe_int, oEq_str, oNe_str, slT_f, slT_t, atD_0, atD_1, atD_2, atD_3, atD_4, atD_nat, fIsi_n, fIsi_i, fIsi_b, fIsi_s, fIsi_l, fIsi_t, fIsi2_n, fIsi2_i, fIsi2_b, fIsi2_s, fIsi2_l, fIsi2_t, oD_some, oD_none, Option.isSome_some, Option.isSome_none, List.length_cons, List.length_nil, List.length_map, List.getElem?_cons_zero, List.getElem?_cons_succ, Option.map_some, Option.map_none, List.getElem?_map, if_true, if_false, ite_true, ite_false, ↓reduceIte, Bool.not_true, Bool.not_false, Bool.true_and, Bool.false_and, Bool.and_true, Bool.and_false, Bool.true_or, Bool.false_or, Bool.or_true, Bool.or_false, Bool.not_not, decide_true, decide_false, Int.cast_ofNat_Int, Int.reduceAdd, Int.reduceSub, Int.reduceMul, Nat.reduceAdd, Nat.zero_add, reduceCtorEq, Option.map_none, Option.getD_none]
  | some m =>
    have z := sts_at h (h.mom e)
    have z2 : isNone (nD m) = false := rfl
    simp -dsimp -implicitDefEqProofs only [bind_some', asB_b, asI_i, lL_l, lT_t, lS_l, lS_t, lSh_l, lSh_d, lTup2_t, lTup3_t, lAndV_t, lAndV_f, lOrV_t, lOrV_f, lAnd_t, lAnd_f, lOr_t, lOr_f, lAndV_b, lOrV_b, lAnd_b, lOr_b, lZip_l, lZip_t, fLen_l, fLen_t, fTuple_l, fTuple_t, fList_l, fList_t, fInt_i, fInt_b, oIx_l, oIx_t, oAdd_i, oSub_i, oLt_i, oLe_i, oGt_i, oGe_i, oIs_n, oIsNot_n, isNone_o, isNone_i, isNone_n, isNone_l, isNone_t, oEq_int, oNe_int, oEq_str, oNe_str, slT_f, slT_t, atD_0, atD_1, atD_2, atD_3, atD_4, atD_nat, fIsi_n, fIsi_i, fIsi_b, fIsi_s, fIsi_l, fIsi_t, fIsi2_n, fIsi2_i, fIsi2_b, fIsi2_s, fIsi2_l, fIsi2_t, oD_some, oD_none, Option.isSome_some, Option.isSome_none, List.length_cons, List.length_nil, List.length_map, List.getElem?_cons_zero, List.getElem?_cons_succ, Option.map_some, Option.map_none, List.getElem?_map, if_true, if_false, ite_true, ite_false, ↓reduceIte, Bool.not_true, Bool.not_false, Bool.true_and, Bool.false_and, Bool.and_true, Bool.and_false, Bool.true_or, Bool.false_or, Bool.or_true, Bool.or_false, Bool.not_not, decide_true, decide_false, Int.cast_ofNat_Int, Int.reduceAdd, Int.reduceSub, Int.reduceMul, Nat.reduceAdd, Nat.zero_add, reduceCtorEq, Option.map_some, Option.getD_some, z2, lTk_st, Bool.false_eq_true]
    unfold nD
    simp -dsimp -implicitDefEqProofs only [bind_some', asB_b, asI_i, lL_l, lT_t, lS_l, lS_t, lSh_l, lSh_d, lTup2_t, lTup3_t, lAndV_t, lAndV_f, lOrV_t, lOrV_f, lAnd_t, lAnd_f, lOr_t, lOr_f, lAndV_b, lOrV_b, lAnd_b, lOr_b, lZip_l, lZip_t, fLen_l, fLen_t, fTuple_l, fTuple_t, fList_l, fList_t, fInt_i, fInt_b, oIx_l, oIx_t, oAdd_i, oSub_i, oLt_i, oLe_i, oGt_i, oGe_i, oIs_n, oIsNot_n, isNone_o, isNone_i, isNone_n, isNone_l, isNone_t, oEq_int, oNe_int, oEq_str, oNe_str, slT_f, slT_t, atD_0, atD_1, atD_2, atD_3, atD_4, atD_nat, fIsi_n, fIsi_i, fIsi_b, fIsi_s, fIsi_l, fIsi_t, fIsi2_n, fIsi2_i, fIsi2_b, fIsi2_s, fIsi2_l, fIsi2_t, oD_some, oD_none, Option.isSome_some, Option.isSome_none, List.length_cons, List.length_nil, List.length_map, List.getElem?_cons_zero, List.getElem?_cons_succ, Option.map_some, Option.map_none, List.getElem?_map, if_true, if_false, ite_true, ite_false, ↓reduceIte, Bool.not_true, Bool.not_false, Bool.true_and, Bool.false_and, Bool.and_true, Bool.and_false, Bool.true_or, Bool.false_or, Bool.or_true, Bool.or_false, Bool.not_not, decide_true, decide_false, Int.cast_ofNat_Int, Int.reduceAdd, Int.reduceSub, Int.reduceMul, Nat.reduceAdd, Nat.zero_add, reduceCtorEq, z]
def oR : Option (List Nat) → D
  | none => .none
  | some r => .list (natL r)
theorem tsince_c (h : T.Ok b n) (u : Nat) : cI fs_Talk_since [tkD b ms T, .int u] = some (oR (T.since u), tkD b ms T) := by
  refine so_eq (c_Talk_since (so_of (a := (oR (T.since u), tkD b ms T)) ?_ rfl))
  unfold l_Talk_since Talk.since
  simp -dsimp -implicitDefEqProofs only [bind_some', asB_b, asI_i, lL_l, lT_t, lS_l, lS_t, lSh_l, lSh_d, lTup2_t, lTup3_t, lAndV_t, lAndV_f, lOrV_t, lOrV_f, lAnd_t, lAnd_f, lOr_t, lOr_f, lAndV_b, lOrV_b, lAnd_b, lOr_b, lZip_l, lZip_t, fLen_l, fLen_t, fTuple_l, fTuple_t, fList_l, fList_t, fInt_i, fInt_b, oIx_l, oIx_t, oAdd_i, oSub_i, oLt_i, oLe_i, oGt_i, oGe_i, oIs_n, oIsNot_n, isNone_o, isNone_i, isNone_n, isNone_l, isNone_t, oEq_int, oNe_int, oEq_str, oNe_str, slT_f, slT_t, atD_0, atD_1, atD_2, atD_3, atD_4, atD_nat, fIsi_n, fIsi_i, fIsi_b, fIsi_s, fIsi_l, fIsi_t, fIsi2_n, fIsi2_i, fIsi2_b, fIsi2_s, fIsi2_l, fIsi2_t, oD_some, oD_none, Option.isSome_some, Option.isSome_none, List.length_cons, List.length_nil, List.length_map, List.getElem?_cons_zero, List.getElem?_cons_succ, Option.map_some, Option.map_none, List.getElem?_map, if_true, if_false, ite_true, ite_false, ↓reduceIte, Bool.not_true, Bool.not_false, Bool.true_and, Bool.false_and, Bool.and_true, Bool.and_false, Bool.true_or, Bool.false_or, Bool.or_true, Bool.or_false, Bool.not_not, decide_true, decide_false, Int.cast_ofNat_Int, Int.reduceAdd, Int.reduceSub, Int.reduceMul, Nat.reduceAdd, Nat.zero_add, reduceCtorEq, lTk_mo, lDi_M, getN_M]
  cases e : lookM u T.mom with
  | none =>
    simp -dsimp -implicitDefEqProofs only [bind_some', asB_b, asI_i, lL_l, lT_t, lS_l, lS_t, lSh_l, lSh_d, lTup2_t, lTup3_t, lAndV_t, lAndV_f, lOrV_t, lOrV_f, lAnd_t, lAnd_f, lOr_t, lOr_f, lAndV_b, lOrV_b, lAnd_b, lOr_b, lZip_l, lZip_t, fLen_l, fLen_t, fTuple_l, fTuple_t, fList_l, fList_t, fInt_i, fInt_b, oIx_l, oIx_t, oAdd_i, oSub_i, oLt_i, oLe_i, oGt_i, oGe_i, oIs_n, oIsNot_n, isNone_o, isNone_i, isNone_n, isNone_l, isNone_t, oEq_int, oNe_int, oEq_str, oNe_str, slT_f, slT_t, atD_0, atD_1, atD_2, atD_3, atD_4, atD_nat, fIsi_n, fIsi_i, fIsi_b, fIsi_s, fIsi_l, fIsi_t, fIsi2_n, fIsi2_i, fIsi2_b, fIsi2_s, fIsi2_l, fIsi2_t, oD_some, oD_none, Option.isSome_some, Option.isSome_none, List.length_cons, List.length_nil, List.length_map, List.getElem?_cons_zero, List.getElem?_cons_succ, Option.map_some, Option.map_none, List.getElem?_map, if_true, if_false, ite_true, ite_false, ↓reduceIte, Bool.not_true, Bool.not_false, Bool.true_and, Bool.false_and, Bool.and_true, Bool.and_false, Bool.true_or, Bool.false_or, Bool.or_true, Bool.or_false, Bool.not_not, decide_true, decide_false, Int.cast_ofNat_Int, Int.reduceAdd, Int.reduceSub, Int.reduceMul, Nat.reduceAdd, Nat.zero_add, reduceCtorEq, Option.map_none, Option.getD_none]
    rfl
  | some m =>
    have z2 : isNone (nD m) = false := rfl
    have z3 : asI (nD m) = some (m : Int) := rfl
    simp -dsimp -implicitDefEqProofs only [bind_some', asB_b, asI_i, lL_l, lT_t, lS_l, lS_t, lSh_l, lSh_d, lTup2_t, lTup3_t, lAndV_t, lAndV_f, lOrV_t, lOrV_f, lAnd_t, lAnd_f, lOr_t, lOr_f, lAndV_b, lOrV_b, lAnd_b, lOr_b, lZip_l, lZip_t, fLen_l, fLen_t, fTuple_l, fTuple_t, fList_l, fList_t, fInt_i, fInt_b, oIx_l, oIx_t, oAdd_i, oSub_i, oLt_i, oLe_i, oGt_i, oGe_i, oIs_n, oIsNot_n, isNone_o, isNone_i, isNone_n, isNone_l, isNone_t, oEq_int, oNe_int, oEq_str, oNe_str, slT_f, slT_t, atD_0, atD_1, atD_2, atD_3, atD_4, atD_nat, fIsi_n, fIsi_i, fIsi_b, fIsi_s, fIsi_l, fIsi_t, fIsi2_n, fIsi2_i, fIsi2_b, fIsi2_s, fIsi2_l, fIsi2_t, oD_some, oD_none, Option.isSome_some, Option.isSome_none, List.length_cons, List.length_nil, List.length_map, List.getElem?_cons_zero, List.getElem?_cons_succ, Option.map_some, Option.map_none, List.getElem?_map, if_true, if_false, ite_true, ite_false, ↓reduceIte, Bool.not_true, Bool.not_false, Bool.true_and, Bool.false_and, Bool.and_true, Bool.and_false, Bool.true_or, Bool.false_or, Bool.or_true, Bool.or_false, Bool.not_not, decide_true, decide_false, Int.cast_ofNat_Int, Int.reduceAdd, Int.reduceSub, Int.reduceMul, Nat.reduceAdd, Nat.zero_add, reduceCtorEq, Option.map_some, Option.getD_some, z2, z3, lTk_ha, Bool.false_eq_true, slL_f, cut_nat T.hap (h.mom e)]
    rfl
theorem tallows_c (hm : MarksOk b ms) (h : T.Ok b n) {u d : Nat} (hd : d < b.ks.length) : cI fs_Talk_allows [tkD b ms T, .int u, .int d] = some (.bool (T.allows b ms u d), tkD b ms T) := by
  refine so_eq (c_Talk_allows (so_of (a := (.bool (T.allows b ms u d), tkD b ms T)) ?_ rfl))
  unfold l_Talk_allows Talk.allows
  have mk := marks_at (ms := ms) (d := d) (by rw [hm.len]; exact hd)
  simp -dsimp -implicitDefEqProofs only [bind_some', asB_b, asI_i, lL_l, lT_t, lS_l, lS_t, lSh_l, lSh_d, lTup2_t, lTup3_t, lAndV_t, lAndV_f, lOrV_t, lOrV_f, lAnd_t, lAnd_f, lOr_t, lOr_f, lAndV_b, lOrV_b, lAnd_b, lOr_b, lZip_l, lZip_t, fLen_l, fLen_t, fTuple_l, fTuple_t, fList_l, fList_t, fInt_i, fInt_b, oIx_l, oIx_t, oAdd_i, oSub_i, oLt_i, oLe_i, oGt_i, oGe_i, oIs_n, oIsNot_n, isNone_o, isNone_i, isNone_n, isNone_l, isNone_t, oEq_int, oNe_int, oEq_str, oNe_str, slT_f, slT_t, atD_0, atD_1, atD_2, atD_3, atD_4, atD_nat, fIsi_n, fIsi_i, fIsi_b, fIsi_s, fIsi_l, fIsi_t, fIsi2_n, fIsi2_i, fIsi2_b, fIsi2_s, fIsi2_l, fIsi2_t, oD_some, oD_none, Option.isSome_some, Option.isSome_none, List.length_cons, List.length_nil, List.length_map, List.getElem?_cons_zero, List.getElem?_cons_succ, Option.map_some, Option.map_none, List.getElem?_map, if_true, if_false, ite_true, ite_false, ↓reduceIte, Bool.not_true, Bool.not_false, Bool.true_and, Bool.false_and, Bool.and_true, Bool.and_false, Bool.true_or, Bool.false_or, Bool.or_true, Bool.or_false, Bool.not_not, decide_true, decide_false, Int.cast_ofNat_Int, Int.reduceAdd, Int.reduceSub, Int.reduceMul, Nat.reduceAdd, Nat.zero_add, reduceCtorEq, cK_t, tsight_c ok h]
  unfold Talk.sight
  cases e : lookM u T.mom with
  | none => simp -dsimp -implicitDefEqProofs only [bind_some', asB_b, asI_i, lL_l, lT_t, lS_l, lS_t, lSh_l, lSh_d, lTup2_t, lTup3_t, lAndV_t, lAndV_f, lOrV_t, lOrV_f, lAnd_t, lAnd_f, lOr_t, lOr_f, lAndV_b, lOrV_b, lAnd_b, lOr_b, lZip_l, lZip_t, fLen_l, fLen_t, fTuple_l, fTuple_t, fList_l, fList_t, fInt_i, fInt_b, oIx_l, oIx_t, oAdd_i, oSub_i, oLt_i, oLe_i, oGt_i, oGe_i, oIs_n, oIsNot_n, isNone_o, isNone_i, isNone_n, isNone_l, isNone_t, oEq_int, oNe_int, oEq_str, oNe_str, slT_f, slT_t, atD_0, atD_1, atD_2, atD_3, atD_4, atD_nat, fIsi_n, fIsi_i, fIsi_b, fIsi_s, fIsi_l, fIsi_t, fIsi2_n, fIsi2_i, fIsi2_b, fIsi2_s, fIsi2_l, fIsi2_t, oD_some, oD_none, Option.isSome_some, Option.isSome_none, List.length_cons, List.length_nil, List.length_map, List.getElem?_cons_zero, List.getElem?_cons_succ, Option.map_some, Option.map_none, List.getElem?_map, if_true, if_false, ite_true, ite_false, ↓reduceIte, Bool.not_true, Bool.not_false, Bool.true_and, Bool.false_and, Bool.and_true, Bool.and_false, Bool.true_or, Bool.false_or, Bool.or_true, Bool.or_false, Bool.not_not, decide_true, decide_false, Int.cast_ofNat_Int, Int.reduceAdd, Int.reduceSub, Int.reduceMul, Nat.reduceAdd, Nat.zero_add, reduceCtorEq, Option.map_none, oD_none]
  | some m =>
    have hs := (h.at (h.mom e)).1
    simp -dsimp -implicitDefEqProofs only [bind_some', asB_b, asI_i, lL_l, lT_t, lS_l, lS_t, lSh_l, lSh_d, lTup2_t, lTup3_t, lAndV_t, lAndV_f, lOrV_t, lOrV_f, lAnd_t, lAnd_f, lOr_t, lOr_f, lAndV_b, lOrV_b, lAnd_b, lOr_b, lZip_l, lZip_t, fLen_l, fLen_t, fTuple_l, fTuple_t, fList_l, fList_t, fInt_i, fInt_b, oIx_l, oIx_t, oAdd_i, oSub_i, oLt_i, oLe_i, oGt_i, oGe_i, oIs_n, oIsNot_n, isNone_o, isNone_i, isNone_n, isNone_l, isNone_t, oEq_int, oNe_int, oEq_str, oNe_str, slT_f, slT_t, atD_0, atD_1, atD_2, atD_3, atD_4, atD_nat, fIsi_n, fIsi_i, fIsi_b, fIsi_s, fIsi_l, fIsi_t, fIsi2_n, fIsi2_i, fIsi2_b, fIsi2_s, fIsi2_l, fIsi2_t, oD_some, oD_none, Option.isSome_some, Option.isSome_none, List.length_cons, List.length_nil, List.length_map, List.getElem?_cons_zero, List.getElem?_cons_succ, Option.map_some, Option.map_none, List.getElem?_map, if_true, if_false, ite_true, ite_false, ↓reduceIte, Bool.not_true, Bool.not_false, Bool.true_and, Bool.false_and, Bool.and_true, Bool.and_false, Bool.true_or, Bool.false_or, Bool.or_true, Bool.or_false, Bool.not_not, decide_true, decide_false, Int.cast_ofNat_Int, Int.reduceAdd, Int.reduceSub, Int.reduceMul, Nat.reduceAdd, Nat.zero_add, reduceCtorEq, Option.map_some, oD_some, lTkB_t, behind_c ok hs hd]
    cases e2 : b.at (T.sts.getD m 0) d with
    | none => simp -dsimp -implicitDefEqProofs only [bind_some', asB_b, asI_i, lL_l, lT_t, lS_l, lS_t, lSh_l, lSh_d, lTup2_t, lTup3_t, lAndV_t, lAndV_f, lOrV_t, lOrV_f, lAnd_t, lAnd_f, lOr_t, lOr_f, lAndV_b, lOrV_b, lAnd_b, lOr_b, lZip_l, lZip_t, fLen_l, fLen_t, fTuple_l, fTuple_t, fList_l, fList_t, fInt_i, fInt_b, oIx_l, oIx_t, oAdd_i, oSub_i, oLt_i, oLe_i, oGt_i, oGe_i, oIs_n, oIsNot_n, isNone_o, isNone_i, isNone_n, isNone_l, isNone_t, oEq_int, oNe_int, oEq_str, oNe_str, slT_f, slT_t, atD_0, atD_1, atD_2, atD_3, atD_4, atD_nat, fIsi_n, fIsi_i, fIsi_b, fIsi_s, fIsi_l, fIsi_t, fIsi2_n, fIsi2_i, fIsi2_b, fIsi2_s, fIsi2_l, fIsi2_t, oD_some, oD_none, Option.isSome_some, Option.isSome_none, List.length_cons, List.length_nil, List.length_map, List.getElem?_cons_zero, List.getElem?_cons_succ, Option.map_some, Option.map_none, List.getElem?_map, if_true, if_false, ite_true, ite_false, ↓reduceIte, Bool.not_true, Bool.not_false, Bool.true_and, Bool.false_and, Bool.and_true, Bool.and_false, Bool.true_or, Bool.false_or, Bool.or_true, Bool.or_false, Bool.not_not, decide_true, decide_false, Int.cast_ofNat_Int, Int.reduceAdd, Int.reduceSub, Int.reduceMul, Nat.reduceAdd, Nat.zero_add, reduceCtorEq, Option.isSome_none, Bool.false_and]
    | some t =>
      simp -dsimp -implicitDefEqProofs only [bind_some', asB_b, asI_i, lL_l, lT_t, lS_l, lS_t, lSh_l, lSh_d, lTup2_t, lTup3_t, lAndV_t, lAndV_f, lOrV_t, lOrV_f, lAnd_t, lAnd_f, lOr_t, lOr_f, lAndV_b, lOrV_b, lAnd_b, lOr_b, lZip_l, lZip_t, fLen_l, fLen_t, fTuple_l, fTuple_t, fList_l, fList_t, fInt_i, fInt_b, oIx_l, oIx_t, oAdd_i, oSub_i, oLt_i, oLe_i, oGt_i, oGe_i, oIs_n, oIsNot_n, isNone_o, isNone_i, isNone_n, isNone_l, isNone_t, oEq_int, oNe_int, oEq_str, oNe_str, slT_f, slT_t, atD_0, atD_1, atD_2, atD_3, atD_4, atD_nat, fIsi_n, fIsi_i, fIsi_b, fIsi_s, fIsi_l, fIsi_t, fIsi2_n, fIsi2_i, fIsi2_b, fIsi2_s, fIsi2_l, fIsi2_t, oD_some, oD_none, Option.isSome_some, Option.isSome_none, List.length_cons, List.length_nil, List.length_map, List.getElem?_cons_zero, List.getElem?_cons_succ, Option.map_some, Option.map_none, List.getElem?_map, if_true, if_false, ite_true, ite_false, ↓reduceIte, Bool.not_true, Bool.not_false, Bool.true_and, Bool.false_and, Bool.and_true, Bool.and_false, Bool.true_or, Bool.false_or, Bool.or_true, Bool.or_false, Bool.not_not, decide_true, decide_false, Int.cast_ofNat_Int, Int.reduceAdd, Int.reduceSub, Int.reduceMul, Nat.reduceAdd, Nat.zero_add, reduceCtorEq, Option.isSome_some, Bool.false_eq_true, lTk_st, lNeg1, last_at h, behind_c ok h.last_lt hd]
      cases e3 : b.at T.last d with
      | none =>
        simp -dsimp -implicitDefEqProofs only [bind_some', asB_b, asI_i, lL_l, lT_t, lS_l, lS_t, lSh_l, lSh_d, lTup2_t, lTup3_t, lAndV_t, lAndV_f, lOrV_t, lOrV_f, lAnd_t, lAnd_f, lOr_t, lOr_f, lAndV_b, lOrV_b, lAnd_b, lOr_b, lZip_l, lZip_t, fLen_l, fLen_t, fTuple_l, fTuple_t, fList_l, fList_t, fInt_i, fInt_b, oIx_l, oIx_t, oAdd_i, oSub_i, oLt_i, oLe_i, oGt_i, oGe_i, oIs_n, oIsNot_n, isNone_o, isNone_i, isNone_n, isNone_l, isNone_t, oEq_int, oNe_int, oEq_str, oNe_str, slT_f, slT_t, atD_0, atD_1, atD_2, atD_3, atD_4, atD_nat, fIsi_n, fIsi_i, fIsi_b, fIsi_s, fIsi_l, fIsi_t, fIsi2_n, fIsi2_i, fIsi2_b, fIsi2_s, fIsi2_l, fIsi2_t, oD_some, oD_none, Option.isSome_some, Option.isSome_none, List.length_cons, List.length_nil, List.length_map, List.getElem?_cons_zero, List.getElem?_cons_succ, Option.map_some, Option.map_none, List.getElem?_map, if_true, if_false, ite_true, ite_false, ↓reduceIte, Bool.not_true, Bool.not_false, Bool.true_and, Bool.false_and, Bool.and_true, Bool.and_false, Bool.true_or, Bool.false_or, Bool.or_true, Bool.or_false, Bool.not_not, decide_true, decide_false, Int.cast_ofNat_Int, Int.reduceAdd, Int.reduceSub, Int.reduceMul, Nat.reduceAdd, Nat.zero_add, reduceCtorEq, Option.isSome_none]
        rfl
      | some t2 =>
        have es : T.since u = some (T.hap.drop m) := by unfold Talk.since; rw [e]; rfl
        have me : cF fs_meets [markD (ms.getD d []), .list (natL (T.hap.drop m))] = some (.bool (hits ms d (T.hap.drop m))) := meets_c (.inl rfl) (hm.smD d)
        have lt : ∀ (m : D) (q : Option (D × D)), lAndVE (.bool true) m q = q := fun _ _ => rfl
        simp -dsimp -implicitDefEqProofs only [bind_some', asB_b, asI_i, lL_l, lT_t, lS_l, lS_t, lSh_l, lSh_d, lTup2_t, lTup3_t, lAndV_t, lAndV_f, lOrV_t, lOrV_f, lAnd_t, lAnd_f, lOr_t, lOr_f, lAndV_b, lOrV_b, lAnd_b, lOr_b, lZip_l, lZip_t, fLen_l, fLen_t, fTuple_l, fTuple_t, fList_l, fList_t, fInt_i, fInt_b, oIx_l, oIx_t, oAdd_i, oSub_i, oLt_i, oLe_i, oGt_i, oGe_i, oIs_n, oIsNot_n, isNone_o, isNone_i, isNone_n, isNone_l, isNone_t, oEq_int, oNe_int, oEq_str, oNe_str, slT_f, slT_t, atD_0, atD_1, atD_2, atD_3, atD_4, atD_nat, fIsi_n, fIsi_i, fIsi_b, fIsi_s, fIsi_l, fIsi_t, fIsi2_n, fIsi2_i, fIsi2_b, fIsi2_s, fIsi2_l, fIsi2_t, oD_some, oD_none, Option.isSome_some, Option.isSome_none, List.length_cons, List.length_nil, List.length_map, List.getElem?_cons_zero, List.getElem?_cons_succ, Option.map_some, Option.map_none, List.getElem?_map, if_true, if_false, ite_true, ite_false, ↓reduceIte, Bool.not_true, Bool.not_false, Bool.true_and, Bool.false_and, Bool.and_true, Bool.and_false, Bool.true_or, Bool.false_or, Bool.or_true, Bool.or_false, Bool.not_not, decide_true, decide_false, Int.cast_ofNat_Int, Int.reduceAdd, Int.reduceSub, Int.reduceMul, Nat.reduceAdd, Nat.zero_add, reduceCtorEq, Option.isSome_some, cK_t, lTkC_t, mk, tsince_c ok h, es, oR, me, lt, Bool.true_and]
theorem tdo_c (hm : MarksOk b ms) (h : T.Ok b n) (hn : n ≤ 1000) {u d : Nat} (hd : d < b.ks.length) : cI fs_Talk_do [tkD b ms T, .int u, .int d] = some (.bool (T.allows b ms u d), tkD b ms (if T.allows b ms u d = true then T.done b u d else T)) := by
  refine so_eq (c_Talk_do (so_of (a := (.bool (T.allows b ms u d), tkD b ms (if T.allows b ms u d = true then T.done b u d else T))) ?_ rfl))
  unfold l_Talk_do
  simp -dsimp -implicitDefEqProofs only [bind_some', asB_b, asI_i, lL_l, lT_t, lS_l, lS_t, lSh_l, lSh_d, lTup2_t, lTup3_t, lAndV_t, lAndV_f, lOrV_t, lOrV_f, lAnd_t, lAnd_f, lOr_t, lOr_f, lAndV_b, lOrV_b, lAnd_b, lOr_b, lZip_l, lZip_t, fLen_l, fLen_t, fTuple_l, fTuple_t, fList_l, fList_t, fInt_i, fInt_b, oIx_l, oIx_t, oAdd_i, oSub_i, oLt_i, oLe_i, oGt_i, oGe_i, oIs_n, oIsNot_n, isNone_o, isNone_i, isNone_n, isNone_l, isNone_t, oEq_int, oNe_int, oEq_str, oNe_str, slT_f, slT_t, atD_0, atD_1, atD_2, atD_3, atD_4, atD_nat, fIsi_n, fIsi_i, fIsi_b, fIsi_s, fIsi_l, fIsi_t, fIsi2_n, fIsi2_i, fIsi2_b, fIsi2_s, fIsi2_l, fIsi2_t, oD_some, oD_none, Option.isSome_some, Option.isSome_none, List.length_cons, List.length_nil, List.length_map, List.getElem?_cons_zero, List.getElem?_cons_succ, Option.map_some, Option.map_none, List.getElem?_map, if_true, if_false, ite_true, ite_false, ↓reduceIte, Bool.not_true, Bool.not_false, Bool.true_and, Bool.false_and, Bool.and_true, Bool.and_false, Bool.true_or, Bool.false_or, Bool.or_true, Bool.or_false, Bool.not_not, decide_true, decide_false, Int.cast_ofNat_Int, Int.reduceAdd, Int.reduceSub, Int.reduceMul, Nat.reduceAdd, Nat.zero_add, reduceCtorEq, cK_t, tallows_c ok hm h hd]
  cases T.allows b ms u d with
  | false => simp -dsimp -implicitDefEqProofs only [bind_some', asB_b, asI_i, lL_l, lT_t, lS_l, lS_t, lSh_l, lSh_d, lTup2_t, lTup3_t, lAndV_t, lAndV_f, lOrV_t, lOrV_f, lAnd_t, lAnd_f, lOr_t, lOr_f, lAndV_b, lOrV_b, lAnd_b, lOr_b, lZip_l, lZip_t, fLen_l, fLen_t, fTuple_l, fTuple_t, fList_l, fList_t, fInt_i, fInt_b, oIx_l, oIx_t, oAdd_i, oSub_i, oLt_i, oLe_i, oGt_i, oGe_i, oIs_n, oIsNot_n, isNone_o, isNone_i, isNone_n, isNone_l, isNone_t, oEq_int, oNe_int, oEq_str, oNe_str, slT_f, slT_t, atD_0, atD_1, atD_2, atD_3, atD_4, atD_nat, fIsi_n, fIsi_i, fIsi_b, fIsi_s, fIsi_l, fIsi_t, fIsi2_n, fIsi2_i, fIsi2_b, fIsi2_s, fIsi2_l, fIsi2_t, oD_some, oD_none, Option.isSome_some, Option.isSome_none, List.length_cons, List.length_nil, List.length_map, List.getElem?_cons_zero, List.getElem?_cons_succ, Option.map_some, Option.map_none, List.getElem?_map, if_true, if_false, ite_true, ite_false, ↓reduceIte, Bool.not_true, Bool.not_false, Bool.true_and, Bool.false_and, Bool.and_true, Bool.and_false, Bool.true_or, Bool.false_or, Bool.or_true, Bool.or_false, Bool.not_not, decide_true, decide_false, Int.cast_ofNat_Int, Int.reduceAdd, Int.reduceSub, Int.reduceMul, Nat.reduceAdd, Nat.zero_add, reduceCtorEq, Bool.false_eq_true]
  | true =>
    have h3 := come_ok ok h hd
    have h1 := h3.ml
    have e : gPut (momD (T.come b d).mom) [.int ((T.come b d).hap.length : Nat), .int u] = some (momD (putM u (T.come b d).hap.length (T.come b d).mom)) := gPut_M u _ _ (by omega)
    simp -dsimp -implicitDefEqProofs only [bind_some', asB_b, asI_i, lL_l, lT_t, lS_l, lS_t, lSh_l, lSh_d, lTup2_t, lTup3_t, lAndV_t, lAndV_f, lOrV_t, lOrV_f, lAnd_t, lAnd_f, lOr_t, lOr_f, lAndV_b, lOrV_b, lAnd_b, lOr_b, lZip_l, lZip_t, fLen_l, fLen_t, fTuple_l, fTuple_t, fList_l, fList_t, fInt_i, fInt_b, oIx_l, oIx_t, oAdd_i, oSub_i, oLt_i, oLe_i, oGt_i, oGe_i, oIs_n, oIsNot_n, isNone_o, isNone_i, isNone_n, isNone_l, isNone_t, oEq_int, oNe_int, oEq_str, oNe_str, slT_f, slT_t, atD_0, atD_1, atD_2, atD_3, atD_4, atD_nat, fIsi_n, fIsi_i, fIsi_b, fIsi_s, fIsi_l, fIsi_t, fIsi2_n, fIsi2_i, fIsi2_b, fIsi2_s, fIsi2_l, fIsi2_t, oD_some, oD_none, Option.isSome_some, Option.isSome_none, List.length_cons, List.length_nil, List.length_map, List.getElem?_cons_zero, List.getElem?_cons_succ, Option.map_some, Option.map_none, List.getElem?_map, if_true, if_false, ite_true, ite_false, ↓reduceIte, Bool.not_true, Bool.not_false, Bool.true_and, Bool.false_and, Bool.and_true, Bool.and_false, Bool.true_or, Bool.false_or, Bool.or_true, Bool.or_false, Bool.not_not, decide_true, decide_false, Int.cast_ofNat_Int, Int.reduceAdd, Int.reduceSub, Int.reduceMul, Nat.reduceAdd, Nat.zero_add, reduceCtorEq, cK_t, tcome_c ok h hn hd, lTk_ha, natL_len, lTk_mo, e, lTkP_mo, Bool.false_eq_true]
    rfl
theorem ttake_c (hm : MarksOk b ms) (h : T.Ok b n) (hn : n ≤ 1000) {e : Ent} (he : e.Ok b) : cI fs_take [tkD b ms T, entD e] = some (T.ans b ms e, tkD b ms (T.step b ms e)) := by
  refine so_eq (c_take (so_of (a := (T.ans b ms e, tkD b ms (T.step b ms e))) ?_ rfl))
  unfold l_take entD
  cases e with
  | come k =>
    simp -dsimp -implicitDefEqProofs only [bind_some', asB_b, asI_i, lL_l, lT_t, lS_l, lS_t, lSh_l, lSh_d, lTup2_t, lTup3_t, lAndV_t, lAndV_f, lOrV_t, lOrV_f, lAnd_t, lAnd_f, lOr_t, lOr_f, lAndV_b, lOrV_b, lAnd_b, lOr_b, lZip_l, lZip_t, fLen_l, fLen_t, fTuple_l, fTuple_t, fList_l, fList_t, fInt_i, fInt_b, oIx_l, oIx_t, oAdd_i, oSub_i, oLt_i, oLe_i, oGt_i, oGe_i, oIs_n, oIsNot_n, isNone_o, isNone_i, isNone_n, isNone_l, isNone_t, oEq_int, oNe_int, oEq_str, oNe_str, slT_f, slT_t, atD_0, atD_1, atD_2, atD_3, atD_4, atD_nat, fIsi_n, fIsi_i, fIsi_b, fIsi_s, fIsi_l, fIsi_t, fIsi2_n, fIsi2_i, fIsi2_b, fIsi2_s, fIsi2_l, fIsi2_t, oD_some, oD_none, Option.isSome_some, Option.isSome_none, List.length_cons, List.length_nil, List.length_map, List.getElem?_cons_zero, List.getElem?_cons_succ, Option.map_some, Option.map_none, List.getElem?_map, if_true, if_false, ite_true, ite_false, ↓reduceIte, Bool.not_true, Bool.not_false, Bool.true_and, Bool.false_and, Bool.and_true, Bool.and_false, Bool.true_or, Bool.false_or, Bool.or_true, Bool.or_false, Bool.not_not, decide_true, decide_false, Int.cast_ofNat_Int, Int.reduceAdd, Int.reduceSub, Int.reduceMul, Nat.reduceAdd, Nat.zero_add, reduceCtorEq, cK_t, tcome_c ok h hn (out_lt he).1]
    rfl
  | look u l =>
    simp -dsimp -implicitDefEqProofs only [bind_some', asB_b, asI_i, lL_l, lT_t, lS_l, lS_t, lSh_l, lSh_d, lTup2_t, lTup3_t, lAndV_t, lAndV_f, lOrV_t, lOrV_f, lAnd_t, lAnd_f, lOr_t, lOr_f, lAndV_b, lOrV_b, lAnd_b, lOr_b, lZip_l, lZip_t, fLen_l, fLen_t, fTuple_l, fTuple_t, fList_l, fList_t, fInt_i, fInt_b, oIx_l, oIx_t, oAdd_i, oSub_i, oLt_i, oLe_i, oGt_i, oGe_i, oIs_n, oIsNot_n, isNone_o, isNone_i, isNone_n, isNone_l, isNone_t, oEq_int, oNe_int, oEq_str, oNe_str, slT_f, slT_t, atD_0, atD_1, atD_2, atD_3, atD_4, atD_nat, fIsi_n, fIsi_i, fIsi_b, fIsi_s, fIsi_l, fIsi_t, fIsi2_n, fIsi2_i, fIsi2_b, fIsi2_s, fIsi2_l, fIsi2_t, oD_some, oD_none, Option.isSome_some, Option.isSome_none, List.length_cons, List.length_nil, List.length_map, List.getElem?_cons_zero, List.getElem?_cons_succ, Option.map_some, Option.map_none, List.getElem?_map, if_true, if_false, ite_true, ite_false, ↓reduceIte, Bool.not_true, Bool.not_false, Bool.true_and, Bool.false_and, Bool.and_true, Bool.and_false, Bool.true_or, Bool.false_or, Bool.or_true, Bool.or_false, Bool.not_not, decide_true, decide_false, Int.cast_ofNat_Int, Int.reduceAdd, Int.reduceSub, Int.reduceMul, Nat.reduceAdd, Nat.zero_add, reduceCtorEq, s_lc, cK_t, tlook_c ok h hn, Bool.false_eq_true]
    rfl
  | deed u d =>
    simp -dsimp -implicitDefEqProofs only [bind_some', asB_b, asI_i, lL_l, lT_t, lS_l, lS_t, lSh_l, lSh_d, lTup2_t, lTup3_t, lAndV_t, lAndV_f, lOrV_t, lOrV_f, lAnd_t, lAnd_f, lOr_t, lOr_f, lAndV_b, lOrV_b, lAnd_b, lOr_b, lZip_l, lZip_t, fLen_l, fLen_t, fTuple_l, fTuple_t, fList_l, fList_t, fInt_i, fInt_b, oIx_l, oIx_t, oAdd_i, oSub_i, oLt_i, oLe_i, oGt_i, oGe_i, oIs_n, oIsNot_n, isNone_o, isNone_i, isNone_n, isNone_l, isNone_t, oEq_int, oNe_int, oEq_str, oNe_str, slT_f, slT_t, atD_0, atD_1, atD_2, atD_3, atD_4, atD_nat, fIsi_n, fIsi_i, fIsi_b, fIsi_s, fIsi_l, fIsi_t, fIsi2_n, fIsi2_i, fIsi2_b, fIsi2_s, fIsi2_l, fIsi2_t, oD_some, oD_none, Option.isSome_some, Option.isSome_none, List.length_cons, List.length_nil, List.length_map, List.getElem?_cons_zero, List.getElem?_cons_succ, Option.map_some, Option.map_none, List.getElem?_map, if_true, if_false, ite_true, ite_false, ↓reduceIte, Bool.not_true, Bool.not_false, Bool.true_and, Bool.false_and, Bool.and_true, Bool.and_false, Bool.true_or, Bool.false_or, Bool.or_true, Bool.or_false, Bool.not_not, decide_true, decide_false, Int.cast_ofNat_Int, Int.reduceAdd, Int.reduceSub, Int.reduceMul, Nat.reduceAdd, Nat.zero_add, reduceCtorEq, s_dc, s_dl, cK_t, tdo_c ok hm h hn (deed_at he.2).1, Bool.false_eq_true]
    rfl
theorem takes_c (hm : MarksOk b ms) : ∀ (es : List Ent) (T : Talk) (n : Nat), T.Ok b n → n + es.length ≤ 1000 → (∀ e ∈ es, e.Ok b) →
    lcSM (fun d6 m7 => (cK fs_take m7 [d6]).bd fun q8 => some ([q8.1], q8.2)) (logD es) (tkD b ms T) = some (T.run b ms es, tkD b ms (T.end_ b ms es))
  | [], _, _, _, _, _ => rfl
  | e :: es, T, n, h, hn, he => by
    rw [List.length_cons] at hn
    have z := takes_c hm es (T.step b ms e) (n + 1) (step_ok ok h (he e List.mem_cons_self)) (by omega) fun x hx => he x (List.mem_cons_of_mem _ hx)
    have e0 : lcSM (fun d6 m7 => (cK fs_take m7 [d6]).bd fun q8 => some ([q8.1], q8.2)) (logD (e :: es)) (tkD b ms T) =
      ((cK fs_take (tkD b ms T) [entD e]).bd fun q8 => some ([q8.1], q8.2)).bind fun q => (lcSM (fun d6 m7 => (cK fs_take m7 [d6]).bd fun q8 => some ([q8.1], q8.2)) (logD es) q.2).bind fun z => some (q.1 ++ z.1, z.2) := rfl
    rw [e0]
    simp -dsimp -implicitDefEqProofs only [bind_some', asB_b, asI_i, lL_l, lT_t, lS_l, lS_t, lSh_l, lSh_d, lTup2_t, lTup3_t, lAndV_t, lAndV_f, lOrV_t, lOrV_f, lAnd_t, lAnd_f, lOr_t, lOr_f, lAndV_b, lOrV_b, lAnd_b, lOr_b, lZip_l, lZip_t, fLen_l, fLen_t, fTuple_l, fTuple_t, fList_l, fList_t, fInt_i, fInt_b, oIx_l, oIx_t, oAdd_i, oSub_i, oLt_i, oLe_i, oGt_i, oGe_i, oIs_n, oIsNot_n, isNone_o, isNone_i, isNone_n, isNone_l, isNone_t, oEq_int, oNe_int, oEq_str, oNe_str, slT_f, slT_t, atD_0, atD_1, atD_2, atD_3, atD_4, atD_nat, fIsi_n, fIsi_i, fIsi_b, fIsi_s, fIsi_l, fIsi_t, fIsi2_n, fIsi2_i, fIsi2_b, fIsi2_s, fIsi2_l, fIsi2_t, oD_some, oD_none, Option.isSome_some, Option.isSome_none, List.length_cons, List.length_nil, List.length_map, List.getElem?_cons_zero, List.getElem?_cons_succ, Option.map_some, Option.map_none, List.getElem?_map, if_true, if_false, ite_true, ite_false, ↓reduceIte, Bool.not_true, Bool.not_false, Bool.true_and, Bool.false_and, Bool.and_true, Bool.and_false, Bool.true_or, Bool.false_or, Bool.or_true, Bool.or_false, Bool.not_not, decide_true, decide_false, Int.cast_ofNat_Int, Int.reduceAdd, Int.reduceSub, Int.reduceMul, Nat.reduceAdd, Nat.zero_add, reduceCtorEq, cK_t, ttake_c ok hm h (by omega) (he e List.mem_cons_self)]
    show (lcSM _ (logD es) (tkD b ms (T.step b ms e))).bind _ = _
    rw [z]
    rfl
end
end Od

namespace Od
open PySem PySem.Spec PyProof.Rows L2
theorem lbehind_c {b : Bk} (ok : b.Ok) {s k : Nat} (hs : s < b.m) (hk : k < b.ks.length) : cF fs__law_behind [bkD b, .int s, .int k] = some (oD (b.at s k)) := q__law_behind (behind_l ok hs hk)
end Od

namespace Od
open PySem PySem.Spec PyProof.Rows L2
/-! drawn books -/
theorem rng_d {n j : Nat} {d : D} (h : ((List.range n).map fun k => (PyData.int (k : Nat)))[j]? = some d) : j < n ∧ d = .int j := by
  rw [List.getElem?_map] at h
  obtain ⟨i, e, rfl⟩ := Option.map_eq_some_iff.mp h
  obtain ⟨hl, e2⟩ := List.getElem?_eq_some_iff.mp e
  rw [List.getElem_range] at e2
  subst e2
  rw [List.length_range] at hl
  exact ⟨hl, rfl⟩
theorem rng_len (n : Nat) : ((List.range n).map fun k => (PyData.int (k : Nat))).length = n := by
  rw [List.length_map, List.length_range]
theorem eqv_who (w : Bool) : PyData.eqv (whoD w) (.str "deed") = w := by cases w <;> decide +kernel
theorem who_in (ks : List (Bool × List (Option Nat))) : oIn true (.str "deed") (.list (ks.map fun q => whoD q.1)) = some (.bool (!ks.any fun q => q.1)) := by
  have z : PyData.canLayAll0 (ks.map fun q => whoD q.1) = true ∧ PyData.depthAll (ks.map fun q => whoD q.1) = 0 ∧ noDic.noDics (ks.map fun q => whoD q.1) = true := by
    induction ks with
    | nil => exact ⟨rfl, rfl, rfl⟩
    | cons q ks ih =>
      obtain ⟨h1, h2, h3⟩ := ih
      rw [List.map_cons]
      have w1 : PyData.canLay0 (whoD q.1) = true := by cases q.1 <;> decide +kernel
      have w2 : PyData.depth (whoD q.1) = 0 := by cases q.1 <;> rfl
      have w3 : noDic (whoD q.1) = true := by cases q.1 <;> rfl
      refine ⟨?_, ?_, ?_⟩
      · unfold PyData.canLayAll0
        rw [h1, w1]; rfl
      · unfold PyData.depthAll
        rw [h2, w2]; rfl
      · unfold noDic.noDics
        rw [h3, w3]; rfl
  obtain ⟨h1, h2, h3⟩ := z
  have e : ((ks.map fun q => whoD q.1).any fun z => PyData.eqv z (.str "deed")) = ks.any fun q => q.1 := by
    rw [List.any_map]
    congr 1
    funext q
    exact eqv_who q.1
  unfold oIn
  dsimp only
  rw [if_pos, e]
  · rfl
  · unfold eqOk SeqAt.shaped
    have e1 : noDic (.list (ks.map fun q => whoD q.1)) = true := h3
    have e2 : PyData.canLay0 (.list (ks.map fun q => whoD q.1)) = true := by unfold PyData.canLay0; exact h1
    have e3 : PyData.depth (.list (ks.map fun q => whoD q.1)) = 1 := by unfold PyData.depth; rw [h2]
    rw [e1, e2, e3]
    decide +kernel
theorem at3 (x y z : D) {j : Nat} (h : j < 3) : oIx (.list [x, y, z]) (.int j) = some x ∧ j = 0 ∨ oIx (.list [x, y, z]) (.int j) = some y ∧ j = 1 ∨ oIx (.list [x, y, z]) (.int j) = some z ∧ j = 2 := by
  match j, h with
  | 0, _ => exact .inl ⟨rfl, rfl⟩
  | 1, _ => exact .inr (.inl ⟨rfl, rfl⟩)
  | 2, _ => exact .inr (.inr ⟨rfl, rfl⟩)
theorem int1 (n : Nat) : ((1 : Int) + (n : Int)) = ((n + 1 : Nat) : Int) := by omega
theorem book_so (p : Int) (M W : Nat) (hM : 1 ≤ M) (hM2 : M ≤ 10) (hW : 1 ≤ W) (hW2 : W ≤ 10) : So (cI fs__law_book [pD p, .int M, .int W]) fun q => ∃ (b : Bk) (p' : Int), b.Ok ∧ b.m ≤ M ∧ b.ks.length ≤ W ∧ (∃ k ∈ b.ks, k.1 = true) ∧ q = (bkD b, pD p') := by
  refine c__law_book ?_
  unfold l__law_book
  refine so_bind _ (take_so p M (by omega) (by omega)) ?_
  rintro _ ⟨x, p1, hx, rfl⟩
  simp -dsimp -implicitDefEqProofs only [bind_some', asB_b, asI_i, lL_l, lT_t, lS_l, lS_t, lSh_l, lSh_d, lTup2_t, lTup3_t, lAndV_t, lAndV_f, lOrV_t, lOrV_f, lAnd_t, lAnd_f, lOr_t, lOr_f, lAndV_b, lOrV_b, lAnd_b, lOr_b, lZip_l, lZip_t, fLen_l, fLen_t, fTuple_l, fTuple_t, fList_l, fList_t, fInt_i, fInt_b, oIx_l, oIx_t, oAdd_i, oSub_i, oLt_i, oLe_i, oGt_i, oGe_i, oIs_n, oIsNot_n, isNone_o, isNone_i, isNone_n, isNone_l, isNone_t, oEq_int, oNe_int, oEq_str, oNe_str, slT_f, slT_t, atD_0, atD_1, atD_2, atD_3, atD_4, atD_nat, fIsi_n, fIsi_i, fIsi_b, fIsi_s, fIsi_l, fIsi_t, fIsi2_n, fIsi2_i, fIsi2_b, fIsi2_s, fIsi2_l, fIsi2_t, oD_some, oD_none, Option.isSome_some, Option.isSome_none, List.length_cons, List.length_nil, List.length_map, List.getElem?_cons_zero, List.getElem?_cons_succ, Option.map_some, Option.map_none, List.getElem?_map, if_true, if_false, ite_true, ite_false, ↓reduceIte, Bool.not_true, Bool.not_false, Bool.true_and, Bool.false_and, Bool.and_true, Bool.and_false, Bool.true_or, Bool.false_or, Bool.or_true, Bool.or_false, Bool.not_not, decide_true, decide_false, Int.cast_ofNat_Int, Int.reduceAdd, Int.reduceSub, Int.reduceMul, Nat.reduceAdd, Nat.zero_add, reduceCtorEq, int1]
  refine so_bind _ (take_so p1 W (by omega) (by omega)) ?_
  rintro _ ⟨y, p2, hy, rfl⟩
  simp -dsimp -implicitDefEqProofs only [bind_some', asB_b, asI_i, lL_l, lT_t, lS_l, lS_t, lSh_l, lSh_d, lTup2_t, lTup3_t, lAndV_t, lAndV_f, lOrV_t, lOrV_f, lAnd_t, lAnd_f, lOr_t, lOr_f, lAndV_b, lOrV_b, lAnd_b, lOr_b, lZip_l, lZip_t, fLen_l, fLen_t, fTuple_l, fTuple_t, fList_l, fList_t, fInt_i, fInt_b, oIx_l, oIx_t, oAdd_i, oSub_i, oLt_i, oLe_i, oGt_i, oGe_i, oIs_n, oIsNot_n, isNone_o, isNone_i, isNone_n, isNone_l, isNone_t, oEq_int, oNe_int, oEq_str, oNe_str, slT_f, slT_t, atD_0, atD_1, atD_2, atD_3, atD_4, atD_nat, fIsi_n, fIsi_i, fIsi_b, fIsi_s, fIsi_l, fIsi_t, fIsi2_n, fIsi2_i, fIsi2_b, fIsi2_s, fIsi2_l, fIsi2_t, oD_some, oD_none, Option.isSome_some, Option.isSome_none, List.length_cons, List.length_nil, List.length_map, List.getElem?_cons_zero, List.getElem?_cons_succ, Option.map_some, Option.map_none, List.getElem?_map, if_true, if_false, ite_true, ite_false, ↓reduceIte, Bool.not_true, Bool.not_false, Bool.true_and, Bool.false_and, Bool.and_true, Bool.and_false, Bool.true_or, Bool.false_or, Bool.or_true, Bool.or_false, Bool.not_not, decide_true, decide_false, Int.cast_ofNat_Int, Int.reduceAdd, Int.reduceSub, Int.reduceMul, Nat.reduceAdd, Nat.zero_add, reduceCtorEq, int1]
  refine so_bind _ (take_so p2 3 (by omega) (by omega)) ?_
  rintro _ ⟨way, p3, hw, rfl⟩
  rw [lR1_n (y + 1) (by omega), bind_some']
  refine so_bind _ (so_fold (fun i t => ∃ (p : Int) (ks : List (Bool × List (Option Nat))), t = (pD p, .list (ks.map kindD)) ∧ ks.length = i ∧ (∀ k ∈ ks, k.2.length = x + 1 ∧ ∀ t, some t ∈ k.2 → t < x + 1) ∧ (i = y + 1 → ∃ k ∈ ks, k.1 = true)) ⟨p3, [], rfl, rfl, nofun, nofun⟩ ?_) ?_
  · rintro j _ _ hd ⟨p, ks, rfl, hl, hk, _⟩
    obtain ⟨hj, rfl⟩ := rng_d hd
    refine so_bind _ (take_so p 3 (by omega) (by omega)) ?_
    rintro _ ⟨g, p4, hg, rfl⟩
    dsimp only
    refine so_bind (fun d => ∃ w, d = whoD w) ?_ ?_
    · rcases at3 (.str "out") (.str "deed") (.str "deed") hg with e | e | e <;> rw [e.1]
      · exact so_ret ⟨false, rfl⟩
      · exact so_ret ⟨true, rfl⟩
      · exact so_ret ⟨true, rfl⟩
    rintro _ ⟨w, rfl⟩
    rw [lR1_n (x + 1) (by omega), bind_some']
    refine so_bind _ (so_fold (fun i t => ∃ (p : Int) (st : List (Option Nat)), t = (pD p, .list (st.map oD)) ∧ st.length = i ∧ ∀ t, some t ∈ st → t < x + 1) ⟨p4, [], rfl, rfl, nofun⟩ ?_) ?_
    · rintro i _ _ hd ⟨p, st, rfl, hl, hs⟩
      obtain ⟨hi, rfl⟩ := rng_d hd
      refine so_bind (fun d => ∃ n : Nat, 0 < n ∧ n < 10 ∧ d = .int n) ?_ ?_
      · rcases at3 (.int 2) (.int 3) (.int 6) hw with e | e | e <;> rw [e.1]
        · exact so_ret ⟨2, by omega, by omega, rfl⟩
        · exact so_ret ⟨3, by omega, by omega, rfl⟩
        · exact so_ret ⟨6, by omega, by omega, rfl⟩
      rintro _ ⟨n, n0, n1, rfl⟩
      refine so_bind _ (take_so p n n0 (by omega)) ?_
      rintro _ ⟨u, p5, hu, rfl⟩
      simp -dsimp -implicitDefEqProofs only [bind_some', asB_b, asI_i, lL_l, lT_t, lS_l, lS_t, lSh_l, lSh_d, lTup2_t, lTup3_t, lAndV_t, lAndV_f, lOrV_t, lOrV_f, lAnd_t, lAnd_f, lOr_t, lOr_f, lAndV_b, lOrV_b, lAnd_b, lOr_b, lZip_l, lZip_t, fLen_l, fLen_t, fTuple_l, fTuple_t, fList_l, fList_t, fInt_i, fInt_b, oIx_l, oIx_t, oAdd_i, oSub_i, oLt_i, oLe_i, oGt_i, oGe_i, oIs_n, oIsNot_n, isNone_o, isNone_i, isNone_n, isNone_l, isNone_t, oEq_int, oNe_int, oEq_str, oNe_str, slT_f, slT_t, atD_0, atD_1, atD_2, atD_3, atD_4, atD_nat, fIsi_n, fIsi_i, fIsi_b, fIsi_s, fIsi_l, fIsi_t, fIsi2_n, fIsi2_i, fIsi2_b, fIsi2_s, fIsi2_l, fIsi2_t, oD_some, oD_none, Option.isSome_some, Option.isSome_none, List.length_cons, List.length_nil, List.length_map, List.getElem?_cons_zero, List.getElem?_cons_succ, Option.map_some, Option.map_none, List.getElem?_map, if_true, if_false, ite_true, ite_false, ↓reduceIte, Bool.not_true, Bool.not_false, Bool.true_and, Bool.false_and, Bool.and_true, Bool.and_false, Bool.true_or, Bool.false_or, Bool.or_true, Bool.or_false, Bool.not_not, decide_true, decide_false, Int.cast_ofNat_Int, Int.reduceAdd, Int.reduceSub, Int.reduceMul, Nat.reduceAdd, Nat.zero_add, reduceCtorEq]
      refine so_bind _ (take_so p5 (x + 1) (by omega) (by omega)) ?_
      rintro _ ⟨v, p6, hv, rfl⟩
      simp -dsimp -implicitDefEqProofs only [bind_some', asB_b, asI_i, lL_l, lT_t, lS_l, lS_t, lSh_l, lSh_d, lTup2_t, lTup3_t, lAndV_t, lAndV_f, lOrV_t, lOrV_f, lAnd_t, lAnd_f, lOr_t, lOr_f, lAndV_b, lOrV_b, lAnd_b, lOr_b, lZip_l, lZip_t, fLen_l, fLen_t, fTuple_l, fTuple_t, fList_l, fList_t, fInt_i, fInt_b, oIx_l, oIx_t, oAdd_i, oSub_i, oLt_i, oLe_i, oGt_i, oGe_i, oIs_n, oIsNot_n, isNone_o, isNone_i, isNone_n, isNone_l, isNone_t, oEq_int, oNe_int, oEq_str, oNe_str, slT_f, slT_t, atD_0, atD_1, atD_2, atD_3, atD_4, atD_nat, fIsi_n, fIsi_i, fIsi_b, fIsi_s, fIsi_l, fIsi_t, fIsi2_n, fIsi2_i, fIsi2_b, fIsi2_s, fIsi2_l, fIsi2_t, oD_some, oD_none, Option.isSome_some, Option.isSome_none, List.length_cons, List.length_nil, List.length_map, List.getElem?_cons_zero, List.getElem?_cons_succ, Option.map_some, Option.map_none, List.getElem?_map, if_true, if_false, ite_true, ite_false, ↓reduceIte, Bool.not_true, Bool.not_false, Bool.true_and, Bool.false_and, Bool.and_true, Bool.and_false, Bool.true_or, Bool.false_or, Bool.or_true, Bool.or_false, Bool.not_not, decide_true, decide_false, Int.cast_ofNat_Int, Int.reduceAdd, Int.reduceSub, Int.reduceMul, Nat.reduceAdd, Nat.zero_add, reduceCtorEq]
      refine so_bind (fun d => ∃ o : Option Nat, d = oD o ∧ ∀ t, o = some t → t < x + 1) ?_ ?_
      · cases decide ((u : Int) = 0) with
        | true => exact so_ret ⟨none, rfl, nofun⟩
        | false => exact so_ret ⟨some v, rfl, fun t e => by cases e; exact hv⟩
      rintro _ ⟨o, rfl, ho⟩
      rw [gApp_l' _ _ (by rw [List.length_map]; omega), bind_some']
      refine so_ret ⟨p6, st ++ [o], by rw [List.map_append]; rfl, by rw [List.length_append, hl]; rfl, fun t ht => ?_⟩
      rcases List.mem_append.mp ht with z | z
      · exact hs t z
      · rw [List.mem_singleton] at z
        exact ho t z.symm
    rintro _ ⟨p, st, rfl, hsl, hs⟩
    rw [rng_len] at hsl
    have c1 : lc (fun d35 => (oIx d35 (.int 0)).bd fun a36 => some [a36]) (ks.map kindD) = some (ks.map fun q => whoD q.1) := lc_each _ (by omega) fun q hq => by simp -dsimp -implicitDefEqProofs only [bind_some', asB_b, asI_i, lL_l, lT_t, lS_l, lS_t, lSh_l, lSh_d, lTup2_t, lTup3_t, lAndV_t, lAndV_f, lOrV_t, lOrV_f, lAnd_t, lAnd_f, lOr_t, lOr_f, lAndV_b, lOrV_b, lAnd_b, lOr_b, lZip_l, lZip_t, fLen_l, fLen_t, fTuple_l, fTuple_t, fList_l, fList_t, fInt_i, fInt_b, oIx_l, oIx_t, oAdd_i, oSub_i, oLt_i, oLe_i, oGt_i, oGe_i, oIs_n, oIsNot_n, isNone_o, isNone_i, isNone_n, isNone_l, isNone_t, oEq_int, oNe_int, oEq_str, oNe_str, slT_f, slT_t, atD_0, atD_1, atD_2, atD_3, atD_4, atD_nat, fIsi_n, fIsi_i, fIsi_b, fIsi_s, fIsi_l, fIsi_t, fIsi2_n, fIsi2_i, fIsi2_b, fIsi2_s, fIsi2_l, fIsi2_t, oD_some, oD_none, Option.isSome_some, Option.isSome_none, List.length_cons, List.length_nil, List.length_map, List.getElem?_cons_zero, List.getElem?_cons_succ, Option.map_some, Option.map_none, List.getElem?_map, if_true, if_false, ite_true, ite_false, ↓reduceIte, Bool.not_true, Bool.not_false, Bool.true_and, Bool.false_and, Bool.and_true, Bool.and_false, Bool.true_or, Bool.false_or, Bool.or_true, Bool.or_false, Bool.not_not, decide_true, decide_false, Int.cast_ofNat_Int, Int.reduceAdd, Int.reduceSub, Int.reduceMul, Nat.reduceAdd, Nat.zero_add, reduceCtorEq, kind0]
    simp -dsimp -implicitDefEqProofs only [bind_some', asB_b, asI_i, lL_l, lT_t, lS_l, lS_t, lSh_l, lSh_d, lTup2_t, lTup3_t, lAndV_t, lAndV_f, lOrV_t, lOrV_f, lAnd_t, lAnd_f, lOr_t, lOr_f, lAndV_b, lOrV_b, lAnd_b, lOr_b, lZip_l, lZip_t, fLen_l, fLen_t, fTuple_l, fTuple_t, fList_l, fList_t, fInt_i, fInt_b, oIx_l, oIx_t, oAdd_i, oSub_i, oLt_i, oLe_i, oGt_i, oGe_i, oIs_n, oIsNot_n, isNone_o, isNone_i, isNone_n, isNone_l, isNone_t, oEq_int, oNe_int, oEq_str, oNe_str, slT_f, slT_t, atD_0, atD_1, atD_2, atD_3, atD_4, atD_nat, fIsi_n, fIsi_i, fIsi_b, fIsi_s, fIsi_l, fIsi_t, fIsi2_n, fIsi2_i, fIsi2_b, fIsi2_s, fIsi2_l, fIsi2_t, oD_some, oD_none, Option.isSome_some, Option.isSome_none, List.length_cons, List.length_nil, List.length_map, List.getElem?_cons_zero, List.getElem?_cons_succ, Option.map_some, Option.map_none, List.getElem?_map, if_true, if_false, ite_true, ite_false, ↓reduceIte, Bool.not_true, Bool.not_false, Bool.true_and, Bool.false_and, Bool.and_true, Bool.and_false, Bool.true_or, Bool.false_or, Bool.or_true, Bool.or_false, Bool.not_not, decide_true, decide_false, Int.cast_ofNat_Int, Int.reduceAdd, Int.reduceSub, Int.reduceMul, Nat.reduceAdd, Nat.zero_add, reduceCtorEq, rowsD, c1, who_in]
    refine so_bind (fun d => ∃ w, d = whoD w ∧ (j = y → w = true ∨ ∃ k ∈ ks, k.1 = true)) (so_if (fun _ => so_ret ⟨true, rfl, fun _ => .inl rfl⟩) fun h => so_ret ⟨w, rfl, fun e => .inr ?_⟩) ?_
    · rw [Bool.and_eq_false_iff, decide_eq_false_iff_not, Bool.not_eq_false'] at h
      rcases h with h | h
      · omega
      · exact List.any_eq_true.mp h
    rintro _ ⟨w, rfl, hwd⟩
    simp -dsimp -implicitDefEqProofs only [bind_some', asB_b, asI_i, lL_l, lT_t, lS_l, lS_t, lSh_l, lSh_d, lTup2_t, lTup3_t, lAndV_t, lAndV_f, lOrV_t, lOrV_f, lAnd_t, lAnd_f, lOr_t, lOr_f, lAndV_b, lOrV_b, lAnd_b, lOr_b, lZip_l, lZip_t, fLen_l, fLen_t, fTuple_l, fTuple_t, fList_l, fList_t, fInt_i, fInt_b, oIx_l, oIx_t, oAdd_i, oSub_i, oLt_i, oLe_i, oGt_i, oGe_i, oIs_n, oIsNot_n, isNone_o, isNone_i, isNone_n, isNone_l, isNone_t, oEq_int, oNe_int, oEq_str, oNe_str, slT_f, slT_t, atD_0, atD_1, atD_2, atD_3, atD_4, atD_nat, fIsi_n, fIsi_i, fIsi_b, fIsi_s, fIsi_l, fIsi_t, fIsi2_n, fIsi2_i, fIsi2_b, fIsi2_s, fIsi2_l, fIsi2_t, oD_some, oD_none, Option.isSome_some, Option.isSome_none, List.length_cons, List.length_nil, List.length_map, List.getElem?_cons_zero, List.getElem?_cons_succ, Option.map_some, Option.map_none, List.getElem?_map, if_true, if_false, ite_true, ite_false, ↓reduceIte, Bool.not_true, Bool.not_false, Bool.true_and, Bool.false_and, Bool.and_true, Bool.and_false, Bool.true_or, Bool.false_or, Bool.or_true, Bool.or_false, Bool.not_not, decide_true, decide_false, Int.cast_ofNat_Int, Int.reduceAdd, Int.reduceSub, Int.reduceMul, Nat.reduceAdd, Nat.zero_add, reduceCtorEq]
    rw [gApp_l' _ _ (by rw [List.length_map]; omega), bind_some']
    refine so_ret ⟨p, ks ++ [(w, st)], by rw [List.map_append]; rfl, by rw [List.length_append, hl]; rfl, fun k hk2 => ?_, fun e => ?_⟩
    · rcases List.mem_append.mp hk2 with z | z
      · exact hk k z
      · rw [List.mem_singleton] at z
        subst z
        exact ⟨hsl, hs⟩
    · rcases hwd (by omega) with rfl | ⟨k, h1, h2⟩
      · exact ⟨_, List.mem_append_right _ (List.mem_singleton.mpr rfl), rfl⟩
      · exact ⟨k, List.mem_append_left _ h1, h2⟩
  rintro _ ⟨p, ks, rfl, hl, hk, hde⟩
  rw [rng_len] at hl hde
  simp -dsimp -implicitDefEqProofs only [bind_some', asB_b, asI_i, lL_l, lT_t, lS_l, lS_t, lSh_l, lSh_d, lTup2_t, lTup3_t, lAndV_t, lAndV_f, lOrV_t, lOrV_f, lAnd_t, lAnd_f, lOr_t, lOr_f, lAndV_b, lOrV_b, lAnd_b, lOr_b, lZip_l, lZip_t, fLen_l, fLen_t, fTuple_l, fTuple_t, fList_l, fList_t, fInt_i, fInt_b, oIx_l, oIx_t, oAdd_i, oSub_i, oLt_i, oLe_i, oGt_i, oGe_i, oIs_n, oIsNot_n, isNone_o, isNone_i, isNone_n, isNone_l, isNone_t, oEq_int, oNe_int, oEq_str, oNe_str, slT_f, slT_t, atD_0, atD_1, atD_2, atD_3, atD_4, atD_nat, fIsi_n, fIsi_i, fIsi_b, fIsi_s, fIsi_l, fIsi_t, fIsi2_n, fIsi2_i, fIsi2_b, fIsi2_s, fIsi2_l, fIsi2_t, oD_some, oD_none, Option.isSome_some, Option.isSome_none, List.length_cons, List.length_nil, List.length_map, List.getElem?_cons_zero, List.getElem?_cons_succ, Option.map_some, Option.map_none, List.getElem?_map, if_true, if_false, ite_true, ite_false, ↓reduceIte, Bool.not_true, Bool.not_false, Bool.true_and, Bool.false_and, Bool.and_true, Bool.and_false, Bool.true_or, Bool.false_or, Bool.or_true, Bool.or_false, Bool.not_not, decide_true, decide_false, Int.cast_ofNat_Int, Int.reduceAdd, Int.reduceSub, Int.reduceMul, Nat.reduceAdd, Nat.zero_add, reduceCtorEq]
  exact so_ret ⟨⟨x + 1, ks⟩, p, ⟨by show 1 ≤ x + 1; omega, by show x + 1 ≤ 10; omega, by show 1 ≤ ks.length; omega, by show ks.length ≤ 10; omega, fun k h => (hk k h).1, fun k h => (hk k h).2⟩, by show x + 1 ≤ M; omega, by show ks.length ≤ W; omega, hde rfl, rfl⟩
end Od

namespace Od
open PySem PySem.Spec PyProof.Rows L2
/-! deeds -/
def Bk.deeds (b : Bk) : List Nat := (List.range b.ks.length).filter b.deed
theorem deed_eq {b : Bk} {k : Nat} (h : k < b.ks.length) : b.deed k = (b.ks[k]).1 := by
  unfold Bk.deed
  rw [List.getElem?_eq_getElem h, Option.map_some]
  cases (b.ks[k]).1 <;> rfl
theorem deeds_c {b : Bk} (ok : b.Ok) : cF fs__law_deeds [bkD b] = some (.list (natL b.deeds)) := by
  have h1 := ok.k1
  refine q__law_deeds ?_
  unfold l__law_deeds
  simp -dsimp -implicitDefEqProofs only [bind_some', asB_b, asI_i, lL_l, lT_t, lS_l, lS_t, lSh_l, lSh_d, lTup2_t, lTup3_t, lAndV_t, lAndV_f, lOrV_t, lOrV_f, lAnd_t, lAnd_f, lOr_t, lOr_f, lAndV_b, lOrV_b, lAnd_b, lOr_b, lZip_l, lZip_t, fLen_l, fLen_t, fTuple_l, fTuple_t, fList_l, fList_t, fInt_i, fInt_b, oIx_l, oIx_t, oAdd_i, oSub_i, oLt_i, oLe_i, oGt_i, oGe_i, oIs_n, oIsNot_n, isNone_o, isNone_i, isNone_n, isNone_l, isNone_t, oEq_int, oNe_int, oEq_str, oNe_str, slT_f, slT_t, atD_0, atD_1, atD_2, atD_3, atD_4, atD_nat, fIsi_n, fIsi_i, fIsi_b, fIsi_s, fIsi_l, fIsi_t, fIsi2_n, fIsi2_i, fIsi2_b, fIsi2_s, fIsi2_l, fIsi2_t, oD_some, oD_none, Option.isSome_some, Option.isSome_none, List.length_cons, List.length_nil, List.length_map, List.getElem?_cons_zero, List.getElem?_cons_succ, Option.map_some, Option.map_none, List.getElem?_map, if_true, if_false, ite_true, ite_false, ↓reduceIte, Bool.not_true, Bool.not_false, Bool.true_and, Bool.false_and, Bool.and_true, Bool.and_false, Bool.true_or, Bool.false_or, Bool.or_true, Bool.or_false, Bool.not_not, decide_true, decide_false, Int.cast_ofNat_Int, Int.reduceAdd, Int.reduceSub, Int.reduceMul, Nat.reduceAdd, Nat.zero_add, reduceCtorEq, bk1, ksLen]
  rw [lR1_n _ (by omega), bind_some']
  rw [lc_filt (xs := List.range b.ks.length) b.deed nD (by rw [List.length_range]; omega) fun k hk => ?_]
  · rfl
  · have hk := List.mem_range.mp hk
    simp -dsimp -implicitDefEqProofs only [bind_some', asB_b, asI_i, lL_l, lT_t, lS_l, lS_t, lSh_l, lSh_d, lTup2_t, lTup3_t, lAndV_t, lAndV_f, lOrV_t, lOrV_f, lAnd_t, lAnd_f, lOr_t, lOr_f, lAndV_b, lOrV_b, lAnd_b, lOr_b, lZip_l, lZip_t, fLen_l, fLen_t, fTuple_l, fTuple_t, fList_l, fList_t, fInt_i, fInt_b, oIx_l, oIx_t, oAdd_i, oSub_i, oLt_i, oLe_i, oGt_i, oGe_i, oIs_n, oIsNot_n, isNone_o, isNone_i, isNone_n, isNone_l, isNone_t, oEq_int, oNe_int, oEq_str, oNe_str, slT_f, slT_t, atD_0, atD_1, atD_2, atD_3, atD_4, atD_nat, fIsi_n, fIsi_i, fIsi_b, fIsi_s, fIsi_l, fIsi_t, fIsi2_n, fIsi2_i, fIsi2_b, fIsi2_s, fIsi2_l, fIsi2_t, oD_some, oD_none, Option.isSome_some, Option.isSome_none, List.length_cons, List.length_nil, List.length_map, List.getElem?_cons_zero, List.getElem?_cons_succ, Option.map_some, Option.map_none, List.getElem?_map, if_true, if_false, ite_true, ite_false, ↓reduceIte, Bool.not_true, Bool.not_false, Bool.true_and, Bool.false_and, Bool.and_true, Bool.and_false, Bool.true_or, Bool.false_or, Bool.or_true, Bool.or_false, Bool.not_not, decide_true, decide_false, Int.cast_ofNat_Int, Int.reduceAdd, Int.reduceSub, Int.reduceMul, Nat.reduceAdd, Nat.zero_add, reduceCtorEq, bk1, ksAt, List.getElem?_eq_getElem hk, kind0, who_eq, deed_eq hk]
    cases (b.ks[k]).1 <;> rfl
end Od

namespace Od
open PySem PySem.Spec PyProof.Rows L2
/-! drawn marks -/
theorem asc_of : ∀ {r : List Nat}, r.Pairwise (· < ·) → Asc r
  | [], _ => nofun
  | [x], _ => nofun
  | x :: y :: r, h => by
    intro p hp
    have e : (x :: y :: r).zip ((x :: y :: r).drop 1) = (x, y) :: (y :: r).zip ((y :: r).drop 1) := rfl
    rw [e] at hp
    cases h with
    | cons h1 h2 =>
      rcases List.mem_cons.mp hp with z | z
      · subst z; exact h1 y List.mem_cons_self
      · exact asc_of h2 p z
theorem some_so (p : Int) (n : Nat) (hn : n ≤ 10) : So (cI fs__law_some [pD p, .int n]) fun q => ∃ (r : List Nat) (p' : Int), q = (markD r, pD p') ∧ r.Sublist (List.range n) := by
  refine c__law_some ?_
  unfold l__law_some
  rw [lR1_n _ (by omega), bind_some']
  refine so_bind _ (so_lcS (fun i acc m => ∃ (r : List Nat) (p' : Int), acc = natL r ∧ m = pD p' ∧ r.Sublist (List.range i)) (by rw [rng_len]; omega) ⟨[], p, rfl, rfl, List.nil_sublist _⟩ ?_) ?_
  · rintro i _ _ _ hd ⟨r, p', rfl, rfl, hs⟩
    obtain ⟨hi, rfl⟩ := rng_d hd
    refine so_bind _ (take_so p' 2 (by omega) (by omega)) ?_
    rintro _ ⟨g, p2, hg, rfl⟩
    simp -dsimp -implicitDefEqProofs only [bind_some', asB_b, asI_i, lL_l, lT_t, lS_l, lS_t, lSh_l, lSh_d, lTup2_t, lTup3_t, lAndV_t, lAndV_f, lOrV_t, lOrV_f, lAnd_t, lAnd_f, lOr_t, lOr_f, lAndV_b, lOrV_b, lAnd_b, lOr_b, lZip_l, lZip_t, fLen_l, fLen_t, fTuple_l, fTuple_t, fList_l, fList_t, fInt_i, fInt_b, oIx_l, oIx_t, oAdd_i, oSub_i, oLt_i, oLe_i, oGt_i, oGe_i, oIs_n, oIsNot_n, isNone_o, isNone_i, isNone_n, isNone_l, isNone_t, oEq_int, oNe_int, oEq_str, oNe_str, slT_f, slT_t, atD_0, atD_1, atD_2, atD_3, atD_4, atD_nat, fIsi_n, fIsi_i, fIsi_b, fIsi_s, fIsi_l, fIsi_t, fIsi2_n, fIsi2_i, fIsi2_b, fIsi2_s, fIsi2_l, fIsi2_t, oD_some, oD_none, Option.isSome_some, Option.isSome_none, List.length_cons, List.length_nil, List.length_map, List.getElem?_cons_zero, List.getElem?_cons_succ, Option.map_some, Option.map_none, List.getElem?_map, if_true, if_false, ite_true, ite_false, ↓reduceIte, Bool.not_true, Bool.not_false, Bool.true_and, Bool.false_and, Bool.and_true, Bool.and_false, Bool.true_or, Bool.false_or, Bool.or_true, Bool.or_false, Bool.not_not, decide_true, decide_false, Int.cast_ofNat_Int, Int.reduceAdd, Int.reduceSub, Int.reduceMul, Nat.reduceAdd, Nat.zero_add, reduceCtorEq]
    rw [List.range_succ]
    refine so_if (fun _ => so_ret ⟨r ++ [i], p2, by unfold natL; rw [List.map_append]; rfl, rfl, hs.append (List.Sublist.refl _)⟩) fun _ => so_ret ⟨r, p2, List.append_nil _, rfl, hs.trans (List.sublist_append_left _ _)⟩
  · rintro ⟨_, _⟩ ⟨r, p', rfl, rfl, hs⟩
    rw [rng_len] at hs
    simp -dsimp -implicitDefEqProofs only [bind_some', asB_b, asI_i, lL_l, lT_t, lS_l, lS_t, lSh_l, lSh_d, lTup2_t, lTup3_t, lAndV_t, lAndV_f, lOrV_t, lOrV_f, lAnd_t, lAnd_f, lOr_t, lOr_f, lAndV_b, lOrV_b, lAnd_b, lOr_b, lZip_l, lZip_t, fLen_l, fLen_t, fTuple_l, fTuple_t, fList_l, fList_t, fInt_i, fInt_b, oIx_l, oIx_t, oAdd_i, oSub_i, oLt_i, oLe_i, oGt_i, oGe_i, oIs_n, oIsNot_n, isNone_o, isNone_i, isNone_n, isNone_l, isNone_t, oEq_int, oNe_int, oEq_str, oNe_str, slT_f, slT_t, atD_0, atD_1, atD_2, atD_3, atD_4, atD_nat, fIsi_n, fIsi_i, fIsi_b, fIsi_s, fIsi_l, fIsi_t, fIsi2_n, fIsi2_i, fIsi2_b, fIsi2_s, fIsi2_l, fIsi2_t, oD_some, oD_none, Option.isSome_some, Option.isSome_none, List.length_cons, List.length_nil, List.length_map, List.getElem?_cons_zero, List.getElem?_cons_succ, Option.map_some, Option.map_none, List.getElem?_map, if_true, if_false, ite_true, ite_false, ↓reduceIte, Bool.not_true, Bool.not_false, Bool.true_and, Bool.false_and, Bool.and_true, Bool.and_false, Bool.true_or, Bool.false_or, Bool.or_true, Bool.or_false, Bool.not_not, decide_true, decide_false, Int.cast_ofNat_Int, Int.reduceAdd, Int.reduceSub, Int.reduceMul, Nat.reduceAdd, Nat.zero_add, reduceCtorEq]
    exact so_ret ⟨r, p', rfl, hs⟩
theorem sub_ok {r : List Nat} {n : Nat} (h : r.Sublist (List.range n)) : (∀ k ∈ r, k < n) ∧ Asc r ∧ r.length ≤ n :=
  ⟨fun k hk => List.mem_range.mp (h.subset hk), asc_of (List.pairwise_lt_range.sublist h), by have := h.length_le; rw [List.length_range] at this; exact this⟩
theorem cut_to (ds : List D) (g : Nat) : cutD ds none (some (g : Int)) = ds.take g := by
  unfold cutD
  rw [HT.sIx_nat]
  unfold HT.sIx
  dsimp only
  rw [List.drop_zero, Nat.sub_zero]
  by_cases h : g ≤ ds.length
  · rw [Nat.min_eq_left h]
  · rw [Nat.min_eq_right (by omega), List.take_of_length_le (by omega), List.take_of_length_le (by omega)]
theorem zip_get {α β : Type} {xs : List α} {ys : List β} {p : α × β} (h : p ∈ xs.zip ys) : ∃ i : Nat, xs[i]? = some p.1 ∧ ys[i]? = some p.2 := by
  obtain ⟨i, hi, e⟩ := List.mem_iff_getElem.mp h
  rw [List.length_zip] at hi
  rw [List.getElem_zip] at e
  subst e
  exact ⟨i, List.getElem?_eq_getElem (by omega), List.getElem?_eq_getElem (by omega)⟩
theorem marks_so {b : Bk} (ok : b.Ok) (p : Int) (way : Nat) : So (cI fs__law_marks [pD p, bkD b, .int way]) fun q => ∃ (ms : List (List Nat)) (p' : Int), MarksOk b ms ∧ q = (marksD ms, pD p') := by
  have hk := ok.k1
  refine c__law_marks ?_
  unfold l__law_marks
  have e0 : lS (ksD b) = some (b.ks.map kindD) := rfl
  simp -dsimp -implicitDefEqProofs only [bind_some', asB_b, asI_i, lL_l, lT_t, lS_l, lS_t, lSh_l, lSh_d, lTup2_t, lTup3_t, lAndV_t, lAndV_f, lOrV_t, lOrV_f, lAnd_t, lAnd_f, lOr_t, lOr_f, lAndV_b, lOrV_b, lAnd_b, lOr_b, lZip_l, lZip_t, fLen_l, fLen_t, fTuple_l, fTuple_t, fList_l, fList_t, fInt_i, fInt_b, oIx_l, oIx_t, oAdd_i, oSub_i, oLt_i, oLe_i, oGt_i, oGe_i, oIs_n, oIsNot_n, isNone_o, isNone_i, isNone_n, isNone_l, isNone_t, oEq_int, oNe_int, oEq_str, oNe_str, slT_f, slT_t, atD_0, atD_1, atD_2, atD_3, atD_4, atD_nat, fIsi_n, fIsi_i, fIsi_b, fIsi_s, fIsi_l, fIsi_t, fIsi2_n, fIsi2_i, fIsi2_b, fIsi2_s, fIsi2_l, fIsi2_t, oD_some, oD_none, Option.isSome_some, Option.isSome_none, List.length_cons, List.length_nil, List.length_map, List.getElem?_cons_zero, List.getElem?_cons_succ, Option.map_some, Option.map_none, List.getElem?_map, if_true, if_false, ite_true, ite_false, ↓reduceIte, Bool.not_true, Bool.not_false, Bool.true_and, Bool.false_and, Bool.and_true, Bool.and_false, Bool.true_or, Bool.false_or, Bool.or_true, Bool.or_false, Bool.not_not, decide_true, decide_false, Int.cast_ofNat_Int, Int.reduceAdd, Int.reduceSub, Int.reduceMul, Nat.reduceAdd, Nat.zero_add, reduceCtorEq, bk1, e0]
  refine so_bind _ (so_fold (fun j t => ∃ (p : Int) (ms : List (List Nat)), t = (pD p, .list (ms.map markD)) ∧ ms.length = j ∧ (∀ r ∈ ms, r.Sublist (List.range b.ks.length)) ∧ ∀ (i : Nat) (q : Bool × List (Option Nat)) (r : List Nat), b.ks[i]? = some q → ms[i]? = some r → q.1 = false → r = []) ⟨p, [], rfl, rfl, nofun, fun i q r _ h => by simp at h⟩ ?_) ?_
  · rintro j _ _ hd ⟨p, ms, rfl, hl, hm, ho⟩
    rw [List.getElem?_map] at hd
    obtain ⟨q, hq, rfl⟩ := Option.map_eq_some_iff.mp hd
    have hj := (List.getElem?_eq_some_iff.mp hq).1
    simp -dsimp -implicitDefEqProofs only [bind_some', asB_b, asI_i, lL_l, lT_t, lS_l, lS_t, lSh_l, lSh_d, lTup2_t, lTup3_t, lAndV_t, lAndV_f, lOrV_t, lOrV_f, lAnd_t, lAnd_f, lOr_t, lOr_f, lAndV_b, lOrV_b, lAnd_b, lOr_b, lZip_l, lZip_t, fLen_l, fLen_t, fTuple_l, fTuple_t, fList_l, fList_t, fInt_i, fInt_b, oIx_l, oIx_t, oAdd_i, oSub_i, oLt_i, oLe_i, oGt_i, oGe_i, oIs_n, oIsNot_n, isNone_o, isNone_i, isNone_n, isNone_l, isNone_t, oEq_int, oNe_int, oEq_str, oNe_str, slT_f, slT_t, atD_0, atD_1, atD_2, atD_3, atD_4, atD_nat, fIsi_n, fIsi_i, fIsi_b, fIsi_s, fIsi_l, fIsi_t, fIsi2_n, fIsi2_i, fIsi2_b, fIsi2_s, fIsi2_l, fIsi2_t, oD_some, oD_none, Option.isSome_some, Option.isSome_none, List.length_cons, List.length_nil, List.length_map, List.getElem?_cons_zero, List.getElem?_cons_succ, Option.map_some, Option.map_none, List.getElem?_map, if_true, if_false, ite_true, ite_false, ↓reduceIte, Bool.not_true, Bool.not_false, Bool.true_and, Bool.false_and, Bool.and_true, Bool.and_false, Bool.true_or, Bool.false_or, Bool.or_true, Bool.or_false, Bool.not_not, decide_true, decide_false, Int.cast_ofNat_Int, Int.reduceAdd, Int.reduceSub, Int.reduceMul, Nat.reduceAdd, Nat.zero_add, reduceCtorEq, kindT, bk1, ksLen]
    refine so_bind _ (some_so p b.ks.length hk) ?_
    rintro _ ⟨r, p1, rfl, hr⟩
    simp -dsimp -implicitDefEqProofs only [bind_some', asB_b, asI_i, lL_l, lT_t, lS_l, lS_t, lSh_l, lSh_d, lTup2_t, lTup3_t, lAndV_t, lAndV_f, lOrV_t, lOrV_f, lAnd_t, lAnd_f, lOr_t, lOr_f, lAndV_b, lOrV_b, lAnd_b, lOr_b, lZip_l, lZip_t, fLen_l, fLen_t, fTuple_l, fTuple_t, fList_l, fList_t, fInt_i, fInt_b, oIx_l, oIx_t, oAdd_i, oSub_i, oLt_i, oLe_i, oGt_i, oGe_i, oIs_n, oIsNot_n, isNone_o, isNone_i, isNone_n, isNone_l, isNone_t, oEq_int, oNe_int, oEq_str, oNe_str, slT_f, slT_t, atD_0, atD_1, atD_2, atD_3, atD_4, atD_nat, fIsi_n, fIsi_i, fIsi_b, fIsi_s, fIsi_l, fIsi_t, fIsi2_n, fIsi2_i, fIsi2_b, fIsi2_s, fIsi2_l, fIsi2_t, oD_some, oD_none, Option.isSome_some, Option.isSome_none, List.length_cons, List.length_nil, List.length_map, List.getElem?_cons_zero, List.getElem?_cons_succ, Option.map_some, Option.map_none, List.getElem?_map, if_true, if_false, ite_true, ite_false, ↓reduceIte, Bool.not_true, Bool.not_false, Bool.true_and, Bool.false_and, Bool.and_true, Bool.and_false, Bool.true_or, Bool.false_or, Bool.or_true, Bool.or_false, Bool.not_not, decide_true, decide_false, Int.cast_ofNat_Int, Int.reduceAdd, Int.reduceSub, Int.reduceMul, Nat.reduceAdd, Nat.zero_add, reduceCtorEq]
    refine so_bind (fun t => ∃ (p : Int) (r : List Nat), t = (pD p, markD r) ∧ r.Sublist (List.range b.ks.length)) (so_if (fun _ => ?_) fun _ => so_ret ⟨p1, r, rfl, hr⟩) ?_
    · refine so_bind _ (take_so p1 3 (by omega) (by omega)) ?_
      rintro _ ⟨g, p2, _, rfl⟩
      simp -dsimp -implicitDefEqProofs only [bind_some', asB_b, asI_i, lL_l, lT_t, lS_l, lS_t, lSh_l, lSh_d, lTup2_t, lTup3_t, lAndV_t, lAndV_f, lOrV_t, lOrV_f, lAnd_t, lAnd_f, lOr_t, lOr_f, lAndV_b, lOrV_b, lAnd_b, lOr_b, lZip_l, lZip_t, fLen_l, fLen_t, fTuple_l, fTuple_t, fList_l, fList_t, fInt_i, fInt_b, oIx_l, oIx_t, oAdd_i, oSub_i, oLt_i, oLe_i, oGt_i, oGe_i, oIs_n, oIsNot_n, isNone_o, isNone_i, isNone_n, isNone_l, isNone_t, oEq_int, oNe_int, oEq_str, oNe_str, slT_f, slT_t, atD_0, atD_1, atD_2, atD_3, atD_4, atD_nat, fIsi_n, fIsi_i, fIsi_b, fIsi_s, fIsi_l, fIsi_t, fIsi2_n, fIsi2_i, fIsi2_b, fIsi2_s, fIsi2_l, fIsi2_t, oD_some, oD_none, Option.isSome_some, Option.isSome_none, List.length_cons, List.length_nil, List.length_map, List.getElem?_cons_zero, List.getElem?_cons_succ, Option.map_some, Option.map_none, List.getElem?_map, if_true, if_false, ite_true, ite_false, ↓reduceIte, Bool.not_true, Bool.not_false, Bool.true_and, Bool.false_and, Bool.and_true, Bool.and_false, Bool.true_or, Bool.false_or, Bool.or_true, Bool.or_false, Bool.not_not, decide_true, decide_false, Int.cast_ofNat_Int, Int.reduceAdd, Int.reduceSub, Int.reduceMul, Nat.reduceAdd, Nat.zero_add, reduceCtorEq, markD, cut_to]
      exact so_ret ⟨p2, r.take g, by unfold natL; rw [List.map_take], (List.take_sublist _ _).trans hr⟩
    rintro _ ⟨p2, r, rfl, hr⟩
    simp -dsimp -implicitDefEqProofs only [bind_some', asB_b, asI_i, lL_l, lT_t, lS_l, lS_t, lSh_l, lSh_d, lTup2_t, lTup3_t, lAndV_t, lAndV_f, lOrV_t, lOrV_f, lAnd_t, lAnd_f, lOr_t, lOr_f, lAndV_b, lOrV_b, lAnd_b, lOr_b, lZip_l, lZip_t, fLen_l, fLen_t, fTuple_l, fTuple_t, fList_l, fList_t, fInt_i, fInt_b, oIx_l, oIx_t, oAdd_i, oSub_i, oLt_i, oLe_i, oGt_i, oGe_i, oIs_n, oIsNot_n, isNone_o, isNone_i, isNone_n, isNone_l, isNone_t, oEq_int, oNe_int, oEq_str, oNe_str, slT_f, slT_t, atD_0, atD_1, atD_2, atD_3, atD_4, atD_nat, fIsi_n, fIsi_i, fIsi_b, fIsi_s, fIsi_l, fIsi_t, fIsi2_n, fIsi2_i, fIsi2_b, fIsi2_s, fIsi2_l, fIsi2_t, oD_some, oD_none, Option.isSome_some, Option.isSome_none, List.length_cons, List.length_nil, List.length_map, List.getElem?_cons_zero, List.getElem?_cons_succ, Option.map_some, Option.map_none, List.getElem?_map, if_true, if_false, ite_true, ite_false, ↓reduceIte, Bool.not_true, Bool.not_false, Bool.true_and, Bool.false_and, Bool.and_true, Bool.and_false, Bool.true_or, Bool.false_or, Bool.or_true, Bool.or_false, Bool.not_not, decide_true, decide_false, Int.cast_ofNat_Int, Int.reduceAdd, Int.reduceSub, Int.reduceMul, Nat.reduceAdd, Nat.zero_add, reduceCtorEq, who_out]
    refine so_bind (fun t => ∃ r : List Nat, t = markD r ∧ r.Sublist (List.range b.ks.length) ∧ (q.1 = false → r = [])) (so_if (fun _ => so_ret ⟨[], rfl, List.nil_sublist _, fun _ => rfl⟩) fun h => so_ret ⟨r, rfl, hr, fun h' => ?_⟩) ?_
    · rw [h'] at h; cases h
    rintro _ ⟨r, rfl, hr, hz⟩
    rw [gApp_l' _ _ (by rw [List.length_map]; omega), bind_some']
    refine so_ret ⟨p2, ms ++ [r], by rw [List.map_append]; rfl, by rw [List.length_append, hl]; rfl, fun x hx => ?_, fun i q' x h1 h2 h3 => ?_⟩
    · rcases List.mem_append.mp hx with z | z
      · exact hm x z
      · rw [List.mem_singleton] at z; subst z; exact hr
    · by_cases hi : i < ms.length
      · rw [List.getElem?_append_left hi] at h2
        exact ho i q' x h1 h2 h3
      · rw [List.getElem?_append_right (by omega)] at h2
        have e0 : i = j := by
          have := (List.getElem?_eq_some_iff.mp h2).1
          rw [List.length_singleton] at this
          omega
        subst e0
        rw [hl, Nat.sub_self] at h2
        cases h2
        rw [hq] at h1
        cases h1
        exact hz h3
  · rintro _ ⟨p, ms, rfl, hl, hm, ho⟩
    rw [List.length_map] at hl
    simp -dsimp -implicitDefEqProofs only [bind_some', asB_b, asI_i, lL_l, lT_t, lS_l, lS_t, lSh_l, lSh_d, lTup2_t, lTup3_t, lAndV_t, lAndV_f, lOrV_t, lOrV_f, lAnd_t, lAnd_f, lOr_t, lOr_f, lAndV_b, lOrV_b, lAnd_b, lOr_b, lZip_l, lZip_t, fLen_l, fLen_t, fTuple_l, fTuple_t, fList_l, fList_t, fInt_i, fInt_b, oIx_l, oIx_t, oAdd_i, oSub_i, oLt_i, oLe_i, oGt_i, oGe_i, oIs_n, oIsNot_n, isNone_o, isNone_i, isNone_n, isNone_l, isNone_t, oEq_int, oNe_int, oEq_str, oNe_str, slT_f, slT_t, atD_0, atD_1, atD_2, atD_3, atD_4, atD_nat, fIsi_n, fIsi_i, fIsi_b, fIsi_s, fIsi_l, fIsi_t, fIsi2_n, fIsi2_i, fIsi2_b, fIsi2_s, fIsi2_l, fIsi2_t, oD_some, oD_none, Option.isSome_some, Option.isSome_none, List.length_cons, List.length_nil, List.length_map, List.getElem?_cons_zero, List.getElem?_cons_succ, Option.map_some, Option.map_none, List.getElem?_map, if_true, if_false, ite_true, ite_false, ↓reduceIte, Bool.not_true, Bool.not_false, Bool.true_and, Bool.false_and, Bool.and_true, Bool.and_false, Bool.true_or, Bool.false_or, Bool.or_true, Bool.or_false, Bool.not_not, decide_true, decide_false, Int.cast_ofNat_Int, Int.reduceAdd, Int.reduceSub, Int.reduceMul, Nat.reduceAdd, Nat.zero_add, reduceCtorEq]
    refine so_ret ⟨ms, p, ⟨hl, fun r h => (sub_ok (hm r h)).1, fun r h => (sub_ok (hm r h)).2.1, fun q hq h => ?_, fun r h => by have := (sub_ok (hm r h)).2.2; omega⟩, rfl⟩
    obtain ⟨i, h1, h2⟩ := zip_get hq
    exact ho i _ _ h1 h2 h
end Od

namespace Od
open PySem PySem.Spec PyProof.Rows L2
theorem has_c {r mk : List Nat} (hl : r.length ≤ 1000) : cF fs__law_has [.list (natL r), markD mk] = some (.bool (!(r.filter mk.contains).isEmpty)) := by
  refine q__law_has ?_
  unfold l__law_has
  have all : lc (fun d2 => (oIn false d2 (markD mk)).bd fun a3 => (asB a3).bd fun b4 => if b4 = true then some [d2] else some []) (natL r) = some (natL (r.filter mk.contains)) := by
    refine lc_filt mk.contains nD (by omega) fun k hk => ?_
    have e : oIn false (.int k) (markD mk) = some (.bool (mk.contains k)) := in_row (.inr rfl) k
    unfold nD
    simp -dsimp -implicitDefEqProofs only [bind_some', asB_b, asI_i, lL_l, lT_t, lS_l, lS_t, lSh_l, lSh_d, lTup2_t, lTup3_t, lAndV_t, lAndV_f, lOrV_t, lOrV_f, lAnd_t, lAnd_f, lOr_t, lOr_f, lAndV_b, lOrV_b, lAnd_b, lOr_b, lZip_l, lZip_t, fLen_l, fLen_t, fTuple_l, fTuple_t, fList_l, fList_t, fInt_i, fInt_b, oIx_l, oIx_t, oAdd_i, oSub_i, oLt_i, oLe_i, oGt_i, oGe_i, oIs_n, oIsNot_n, isNone_o, isNone_i, isNone_n, isNone_l, isNone_t, oEq_int, oNe_int, oEq_str, oNe_str, slT_f, slT_t, atD_0, atD_1, atD_2, atD_3, atD_4, atD_nat, fIsi_n, fIsi_i, fIsi_b, fIsi_s, fIsi_l, fIsi_t, fIsi2_n, fIsi2_i, fIsi2_b, fIsi2_s, fIsi2_l, fIsi2_t, oD_some, oD_none, Option.isSome_some, Option.isSome_none, List.length_cons, List.length_nil, List.length_map, List.getElem?_cons_zero, List.getElem?_cons_succ, Option.map_some, Option.map_none, List.getElem?_map, if_true, if_false, ite_true, ite_false, ↓reduceIte, Bool.not_true, Bool.not_false, Bool.true_and, Bool.false_and, Bool.and_true, Bool.and_false, Bool.true_or, Bool.false_or, Bool.or_true, Bool.or_false, Bool.not_not, decide_true, decide_false, Int.cast_ofNat_Int, Int.reduceAdd, Int.reduceSub, Int.reduceMul, Nat.reduceAdd, Nat.zero_add, reduceCtorEq, e]
    cases mk.contains k <;> rfl
  simp -dsimp -implicitDefEqProofs only [bind_some', asB_b, asI_i, lL_l, lT_t, lS_l, lS_t, lSh_l, lSh_d, lTup2_t, lTup3_t, lAndV_t, lAndV_f, lOrV_t, lOrV_f, lAnd_t, lAnd_f, lOr_t, lOr_f, lAndV_b, lOrV_b, lAnd_b, lOr_b, lZip_l, lZip_t, fLen_l, fLen_t, fTuple_l, fTuple_t, fList_l, fList_t, fInt_i, fInt_b, oIx_l, oIx_t, oAdd_i, oSub_i, oLt_i, oLe_i, oGt_i, oGe_i, oIs_n, oIsNot_n, isNone_o, isNone_i, isNone_n, isNone_l, isNone_t, oEq_int, oNe_int, oEq_str, oNe_str, slT_f, slT_t, atD_0, atD_1, atD_2, atD_3, atD_4, atD_nat, fIsi_n, fIsi_i, fIsi_b, fIsi_s, fIsi_l, fIsi_t, fIsi2_n, fIsi2_i, fIsi2_b, fIsi2_s, fIsi2_l, fIsi2_t, oD_some, oD_none, Option.isSome_some, Option.isSome_none, List.length_cons, List.length_nil, List.length_map, List.getElem?_cons_zero, List.getElem?_cons_succ, Option.map_some, Option.map_none, List.getElem?_map, if_true, if_false, ite_true, ite_false, ↓reduceIte, Bool.not_true, Bool.not_false, Bool.true_and, Bool.false_and, Bool.and_true, Bool.and_false, Bool.true_or, Bool.false_or, Bool.or_true, Bool.or_false, Bool.not_not, decide_true, decide_false, Int.cast_ofNat_Int, Int.reduceAdd, Int.reduceSub, Int.reduceMul, Nat.reduceAdd, Nat.zero_add, reduceCtorEq, all, oNe_nil]
theorem hits_has (mk r : List Nat) : (!(r.filter mk.contains).isEmpty) = mk.any fun k => r.contains k := by
  rw [Bool.eq_iff_iff]
  constructor
  · intro h
    have h := emp_f h
    obtain ⟨k, hk⟩ := List.exists_mem_of_ne_nil _ h
    obtain ⟨h1, h2⟩ := List.mem_filter.mp hk
    rw [List.any_eq_true]
    exact ⟨k, List.contains_iff_mem.mp h2, List.contains_iff_mem.mpr h1⟩
  · intro h
    rw [List.any_eq_true] at h
    obtain ⟨k, h1, h2⟩ := h
    have hm : k ∈ r.filter mk.contains := List.mem_filter.mpr ⟨List.contains_iff_mem.mp h2, List.contains_iff_mem.mpr h1⟩
    cases e : r.filter mk.contains with
    | nil => rw [e] at hm; cases hm
    | cons _ _ => rfl
end Od

namespace Od
open PySem PySem.Spec PyProof.Rows L2
/-! the law's own reading of a log -/
def Talk.over (pg : List (List Nat)) (T : Talk) : Ent → Bool
  | .deed h d => match lookM h T.mom with
    | none => false
    | some m => hits pg d (T.hap.drop m)
  | _ => false
def Talk.okd (b : Bk) (ms : List (List Nat)) (T : Talk) : Ent → Bool
  | .deed h d => T.allows b ms h d
  | _ => false
def Talk.flt (b : Bk) (ms pg : List (List Nat)) : Talk → Nat → List Ent → List Nat
  | _, _, [] => []
  | T, i, e :: es => (if (T.okd b ms e && T.over pg e) = true then [i] else []) ++ Talk.flt b ms pg (T.step b ms e) (i + 1) es
theorem end_app (b : Bk) (ms : List (List Nat)) (T : Talk) (es : List Ent) (e : Ent) : T.end_ b ms (es ++ [e]) = (T.end_ b ms es).step b ms e := by
  unfold Talk.end_
  rw [List.foldl_append]; rfl
theorem end_cons (b : Bk) (ms : List (List Nat)) (T : Talk) (es : List Ent) (e : Ent) : T.end_ b ms (e :: es) = (T.step b ms e).end_ b ms es := rfl
theorem run_app (b : Bk) (ms : List (List Nat)) (e : Ent) : ∀ (es : List Ent) (T : Talk), T.run b ms (es ++ [e]) = T.run b ms es ++ [(T.end_ b ms es).ans b ms e]
  | [], _ => rfl
  | x :: es, T => by
    rw [List.cons_append, end_cons]
    show _ :: _ = _ :: _ ++ _
    rw [run_app b ms e es, List.cons_append]
theorem run_len (b : Bk) (ms : List (List Nat)) : ∀ (es : List Ent) (T : Talk), (T.run b ms es).length = es.length
  | [], _ => rfl
  | x :: es, T => by
    show (_ :: _).length = _
    rw [List.length_cons, run_len b ms es, List.length_cons]
theorem flt_app (b : Bk) (ms pg : List (List Nat)) (e : Ent) : ∀ (es : List Ent) (T : Talk) (i : Nat), T.flt b ms pg i (es ++ [e]) = T.flt b ms pg i es ++ (if ((T.end_ b ms es).okd b ms e && (T.end_ b ms es).over pg e) = true then [i + es.length] else [])
  | [], T, i => by
    show (if _ then _ else _) ++ [] = [] ++ _
    rw [List.append_nil, List.nil_append]; rfl
  | x :: es, T, i => by
    rw [List.cons_append, end_cons]
    show _ ++ _ = (_ ++ _) ++ _
    rw [flt_app b ms pg e es, List.append_assoc, List.length_cons, Nat.add_assoc, Nat.add_comm 1]
theorem flt_len (b : Bk) (ms pg : List (List Nat)) : ∀ (es : List Ent) (T : Talk) (i : Nat), (T.flt b ms pg i es).length ≤ es.length
  | [], _, _ => Nat.le_refl _
  | x :: es, T, i => by
    unfold Talk.flt
    have := flt_len b ms pg es (T.step b ms x) (i + 1)
    rw [List.length_append, List.length_cons]
    split
    · rw [List.length_singleton]; omega
    · rw [List.length_nil]; omega
theorem end_ok {b : Bk} (ok : b.Ok) {ms : List (List Nat)} : ∀ (es : List Ent) (T : Talk) (n : Nat), T.Ok b n → (∀ e ∈ es, e.Ok b) → (T.end_ b ms es).Ok b (n + es.length)
  | [], _, _, h, _ => h
  | e :: es, T, n, h, he => by
    have z := end_ok ok (ms := ms) es (T.step b ms e) (n + 1) (step_ok ok h (he e List.mem_cons_self)) fun x hx => he x (List.mem_cons_of_mem _ hx)
    rw [List.length_cons, Nat.add_comm es.length 1, ← Nat.add_assoc]
    exact z
def stD (T : Talk) (told : List D) (fl : List Nat) (o : Option D) : D × D × D × D × D × Option D := (.list (natL T.sts), .list (natL T.hap), momD T.mom, .list told, .list (natL fl), o)
theorem natL_snoc (r : List Nat) (k : Nat) : (natL r ++ [.int (k : Nat)]) = natL (r ++ [k]) := natL_app r k
theorem oD_i (n : Nat) : (PyData.int (n : Int)) = oD (some n) := rfl
section
variable {b : Bk} {ms pg : List (List Nat)} {T : Talk} {u d m : Nat}
theorem deed_no (i : Nat) (ha : T.allows b ms u d = false) : T.step b ms (.deed u d) = T ∧ T.ans b ms (.deed u d) = .bool false ∧ (if (T.okd b ms (.deed u d) && T.over pg (.deed u d)) = true then [i] else []) = [] := by
  refine ⟨?_, ?_, ?_⟩
  · show (if T.allows b ms u d = true then _ else _) = _
    rw [ha, if_neg Bool.false_ne_true]
  · show PyData.bool (T.allows b ms u d) = _
    rw [ha]
  · show (if (T.allows b ms u d && _) = true then _ else _) = _
    rw [ha]; rfl
theorem deed_yes (i : Nat) (ha : T.allows b ms u d = true) : T.step b ms (.deed u d) = T.done b u d ∧ T.ans b ms (.deed u d) = .bool true ∧ (if (T.okd b ms (.deed u d) && T.over pg (.deed u d)) = true then [i] else []) = if T.over pg (.deed u d) = true then [i] else [] := by
  refine ⟨?_, ?_, ?_⟩
  · show (if T.allows b ms u d = true then _ else _) = _
    rw [ha, if_pos rfl]
  · show PyData.bool (T.allows b ms u d) = _
    rw [ha]
  · show (if (T.allows b ms u d && _) = true then _ else _) = _
    rw [ha, Bool.true_and]
theorem allow_none (e4 : lookM u T.mom = none) : T.allows b ms u d = false := by
  unfold Talk.allows
  rw [e4]
theorem allow_last (e4 : lookM u T.mom = some m) (e5 : b.at T.last d = none) : T.allows b ms u d = false := by
  unfold Talk.allows
  rw [e4]
  dsimp only
  rw [e5]
  cases (b.at (T.sts.getD m 0) d).isSome <;> rfl
theorem allow_seen (e4 : lookM u T.mom = some m) (e6 : b.at (T.sts.getD m 0) d = none) : T.allows b ms u d = false := by
  unfold Talk.allows
  rw [e4]
  dsimp only
  rw [e6]
  rfl
end
theorem lread_c {b : Bk} (ok : b.Ok) {pg ms : List (List Nat)} (hp : MarksOk b pg) (hm : MarksOk b ms) {es : List Ent} (hes : LogOk b es) :
    cF fs__law_read [bkD b, marksD pg, marksD ms, .list (logD es)] = some (.tuple [.list (Talk.new.run b ms es), .list (natL (Talk.new.flt b ms pg 0 es))]) := by
  have h200 := hes.len
  refine q__law_read (so_eq ?_)
  unfold l__law_read
  have el : fLen (.list (logD es)) = some (.int es.length) := by rw [fLen_l]; unfold logD; rw [List.length_map]
  rw [el, bind_some', lR1_n _ (by omega), bind_some']
  refine so_bind _ (so_fold (fun i t => ∃ o, t = stD (Talk.new.end_ b ms (es.take i)) (Talk.new.run b ms (es.take i)) (Talk.new.flt b ms pg 0 (es.take i)) o) ⟨none, rfl⟩ ?_) ?_
  · rintro i _ _ hd ⟨o, rfl⟩
    obtain ⟨hi, rfl⟩ := rng_d hd
    have e1 : es.take (i + 1) = es.take i ++ [es[i]] := by rw [List.take_add_one, List.getElem?_eq_getElem hi]; rfl
    have e2 : oIx (.list (logD es)) (.int (i : Nat)) = some (entD es[i]) := by
      rw [oIx_l, atD_nat]; unfold logD; rw [List.getElem?_map, List.getElem?_eq_getElem hi]; rfl
    have le : (es.take i).length = i := by rw [List.length_take]; omega
    have he : es[i].Ok b := hes.ok _ (List.getElem_mem hi)
    have hT : (Talk.new.end_ b ms (es.take i)).Ok b i := by
      have z := end_ok ok (ms := ms) (es.take i) .new 0 (new_ok ok 0) fun e h => hes.ok e (List.mem_of_mem_take h)
      rw [le, Nat.zero_add] at z
      exact z
    have hr : (Talk.new.run b ms (es.take i)).length < 100000 := by rw [run_len, le]; omega
    have hf : (Talk.new.flt b ms pg 0 (es.take i)).length < 100000 := by have := flt_len b ms pg (es.take i) .new 0; omega
    rw [e1, end_app, run_app, flt_app, le, Nat.zero_add]
    generalize Talk.new.end_ b ms (es.take i) = T at *
    generalize Talk.new.run b ms (es.take i) = told at *
    generalize Talk.new.flt b ms pg 0 (es.take i) = fl at *
    have h1 := hT.hl
    have h2 := hT.len
    have h3 := hT.ml
    unfold stD
    simp -dsimp -implicitDefEqProofs only [bind_some', asB_b, asI_i, lL_l, lT_t, lS_l, lS_t, lSh_l, lSh_d, lTup2_t, lTup3_t, lAndV_t, lAndV_f, lOrV_t, lOrV_f, lAnd_t, lAnd_f, lOr_t, lOr_f, lAndV_b, lOrV_b, lAnd_b, lOr_b, lZip_l, lZip_t, fLen_l, fLen_t, fTuple_l, fTuple_t, fList_l, fList_t, fInt_i, fInt_b, oIx_l, oIx_t, oAdd_i, oSub_i, oLt_i, oLe_i, oGt_i, oGe_i, oIs_n, oIsNot_n, isNone_o, isNone_i, isNone_n, isNone_l, isNone_t, oEq_int, oNe_int, oEq_str, oNe_str, slT_f, slT_t, atD_0, atD_1, atD_2, atD_3, atD_4, atD_nat, fIsi_n, fIsi_i, fIsi_b, fIsi_s, fIsi_l, fIsi_t, fIsi2_n, fIsi2_i, fIsi2_b, fIsi2_s, fIsi2_l, fIsi2_t, oD_some, oD_none, Option.isSome_some, Option.isSome_none, List.length_cons, List.length_nil, List.length_map, List.getElem?_cons_zero, List.getElem?_cons_succ, Option.map_some, Option.map_none, List.getElem?_map, if_true, if_false, ite_true, ite_false, ↓reduceIte, Bool.not_true, Bool.not_false, Bool.true_and, Bool.false_and, Bool.and_true, Bool.and_false, Bool.true_or, Bool.false_or, Bool.or_true, Bool.or_false, Bool.not_not, decide_true, decide_false, Int.cast_ofNat_Int, Int.reduceAdd, Int.reduceSub, Int.reduceMul, Nat.reduceAdd, Nat.zero_add, reduceCtorEq, e2]
    cases e : es[i] with
    | come k =>
      rw [e] at he
      unfold entD
      have hk := (out_lt he).1
      simp -dsimp -implicitDefEqProofs only [bind_some', asB_b, asI_i, lL_l, lT_t, lS_l, lS_t, lSh_l, lSh_d, lTup2_t, lTup3_t, lAndV_t, lAndV_f, lOrV_t, lOrV_f, lAnd_t, lAnd_f, lOr_t, lOr_f, lAndV_b, lOrV_b, lAnd_b, lOr_b, lZip_l, lZip_t, fLen_l, fLen_t, fTuple_l, fTuple_t, fList_l, fList_t, fInt_i, fInt_b, oIx_l, oIx_t, oAdd_i, oSub_i, oLt_i, oLe_i, oGt_i, oGe_i, oIs_n, oIsNot_n, isNone_o, isNone_i, isNone_n, isNone_l, isNone_t, oEq_int, oNe_int, oEq_str, oNe_str, slT_f, slT_t, atD_0, atD_1, atD_2, atD_3, atD_4, atD_nat, fIsi_n, fIsi_i, fIsi_b, fIsi_s, fIsi_l, fIsi_t, fIsi2_n, fIsi2_i, fIsi2_b, fIsi2_s, fIsi2_l, fIsi2_t, oD_some, oD_none, Option.isSome_some, Option.isSome_none, List.length_cons, List.length_nil, List.length_map, List.getElem?_cons_zero, List.getElem?_cons_succ, Option.map_some, Option.map_none, List.getElem?_map, if_true, if_false, ite_true, ite_false, ↓reduceIte, Bool.not_true, Bool.not_false, Bool.true_and, Bool.false_and, Bool.and_true, Bool.and_false, Bool.true_or, Bool.false_or, Bool.or_true, Bool.or_false, Bool.not_not, decide_true, decide_false, Int.cast_ofNat_Int, Int.reduceAdd, Int.reduceSub, Int.reduceMul, Nat.reduceAdd, Nat.zero_add, reduceCtorEq, lNeg1, last_at hT, lbehind_c ok hT.last_lt hk, gApp_l' _ _ hr]
      have q1 : T.step b ms (.come k) = T.come b k := rfl
      have q2 : T.ans b ms (.come k) = oD (b.at T.last k) := rfl
      have q3 : (if (T.okd b ms (.come k) && T.over pg (.come k)) = true then [i] else []) = [] := rfl
      rw [q1, q2, q3, List.append_nil]
      unfold Talk.come
      cases e3 : b.at T.last k with
      | none => exact so_ret ⟨_, rfl⟩
      | some t =>
        simp -dsimp -implicitDefEqProofs only [bind_some', asB_b, asI_i, lL_l, lT_t, lS_l, lS_t, lSh_l, lSh_d, lTup2_t, lTup3_t, lAndV_t, lAndV_f, lOrV_t, lOrV_f, lAnd_t, lAnd_f, lOr_t, lOr_f, lAndV_b, lOrV_b, lAnd_b, lOr_b, lZip_l, lZip_t, fLen_l, fLen_t, fTuple_l, fTuple_t, fList_l, fList_t, fInt_i, fInt_b, oIx_l, oIx_t, oAdd_i, oSub_i, oLt_i, oLe_i, oGt_i, oGe_i, oIs_n, oIsNot_n, isNone_o, isNone_i, isNone_n, isNone_l, isNone_t, oEq_int, oNe_int, oEq_str, oNe_str, slT_f, slT_t, atD_0, atD_1, atD_2, atD_3, atD_4, atD_nat, fIsi_n, fIsi_i, fIsi_b, fIsi_s, fIsi_l, fIsi_t, fIsi2_n, fIsi2_i, fIsi2_b, fIsi2_s, fIsi2_l, fIsi2_t, oD_some, oD_none, Option.isSome_some, Option.isSome_none, List.length_cons, List.length_nil, List.length_map, List.getElem?_cons_zero, List.getElem?_cons_succ, Option.map_some, Option.map_none, List.getElem?_map, if_true, if_false, ite_true, ite_false, ↓reduceIte, Bool.not_true, Bool.not_false, Bool.true_and, Bool.false_and, Bool.and_true, Bool.and_false, Bool.true_or, Bool.false_or, Bool.or_true, Bool.or_false, Bool.not_not, decide_true, decide_false, Int.cast_ofNat_Int, Int.reduceAdd, Int.reduceSub, Int.reduceMul, Nat.reduceAdd, Nat.zero_add, reduceCtorEq, gApp_l' _ _ (show (natL T.hap).length < 100000 by rw [natL_len]; omega), natL_app, gApp_l' _ _ (show (natL T.sts).length < 100000 by rw [natL_len]; omega), oD_some]
        exact so_ret ⟨_, rfl⟩
    | look u l =>
      have ep : gPut (momD T.mom) [.int ((T.hap.length - l : Nat) : Int), .int u] = some (momD (putM u (T.hap.length - l) T.mom)) := gPut_M u (T.hap.length - l) T.mom (by omega)
      have eg : lookM u (putM u (T.hap.length - l) T.mom) = some (T.hap.length - l) := by rw [lookM_put, if_pos rfl]
      have ed : oDix (momD (putM u (T.hap.length - l) T.mom)) (.int u) = some (.int ((T.hap.length - l : Nat) : Int)) := dix_M eg
      unfold entD
      simp -dsimp -implicitDefEqProofs only [bind_some', asB_b, asI_i, lL_l, lT_t, lS_l, lS_t, lSh_l, lSh_d, lTup2_t, lTup3_t, lAndV_t, lAndV_f, lOrV_t, lOrV_f, lAnd_t, lAnd_f, lOr_t, lOr_f, lAndV_b, lOrV_b, lAnd_b, lOr_b, lZip_l, lZip_t, fLen_l, fLen_t, fTuple_l, fTuple_t, fList_l, fList_t, fInt_i, fInt_b, oIx_l, oIx_t, oAdd_i, oSub_i, oLt_i, oLe_i, oGt_i, oGe_i, oIs_n, oIsNot_n, isNone_o, isNone_i, isNone_n, isNone_l, isNone_t, oEq_int, oNe_int, oEq_str, oNe_str, slT_f, slT_t, atD_0, atD_1, atD_2, atD_3, atD_4, atD_nat, fIsi_n, fIsi_i, fIsi_b, fIsi_s, fIsi_l, fIsi_t, fIsi2_n, fIsi2_i, fIsi2_b, fIsi2_s, fIsi2_l, fIsi2_t, oD_some, oD_none, Option.isSome_some, Option.isSome_none, List.length_cons, List.length_nil, List.length_map, List.getElem?_cons_zero, List.getElem?_cons_succ, Option.map_some, Option.map_none, List.getElem?_map, if_true, if_false, ite_true, ite_false, ↓reduceIte, Bool.not_true, Bool.not_false, Bool.true_and, Bool.false_and, Bool.and_true, Bool.and_false, Bool.true_or, Bool.false_or, Bool.or_true, Bool.or_false, Bool.not_not, decide_true, decide_false, Int.cast_ofNat_Int, Int.reduceAdd, Int.reduceSub, Int.reduceMul, Nat.reduceAdd, Nat.zero_add, reduceCtorEq, s_lc, natL_len, max0, ep, ed, sts_at hT (show T.hap.length - l ≤ T.hap.length by omega), gApp_l' _ _ hr, Bool.false_eq_true]
      have q1 : T.step b ms (.look u l) = T.look u l := rfl
      have q2 : T.ans b ms (.look u l) = .int (T.sts.getD (T.mo l) 0 : Nat) := rfl
      have q3 : (if (T.okd b ms (.look u l) && T.over pg (.look u l)) = true then [i] else []) = [] := rfl
      rw [q1, q2, q3, List.append_nil]
      exact so_ret ⟨_, rfl⟩
    | deed u d =>
      rw [e] at he
      have hd := (deed_at he.2).1
      have mk := marks_at (ms := ms) (d := d) (by rw [hm.len]; exact hd)
      have mp := marks_at (ms := pg) (d := d) (by rw [hp.len]; exact hd)
      obtain ⟨o4, e4⟩ : ∃ o, lookM u T.mom = o := ⟨_, rfl⟩
      obtain ⟨o5, e5⟩ : ∃ o, b.at T.last d = o := ⟨_, rfl⟩
      have hL := lbehind_c ok hT.last_lt hd
      rw [e5] at hL
      unfold entD
      cases o4 with
      | none =>
        obtain ⟨q1, q2, q3⟩ := deed_no (pg := pg) i (allow_none (b := b) (ms := ms) (d := d) e4)
        rw [q1, q2, q3, List.append_nil]
        simp -dsimp -implicitDefEqProofs only [bind_some', asB_b, asI_i, lL_l, lT_t, lS_l, lS_t, lSh_l, lSh_d, lTup2_t, lTup3_t, lAndV_t, lAndV_f, lOrV_t, lOrV_f, lAnd_t, lAnd_f, lOr_t, lOr_f, lAndV_b, lOrV_b, lAnd_b, lOr_b, lZip_l, lZip_t, fLen_l, fLen_t, fTuple_l, fTuple_t, fList_l, fList_t, fInt_i, fInt_b, oIx_l, oIx_t, oAdd_i, oSub_i, oLt_i, oLe_i, oGt_i, oGe_i, oIs_n, oIsNot_n, isNone_o, isNone_i, isNone_n, isNone_l, isNone_t, oEq_int, oNe_int, oEq_str, oNe_str, slT_f, slT_t, atD_0, atD_1, atD_2, atD_3, atD_4, atD_nat, fIsi_n, fIsi_i, fIsi_b, fIsi_s, fIsi_l, fIsi_t, fIsi2_n, fIsi2_i, fIsi2_b, fIsi2_s, fIsi2_l, fIsi2_t, oD_some, oD_none, Option.isSome_some, Option.isSome_none, List.length_cons, List.length_nil, List.length_map, List.getElem?_cons_zero, List.getElem?_cons_succ, Option.map_some, Option.map_none, List.getElem?_map, if_true, if_false, ite_true, ite_false, ↓reduceIte, Bool.not_true, Bool.not_false, Bool.true_and, Bool.false_and, Bool.and_true, Bool.and_false, Bool.true_or, Bool.false_or, Bool.or_true, Bool.or_false, Bool.not_not, decide_true, decide_false, Int.cast_ofNat_Int, Int.reduceAdd, Int.reduceSub, Int.reduceMul, Nat.reduceAdd, Nat.zero_add, reduceCtorEq, s_dc, s_dl, din_M, e4, Option.isSome_none, gApp_l' _ _ hr, Bool.false_eq_true]
        exact so_ret ⟨_, rfl⟩
      | some m =>
        have hml := hT.mom e4
        have ha := hT.at hml
        have ex : oDix (momD T.mom) (.int u) = some (.int (m : Nat)) := dix_M e4
        simp -dsimp -implicitDefEqProofs only [bind_some', asB_b, asI_i, lL_l, lT_t, lS_l, lS_t, lSh_l, lSh_d, lTup2_t, lTup3_t, lAndV_t, lAndV_f, lOrV_t, lOrV_f, lAnd_t, lAnd_f, lOr_t, lOr_f, lAndV_b, lOrV_b, lAnd_b, lOr_b, lZip_l, lZip_t, fLen_l, fLen_t, fTuple_l, fTuple_t, fList_l, fList_t, fInt_i, fInt_b, oIx_l, oIx_t, oAdd_i, oSub_i, oLt_i, oLe_i, oGt_i, oGe_i, oIs_n, oIsNot_n, isNone_o, isNone_i, isNone_n, isNone_l, isNone_t, oEq_int, oNe_int, oEq_str, oNe_str, slT_f, slT_t, atD_0, atD_1, atD_2, atD_3, atD_4, atD_nat, fIsi_n, fIsi_i, fIsi_b, fIsi_s, fIsi_l, fIsi_t, fIsi2_n, fIsi2_i, fIsi2_b, fIsi2_s, fIsi2_l, fIsi2_t, oD_some, oD_none, Option.isSome_some, Option.isSome_none, List.length_cons, List.length_nil, List.length_map, List.getElem?_cons_zero, List.getElem?_cons_succ, Option.map_some, Option.map_none, List.getElem?_map, if_true, if_false, ite_true, ite_false, ↓reduceIte, Bool.not_true, Bool.not_false, Bool.true_and, Bool.false_and, Bool.and_true, Bool.and_false, Bool.true_or, Bool.false_or, Bool.or_true, Bool.or_false, Bool.not_not, decide_true, decide_false, Int.cast_ofNat_Int, Int.reduceAdd, Int.reduceSub, Int.reduceMul, Nat.reduceAdd, Nat.zero_add, reduceCtorEq, s_dc, s_dl, din_M, e4, Option.isSome_some, lNeg1, last_at hT, hL, Bool.false_eq_true]
        cases o5 with
        | none =>
          obtain ⟨q1, q2, q3⟩ := deed_no (pg := pg) i (allow_last (b := b) (ms := ms) (d := d) e4 e5)
          rw [q1, q2, q3, List.append_nil]
          simp -dsimp -implicitDefEqProofs only [bind_some', asB_b, asI_i, lL_l, lT_t, lS_l, lS_t, lSh_l, lSh_d, lTup2_t, lTup3_t, lAndV_t, lAndV_f, lOrV_t, lOrV_f, lAnd_t, lAnd_f, lOr_t, lOr_f, lAndV_b, lOrV_b, lAnd_b, lOr_b, lZip_l, lZip_t, fLen_l, fLen_t, fTuple_l, fTuple_t, fList_l, fList_t, fInt_i, fInt_b, oIx_l, oIx_t, oAdd_i, oSub_i, oLt_i, oLe_i, oGt_i, oGe_i, oIs_n, oIsNot_n, isNone_o, isNone_i, isNone_n, isNone_l, isNone_t, oEq_int, oNe_int, oEq_str, oNe_str, slT_f, slT_t, atD_0, atD_1, atD_2, atD_3, atD_4, atD_nat, fIsi_n, fIsi_i, fIsi_b, fIsi_s, fIsi_l, fIsi_t, fIsi2_n, fIsi2_i, fIsi2_b, fIsi2_s, fIsi2_l, fIsi2_t, oD_some, oD_none, Option.isSome_some, Option.isSome_none, List.length_cons, List.length_nil, List.length_map, List.getElem?_cons_zero, List.getElem?_cons_succ, Option.map_some, Option.map_none, List.getElem?_map, if_true, if_false, ite_true, ite_false, ↓reduceIte, Bool.not_true, Bool.not_false, Bool.true_and, Bool.false_and, Bool.and_true, Bool.and_false, Bool.true_or, Bool.false_or, Bool.or_true, Bool.or_false, Bool.not_not, decide_true, decide_false, Int.cast_ofNat_Int, Int.reduceAdd, Int.reduceSub, Int.reduceMul, Nat.reduceAdd, Nat.zero_add, reduceCtorEq, Option.isSome_none, gApp_l' _ _ hr, Bool.false_eq_true]
          exact so_ret ⟨_, rfl⟩
        | some t2 =>
          obtain ⟨o6, e6⟩ : ∃ o, b.at (T.sts.getD m 0) d = o := ⟨_, rfl⟩
          have hS := lbehind_c ok ha.1 hd
          rw [e6] at hS
          simp -dsimp -implicitDefEqProofs only [bind_some', asB_b, asI_i, lL_l, lT_t, lS_l, lS_t, lSh_l, lSh_d, lTup2_t, lTup3_t, lAndV_t, lAndV_f, lOrV_t, lOrV_f, lAnd_t, lAnd_f, lOr_t, lOr_f, lAndV_b, lOrV_b, lAnd_b, lOr_b, lZip_l, lZip_t, fLen_l, fLen_t, fTuple_l, fTuple_t, fList_l, fList_t, fInt_i, fInt_b, oIx_l, oIx_t, oAdd_i, oSub_i, oLt_i, oLe_i, oGt_i, oGe_i, oIs_n, oIsNot_n, isNone_o, isNone_i, isNone_n, isNone_l, isNone_t, oEq_int, oNe_int, oEq_str, oNe_str, slT_f, slT_t, atD_0, atD_1, atD_2, atD_3, atD_4, atD_nat, fIsi_n, fIsi_i, fIsi_b, fIsi_s, fIsi_l, fIsi_t, fIsi2_n, fIsi2_i, fIsi2_b, fIsi2_s, fIsi2_l, fIsi2_t, oD_some, oD_none, Option.isSome_some, Option.isSome_none, List.length_cons, List.length_nil, List.length_map, List.getElem?_cons_zero, List.getElem?_cons_succ, Option.map_some, Option.map_none, List.getElem?_map, if_true, if_false, ite_true, ite_false, ↓reduceIte, Bool.not_true, Bool.not_false, Bool.true_and, Bool.false_and, Bool.and_true, Bool.and_false, Bool.true_or, Bool.false_or, Bool.or_true, Bool.or_false, Bool.not_not, decide_true, decide_false, Int.cast_ofNat_Int, Int.reduceAdd, Int.reduceSub, Int.reduceMul, Nat.reduceAdd, Nat.zero_add, reduceCtorEq, Option.isSome_some, ex, slL_f, cut_nat T.hap hml, sts_at hT hml, hS]
          cases o6 with
          | none =>
            obtain ⟨q1, q2, q3⟩ := deed_no (pg := pg) i (allow_seen (b := b) (ms := ms) (d := d) e4 e6)
            rw [q1, q2, q3, List.append_nil]
            simp -dsimp -implicitDefEqProofs only [bind_some', asB_b, asI_i, lL_l, lT_t, lS_l, lS_t, lSh_l, lSh_d, lTup2_t, lTup3_t, lAndV_t, lAndV_f, lOrV_t, lOrV_f, lAnd_t, lAnd_f, lOr_t, lOr_f, lAndV_b, lOrV_b, lAnd_b, lOr_b, lZip_l, lZip_t, fLen_l, fLen_t, fTuple_l, fTuple_t, fList_l, fList_t, fInt_i, fInt_b, oIx_l, oIx_t, oAdd_i, oSub_i, oLt_i, oLe_i, oGt_i, oGe_i, oIs_n, oIsNot_n, isNone_o, isNone_i, isNone_n, isNone_l, isNone_t, oEq_int, oNe_int, oEq_str, oNe_str, slT_f, slT_t, atD_0, atD_1, atD_2, atD_3, atD_4, atD_nat, fIsi_n, fIsi_i, fIsi_b, fIsi_s, fIsi_l, fIsi_t, fIsi2_n, fIsi2_i, fIsi2_b, fIsi2_s, fIsi2_l, fIsi2_t, oD_some, oD_none, Option.isSome_some, Option.isSome_none, List.length_cons, List.length_nil, List.length_map, List.getElem?_cons_zero, List.getElem?_cons_succ, Option.map_some, Option.map_none, List.getElem?_map, if_true, if_false, ite_true, ite_false, ↓reduceIte, Bool.not_true, Bool.not_false, Bool.true_and, Bool.false_and, Bool.and_true, Bool.and_false, Bool.true_or, Bool.false_or, Bool.or_true, Bool.or_false, Bool.not_not, decide_true, decide_false, Int.cast_ofNat_Int, Int.reduceAdd, Int.reduceSub, Int.reduceMul, Nat.reduceAdd, Nat.zero_add, reduceCtorEq, Option.isSome_none, gApp_l' _ _ hr, Bool.false_eq_true]
            exact so_ret ⟨_, rfl⟩
          | some t1 =>
            have dl : (T.hap.drop m).length ≤ 1000 := by rw [List.length_drop]; omega
            have hh : ∀ q : List (List Nat), (!((T.hap.drop m).filter (q.getD d []).contains).isEmpty) = hits q d (T.hap.drop m) := fun q => hits_has _ _
            have hal : T.allows b ms u d = !hits ms d (T.hap.drop m) := by
              unfold Talk.allows
              rw [e4]
              dsimp only
              rw [e5, e6]
              rfl
            have ov : T.over pg (.deed u d) = hits pg d (T.hap.drop m) := by
              unfold Talk.over
              dsimp only
              rw [e4]
            simp -dsimp -implicitDefEqProofs only [bind_some', asB_b, asI_i, lL_l, lT_t, lS_l, lS_t, lSh_l, lSh_d, lTup2_t, lTup3_t, lAndV_t, lAndV_f, lOrV_t, lOrV_f, lAnd_t, lAnd_f, lOr_t, lOr_f, lAndV_b, lOrV_b, lAnd_b, lOr_b, lZip_l, lZip_t, fLen_l, fLen_t, fTuple_l, fTuple_t, fList_l, fList_t, fInt_i, fInt_b, oIx_l, oIx_t, oAdd_i, oSub_i, oLt_i, oLe_i, oGt_i, oGe_i, oIs_n, oIsNot_n, isNone_o, isNone_i, isNone_n, isNone_l, isNone_t, oEq_int, oNe_int, oEq_str, oNe_str, slT_f, slT_t, atD_0, atD_1, atD_2, atD_3, atD_4, atD_nat, fIsi_n, fIsi_i, fIsi_b, fIsi_s, fIsi_l, fIsi_t, fIsi2_n, fIsi2_i, fIsi2_b, fIsi2_s, fIsi2_l, fIsi2_t, oD_some, oD_none, Option.isSome_some, Option.isSome_none, List.length_cons, List.length_nil, List.length_map, List.getElem?_cons_zero, List.getElem?_cons_succ, Option.map_some, Option.map_none, List.getElem?_map, if_true, if_false, ite_true, ite_false, ↓reduceIte, Bool.not_true, Bool.not_false, Bool.true_and, Bool.false_and, Bool.and_true, Bool.and_false, Bool.true_or, Bool.false_or, Bool.or_true, Bool.or_false, Bool.not_not, decide_true, decide_false, Int.cast_ofNat_Int, Int.reduceAdd, Int.reduceSub, Int.reduceMul, Nat.reduceAdd, Nat.zero_add, reduceCtorEq, Option.isSome_some, mk, has_c dl, hh, gApp_l' _ _ hr]
            have eT : T.done b u d = ⟨T.sts ++ [t2], T.hap ++ [d], putM u (T.hap ++ [d]).length T.mom⟩ := by
              unfold Talk.done Talk.come
              rw [e5]
            have ep : gPut (momD T.mom) [.int ((T.hap ++ [d]).length : Nat), .int u] = some (momD (putM u (T.hap ++ [d]).length T.mom)) := gPut_M u _ T.mom (by omega)
            obtain ⟨h7, e7⟩ : ∃ o, hits ms d (T.hap.drop m) = o := ⟨_, rfl⟩
            rw [e7] at hal
            cases h7 with
            | true =>
              obtain ⟨q1, q2, q3⟩ := deed_no (pg := pg) i hal
              rw [q1, q2, q3, List.append_nil]
              simp -dsimp -implicitDefEqProofs only [bind_some', asB_b, asI_i, lL_l, lT_t, lS_l, lS_t, lSh_l, lSh_d, lTup2_t, lTup3_t, lAndV_t, lAndV_f, lOrV_t, lOrV_f, lAnd_t, lAnd_f, lOr_t, lOr_f, lAndV_b, lOrV_b, lAnd_b, lOr_b, lZip_l, lZip_t, fLen_l, fLen_t, fTuple_l, fTuple_t, fList_l, fList_t, fInt_i, fInt_b, oIx_l, oIx_t, oAdd_i, oSub_i, oLt_i, oLe_i, oGt_i, oGe_i, oIs_n, oIsNot_n, isNone_o, isNone_i, isNone_n, isNone_l, isNone_t, oEq_int, oNe_int, oEq_str, oNe_str, slT_f, slT_t, atD_0, atD_1, atD_2, atD_3, atD_4, atD_nat, fIsi_n, fIsi_i, fIsi_b, fIsi_s, fIsi_l, fIsi_t, fIsi2_n, fIsi2_i, fIsi2_b, fIsi2_s, fIsi2_l, fIsi2_t, oD_some, oD_none, Option.isSome_some, Option.isSome_none, List.length_cons, List.length_nil, List.length_map, List.getElem?_cons_zero, List.getElem?_cons_succ, Option.map_some, Option.map_none, List.getElem?_map, if_true, if_false, ite_true, ite_false, ↓reduceIte, Bool.not_true, Bool.not_false, Bool.true_and, Bool.false_and, Bool.and_true, Bool.and_false, Bool.true_or, Bool.false_or, Bool.or_true, Bool.or_false, Bool.not_not, decide_true, decide_false, Int.cast_ofNat_Int, Int.reduceAdd, Int.reduceSub, Int.reduceMul, Nat.reduceAdd, Nat.zero_add, reduceCtorEq, e7, Bool.not_true, Bool.false_eq_true]
              exact so_ret ⟨_, rfl⟩
            | false =>
              obtain ⟨q1, q2, q3⟩ := deed_yes (pg := pg) i hal
              rw [q1, q2, q3, eT, ov]
              have g1 := gApp_l' (natL T.sts) (.int (t2 : Nat)) (show (natL T.sts).length < 100000 by rw [natL_len]; omega)
              have g2 := gApp_l' (natL T.hap) (.int (d : Nat)) (show (natL T.hap).length < 100000 by rw [natL_len]; omega)
              have g3 := gApp_l' (natL fl) (.int (i : Nat)) (show (natL fl).length < 100000 by rw [natL_len]; omega)
              rw [e7]
              simp -dsimp -implicitDefEqProofs only [bind_some', asB_b, asI_i, lL_l, lT_t, lS_l, lS_t, lSh_l, lSh_d, lTup2_t, lTup3_t, lAndV_t, lAndV_f, lOrV_t, lOrV_f, lAnd_t, lAnd_f, lOr_t, lOr_f, lAndV_b, lOrV_b, lAnd_b, lOr_b, lZip_l, lZip_t, fLen_l, fLen_t, fTuple_l, fTuple_t, fList_l, fList_t, fInt_i, fInt_b, oIx_l, oIx_t, oAdd_i, oSub_i, oLt_i, oLe_i, oGt_i, oGe_i, oIs_n, oIsNot_n, isNone_o, isNone_i, isNone_n, isNone_l, isNone_t, oEq_int, oNe_int, oEq_str, oNe_str, slT_f, slT_t, atD_0, atD_1, atD_2, atD_3, atD_4, atD_nat, fIsi_n, fIsi_i, fIsi_b, fIsi_s, fIsi_l, fIsi_t, fIsi2_n, fIsi2_i, fIsi2_b, fIsi2_s, fIsi2_l, fIsi2_t, oD_some, oD_none, Option.isSome_some, Option.isSome_none, List.length_cons, List.length_nil, List.length_map, List.getElem?_cons_zero, List.getElem?_cons_succ, Option.map_some, Option.map_none, List.getElem?_map, if_true, if_false, ite_true, ite_false, ↓reduceIte, Bool.not_true, Bool.not_false, Bool.true_and, Bool.false_and, Bool.and_true, Bool.and_false, Bool.true_or, Bool.false_or, Bool.or_true, Bool.or_false, Bool.not_not, decide_true, decide_false, Int.cast_ofNat_Int, Int.reduceAdd, Int.reduceSub, Int.reduceMul, Nat.reduceAdd, Nat.zero_add, reduceCtorEq, Bool.not_false, mp, has_c dl, hh]
              obtain ⟨h8, e8⟩ : ∃ o, hits pg d (T.hap.drop m) = o := ⟨_, rfl⟩
              cases h8 with
              | true =>
                simp -dsimp -implicitDefEqProofs only [bind_some', asB_b, asI_i, lL_l, lT_t, lS_l, lS_t, lSh_l, lSh_d, lTup2_t, lTup3_t, lAndV_t, lAndV_f, lOrV_t, lOrV_f, lAnd_t, lAnd_f, lOr_t, lOr_f, lAndV_b, lOrV_b, lAnd_b, lOr_b, lZip_l, lZip_t, fLen_l, fLen_t, fTuple_l, fTuple_t, fList_l, fList_t, fInt_i, fInt_b, oIx_l, oIx_t, oAdd_i, oSub_i, oLt_i, oLe_i, oGt_i, oGe_i, oIs_n, oIsNot_n, isNone_o, isNone_i, isNone_n, isNone_l, isNone_t, oEq_int, oNe_int, oEq_str, oNe_str, slT_f, slT_t, atD_0, atD_1, atD_2, atD_3, atD_4, atD_nat, fIsi_n, fIsi_i, fIsi_b, fIsi_s, fIsi_l, fIsi_t, fIsi2_n, fIsi2_i, fIsi2_b, fIsi2_s, fIsi2_l, fIsi2_t, oD_some, oD_none, Option.isSome_some, Option.isSome_none, List.length_cons, List.length_nil, List.length_map, List.getElem?_cons_zero, List.getElem?_cons_succ, Option.map_some, Option.map_none, List.getElem?_map, if_true, if_false, ite_true, ite_false, ↓reduceIte, Bool.not_true, Bool.not_false, Bool.true_and, Bool.false_and, Bool.and_true, Bool.and_false, Bool.true_or, Bool.false_or, Bool.or_true, Bool.or_false, Bool.not_not, decide_true, decide_false, Int.cast_ofNat_Int, Int.reduceAdd, Int.reduceSub, Int.reduceMul, Nat.reduceAdd, Nat.zero_add, reduceCtorEq, e8, g3, lNeg1, last_at hT, hL, oD_some, g1, g2, natL_app, natL_len, ep]
                exact so_ret ⟨_, rfl⟩
              | false =>
                simp -dsimp -implicitDefEqProofs only [bind_some', asB_b, asI_i, lL_l, lT_t, lS_l, lS_t, lSh_l, lSh_d, lTup2_t, lTup3_t, lAndV_t, lAndV_f, lOrV_t, lOrV_f, lAnd_t, lAnd_f, lOr_t, lOr_f, lAndV_b, lOrV_b, lAnd_b, lOr_b, lZip_l, lZip_t, fLen_l, fLen_t, fTuple_l, fTuple_t, fList_l, fList_t, fInt_i, fInt_b, oIx_l, oIx_t, oAdd_i, oSub_i, oLt_i, oLe_i, oGt_i, oGe_i, oIs_n, oIsNot_n, isNone_o, isNone_i, isNone_n, isNone_l, isNone_t, oEq_int, oNe_int, oEq_str, oNe_str, slT_f, slT_t, atD_0, atD_1, atD_2, atD_3, atD_4, atD_nat, fIsi_n, fIsi_i, fIsi_b, fIsi_s, fIsi_l, fIsi_t, fIsi2_n, fIsi2_i, fIsi2_b, fIsi2_s, fIsi2_l, fIsi2_t, oD_some, oD_none, Option.isSome_some, Option.isSome_none, List.length_cons, List.length_nil, List.length_map, List.getElem?_cons_zero, List.getElem?_cons_succ, Option.map_some, Option.map_none, List.getElem?_map, if_true, if_false, ite_true, ite_false, ↓reduceIte, Bool.not_true, Bool.not_false, Bool.true_and, Bool.false_and, Bool.and_true, Bool.and_false, Bool.true_or, Bool.false_or, Bool.or_true, Bool.or_false, Bool.not_not, decide_true, decide_false, Int.cast_ofNat_Int, Int.reduceAdd, Int.reduceSub, Int.reduceMul, Nat.reduceAdd, Nat.zero_add, reduceCtorEq, e8, Bool.false_eq_true, lNeg1, last_at hT, hL, oD_some, g1, g2, natL_app, natL_len, ep]
                rw [List.append_nil]
                exact so_ret ⟨_, rfl⟩
  · rintro _ ⟨o, rfl⟩
    have e1 : es.take (((List.range es.length).map fun k => (PyData.int (k : Nat))).length) = es := by rw [rng_len, List.take_length]
    rw [e1]
    unfold stD
    simp -dsimp -implicitDefEqProofs only [bind_some', asB_b, asI_i, lL_l, lT_t, lS_l, lS_t, lSh_l, lSh_d, lTup2_t, lTup3_t, lAndV_t, lAndV_f, lOrV_t, lOrV_f, lAnd_t, lAnd_f, lOr_t, lOr_f, lAndV_b, lOrV_b, lAnd_b, lOr_b, lZip_l, lZip_t, fLen_l, fLen_t, fTuple_l, fTuple_t, fList_l, fList_t, fInt_i, fInt_b, oIx_l, oIx_t, oAdd_i, oSub_i, oLt_i, oLe_i, oGt_i, oGe_i, oIs_n, oIsNot_n, isNone_o, isNone_i, isNone_n, isNone_l, isNone_t, oEq_int, oNe_int, oEq_str, oNe_str, slT_f, slT_t, atD_0, atD_1, atD_2, atD_3, atD_4, atD_nat, fIsi_n, fIsi_i, fIsi_b, fIsi_s, fIsi_l, fIsi_t, fIsi2_n, fIsi2_i, fIsi2_b, fIsi2_s, fIsi2_l, fIsi2_t, oD_some, oD_none, Option.isSome_some, Option.isSome_none, List.length_cons, List.length_nil, List.length_map, List.getElem?_cons_zero, List.getElem?_cons_succ, Option.map_some, Option.map_none, List.getElem?_map, if_true, if_false, ite_true, ite_false, ↓reduceIte, Bool.not_true, Bool.not_false, Bool.true_and, Bool.false_and, Bool.and_true, Bool.and_false, Bool.true_or, Bool.false_or, Bool.or_true, Bool.or_false, Bool.not_not, decide_true, decide_false, Int.cast_ofNat_Int, Int.reduceAdd, Int.reduceSub, Int.reduceMul, Nat.reduceAdd, Nat.zero_add, reduceCtorEq]
    exact so_ret rfl
end Od

namespace Od
open PySem PySem.Spec PyProof.Rows L2
theorem deed_mem {b : Bk} {k : Nat} (h : k ∈ b.deeds) : k < b.ks.length ∧ b.deed k = true := by
  unfold Bk.deeds at h
  obtain ⟨h1, h2⟩ := List.mem_filter.mp h
  exact ⟨List.mem_range.mp h1, h2⟩
theorem oRepA_n (n : Nat) (h : n ≤ 10) : oRepA (.tuple [.tuple []]) (.int n) = some (marksD (List.replicate n [])) := by
  match n, h with
  | 0, _ => rfl
  | 1, _ => rfl
  | 2, _ => rfl
  | 3, _ => rfl
  | 4, _ => rfl
  | 5, _ => rfl
  | 6, _ => rfl
  | 7, _ => rfl
  | 8, _ => rfl
  | 9, _ => rfl
  | 10, _ => rfl
theorem none_ok (b : Bk) : MarksOk b (List.replicate b.ks.length []) := by
  refine ⟨List.length_replicate, fun r hr => ?_, fun r hr => ?_, fun p hp h => ?_, fun r hr => ?_⟩
  · have := List.eq_of_mem_replicate hr; subst this; exact nofun
  · have := List.eq_of_mem_replicate hr; subst this; exact nofun
  · exact List.eq_of_mem_replicate (List.of_mem_zip hp).2
  · have := List.eq_of_mem_replicate hr; subst this; exact Nat.zero_le _
end Od

namespace Od
open PySem PySem.Spec PyProof.Rows L2
theorem turns (n : Nat) : ∃ (a m : Nat), m < 64 ∧ fMin2 (.int n) (.int 8) = some (.int a) ∧ fMax2 (.int 2) (.int a) = some (.int m) := by
  have e1 : fMin2 (.int n) (.int 8) = some (.int ((min n 8 : Nat) : Int)) := by
    show some (PyData.int (if (8 : Int) < n then 8 else n)) = _
    congr 2
    omega
  have e2 : ∀ a : Nat, fMax2 (.int 2) (.int a) = some (.int ((max 2 a : Nat) : Int)) := by
    intro a
    show some (PyData.int (if (a : Int) > 2 then a else 2)) = _
    congr 2
    omega
  exact ⟨min n 8, max 2 (min n 8), by omega, e1, e2 _⟩
end Od

namespace Od
open PySem PySem.Spec PyProof.Rows L2
theorem FitL.len {w n : Nat} : ∀ {ds : List D}, FitL w n ds → ds.length ≤ w
  | [], _ => Nat.zero_le _
  | d :: ds, h => by
    have h1 := h.w
    unfold PyData.weightAll at h1
    have h2 : FitL (w - d.weight - 1) n ds := by
      refine ⟨?_, by omega, ?_⟩
      · have := h.g
        unfold goodL good.goodL at this
        rw [Bool.and_eq_true] at this
        exact this.2
      · have := h.n
        unfold PyData.depthAll at this
        omega
    have := h2.len
    rw [List.length_cons]
    omega
theorem FitL.head {w n : Nat} {d : D} {ds : List D} (h : FitL w n (d :: ds)) : Fit w n d ∧ FitL w n ds := by
  have h1 := h.g
  have h2 := h.w
  have h3 := h.n
  unfold goodL good.goodL at h1
  unfold PyData.weightAll at h2
  unfold PyData.depthAll at h3
  rw [Bool.and_eq_true] at h1
  exact ⟨⟨h1.1, by omega, by omega⟩, ⟨h1.2, by omega, by omega⟩⟩
theorem FitL.mem {w n : Nat} : ∀ {ds : List D}, FitL w n ds → ∀ d ∈ ds, Fit w n d
  | d :: ds, h, x, m => by
    rcases List.mem_cons.mp m with rfl | m
    · exact h.head.1
    · exact h.head.2.mem x m
theorem fit_row {b : Bk} (ok : b.Ok) {r : List Nat} (h : RowOk b r) : Fit 11000 1 (.list (natL r)) := by
  have k1 := ok.k1
  exact (fit_list (fit_nats (fun k hk => by have := h.lt k hk; omega) h.len)).up (by omega) (by omega)
theorem fit_marks {b : Bk} (ok : b.Ok) {ms : List (List Nat)} (h : MarksOk b ms) (h10 : ∀ r ∈ ms, r.length ≤ 10) : Fit 1200 2 (marksD ms) := by
  have k1 := ok.k1
  have z := fit_all (w := 110) (n := 1) (ds := ms.map markD) (fun d hd => by
    obtain ⟨r, hr, rfl⟩ := List.mem_map.mp hd
    exact (fit_tuple (fit_nats (fun k hk => by have := h.lt r hr k hk; omega) (h10 r hr))).up (by omega) (by omega)) (m := 10) (by rw [List.length_map, h.len]; omega)
  exact (fit_tuple z).up (by omega) (by omega)
/-- ascending numbers below n are at most n -/
theorem asc_pair : ∀ {r : List Nat}, Asc r → r.Pairwise (· < ·)
  | [], _ => List.Pairwise.nil
  | [x], _ => List.pairwise_singleton _ _
  | x :: y :: r, h => by
    have h1 : x < y := h (x, y) List.mem_cons_self
    have h2 : Asc (y :: r) := fun p hp => h p (List.mem_cons_of_mem _ hp)
    have z := asc_pair h2
    refine List.pairwise_cons.mpr ⟨fun a ha => ?_, z⟩
    rcases List.mem_cons.mp ha with e | e
    · subst e; exact h1
    · exact Nat.lt_trans h1 ((List.pairwise_cons.mp z).1 a e)
theorem MarksOk.ten {b : Bk} (ok : b.Ok) {ms : List (List Nat)} (h : MarksOk b ms) : ∀ r ∈ ms, r.length ≤ 10 := by
  intro r hr
  have k1 := ok.k1
  have z := nodup_le b.ks.length r ((asc_pair (h.asc r hr)).imp fun h => Nat.ne_of_lt h) fun k hk => h.lt r hr k hk
  omega
end Od

namespace Od
open PySem PySem.Spec PyProof.Rows L2
/-! ### fits of made data -/
theorem fit_app {w w' n n' : Nat} : ∀ {xs ys : List D}, FitL w n xs → FitL w' n' ys → FitL (w + w') (max n n') (xs ++ ys)
  | [], ys, _, h => h.up (by omega) (by omega)
  | x :: xs, ys, h, h' => by
    obtain ⟨h1, h2⟩ := h.head
    have hw := h.w
    unfold PyData.weightAll at hw
    have h3 : FitL (w - x.weight - 1) n xs := ⟨h2.g, by omega, h2.n⟩
    have z := fit_cons (⟨h1.g, Nat.le_refl _, h1.n⟩ : Fit x.weight n x) (fit_app h3 h')
    exact z.up (by omega) (by omega)
theorem fit_sub {w n : Nat} {xs ys : List D} (h : FitL w n ys) (s : xs.Sublist ys) : FitL w n xs := by
  induction s generalizing w with
  | slnil => exact h
  | cons a _ ih => exact ih h.head.2
  | cons_cons a s ih =>
    rename_i xs' ys'
    obtain ⟨h1, h2⟩ := h.head
    have hw := h.w
    unfold PyData.weightAll at hw
    have h3 : FitL (w - a.weight - 1) n ys' := ⟨h2.g, by omega, h2.n⟩
    have z := fit_cons (⟨h1.g, Nat.le_refl _, h1.n⟩ : Fit a.weight n a) (ih h3)
    exact z.up (by omega) (by omega)
theorem fit_cut {w n : Nat} {ds : List D} (h : FitL w n ds) (i j : Option Int) : FitL w n (cutD ds i j) := fit_sub h ((List.take_sublist _ _).trans (List.drop_sublist _ _))
theorem fit_rev {w n : Nat} : ∀ {ds : List D}, FitL w n ds → FitL w n ds.reverse
  | [], h => h
  | d :: ds, h => by
    obtain ⟨h1, h2⟩ := h.head
    have hw := h.w
    unfold PyData.weightAll at hw
    have h3 : FitL (w - d.weight - 1) n ds := ⟨h2.g, by omega, h2.n⟩
    rw [List.reverse_cons]
    exact (fit_app (fit_rev h3) (fit_cons (⟨h1.g, Nat.le_refl _, h1.n⟩ : Fit d.weight n d) fit_nil)).up (by omega) (by omega)
theorem fit_rep {w n : Nat} {ds : List D} (h : FitL w n ds) : ∀ k : Nat, FitL (k * w) n (List.replicate k ds).flatten
  | 0 => ⟨rfl, Nat.zero_le _, Nat.zero_le _⟩
  | k + 1 => by
    rw [List.replicate_succ, List.flatten_cons, Nat.succ_mul]
    exact (fit_app h (fit_rep h k)).up (by omega) (by omega)
theorem fit_t0 : Fit 0 0 (.str "") := ⟨by decide +kernel, by decide +kernel, by decide +kernel⟩
theorem fit_t1 : Fit 4 0 (.str "0") := ⟨by decide +kernel, by decide +kernel, by decide +kernel⟩
theorem fit_t2 : Fit 4 0 (.str "1") := ⟨by decide +kernel, by decide +kernel, by decide +kernel⟩
theorem fit_t3 : Fit 4 0 (.str "Out") := ⟨by decide +kernel, by decide +kernel, by decide +kernel⟩
theorem fit_t4 : Fit 4 0 (.str "in") := ⟨by decide +kernel, by decide +kernel, by decide +kernel⟩
theorem fit_i0 : Fit 1 0 (.int 0) := fit_int (k := 1) (by omega) (by omega)
theorem fit_i1 : Fit 1 0 (.int 1) := fit_int (k := 1) (by omega) (by omega)
theorem fit_i2 : Fit 2 0 (.int 2) := fit_int (k := 2) (by omega) (by omega)
theorem fit_i11 : Fit 4 0 (.int 11) := fit_int (k := 4) (by omega) (by omega)
theorem fit_m1 : Fit 1 0 (.int (-1)) := fit_int (k := 1) (by omega) (by omega)
theorem fit_big : Fit 70 0 (.int (10 ^ 20)) := fit_int (k := 70) (by decide +kernel) (by omega)
/-- lists of at most L things, each of weight W and depth N -/
structure LB (W N L : Nat) (zs : List D) : Prop where
  f : ∀ z ∈ zs, Fit W N z
  l : zs.length ≤ L
theorem lb_nil {W N : Nat} : LB W N 0 [] := ⟨nofun, Nat.le_refl _⟩
theorem lb_cons {W N L : Nat} {z : D} {zs : List D} (h : Fit W N z) (t : LB W N L zs) : LB W N (L + 1) (z :: zs) := by
  refine ⟨fun x m => ?_, by rw [List.length_cons]; have := t.l; omega⟩
  rcases List.mem_cons.mp m with rfl | m
  · exact h
  · exact t.f x m
theorem LB.app {W N L L' : Nat} {xs ys : List D} (h : LB W N L xs) (h' : LB W N L' ys) : LB W N (L + L') (xs ++ ys) := by
  refine ⟨fun x m => ?_, by rw [List.length_append]; have := h.l; have := h'.l; omega⟩
  rcases List.mem_append.mp m with m | m
  · exact h.f x m
  · exact h'.f x m
theorem oCatL_l {xs ys : List D} (h : xs.length + ys.length ≤ 100000) : oCatL (.list xs) (.list ys) = some (.list (xs ++ ys)) := by
  unfold oCatL
  dsimp only
  rw [if_pos h]
theorem oCatT_t {xs ys : List D} (h : xs.length + ys.length ≤ 100000) : oCatT (.tuple xs) (.tuple ys) = some (.tuple (xs ++ ys)) := by
  unfold oCatT
  dsimp only
  rw [if_pos h]
theorem lb_cat {W N L L' : Nat} {xs ys : List D} (h : LB W N L xs) (h' : LB W N L' ys) (hl : L + L' ≤ 100000) : So (oCatL (.list xs) (.list ys)) fun d => ∃ zs, d = .list zs ∧ LB W N (L + L') zs :=
  so_of (oCatL_l (by have := h.l; have := h'.l; omega)) ⟨_, rfl, h.app h'⟩
theorem lb_gapp {W N L : Nat} {xs : List D} {d : D} (h : LB W N L xs) (h' : Fit W N d) (hl : L < 100000) : So (gApp (.list xs) [d]) fun d => ∃ zs, d = .list zs ∧ LB W N (L + 1) zs :=
  so_of (gApp_l' _ _ (by have := h.l; omega)) ⟨_, rfl, h.app (lb_cons h' lb_nil)⟩
theorem oRepA_t {ds : List D} (k : Nat) (hk : k ≤ 1000) (h : ds.length ≤ 1000) : oRepA (.tuple ds) (.int k) = some (.tuple (List.replicate k ds).flatten) := by
  unfold oRepA
  dsimp only
  rw [if_pos (by rw [Bool.and_eq_true, Bool.and_eq_true, decide_eq_true_eq, decide_eq_true_eq, decide_eq_true_eq]; omega), Int.toNat_natCast]
theorem oRepL_l {ds : List D} (k : Nat) (hk : k ≤ 1000) (h : ds.length ≤ 1000) : oRepL (.list ds) (.int k) = some (.list (List.replicate k ds).flatten) := by
  unfold oRepL
  dsimp only
  rw [if_pos (by rw [Bool.and_eq_true, Bool.and_eq_true, decide_eq_true_eq, decide_eq_true_eq, decide_eq_true_eq]; omega), Int.toNat_natCast]
/-- all, or left -/
theorem foldR_all {α ρ : Type} {step : D → Unit → Option (LO Unit ρ)} {enc : α → D} (r0 : ρ) (p : α → Bool) : ∀ xs : List α, (∀ x ∈ xs, step (enc x) () = some (if p x = true then .nx () else .rt r0)) → foldR step (xs.map enc) () = some (if xs.all p = true then .inl () else .inr r0)
  | [], _ => rfl
  | x :: xs, h => by
    rw [List.map_cons, foldR_cons, h x List.mem_cons_self, List.all_cons]
    cases p x with
    | true =>
      show foldR step (xs.map enc) () = _
      rw [foldR_all r0 p xs fun y m => h y (List.mem_cons_of_mem _ m)]
      rfl
    | false => rfl
theorem so_at {ds : List D} {j : Nat} (h : j < ds.length) : So (oIx (.list ds) (.int (j : Nat))) fun d => d ∈ ds := by
  refine so_of (a := ds[j]) ?_ (List.getElem_mem h)
  rw [oIx_l, atD_nat, List.getElem?_eq_getElem h]
theorem so_atT {ds : List D} {j : Nat} (h : j < ds.length) : So (oIx (.tuple ds) (.int (j : Nat))) fun d => d ∈ ds := by
  refine so_of (a := ds[j]) ?_ (List.getElem_mem h)
  rw [oIx_t, atD_nat, List.getElem?_eq_getElem h]
end Od

namespace Od
open PySem PySem.Spec PyProof.Rows L2
/-! the law's logs -/
def Bk.outs (b : Bk) : List Nat := (List.range b.ks.length).filter b.out
theorem out_eq {b : Bk} {k : Nat} (h : k < b.ks.length) : b.out k = !(b.ks[k]).1 := by
  unfold Bk.out
  rw [List.getElem?_eq_getElem h]
  show (some (b.ks[k]).1 == some false) = _
  cases (b.ks[k]).1 <;> rfl
theorem outs_mem {b : Bk} {k : Nat} (h : k ∈ b.outs) : b.out k = true := (List.mem_filter.mp h).2
theorem deeds_ne {b : Bk} (hd : ∃ k ∈ b.ks, k.1 = true) : b.deeds ≠ [] := by
  obtain ⟨q, hq, h1⟩ := hd
  obtain ⟨i, hi, e⟩ := List.mem_iff_getElem.mp hq
  have : i ∈ b.deeds := List.mem_filter.mpr ⟨List.mem_range.mpr hi, by rw [deed_eq hi, e]; exact h1⟩
  intro z; rw [z] at this; cases this
theorem entry_so {b : Bk} (ok : b.Ok) (hde : ∃ k ∈ b.ks, k.1 = true) (p : Int) {H : Nat} (h1 : 1 ≤ H) (h2 : H ≤ 100) : So (cI fs__law_entry [pD p, bkD b, .int H]) fun q => ∃ (e : Ent) (p' : Int), e.Ok b ∧ q = (entD e, pD p') := by
  have k1 := ok.k1
  refine c__law_entry ?_
  unfold l__law_entry
  refine so_bind _ (take_so p 3 (by omega) (by omega)) ?_
  rintro _ ⟨w, p1, hw, rfl⟩
  refine so_bind _ (take_so p1 H (by omega) (by omega)) ?_
  rintro _ ⟨h, p2, hh, rfl⟩
  have all : lc (fun d6 => (oIx (bkD b) (.int 1)).bd fun a7 => (oIx a7 d6).bd fun a8 => (oIx a8 (.int 0)).bd fun a9 => (oEq a9 (.str "out")).bd fun a10 => (asB a10).bd fun b11 => if b11 = true then some [d6] else some []) ((List.range b.ks.length).map fun k => .int (k : Nat)) = some (natL b.outs) := by
    refine (lc_filt (xs := List.range b.ks.length) b.out nD (by rw [List.length_range]; omega) fun k hk => ?_)
    have hk := List.mem_range.mp hk
    simp -dsimp -implicitDefEqProofs only [bind_some', asB_b, asI_i, lL_l, lT_t, lS_l, lS_t, lSh_l, lSh_d, lTup2_t, lTup3_t, lAndV_t, lAndV_f, lOrV_t, lOrV_f, lAnd_t, lAnd_f, lOr_t, lOr_f, lAndV_b, lOrV_b, lAnd_b, lOr_b, lZip_l, lZip_t, fLen_l, fLen_t, fTuple_l, fTuple_t, fList_l, fList_t, fInt_i, fInt_b, oIx_l, oIx_t, oAdd_i, oSub_i, oLt_i, oLe_i, oGt_i, oGe_i, oIs_n, oIsNot_n, isNone_o, isNone_i, isNone_n, isNone_l, isNone_t, oEq_int, oNe_int, oEq_str, oNe_str, slT_f, slT_t, atD_0, atD_1, atD_2, atD_3, atD_4, atD_nat, fIsi_n, fIsi_i, fIsi_b, fIsi_s, fIsi_l, fIsi_t, fIsi2_n, fIsi2_i, fIsi2_b, fIsi2_s, fIsi2_l, fIsi2_t, oD_some, oD_none, Option.isSome_some, Option.isSome_none, List.length_cons, List.length_nil, List.length_map, List.getElem?_cons_zero, List.getElem?_cons_succ, Option.map_some, Option.map_none, List.getElem?_map, if_true, if_false, ite_true, ite_false, ↓reduceIte, Bool.not_true, Bool.not_false, Bool.true_and, Bool.false_and, Bool.and_true, Bool.and_false, Bool.true_or, Bool.false_or, Bool.or_true, Bool.or_false, Bool.not_not, decide_true, decide_false, Int.cast_ofNat_Int, Int.reduceAdd, Int.reduceSub, Int.reduceMul, Nat.reduceAdd, Nat.zero_add, reduceCtorEq, bk1, ksAt, List.getElem?_eq_getElem hk, Option.map_some, kind0, who_out, out_eq hk]
    cases (b.ks[k]).1 <;> rfl
  simp -dsimp -implicitDefEqProofs only [bind_some', asB_b, asI_i, lL_l, lT_t, lS_l, lS_t, lSh_l, lSh_d, lTup2_t, lTup3_t, lAndV_t, lAndV_f, lOrV_t, lOrV_f, lAnd_t, lAnd_f, lOr_t, lOr_f, lAndV_b, lOrV_b, lAnd_b, lOr_b, lZip_l, lZip_t, fLen_l, fLen_t, fTuple_l, fTuple_t, fList_l, fList_t, fInt_i, fInt_b, oIx_l, oIx_t, oAdd_i, oSub_i, oLt_i, oLe_i, oGt_i, oGe_i, oIs_n, oIsNot_n, isNone_o, isNone_i, isNone_n, isNone_l, isNone_t, oEq_int, oNe_int, oEq_str, oNe_str, slT_f, slT_t, atD_0, atD_1, atD_2, atD_3, atD_4, atD_nat, fIsi_n, fIsi_i, fIsi_b, fIsi_s, fIsi_l, fIsi_t, fIsi2_n, fIsi2_i, fIsi2_b, fIsi2_s, fIsi2_l, fIsi2_t, oD_some, oD_none, Option.isSome_some, Option.isSome_none, List.length_cons, List.length_nil, List.length_map, List.getElem?_cons_zero, List.getElem?_cons_succ, Option.map_some, Option.map_none, List.getElem?_map, if_true, if_false, ite_true, ite_false, ↓reduceIte, Bool.not_true, Bool.not_false, Bool.true_and, Bool.false_and, Bool.and_true, Bool.and_false, Bool.true_or, Bool.false_or, Bool.or_true, Bool.or_false, Bool.not_not, decide_true, decide_false, Int.cast_ofNat_Int, Int.reduceAdd, Int.reduceSub, Int.reduceMul, Nat.reduceAdd, Nat.zero_add, reduceCtorEq, bk1, ksLen]
  rw [lR1_n _ (by omega), bind_some']
  simp -dsimp -implicitDefEqProofs only [bind_some', asB_b, asI_i, lL_l, lT_t, lS_l, lS_t, lSh_l, lSh_d, lTup2_t, lTup3_t, lAndV_t, lAndV_f, lOrV_t, lOrV_f, lAnd_t, lAnd_f, lOr_t, lOr_f, lAndV_b, lOrV_b, lAnd_b, lOr_b, lZip_l, lZip_t, fLen_l, fLen_t, fTuple_l, fTuple_t, fList_l, fList_t, fInt_i, fInt_b, oIx_l, oIx_t, oAdd_i, oSub_i, oLt_i, oLe_i, oGt_i, oGe_i, oIs_n, oIsNot_n, isNone_o, isNone_i, isNone_n, isNone_l, isNone_t, oEq_int, oNe_int, oEq_str, oNe_str, slT_f, slT_t, atD_0, atD_1, atD_2, atD_3, atD_4, atD_nat, fIsi_n, fIsi_i, fIsi_b, fIsi_s, fIsi_l, fIsi_t, fIsi2_n, fIsi2_i, fIsi2_b, fIsi2_s, fIsi2_l, fIsi2_t, oD_some, oD_none, Option.isSome_some, Option.isSome_none, List.length_cons, List.length_nil, List.length_map, List.getElem?_cons_zero, List.getElem?_cons_succ, Option.map_some, Option.map_none, List.getElem?_map, if_true, if_false, ite_true, ite_false, ↓reduceIte, Bool.not_true, Bool.not_false, Bool.true_and, Bool.false_and, Bool.and_true, Bool.and_false, Bool.true_or, Bool.false_or, Bool.or_true, Bool.or_false, Bool.not_not, decide_true, decide_false, Int.cast_ofNat_Int, Int.reduceAdd, Int.reduceSub, Int.reduceMul, Nat.reduceAdd, Nat.zero_add, reduceCtorEq, all, oNe_nil]
  refine so_if (fun hc => ?_) fun hc => ?_
  · have hne : b.outs ≠ [] := emp_f (Bool.and_eq_true_iff.mp hc).2
    have hl : b.outs.length ≤ b.ks.length := by
      have := List.length_filter_le b.out (List.range b.ks.length)
      rw [List.length_range] at this
      exact this
    refine so_bind _ (pick_so p2 _ (natL_ne hne) (by rw [natL_len]; omega)) ?_
    rintro _ ⟨_, p3, hp, rfl⟩
    obtain ⟨k, hk, rfl⟩ := nat_pick hp
    exact so_ret ⟨.come k, p3, outs_mem hk, rfl⟩
  · refine so_if (fun _ => ?_) fun _ => ?_
    · refine so_bind _ (take_so p2 6 (by omega) (by omega)) ?_
      rintro _ ⟨g, p3, hg, rfl⟩
      refine so_bind _ (so_at (ds := [.int 0, .int 0, .int 0, .int 1, .int 2, .int 9]) (j := g) hg) ?_
      intro d hd
      have : ∃ l : Nat, l ≤ 1000 ∧ d = .int (l : Nat) := by
        simp only [List.mem_cons, List.not_mem_nil, or_false] at hd
        rcases hd with rfl | rfl | rfl | rfl | rfl | rfl
        · exact ⟨0, by omega, rfl⟩
        · exact ⟨0, by omega, rfl⟩
        · exact ⟨0, by omega, rfl⟩
        · exact ⟨1, by omega, rfl⟩
        · exact ⟨2, by omega, rfl⟩
        · exact ⟨9, by omega, rfl⟩
      obtain ⟨l, hl, rfl⟩ := this
      exact so_ret ⟨.look h l, p3, ⟨by omega, hl⟩, rfl⟩
    · have hl : b.deeds.length ≤ b.ks.length := by
        have := List.length_filter_le b.deed (List.range b.ks.length)
        rw [List.length_range] at this
        exact this
      simp -dsimp -implicitDefEqProofs only [bind_some', asB_b, asI_i, lL_l, lT_t, lS_l, lS_t, lSh_l, lSh_d, lTup2_t, lTup3_t, lAndV_t, lAndV_f, lOrV_t, lOrV_f, lAnd_t, lAnd_f, lOr_t, lOr_f, lAndV_b, lOrV_b, lAnd_b, lOr_b, lZip_l, lZip_t, fLen_l, fLen_t, fTuple_l, fTuple_t, fList_l, fList_t, fInt_i, fInt_b, oIx_l, oIx_t, oAdd_i, oSub_i, oLt_i, oLe_i, oGt_i, oGe_i, oIs_n, oIsNot_n, isNone_o, isNone_i, isNone_n, isNone_l, isNone_t, oEq_int, oNe_int, oEq_str, oNe_str, slT_f, slT_t, atD_0, atD_1, atD_2, atD_3, atD_4, atD_nat, fIsi_n, fIsi_i, fIsi_b, fIsi_s, fIsi_l, fIsi_t, fIsi2_n, fIsi2_i, fIsi2_b, fIsi2_s, fIsi2_l, fIsi2_t, oD_some, oD_none, Option.isSome_some, Option.isSome_none, List.length_cons, List.length_nil, List.length_map, List.getElem?_cons_zero, List.getElem?_cons_succ, Option.map_some, Option.map_none, List.getElem?_map, if_true, if_false, ite_true, ite_false, ↓reduceIte, Bool.not_true, Bool.not_false, Bool.true_and, Bool.false_and, Bool.and_true, Bool.and_false, Bool.true_or, Bool.false_or, Bool.or_true, Bool.or_false, Bool.not_not, decide_true, decide_false, Int.cast_ofNat_Int, Int.reduceAdd, Int.reduceSub, Int.reduceMul, Nat.reduceAdd, Nat.zero_add, reduceCtorEq, deeds_c ok]
      refine so_bind _ (pick_so p2 _ (natL_ne (deeds_ne hde)) (by rw [natL_len]; omega)) ?_
      rintro _ ⟨_, p3, hp, rfl⟩
      obtain ⟨k, hk, rfl⟩ := nat_pick hp
      exact so_ret ⟨.deed h k, p3, ⟨by omega, (deed_mem hk).2⟩, rfl⟩
theorem log_so {b : Bk} (ok : b.Ok) (hde : ∃ k ∈ b.ks, k.1 = true) (p : Int) : So (cI fs__law_log [pD p, bkD b]) fun q => ∃ (es : List Ent) (p' : Int), LogOk b es ∧ q = (.list (logD es), pD p') := by
  refine c__law_log ?_
  unfold l__law_log
  refine so_bind _ (take_so p 4 (by omega) (by omega)) ?_
  rintro _ ⟨H, p1, hH, rfl⟩
  simp -dsimp -implicitDefEqProofs only [bind_some', asB_b, asI_i, lL_l, lT_t, lS_l, lS_t, lSh_l, lSh_d, lTup2_t, lTup3_t, lAndV_t, lAndV_f, lOrV_t, lOrV_f, lAnd_t, lAnd_f, lOr_t, lOr_f, lAndV_b, lOrV_b, lAnd_b, lOr_b, lZip_l, lZip_t, fLen_l, fLen_t, fTuple_l, fTuple_t, fList_l, fList_t, fInt_i, fInt_b, oIx_l, oIx_t, oAdd_i, oSub_i, oLt_i, oLe_i, oGt_i, oGe_i, oIs_n, oIsNot_n, isNone_o, isNone_i, isNone_n, isNone_l, isNone_t, oEq_int, oNe_int, oEq_str, oNe_str, slT_f, slT_t, atD_0, atD_1, atD_2, atD_3, atD_4, atD_nat, fIsi_n, fIsi_i, fIsi_b, fIsi_s, fIsi_l, fIsi_t, fIsi2_n, fIsi2_i, fIsi2_b, fIsi2_s, fIsi2_l, fIsi2_t, oD_some, oD_none, Option.isSome_some, Option.isSome_none, List.length_cons, List.length_nil, List.length_map, List.getElem?_cons_zero, List.getElem?_cons_succ, Option.map_some, Option.map_none, List.getElem?_map, if_true, if_false, ite_true, ite_false, ↓reduceIte, Bool.not_true, Bool.not_false, Bool.true_and, Bool.false_and, Bool.and_true, Bool.and_false, Bool.true_or, Bool.false_or, Bool.or_true, Bool.or_false, Bool.not_not, decide_true, decide_false, Int.cast_ofNat_Int, Int.reduceAdd, Int.reduceSub, Int.reduceMul, Nat.reduceAdd, Nat.zero_add, reduceCtorEq, int1]
  refine so_bind _ (take_so p1 31 (by omega) (by omega)) ?_
  rintro _ ⟨n, p2, hn, rfl⟩
  rw [lR1_n n (by omega), bind_some']
  refine so_bind _ (so_lcS (fun i acc m => ∃ (es : List Ent) (p' : Int), acc = logD es ∧ m = pD p' ∧ es.length = i ∧ ∀ e ∈ es, e.Ok b) (by rw [rng_len]; omega) ⟨[], p2, rfl, rfl, rfl, nofun⟩ ?_) ?_
  · rintro i _ _ _ hd ⟨es, p3, rfl, rfl, hl, he⟩
    refine so_bind _ (entry_so ok hde p3 (H := H + 1) (by omega) (by omega)) ?_
    rintro _ ⟨e, p4, hE, rfl⟩
    refine so_ret ⟨es ++ [e], p4, by unfold logD; rw [List.map_append]; rfl, rfl, by rw [List.length_append, hl]; rfl, fun x hx => ?_⟩
    rcases List.mem_append.mp hx with z | z
    · exact he x z
    · rw [List.mem_singleton.mp z]; exact hE
  · rintro ⟨_, _⟩ ⟨es, p3, rfl, rfl, hl, he⟩
    rw [rng_len] at hl
    exact so_ret ⟨es, p3, ⟨he, by omega⟩, rfl⟩
end Od

namespace Od
open PySem PySem.Spec PyProof.Rows L2
/-! logs, as texts; equal data -/
theorem fit_come : Fit 6 0 (.str "come") := ⟨by decide +kernel, by decide +kernel, by decide +kernel⟩
theorem fit_look : Fit 6 0 (.str "look") := ⟨by decide +kernel, by decide +kernel, by decide +kernel⟩
theorem fit_do : Fit 6 0 (.str "do") := ⟨by decide +kernel, by decide +kernel, by decide +kernel⟩
theorem fit_ent {b : Bk} (ok : b.Ok) {e : Ent} (he : e.Ok b) : Fit 60 1 (entD e) := by
  have k1 := ok.k1
  cases e with
  | come k => exact (fit_tuple (fit_cons fit_come (fit_cons (fit_nat (k := k) (by have := (out_lt he).1; omega)) fit_nil))).up (by omega) (by omega)
  | look h l =>
    obtain ⟨h1, h2⟩ := he
    exact (fit_tuple (fit_cons fit_look (fit_cons (fit_nat (k := h) (by omega)) (fit_cons (fit_nat (k := l) (by omega)) fit_nil)))).up (by omega) (by omega)
  | deed h d =>
    obtain ⟨h1, h2⟩ := he
    exact (fit_tuple (fit_cons fit_do (fit_cons (fit_nat (k := h) (by omega)) (fit_cons (fit_nat (k := d) (by have := (deed_at h2).1; omega)) fit_nil)))).up (by omega) (by omega)
theorem fit_log {b : Bk} (ok : b.Ok) {es : List Ent} (h : LogOk b es) : FitL 30500 1 (logD es) :=
  (fit_all (w := 60) (n := 1) (fun d hd => by
    obtain ⟨e, he, rfl⟩ := List.mem_map.mp hd
    exact fit_ent ok (h.ok e he)) (m := 500) (by unfold logD; rw [List.length_map]; exact h.len)).up (by omega) (by omega)
theorem ans_fit {b : Bk} (ok : b.Ok) (ms : List (List Nat)) {n : Nat} {T : Talk} (h : T.Ok b n) {e : Ent} (he : e.Ok b) : Fit 10 0 (T.ans b ms e) := by
  have m1 := ok.m1
  cases e with
  | come k => exact fit_o fun t ht => by have := ok.at_lt ht; omega
  | look u l => exact fit_nat (by have := (h.at (j := T.mo l) (Nat.sub_le _ _)).1; omega)
  | deed u d => exact (fit_bool _).up (by omega) (by omega)
theorem run_fit {b : Bk} (ok : b.Ok) (ms : List (List Nat)) : ∀ (es : List Ent) (T : Talk) (n : Nat), T.Ok b n → (∀ e ∈ es, e.Ok b) → ∀ d ∈ T.run b ms es, Fit 10 0 d
  | [], _, _, _, _ => nofun
  | e :: es, T, n, h, he => fun d hd => by
    rcases List.mem_cons.mp hd with z | z
    · rw [z]; exact ans_fit ok ms h (he e List.mem_cons_self)
    · exact run_fit ok ms es _ _ (step_ok ok h (he e List.mem_cons_self)) (fun x hx => he x (List.mem_cons_of_mem _ hx)) d z
theorem fit_run {b : Bk} (ok : b.Ok) (ms : List (List Nat)) {es : List Ent} (h : LogOk b es) : FitL 5500 0 (Talk.new.run b ms es) :=
  (fit_all (run_fit ok ms es .new 0 (new_ok ok 0) h.ok) (m := 500) (by rw [run_len]; exact h.len)).up (by omega) (by omega)
theorem oEq_same {w n : Nat} {d : D} (h : Fit w n d) (hn : n ≤ 64) (hs : ∀ x y, ¬ (d = .str x ∧ d = .str y)) : oEq d d = some (.bool true) := by
  rw [oEq_fit h h hn hn hs, SeqAt.eqv_refl d (good_lay d h.g).1]
theorem oNe_same {w n : Nat} {d : D} (h : Fit w n d) (hn : n ≤ 64) (hs : ∀ x y, ¬ (d = .str x ∧ d = .str y)) : oNe d d = some (.bool false) := by
  rw [oNe_fit h h hn hn hs, SeqAt.eqv_refl d (good_lay d h.g).1]
  rfl
theorem oNe_strs (x : Str) : oNe (.str x) (.str x) = some (.bool false) := by
  rw [oNe_str, decide_eq_true rfl]; rfl
end Od

namespace Od
open PySem PySem.Spec PyProof.Rows L2
/-! faults_in -/
theorem s_cd : decide (Str.ofString "come" = Str.ofString "do") = false := by decide +kernel
theorem s_ld : decide (Str.ofString "look" = Str.ofString "do") = false := by decide +kernel
section
variable {b : Bk} (ok : b.Ok) {ms pg : List (List Nat)} {n : Nat} {T : Talk}
include ok
theorem over_c (hp : MarksOk b pg) (h : T.Ok b n) {e : Ent} (he : e.Ok b) : cI fs_would_overlook [tkD b ms T, marksD pg, entD e] = some (.bool (T.over pg e), tkD b ms T) := by
  refine so_eq (c_would_overlook (so_of (a := (.bool (T.over pg e), tkD b ms T)) ?_ rfl))
  unfold l_would_overlook
  cases e with
  | come k =>
    unfold entD
    simp -dsimp -implicitDefEqProofs only [bind_some', asB_b, asI_i, lL_l, lT_t, lS_l, lS_t, lSh_l, lSh_d, lTup2_t, lTup3_t, lAndV_t, lAndV_f, lOrV_t, lOrV_f, lAnd_t, lAnd_f, lOr_t, lOr_f, lAndV_b, lOrV_b, lAnd_b, lOr_b, lZip_l, lZip_t, fLen_l, fLen_t, fTuple_l, fTuple_t, fList_l, fList_t, fInt_i, fInt_b, oIx_l, oIx_t, oAdd_i, oSub_i, oLt_i, oLe_i, oGt_i, oGe_i, oIs_n, oIsNot_n, isNone_o, isNone_i, isNone_n, isNone_l, isNone_t, oEq_int, oNe_int, oEq_str, oNe_str, slT_f, slT_t, atD_0, atD_1, atD_2, atD_3, atD_4, atD_nat, fIsi_n, fIsi_i, fIsi_b, fIsi_s, fIsi_l, fIsi_t, fIsi2_n, fIsi2_i, fIsi2_b, fIsi2_s, fIsi2_l, fIsi2_t, oD_some, oD_none, Option.isSome_some, Option.isSome_none, List.length_cons, List.length_nil, List.length_map, List.getElem?_cons_zero, List.getElem?_cons_succ, Option.map_some, Option.map_none, List.getElem?_map, if_true, if_false, ite_true, ite_false, ↓reduceIte, Bool.not_true, Bool.not_false, Bool.true_and, Bool.false_and, Bool.and_true, Bool.and_false, Bool.true_or, Bool.false_or, Bool.or_true, Bool.or_false, Bool.not_not, decide_true, decide_false, Int.cast_ofNat_Int, Int.reduceAdd, Int.reduceSub, Int.reduceMul, Nat.reduceAdd, Nat.zero_add, reduceCtorEq, s_cd, Bool.not_false]
    rfl
  | look u l =>
    unfold entD
    simp -dsimp -implicitDefEqProofs only [bind_some', asB_b, asI_i, lL_l, lT_t, lS_l, lS_t, lSh_l, lSh_d, lTup2_t, lTup3_t, lAndV_t, lAndV_f, lOrV_t, lOrV_f, lAnd_t, lAnd_f, lOr_t, lOr_f, lAndV_b, lOrV_b, lAnd_b, lOr_b, lZip_l, lZip_t, fLen_l, fLen_t, fTuple_l, fTuple_t, fList_l, fList_t, fInt_i, fInt_b, oIx_l, oIx_t, oAdd_i, oSub_i, oLt_i, oLe_i, oGt_i, oGe_i, oIs_n, oIsNot_n, isNone_o, isNone_i, isNone_n, isNone_l, isNone_t, oEq_int, oNe_int, oEq_str, oNe_str, slT_f, slT_t, atD_0, atD_1, atD_2, atD_3, atD_4, atD_nat, fIsi_n, fIsi_i, fIsi_b, fIsi_s, fIsi_l, fIsi_t, fIsi2_n, fIsi2_i, fIsi2_b, fIsi2_s, fIsi2_l, fIsi2_t, oD_some, oD_none, Option.isSome_some, Option.isSome_none, List.length_cons, List.length_nil, List.length_map, List.getElem?_cons_zero, List.getElem?_cons_succ, Option.map_some, Option.map_none, List.getElem?_map, if_true, if_false, ite_true, ite_false, ↓reduceIte, Bool.not_true, Bool.not_false, Bool.true_and, Bool.false_and, Bool.and_true, Bool.and_false, Bool.true_or, Bool.false_or, Bool.or_true, Bool.or_false, Bool.not_not, decide_true, decide_false, Int.cast_ofNat_Int, Int.reduceAdd, Int.reduceSub, Int.reduceMul, Nat.reduceAdd, Nat.zero_add, reduceCtorEq, s_ld, Bool.not_false]
    rfl
  | deed u d =>
    have hd := (deed_at he.2).1
    have mp := marks_at (ms := pg) (d := d) (by rw [hp.len]; exact hd)
    have s0 : (!decide (Str.ofString "do" = Str.ofString "do")) = false := by rw [decide_eq_true rfl]; rfl
    have ov : T.over pg (.deed u d) = (match lookM u T.mom with | none => false | some m => hits pg d (T.hap.drop m)) := rfl
    rw [ov]
    unfold entD
    simp -dsimp -implicitDefEqProofs only [bind_some', asB_b, asI_i, lL_l, lT_t, lS_l, lS_t, lSh_l, lSh_d, lTup2_t, lTup3_t, lAndV_t, lAndV_f, lOrV_t, lOrV_f, lAnd_t, lAnd_f, lOr_t, lOr_f, lAndV_b, lOrV_b, lAnd_b, lOr_b, lZip_l, lZip_t, fLen_l, fLen_t, fTuple_l, fTuple_t, fList_l, fList_t, fInt_i, fInt_b, oIx_l, oIx_t, oAdd_i, oSub_i, oLt_i, oLe_i, oGt_i, oGe_i, oIs_n, oIsNot_n, isNone_o, isNone_i, isNone_n, isNone_l, isNone_t, oEq_int, oNe_int, oEq_str, oNe_str, slT_f, slT_t, atD_0, atD_1, atD_2, atD_3, atD_4, atD_nat, fIsi_n, fIsi_i, fIsi_b, fIsi_s, fIsi_l, fIsi_t, fIsi2_n, fIsi2_i, fIsi2_b, fIsi2_s, fIsi2_l, fIsi2_t, oD_some, oD_none, Option.isSome_some, Option.isSome_none, List.length_cons, List.length_nil, List.length_map, List.getElem?_cons_zero, List.getElem?_cons_succ, Option.map_some, Option.map_none, List.getElem?_map, if_true, if_false, ite_true, ite_false, ↓reduceIte, Bool.not_true, Bool.not_false, Bool.true_and, Bool.false_and, Bool.and_true, Bool.and_false, Bool.true_or, Bool.false_or, Bool.or_true, Bool.or_false, Bool.not_not, decide_true, decide_false, Int.cast_ofNat_Int, Int.reduceAdd, Int.reduceSub, Int.reduceMul, Nat.reduceAdd, Nat.zero_add, reduceCtorEq, s0, Bool.false_eq_true, cK_t, tsince_c ok h]
    unfold Talk.since
    obtain ⟨o4, e4⟩ : ∃ o, lookM u T.mom = o := ⟨_, rfl⟩
    cases o4 with
    | none =>
      simp -dsimp -implicitDefEqProofs only [bind_some', asB_b, asI_i, lL_l, lT_t, lS_l, lS_t, lSh_l, lSh_d, lTup2_t, lTup3_t, lAndV_t, lAndV_f, lOrV_t, lOrV_f, lAnd_t, lAnd_f, lOr_t, lOr_f, lAndV_b, lOrV_b, lAnd_b, lOr_b, lZip_l, lZip_t, fLen_l, fLen_t, fTuple_l, fTuple_t, fList_l, fList_t, fInt_i, fInt_b, oIx_l, oIx_t, oAdd_i, oSub_i, oLt_i, oLe_i, oGt_i, oGe_i, oIs_n, oIsNot_n, isNone_o, isNone_i, isNone_n, isNone_l, isNone_t, oEq_int, oNe_int, oEq_str, oNe_str, slT_f, slT_t, atD_0, atD_1, atD_2, atD_3, atD_4, atD_nat, fIsi_n, fIsi_i, fIsi_b, fIsi_s, fIsi_l, fIsi_t, fIsi2_n, fIsi2_i, fIsi2_b, fIsi2_s, fIsi2_l, fIsi2_t, oD_some, oD_none, Option.isSome_some, Option.isSome_none, List.length_cons, List.length_nil, List.length_map, List.getElem?_cons_zero, List.getElem?_cons_succ, Option.map_some, Option.map_none, List.getElem?_map, if_true, if_false, ite_true, ite_false, ↓reduceIte, Bool.not_true, Bool.not_false, Bool.true_and, Bool.false_and, Bool.and_true, Bool.and_false, Bool.true_or, Bool.false_or, Bool.or_true, Bool.or_false, Bool.not_not, decide_true, decide_false, Int.cast_ofNat_Int, Int.reduceAdd, Int.reduceSub, Int.reduceMul, Nat.reduceAdd, Nat.zero_add, reduceCtorEq, e4, Option.map_none, oR, isNone_n, Bool.not_true]
    | some m =>
      have me : cF fs_meets [markD (pg.getD d []), .list (natL (T.hap.drop m))] = some (.bool (hits pg d (T.hap.drop m))) := meets_c (.inl rfl) (hp.smD d)
      simp -dsimp -implicitDefEqProofs only [bind_some', asB_b, asI_i, lL_l, lT_t, lS_l, lS_t, lSh_l, lSh_d, lTup2_t, lTup3_t, lAndV_t, lAndV_f, lOrV_t, lOrV_f, lAnd_t, lAnd_f, lOr_t, lOr_f, lAndV_b, lOrV_b, lAnd_b, lOr_b, lZip_l, lZip_t, fLen_l, fLen_t, fTuple_l, fTuple_t, fList_l, fList_t, fInt_i, fInt_b, oIx_l, oIx_t, oAdd_i, oSub_i, oLt_i, oLe_i, oGt_i, oGe_i, oIs_n, oIsNot_n, isNone_o, isNone_i, isNone_n, isNone_l, isNone_t, oEq_int, oNe_int, oEq_str, oNe_str, slT_f, slT_t, atD_0, atD_1, atD_2, atD_3, atD_4, atD_nat, fIsi_n, fIsi_i, fIsi_b, fIsi_s, fIsi_l, fIsi_t, fIsi2_n, fIsi2_i, fIsi2_b, fIsi2_s, fIsi2_l, fIsi2_t, oD_some, oD_none, Option.isSome_some, Option.isSome_none, List.length_cons, List.length_nil, List.length_map, List.getElem?_cons_zero, List.getElem?_cons_succ, Option.map_some, Option.map_none, List.getElem?_map, if_true, if_false, ite_true, ite_false, ↓reduceIte, Bool.not_true, Bool.not_false, Bool.true_and, Bool.false_and, Bool.and_true, Bool.and_false, Bool.true_or, Bool.false_or, Bool.or_true, Bool.or_false, Bool.not_not, decide_true, decide_false, Int.cast_ofNat_Int, Int.reduceAdd, Int.reduceSub, Int.reduceMul, Nat.reduceAdd, Nat.zero_add, reduceCtorEq, e4, Option.map_some, oR, isNone_l, Bool.not_false, mp, me]
theorem over_f {e : Ent} (hn : ∀ u d, e ≠ .deed u d) : T.over pg e = false := by
  cases e with
  | come _ => rfl
  | look _ _ => rfl
  | deed u d => exact (hn u d rfl).elim
theorem faults_c (hp : MarksOk b pg) (hm : MarksOk b ms) {log : D} {es : List Ent} (hl : IsLog log es) (h : LogOk b es) : cF fs_faults_in [bkD b, marksD pg, marksD ms, log] = some (.list (natL (Talk.new.flt b ms pg 0 es))) := by
  have h200 := h.len
  refine q_faults_in (so_eq ?_)
  unfold l_faults_in
  have le : lEnum log = some (enumD 0 (logD es)) := by rcases hl with rfl | rfl <;> rfl
  have ll : (logD es).length = es.length := List.length_map _
  simp -dsimp -implicitDefEqProofs only [bind_some', asB_b, asI_i, lL_l, lT_t, lS_l, lS_t, lSh_l, lSh_d, lTup2_t, lTup3_t, lAndV_t, lAndV_f, lOrV_t, lOrV_f, lAnd_t, lAnd_f, lOr_t, lOr_f, lAndV_b, lOrV_b, lAnd_b, lOr_b, lZip_l, lZip_t, fLen_l, fLen_t, fTuple_l, fTuple_t, fList_l, fList_t, fInt_i, fInt_b, oIx_l, oIx_t, oAdd_i, oSub_i, oLt_i, oLe_i, oGt_i, oGe_i, oIs_n, oIsNot_n, isNone_o, isNone_i, isNone_n, isNone_l, isNone_t, oEq_int, oNe_int, oEq_str, oNe_str, slT_f, slT_t, atD_0, atD_1, atD_2, atD_3, atD_4, atD_nat, fIsi_n, fIsi_i, fIsi_b, fIsi_s, fIsi_l, fIsi_t, fIsi2_n, fIsi2_i, fIsi2_b, fIsi2_s, fIsi2_l, fIsi2_t, oD_some, oD_none, Option.isSome_some, Option.isSome_none, List.length_cons, List.length_nil, List.length_map, List.getElem?_cons_zero, List.getElem?_cons_succ, Option.map_some, Option.map_none, List.getElem?_map, if_true, if_false, ite_true, ite_false, ↓reduceIte, Bool.not_true, Bool.not_false, Bool.true_and, Bool.false_and, Bool.and_true, Bool.and_false, Bool.true_or, Bool.false_or, Bool.or_true, Bool.or_false, Bool.not_not, decide_true, decide_false, Int.cast_ofNat_Int, Int.reduceAdd, Int.reduceSub, Int.reduceMul, Nat.reduceAdd, Nat.zero_add, reduceCtorEq, need_book_c ok, need_marks_c ok hp, need_marks_c ok hm, need_log_c hl h, le, tkN_t]
  refine so_bind _ (so_fold (fun i t => t = (tkD b ms (Talk.new.end_ b ms (es.take i)), .list (natL (Talk.new.flt b ms pg 0 (es.take i))))) rfl ?_) ?_
  · rintro i _ _ hd0 rfl
    obtain ⟨d, hd, rfl⟩ := enumD_at hd0
    clear hd0
    unfold logD at hd
    rw [List.getElem?_map] at hd
    obtain ⟨e, hi, rfl⟩ := Option.map_eq_some_iff.mp hd
    rw [Nat.zero_add]
    obtain ⟨hi, ee⟩ := List.getElem?_eq_some_iff.mp hi
    have e1 : es.take (i + 1) = es.take i ++ [e] := by rw [List.take_add_one, List.getElem?_eq_getElem hi, ee]; rfl
    have le : (es.take i).length = i := by rw [List.length_take]; omega
    have he : e.Ok b := by rw [← ee]; exact h.ok _ (List.getElem_mem hi)
    have hT : (Talk.new.end_ b ms (es.take i)).Ok b i := by
      have z := end_ok ok (ms := ms) (es.take i) .new 0 (new_ok ok 0) fun e hx => h.ok e (List.mem_of_mem_take hx)
      rw [le, Nat.zero_add] at z
      exact z
    have hf : (Talk.new.flt b ms pg 0 (es.take i)).length < 100000 := by have := flt_len b ms pg (es.take i) .new 0; omega
    rw [e1, end_app, flt_app, le, Nat.zero_add]
    generalize Talk.new.end_ b ms (es.take i) = T at *
    generalize Talk.new.flt b ms pg 0 (es.take i) = fl at *
    simp -dsimp -implicitDefEqProofs only [bind_some', asB_b, asI_i, lL_l, lT_t, lS_l, lS_t, lSh_l, lSh_d, lTup2_t, lTup3_t, lAndV_t, lAndV_f, lOrV_t, lOrV_f, lAnd_t, lAnd_f, lOr_t, lOr_f, lAndV_b, lOrV_b, lAnd_b, lOr_b, lZip_l, lZip_t, fLen_l, fLen_t, fTuple_l, fTuple_t, fList_l, fList_t, fInt_i, fInt_b, oIx_l, oIx_t, oAdd_i, oSub_i, oLt_i, oLe_i, oGt_i, oGe_i, oIs_n, oIsNot_n, isNone_o, isNone_i, isNone_n, isNone_l, isNone_t, oEq_int, oNe_int, oEq_str, oNe_str, slT_f, slT_t, atD_0, atD_1, atD_2, atD_3, atD_4, atD_nat, fIsi_n, fIsi_i, fIsi_b, fIsi_s, fIsi_l, fIsi_t, fIsi2_n, fIsi2_i, fIsi2_b, fIsi2_s, fIsi2_l, fIsi2_t, oD_some, oD_none, Option.isSome_some, Option.isSome_none, List.length_cons, List.length_nil, List.length_map, List.getElem?_cons_zero, List.getElem?_cons_succ, Option.map_some, Option.map_none, List.getElem?_map, if_true, if_false, ite_true, ite_false, ↓reduceIte, Bool.not_true, Bool.not_false, Bool.true_and, Bool.false_and, Bool.and_true, Bool.and_false, Bool.true_or, Bool.false_or, Bool.or_true, Bool.or_false, Bool.not_not, decide_true, decide_false, Int.cast_ofNat_Int, Int.reduceAdd, Int.reduceSub, Int.reduceMul, Nat.reduceAdd, Nat.zero_add, reduceCtorEq, cK_t, over_c ok hp hT he, ttake_c ok hm hT (by omega) he]
    cases e with
    | come k =>
      have q : T.over pg (.come k) = false := rfl
      simp -dsimp -implicitDefEqProofs only [bind_some', asB_b, asI_i, lL_l, lT_t, lS_l, lS_t, lSh_l, lSh_d, lTup2_t, lTup3_t, lAndV_t, lAndV_f, lOrV_t, lOrV_f, lAnd_t, lAnd_f, lOr_t, lOr_f, lAndV_b, lOrV_b, lAnd_b, lOr_b, lZip_l, lZip_t, fLen_l, fLen_t, fTuple_l, fTuple_t, fList_l, fList_t, fInt_i, fInt_b, oIx_l, oIx_t, oAdd_i, oSub_i, oLt_i, oLe_i, oGt_i, oGe_i, oIs_n, oIsNot_n, isNone_o, isNone_i, isNone_n, isNone_l, isNone_t, oEq_int, oNe_int, oEq_str, oNe_str, slT_f, slT_t, atD_0, atD_1, atD_2, atD_3, atD_4, atD_nat, fIsi_n, fIsi_i, fIsi_b, fIsi_s, fIsi_l, fIsi_t, fIsi2_n, fIsi2_i, fIsi2_b, fIsi2_s, fIsi2_l, fIsi2_t, oD_some, oD_none, Option.isSome_some, Option.isSome_none, List.length_cons, List.length_nil, List.length_map, List.getElem?_cons_zero, List.getElem?_cons_succ, Option.map_some, Option.map_none, List.getElem?_map, if_true, if_false, ite_true, ite_false, ↓reduceIte, Bool.not_true, Bool.not_false, Bool.true_and, Bool.false_and, Bool.and_true, Bool.and_false, Bool.true_or, Bool.false_or, Bool.or_true, Bool.or_false, Bool.not_not, decide_true, decide_false, Int.cast_ofNat_Int, Int.reduceAdd, Int.reduceSub, Int.reduceMul, Nat.reduceAdd, Nat.zero_add, reduceCtorEq, q, Bool.false_eq_true, Bool.and_false]
      rw [List.append_nil]
      exact so_ret rfl
    | look u l =>
      have q : T.over pg (.look u l) = false := rfl
      simp -dsimp -implicitDefEqProofs only [bind_some', asB_b, asI_i, lL_l, lT_t, lS_l, lS_t, lSh_l, lSh_d, lTup2_t, lTup3_t, lAndV_t, lAndV_f, lOrV_t, lOrV_f, lAnd_t, lAnd_f, lOr_t, lOr_f, lAndV_b, lOrV_b, lAnd_b, lOr_b, lZip_l, lZip_t, fLen_l, fLen_t, fTuple_l, fTuple_t, fList_l, fList_t, fInt_i, fInt_b, oIx_l, oIx_t, oAdd_i, oSub_i, oLt_i, oLe_i, oGt_i, oGe_i, oIs_n, oIsNot_n, isNone_o, isNone_i, isNone_n, isNone_l, isNone_t, oEq_int, oNe_int, oEq_str, oNe_str, slT_f, slT_t, atD_0, atD_1, atD_2, atD_3, atD_4, atD_nat, fIsi_n, fIsi_i, fIsi_b, fIsi_s, fIsi_l, fIsi_t, fIsi2_n, fIsi2_i, fIsi2_b, fIsi2_s, fIsi2_l, fIsi2_t, oD_some, oD_none, Option.isSome_some, Option.isSome_none, List.length_cons, List.length_nil, List.length_map, List.getElem?_cons_zero, List.getElem?_cons_succ, Option.map_some, Option.map_none, List.getElem?_map, if_true, if_false, ite_true, ite_false, ↓reduceIte, Bool.not_true, Bool.not_false, Bool.true_and, Bool.false_and, Bool.and_true, Bool.and_false, Bool.true_or, Bool.false_or, Bool.or_true, Bool.or_false, Bool.not_not, decide_true, decide_false, Int.cast_ofNat_Int, Int.reduceAdd, Int.reduceSub, Int.reduceMul, Nat.reduceAdd, Nat.zero_add, reduceCtorEq, q, Bool.false_eq_true, Bool.and_false]
      rw [List.append_nil]
      exact so_ret rfl
    | deed u d =>
      have q1 : T.ans b ms (.deed u d) = .bool (T.allows b ms u d) := rfl
      have q2 : T.okd b ms (.deed u d) = T.allows b ms u d := rfl
      have q3 : ∀ c : Bool, oIs (.bool c) (.bool true) = some (.bool c) := fun c => by cases c <;> rfl
      have g3 := gApp_l' (natL fl) (.int (i : Nat)) (show (natL fl).length < 100000 by rw [natL_len]; omega)
      rw [q1, q2]
      simp -dsimp -implicitDefEqProofs only [bind_some', asB_b, asI_i, lL_l, lT_t, lS_l, lS_t, lSh_l, lSh_d, lTup2_t, lTup3_t, lAndV_t, lAndV_f, lOrV_t, lOrV_f, lAnd_t, lAnd_f, lOr_t, lOr_f, lAndV_b, lOrV_b, lAnd_b, lOr_b, lZip_l, lZip_t, fLen_l, fLen_t, fTuple_l, fTuple_t, fList_l, fList_t, fInt_i, fInt_b, oIx_l, oIx_t, oAdd_i, oSub_i, oLt_i, oLe_i, oGt_i, oGe_i, oIs_n, oIsNot_n, isNone_o, isNone_i, isNone_n, isNone_l, isNone_t, oEq_int, oNe_int, oEq_str, oNe_str, slT_f, slT_t, atD_0, atD_1, atD_2, atD_3, atD_4, atD_nat, fIsi_n, fIsi_i, fIsi_b, fIsi_s, fIsi_l, fIsi_t, fIsi2_n, fIsi2_i, fIsi2_b, fIsi2_s, fIsi2_l, fIsi2_t, oD_some, oD_none, Option.isSome_some, Option.isSome_none, List.length_cons, List.length_nil, List.length_map, List.getElem?_cons_zero, List.getElem?_cons_succ, Option.map_some, Option.map_none, List.getElem?_map, if_true, if_false, ite_true, ite_false, ↓reduceIte, Bool.not_true, Bool.not_false, Bool.true_and, Bool.false_and, Bool.and_true, Bool.and_false, Bool.true_or, Bool.false_or, Bool.or_true, Bool.or_false, Bool.not_not, decide_true, decide_false, Int.cast_ofNat_Int, Int.reduceAdd, Int.reduceSub, Int.reduceMul, Nat.reduceAdd, Nat.zero_add, reduceCtorEq, q3]
      cases T.allows b ms u d <;> cases T.over pg (.deed u d) <;> simp -dsimp -implicitDefEqProofs only [bind_some', asB_b, asI_i, lL_l, lT_t, lS_l, lS_t, lSh_l, lSh_d, lTup2_t, lTup3_t, lAndV_t, lAndV_f, lOrV_t, lOrV_f, lAnd_t, lAnd_f, lOr_t, lOr_f, lAndV_b, lOrV_b, lAnd_b, lOr_b, lZip_l, lZip_t, fLen_l, fLen_t, fTuple_l, fTuple_t, fList_l, fList_t, fInt_i, fInt_b, oIx_l, oIx_t, oAdd_i, oSub_i, oLt_i, oLe_i, oGt_i, oGe_i, oIs_n, oIsNot_n, isNone_o, isNone_i, isNone_n, isNone_l, isNone_t, oEq_int, oNe_int, oEq_str, oNe_str, slT_f, slT_t, atD_0, atD_1, atD_2, atD_3, atD_4, atD_nat, fIsi_n, fIsi_i, fIsi_b, fIsi_s, fIsi_l, fIsi_t, fIsi2_n, fIsi2_i, fIsi2_b, fIsi2_s, fIsi2_l, fIsi2_t, oD_some, oD_none, Option.isSome_some, Option.isSome_none, List.length_cons, List.length_nil, List.length_map, List.getElem?_cons_zero, List.getElem?_cons_succ, Option.map_some, Option.map_none, List.getElem?_map, if_true, if_false, ite_true, ite_false, ↓reduceIte, Bool.not_true, Bool.not_false, Bool.true_and, Bool.false_and, Bool.and_true, Bool.and_false, Bool.true_or, Bool.false_or, Bool.or_true, Bool.or_false, Bool.not_not, decide_true, decide_false, Int.cast_ofNat_Int, Int.reduceAdd, Int.reduceSub, Int.reduceMul, Nat.reduceAdd, Nat.zero_add, reduceCtorEq, Bool.and_true, Bool.and_false, Bool.false_eq_true, Bool.true_and, Bool.false_and]
      · rw [List.append_nil]; exact so_ret rfl
      · rw [List.append_nil]; exact so_ret rfl
      · rw [List.append_nil]; exact so_ret rfl
      · simp -dsimp -implicitDefEqProofs only [bind_some', asB_b, asI_i, lL_l, lT_t, lS_l, lS_t, lSh_l, lSh_d, lTup2_t, lTup3_t, lAndV_t, lAndV_f, lOrV_t, lOrV_f, lAnd_t, lAnd_f, lOr_t, lOr_f, lAndV_b, lOrV_b, lAnd_b, lOr_b, lZip_l, lZip_t, fLen_l, fLen_t, fTuple_l, fTuple_t, fList_l, fList_t, fInt_i, fInt_b, oIx_l, oIx_t, oAdd_i, oSub_i, oLt_i, oLe_i, oGt_i, oGe_i, oIs_n, oIsNot_n, isNone_o, isNone_i, isNone_n, isNone_l, isNone_t, oEq_int, oNe_int, oEq_str, oNe_str, slT_f, slT_t, atD_0, atD_1, atD_2, atD_3, atD_4, atD_nat, fIsi_n, fIsi_i, fIsi_b, fIsi_s, fIsi_l, fIsi_t, fIsi2_n, fIsi2_i, fIsi2_b, fIsi2_s, fIsi2_l, fIsi2_t, oD_some, oD_none, Option.isSome_some, Option.isSome_none, List.length_cons, List.length_nil, List.length_map, List.getElem?_cons_zero, List.getElem?_cons_succ, Option.map_some, Option.map_none, List.getElem?_map, if_true, if_false, ite_true, ite_false, ↓reduceIte, Bool.not_true, Bool.not_false, Bool.true_and, Bool.false_and, Bool.and_true, Bool.and_false, Bool.true_or, Bool.false_or, Bool.or_true, Bool.or_false, Bool.not_not, decide_true, decide_false, Int.cast_ofNat_Int, Int.reduceAdd, Int.reduceSub, Int.reduceMul, Nat.reduceAdd, Nat.zero_add, reduceCtorEq, g3, natL_app]
        exact so_ret rfl
  · rintro _ rfl
    rw [enumD_len, ll, List.take_length]
    exact so_ret rfl
end
theorem flt_self (b : Bk) (pg : List (List Nat)) : ∀ (es : List Ent) (T : Talk) (i : Nat), T.flt b pg pg i es = []
  | [], _, _ => rfl
  | e :: es, T, i => by
    unfold Talk.flt
    rw [flt_self b pg es, List.append_nil]
    refine if_neg ?_
    cases e with
    | come _ => exact Bool.false_ne_true
    | look _ _ => exact Bool.false_ne_true
    | deed u d =>
      show ¬ (T.allows b pg u d && _) = true
      unfold Talk.allows Talk.over
      dsimp only
      cases lookM u T.mom with
      | none => exact Bool.false_ne_true
      | some m =>
        dsimp only
        cases hits pg d (T.hap.drop m) with
        | true => simp
        | false => simp
end Od

namespace Od
open PySem PySem.Spec PyProof.Rows L2
theorem fit_flt {es : List Ent} (h : es.length ≤ 500) (b : Bk) (ms pg : List (List Nat)) : Fit 5500 1 (.list (natL (Talk.new.flt b ms pg 0 es))) := by
  have hl : ∀ (es : List Ent) (T : Talk) (i : Nat), ∀ k ∈ T.flt b ms pg i es, k < i + es.length := by
    intro es
    induction es with
    | nil => intro T i; exact nofun
    | cons e es ih =>
      intro T i k hk
      unfold Talk.flt at hk
      rw [List.length_cons]
      rcases List.mem_append.mp hk with z | z
      · split at z
        · rw [List.mem_singleton.mp z]; omega
        · cases z
      · have := ih _ _ k z
        omega
  refine (fit_list (fit_nats (fun k hk => ?_) (m := 500) ?_)).up (by omega) (by omega)
  · have := hl es .new 0 k hk
    omega
  · have := flt_len b ms pg es .new 0
    omega
theorem lgood_c {b : Bk} (ok : b.Ok) {pg ms : List (List Nat)} (hp : MarksOk b pg) (hm : MarksOk b ms) {es : List Ent} (h : LogOk b es) : cF fs__law_good [bkD b, marksD pg, marksD ms, .list (logD es)] = some (.bool true) := by
  have hl := h.len
  have f1 : Fit 60000 6 (.list [bkD b, marksD pg, marksD ms, .list (logD es)]) :=
    (fit_list (fit_cons (fit_book ok) (fit_cons (fit_marks ok hp (hp.ten ok)) (fit_cons (fit_marks ok hm (hm.ten ok)) (fit_cons (fit_list (fit_log ok h)) fit_nil))))).up (by omega) (by omega)
  have f2 := fit_flt hl b ms pg
  have r1 := f1.repr (by omega) (by omega)
  have r2 := f2.repr (by omega) (by omega)
  have a1 := faults_c ok hp hm (.inl rfl) h
  have a2 := faults_c ok hp hm (.inr rfl) h
  have rl : (natL (Talk.new.flt b ms pg 0 es)).length < 100000 := by have := flt_len b ms pg es .new 0; rw [natL_len]; omega
  have i1 : ∀ x : List D, fIsi .list (.list x) = some (.bool true) := fun _ => rfl
  have t1 : fTuple (.list (logD es)) = some (.tuple (logD es)) := rfl
  have x0 : ∀ a c : D, oIx (.tuple [a, c]) (.int 1) = some c := fun _ _ => rfl
  have s1 := oEq_same f2 (by omega) fun x y z => by cases z.1
  have s2 := oNe_same f2 (by omega) fun x y z => by cases z.1
  have s3 : ∀ x : Str, oEq (.str x) (.str x) = some (.bool true) := fun x => by rw [oEq_str, decide_eq_true rfl]
  refine q__law_good ?_
  unfold l__law_good
  simp -dsimp -implicitDefEqProofs only [bind_some', asB_b, asI_i, lL_l, lT_t, lS_l, lS_t, lSh_l, lSh_d, lTup2_t, lTup3_t, lAndV_t, lAndV_f, lOrV_t, lOrV_f, lAnd_t, lAnd_f, lOr_t, lOr_f, lAndV_b, lOrV_b, lAnd_b, lOr_b, lZip_l, lZip_t, fLen_l, fLen_t, fTuple_l, fTuple_t, fList_l, fList_t, fInt_i, fInt_b, oIx_l, oIx_t, oAdd_i, oSub_i, oLt_i, oLe_i, oGt_i, oGe_i, oIs_n, oIsNot_n, isNone_o, isNone_i, isNone_n, isNone_l, isNone_t, oEq_int, oNe_int, oEq_str, oNe_str, slT_f, slT_t, atD_0, atD_1, atD_2, atD_3, atD_4, atD_nat, fIsi_n, fIsi_i, fIsi_b, fIsi_s, fIsi_l, fIsi_t, fIsi2_n, fIsi2_i, fIsi2_b, fIsi2_s, fIsi2_l, fIsi2_t, oD_some, oD_none, Option.isSome_some, Option.isSome_none, List.length_cons, List.length_nil, List.length_map, List.getElem?_cons_zero, List.getElem?_cons_succ, Option.map_some, Option.map_none, List.getElem?_map, if_true, if_false, ite_true, ite_false, ↓reduceIte, Bool.not_true, Bool.not_false, Bool.true_and, Bool.false_and, Bool.and_true, Bool.and_false, Bool.true_or, Bool.false_or, Bool.or_true, Bool.or_false, Bool.not_not, decide_true, decide_false, Int.cast_ofNat_Int, Int.reduceAdd, Int.reduceSub, Int.reduceMul, Nat.reduceAdd, Nat.zero_add, reduceCtorEq, r1, lread_c ok hp hm h, x0, t1, a1, a2, i1, r2, s2, oNe_strs, Bool.false_eq_true, Bool.not_true, gApp_l' _ _ rl, s1, s3]
theorem law_c (ns : List Int) (hl : ns.length ≤ 63) : l_law (scrD ns) = some (.bool true) := by
  refine so_eq ?_
  unfold l_law
  obtain ⟨a, m, hm, e1, e2⟩ := turns ns.length
  simp -dsimp -implicitDefEqProofs only [bind_some', asB_b, asI_i, lL_l, lT_t, lS_l, lS_t, lSh_l, lSh_d, lTup2_t, lTup3_t, lAndV_t, lAndV_f, lOrV_t, lOrV_f, lAnd_t, lAnd_f, lOr_t, lOr_f, lAndV_b, lOrV_b, lAnd_b, lOr_b, lZip_l, lZip_t, fLen_l, fLen_t, fTuple_l, fTuple_t, fList_l, fList_t, fInt_i, fInt_b, oIx_l, oIx_t, oAdd_i, oSub_i, oLt_i, oLe_i, oGt_i, oGe_i, oIs_n, oIsNot_n, isNone_o, isNone_i, isNone_n, isNone_l, isNone_t, oEq_int, oNe_int, oEq_str, oNe_str, slT_f, slT_t, atD_0, atD_1, atD_2, atD_3, atD_4, atD_nat, fIsi_n, fIsi_i, fIsi_b, fIsi_s, fIsi_l, fIsi_t, fIsi2_n, fIsi2_i, fIsi2_b, fIsi2_s, fIsi2_l, fIsi2_t, oD_some, oD_none, Option.isSome_some, Option.isSome_none, List.length_cons, List.length_nil, List.length_map, List.getElem?_cons_zero, List.getElem?_cons_succ, Option.map_some, Option.map_none, List.getElem?_map, if_true, if_false, ite_true, ite_false, ↓reduceIte, Bool.not_true, Bool.not_false, Bool.true_and, Bool.false_and, Bool.and_true, Bool.and_false, Bool.true_or, Bool.false_or, Bool.or_true, Bool.or_false, Bool.not_not, decide_true, decide_false, Int.cast_ofNat_Int, Int.reduceAdd, Int.reduceSub, Int.reduceMul, Nat.reduceAdd, Nat.zero_add, reduceCtorEq, scr_len, e1, e2]
  rw [lR1_n m (by omega), bind_some']
  refine so_bind _ (so_foldN (fun _ => True) trivial fun dk hdk _ _ => ?_) ?_
  · obtain ⟨k, hk, rfl⟩ := List.mem_map.mp hdk
    have hk := List.mem_range.mp hk
    refine so_bind _ (pile_so ns k (by omega)) ?_
    rintro _ ⟨p, rfl⟩
    refine so_bind _ (book_so p 6 8 (by omega) (by omega) (by omega) (by omega)) ?_
    rintro _ ⟨b, p1, ok, _, _, hde, rfl⟩
    simp -dsimp -implicitDefEqProofs only [bind_some', asB_b, asI_i, lL_l, lT_t, lS_l, lS_t, lSh_l, lSh_d, lTup2_t, lTup3_t, lAndV_t, lAndV_f, lOrV_t, lOrV_f, lAnd_t, lAnd_f, lOr_t, lOr_f, lAndV_b, lOrV_b, lAnd_b, lOr_b, lZip_l, lZip_t, fLen_l, fLen_t, fTuple_l, fTuple_t, fList_l, fList_t, fInt_i, fInt_b, oIx_l, oIx_t, oAdd_i, oSub_i, oLt_i, oLe_i, oGt_i, oGe_i, oIs_n, oIsNot_n, isNone_o, isNone_i, isNone_n, isNone_l, isNone_t, oEq_int, oNe_int, oEq_str, oNe_str, slT_f, slT_t, atD_0, atD_1, atD_2, atD_3, atD_4, atD_nat, fIsi_n, fIsi_i, fIsi_b, fIsi_s, fIsi_l, fIsi_t, fIsi2_n, fIsi2_i, fIsi2_b, fIsi2_s, fIsi2_l, fIsi2_t, oD_some, oD_none, Option.isSome_some, Option.isSome_none, List.length_cons, List.length_nil, List.length_map, List.getElem?_cons_zero, List.getElem?_cons_succ, Option.map_some, Option.map_none, List.getElem?_map, if_true, if_false, ite_true, ite_false, ↓reduceIte, Bool.not_true, Bool.not_false, Bool.true_and, Bool.false_and, Bool.and_true, Bool.and_false, Bool.true_or, Bool.false_or, Bool.or_true, Bool.or_false, Bool.not_not, decide_true, decide_false, Int.cast_ofNat_Int, Int.reduceAdd, Int.reduceSub, Int.reduceMul, Nat.reduceAdd, Nat.zero_add, reduceCtorEq]
    refine so_bind _ (marks_so ok p1 2) ?_
    rintro _ ⟨none, p2, hnone, rfl⟩
    simp -dsimp -implicitDefEqProofs only [bind_some', asB_b, asI_i, lL_l, lT_t, lS_l, lS_t, lSh_l, lSh_d, lTup2_t, lTup3_t, lAndV_t, lAndV_f, lOrV_t, lOrV_f, lAnd_t, lAnd_f, lOr_t, lOr_f, lAndV_b, lOrV_b, lAnd_b, lOr_b, lZip_l, lZip_t, fLen_l, fLen_t, fTuple_l, fTuple_t, fList_l, fList_t, fInt_i, fInt_b, oIx_l, oIx_t, oAdd_i, oSub_i, oLt_i, oLe_i, oGt_i, oGe_i, oIs_n, oIsNot_n, isNone_o, isNone_i, isNone_n, isNone_l, isNone_t, oEq_int, oNe_int, oEq_str, oNe_str, slT_f, slT_t, atD_0, atD_1, atD_2, atD_3, atD_4, atD_nat, fIsi_n, fIsi_i, fIsi_b, fIsi_s, fIsi_l, fIsi_t, fIsi2_n, fIsi2_i, fIsi2_b, fIsi2_s, fIsi2_l, fIsi2_t, oD_some, oD_none, Option.isSome_some, Option.isSome_none, List.length_cons, List.length_nil, List.length_map, List.getElem?_cons_zero, List.getElem?_cons_succ, Option.map_some, Option.map_none, List.getElem?_map, if_true, if_false, ite_true, ite_false, ↓reduceIte, Bool.not_true, Bool.not_false, Bool.true_and, Bool.false_and, Bool.and_true, Bool.and_false, Bool.true_or, Bool.false_or, Bool.or_true, Bool.or_false, Bool.not_not, decide_true, decide_false, Int.cast_ofNat_Int, Int.reduceAdd, Int.reduceSub, Int.reduceMul, Nat.reduceAdd, Nat.zero_add, reduceCtorEq]
    refine so_bind _ (so_foldN (fun t => ∃ p, t = pD p) ⟨p2, rfl⟩ ?_) ?_
    · rintro dd hdm _ ⟨p, rfl⟩
      have : ∃ way : Nat, dd = .int (way : Nat) := by
        simp only [List.mem_cons, List.not_mem_nil, or_false] at hdm
        rcases hdm with rfl | rfl
        · exact ⟨0, rfl⟩
        · exact ⟨1, rfl⟩
      obtain ⟨way, rfl⟩ := this
      refine so_bind _ (marks_so ok p way) ?_
      rintro _ ⟨pg, p3, hpg, rfl⟩
      refine so_bind _ (log_so ok hde p3) ?_
      rintro _ ⟨es, p4, hes, rfl⟩
      simp -dsimp -implicitDefEqProofs only [bind_some', asB_b, asI_i, lL_l, lT_t, lS_l, lS_t, lSh_l, lSh_d, lTup2_t, lTup3_t, lAndV_t, lAndV_f, lOrV_t, lOrV_f, lAnd_t, lAnd_f, lOr_t, lOr_f, lAndV_b, lOrV_b, lAnd_b, lOr_b, lZip_l, lZip_t, fLen_l, fLen_t, fTuple_l, fTuple_t, fList_l, fList_t, fInt_i, fInt_b, oIx_l, oIx_t, oAdd_i, oSub_i, oLt_i, oLe_i, oGt_i, oGe_i, oIs_n, oIsNot_n, isNone_o, isNone_i, isNone_n, isNone_l, isNone_t, oEq_int, oNe_int, oEq_str, oNe_str, slT_f, slT_t, atD_0, atD_1, atD_2, atD_3, atD_4, atD_nat, fIsi_n, fIsi_i, fIsi_b, fIsi_s, fIsi_l, fIsi_t, fIsi2_n, fIsi2_i, fIsi2_b, fIsi2_s, fIsi2_l, fIsi2_t, oD_some, oD_none, Option.isSome_some, Option.isSome_none, List.length_cons, List.length_nil, List.length_map, List.getElem?_cons_zero, List.getElem?_cons_succ, Option.map_some, Option.map_none, List.getElem?_map, if_true, if_false, ite_true, ite_false, ↓reduceIte, Bool.not_true, Bool.not_false, Bool.true_and, Bool.false_and, Bool.and_true, Bool.and_false, Bool.true_or, Bool.false_or, Bool.or_true, Bool.or_false, Bool.not_not, decide_true, decide_false, Int.cast_ofNat_Int, Int.reduceAdd, Int.reduceSub, Int.reduceMul, Nat.reduceAdd, Nat.zero_add, reduceCtorEq]
      refine so_bind _ (marks_so ok p4 1) ?_
      rintro _ ⟨ck, p5, hck, rfl⟩
      simp -dsimp -implicitDefEqProofs only [bind_some', asB_b, asI_i, lL_l, lT_t, lS_l, lS_t, lSh_l, lSh_d, lTup2_t, lTup3_t, lAndV_t, lAndV_f, lOrV_t, lOrV_f, lAnd_t, lAnd_f, lOr_t, lOr_f, lAndV_b, lOrV_b, lAnd_b, lOr_b, lZip_l, lZip_t, fLen_l, fLen_t, fTuple_l, fTuple_t, fList_l, fList_t, fInt_i, fInt_b, oIx_l, oIx_t, oAdd_i, oSub_i, oLt_i, oLe_i, oGt_i, oGe_i, oIs_n, oIsNot_n, isNone_o, isNone_i, isNone_n, isNone_l, isNone_t, oEq_int, oNe_int, oEq_str, oNe_str, slT_f, slT_t, atD_0, atD_1, atD_2, atD_3, atD_4, atD_nat, fIsi_n, fIsi_i, fIsi_b, fIsi_s, fIsi_l, fIsi_t, fIsi2_n, fIsi2_i, fIsi2_b, fIsi2_s, fIsi2_l, fIsi2_t, oD_some, oD_none, Option.isSome_some, Option.isSome_none, List.length_cons, List.length_nil, List.length_map, List.getElem?_cons_zero, List.getElem?_cons_succ, Option.map_some, Option.map_none, List.getElem?_map, if_true, if_false, ite_true, ite_false, ↓reduceIte, Bool.not_true, Bool.not_false, Bool.true_and, Bool.false_and, Bool.and_true, Bool.and_false, Bool.true_or, Bool.false_or, Bool.or_true, Bool.or_false, Bool.not_not, decide_true, decide_false, Int.cast_ofNat_Int, Int.reduceAdd, Int.reduceSub, Int.reduceMul, Nat.reduceAdd, Nat.zero_add, reduceCtorEq]
      refine so_bind _ (so_foldN (fun _ => True) trivial fun x hx _ _ => ?_) ?_
      · have : ∃ ms, MarksOk b ms ∧ x = marksD ms := by
          simp only [List.mem_cons, List.not_mem_nil, or_false] at hx
          rcases hx with rfl | rfl
          · exact ⟨_, hnone, rfl⟩
          · exact ⟨_, hck, rfl⟩
        obtain ⟨ms, hms, rfl⟩ := this
        simp -dsimp -implicitDefEqProofs only [bind_some', asB_b, asI_i, lL_l, lT_t, lS_l, lS_t, lSh_l, lSh_d, lTup2_t, lTup3_t, lAndV_t, lAndV_f, lOrV_t, lOrV_f, lAnd_t, lAnd_f, lOr_t, lOr_f, lAndV_b, lOrV_b, lAnd_b, lOr_b, lZip_l, lZip_t, fLen_l, fLen_t, fTuple_l, fTuple_t, fList_l, fList_t, fInt_i, fInt_b, oIx_l, oIx_t, oAdd_i, oSub_i, oLt_i, oLe_i, oGt_i, oGe_i, oIs_n, oIsNot_n, isNone_o, isNone_i, isNone_n, isNone_l, isNone_t, oEq_int, oNe_int, oEq_str, oNe_str, slT_f, slT_t, atD_0, atD_1, atD_2, atD_3, atD_4, atD_nat, fIsi_n, fIsi_i, fIsi_b, fIsi_s, fIsi_l, fIsi_t, fIsi2_n, fIsi2_i, fIsi2_b, fIsi2_s, fIsi2_l, fIsi2_t, oD_some, oD_none, Option.isSome_some, Option.isSome_none, List.length_cons, List.length_nil, List.length_map, List.getElem?_cons_zero, List.getElem?_cons_succ, Option.map_some, Option.map_none, List.getElem?_map, if_true, if_false, ite_true, ite_false, ↓reduceIte, Bool.not_true, Bool.not_false, Bool.true_and, Bool.false_and, Bool.and_true, Bool.and_false, Bool.true_or, Bool.false_or, Bool.or_true, Bool.or_false, Bool.not_not, decide_true, decide_false, Int.cast_ofNat_Int, Int.reduceAdd, Int.reduceSub, Int.reduceMul, Nat.reduceAdd, Nat.zero_add, reduceCtorEq, lgood_c ok hpg hms hes, Bool.false_eq_true, Bool.not_true]
        exact so_ret ⟨_, rfl, trivial⟩
      · rintro _ ⟨_, rfl, _⟩
        simp -dsimp -implicitDefEqProofs only [bind_some', asB_b, asI_i, lL_l, lT_t, lS_l, lS_t, lSh_l, lSh_d, lTup2_t, lTup3_t, lAndV_t, lAndV_f, lOrV_t, lOrV_f, lAnd_t, lAnd_f, lOr_t, lOr_f, lAndV_b, lOrV_b, lAnd_b, lOr_b, lZip_l, lZip_t, fLen_l, fLen_t, fTuple_l, fTuple_t, fList_l, fList_t, fInt_i, fInt_b, oIx_l, oIx_t, oAdd_i, oSub_i, oLt_i, oLe_i, oGt_i, oGe_i, oIs_n, oIsNot_n, isNone_o, isNone_i, isNone_n, isNone_l, isNone_t, oEq_int, oNe_int, oEq_str, oNe_str, slT_f, slT_t, atD_0, atD_1, atD_2, atD_3, atD_4, atD_nat, fIsi_n, fIsi_i, fIsi_b, fIsi_s, fIsi_l, fIsi_t, fIsi2_n, fIsi2_i, fIsi2_b, fIsi2_s, fIsi2_l, fIsi2_t, oD_some, oD_none, Option.isSome_some, Option.isSome_none, List.length_cons, List.length_nil, List.length_map, List.getElem?_cons_zero, List.getElem?_cons_succ, Option.map_some, Option.map_none, List.getElem?_map, if_true, if_false, ite_true, ite_false, ↓reduceIte, Bool.not_true, Bool.not_false, Bool.true_and, Bool.false_and, Bool.and_true, Bool.and_false, Bool.true_or, Bool.false_or, Bool.or_true, Bool.or_false, Bool.not_not, decide_true, decide_false, Int.cast_ofNat_Int, Int.reduceAdd, Int.reduceSub, Int.reduceMul, Nat.reduceAdd, Nat.zero_add, reduceCtorEq, faults_c ok hpg hpg (.inl rfl) hes, faults_c ok hnone hnone (.inl rfl) hes, flt_self, oNe_nil, List.isEmpty_nil, Bool.not_true, Bool.false_eq_true]
        exact so_ret ⟨_, rfl, _, rfl⟩
    · rintro _ ⟨_, rfl, _⟩
      exact so_ret ⟨_, rfl, trivial⟩
  · rintro _ ⟨_, rfl, _⟩
    have ok : Bk.Ok ⟨2, [(false, [some 1, some 1]), (true, [some 1, some 0])]⟩ := by
      refine ⟨by decide, by decide, by decide, by decide, by decide, ?_⟩
      intro k hk n hn
      simp only [List.mem_cons, List.not_mem_nil, or_false] at hk
      rcases hk with rfl | rfl <;> simp only [List.mem_cons, List.not_mem_nil, or_false, Option.some.injEq] at hn <;> rcases hn with rfl | rfl <;> decide
    have hm : ∀ r : List Nat, r = [0, 1] ∨ r = [0] ∨ r = [] → MarksOk ⟨2, [(false, [some 1, some 1]), (true, [some 1, some 0])]⟩ [[], r] := by
      rintro r (rfl | rfl | rfl) <;>
      · refine ⟨rfl, by decide, ?_, by decide, by decide⟩
        intro r hr
        simp only [List.mem_cons, List.not_mem_nil, or_false] at hr
        rcases hr with rfl | rfl <;> exact asc_of (by decide)
    have hes : LogOk ⟨2, [(false, [some 1, some 1]), (true, [some 1, some 0])]⟩ [.look 0 0, .come 0, .deed 0 1, .deed 0 1, .look 0 1, .deed 0 1] := by
      refine ⟨fun e he => ?_, by decide⟩
      simp only [List.mem_cons, List.not_mem_nil, or_false] at he
      rcases he with rfl | rfl | rfl | rfl | rfl | rfl
      · exact ⟨by decide, by decide⟩
      · exact rfl
      · exact ⟨by decide, rfl⟩
      · exact ⟨by decide, rfl⟩
      · exact ⟨by decide, by decide⟩
      · exact ⟨by decide, rfl⟩
    have a1 := faults_c ok (hm [0, 1] (.inl rfl)) (hm [] (.inr (.inr rfl))) (.inl rfl) hes
    have a2 := faults_c ok (hm [0] (.inr (.inl rfl))) (hm [] (.inr (.inr rfl))) (.inl rfl) hes
    have a1 : cF fs_faults_in [(.tuple [(.int 2), (.tuple [(.tuple [(.str "out"), (.tuple [(.int 1), (.int 1)])]), (.tuple [(.str "deed"), (.tuple [(.int 1), (.int 0)])])])]), (.tuple [(.tuple []), (.tuple [(.int 0), (.int 1)])]), (.tuple [(.tuple []), (.tuple [])]), (.list [(.tuple [(.str "look"), (.int 0), (.int 0)]), (.tuple [(.str "come"), (.int 0)]), (.tuple [(.str "do"), (.int 0), (.int 1)]), (.tuple [(.str "do"), (.int 0), (.int 1)]), (.tuple [(.str "look"), (.int 0), (.int 1)]), (.tuple [(.str "do"), (.int 0), (.int 1)])])] = some (.list [(.int 2), (.int 5)]) := a1
    have a2 : cF fs_faults_in [(.tuple [(.int 2), (.tuple [(.tuple [(.str "out"), (.tuple [(.int 1), (.int 1)])]), (.tuple [(.str "deed"), (.tuple [(.int 1), (.int 0)])])])]), (.tuple [(.tuple []), (.tuple [(.int 0)])]), (.tuple [(.tuple []), (.tuple [])]), (.list [(.tuple [(.str "look"), (.int 0), (.int 0)]), (.tuple [(.str "come"), (.int 0)]), (.tuple [(.str "do"), (.int 0), (.int 1)]), (.tuple [(.str "do"), (.int 0), (.int 1)]), (.tuple [(.str "look"), (.int 0), (.int 1)]), (.tuple [(.str "do"), (.int 0), (.int 1)])])] = some (.list [(.int 2)]) := a2
    have z1 : oEq (.list [(.int 2), (.int 5)]) (.list [(.int 2), (.int 5)]) = some (.bool true) := by kernel_rfl
    have z2 : oEq (.list [(.int 2)]) (.list [(.int 2)]) = some (.bool true) := by kernel_rfl
    simp -dsimp -implicitDefEqProofs only [bind_some', asB_b, asI_i, lL_l, lT_t, lS_l, lS_t, lSh_l, lSh_d, lTup2_t, lTup3_t, lAndV_t, lAndV_f, lOrV_t, lOrV_f, lAnd_t, lAnd_f, lOr_t, lOr_f, lAndV_b, lOrV_b, lAnd_b, lOr_b, lZip_l, lZip_t, fLen_l, fLen_t, fTuple_l, fTuple_t, fList_l, fList_t, fInt_i, fInt_b, oIx_l, oIx_t, oAdd_i, oSub_i, oLt_i, oLe_i, oGt_i, oGe_i, oIs_n, oIsNot_n, isNone_o, isNone_i, isNone_n, isNone_l, isNone_t, oEq_int, oNe_int, oEq_str, oNe_str, slT_f, slT_t, atD_0, atD_1, atD_2, atD_3, atD_4, atD_nat, fIsi_n, fIsi_i, fIsi_b, fIsi_s, fIsi_l, fIsi_t, fIsi2_n, fIsi2_i, fIsi2_b, fIsi2_s, fIsi2_l, fIsi2_t, oD_some, oD_none, Option.isSome_some, Option.isSome_none, List.length_cons, List.length_nil, List.length_map, List.getElem?_cons_zero, List.getElem?_cons_succ, Option.map_some, Option.map_none, List.getElem?_map, if_true, if_false, ite_true, ite_false, ↓reduceIte, Bool.not_true, Bool.not_false, Bool.true_and, Bool.false_and, Bool.and_true, Bool.and_false, Bool.true_or, Bool.false_or, Bool.or_true, Bool.or_false, Bool.not_not, decide_true, decide_false, Int.cast_ofNat_Int, Int.reduceAdd, Int.reduceSub, Int.reduceMul, Nat.reduceAdd, Nat.zero_add, reduceCtorEq, a1, a2, z1, z2]
    exact so_ret rfl
theorem math (ns : List Int) (hl : ns.length ≤ 63) : ∃ n, fs_law.f [scrD ns] = some (.ret (.bool true) n) := ⟨_, l_law_of (law_c ns hl)⟩
end Od

namespace Od
open PySem PySem.Spec PyProof.Rows L2
section
variable {P : Program} {w : World} {K : PySem.W.Frag} {mg : Str → Option Value} {base : Heap} {k : Nat}
abbrev FnQ (K : PySem.W.Frag) (x q : Str) (st : Stmt) (f : Addr) (fd : FuncData) : Prop := FunD K x q (defArgs st) (defBody st) (defScope st) [] [] f fd
abbrev s_Talk_init : Stmt := topM 22 0
abbrev FnP (K : PySem.W.Frag) (x : Str) (st : Stmt) (f : Addr) (fd : FuncData) : Prop := FunD K x x (defArgs st) (defBody st) (defScope st) [] [] f fd
/-- what the defs find of the module -/
structure Ax (K : PySem.W.Frag) (mg : Str → Option Value) : Prop where
  bi : Bi mg
  c_HELPERS : ∃ t, mg "HELPERS" = some (.int 100 t)
  c_LATEST : ∃ t, mg "LATEST" = some (.int 1000 t)
  c_MOST_KINDS : ∃ t, mg "MOST_KINDS" = some (.int 10 t)
  c_MOST_STATES : ∃ t, mg "MOST_STATES" = some (.int 10 t)
  x_NoBook : ∀ (P : Program) (w : World) (base : Heap) (k : Nat) (own : Bool) (E : XK) (N : List Str) (sc : Scope), ExD (gam P w K mg base N sc k own E) "NoBook"
  x_NoLog : ∀ (P : Program) (w : World) (base : Heap) (k : Nat) (own : Bool) (E : XK) (N : List Str) (sc : Scope), ExD (gam P w K mg base N sc k own E) "NoLog"
  x_NoMarks : ∀ (P : Program) (w : World) (base : Heap) (k : Nat) (own : Bool) (E : XK) (N : List Str) (sc : Scope), ExD (gam P w K mg base N sc k own E) "NoMarks"
  tk : TalkC K
  mkt : ∃ fd, FnQ K "__init__" "Talk.__init__" s_Talk_init (He.ma K (He.ga K "Talk") "__init__") fd ∧ Mk K (He.ga K "Talk") (He.ma K (He.ga K "Talk") "__init__") ∧ mg ("Talk" : Str) = some (.ref (He.ga K "Talk"))
  f__wall : ∃ fd, FnP K "_wall" s__wall (He.ga K "_wall") fd ∧ mg "_wall" = some (.ref (He.ga K "_wall"))
  f_is_below : ∃ fd, FnP K "is_below" s_is_below (He.ga K "is_below") fd ∧ mg "is_below" = some (.ref (He.ga K "is_below"))
  f_is_kind : ∃ fd, FnP K "is_kind" s_is_kind (He.ga K "is_kind") fd ∧ mg "is_kind" = some (.ref (He.ga K "is_kind"))
  f_is_book : ∃ fd, FnP K "is_book" s_is_book (He.ga K "is_book") fd ∧ mg "is_book" = some (.ref (He.ga K "is_book"))
  f_need_book : ∃ fd, FnP K "need_book" s_need_book (He.ga K "need_book") fd ∧ mg "need_book" = some (.ref (He.ga K "need_book"))
  f_is_number : ∃ fd, FnP K "is_number" s_is_number (He.ga K "is_number") fd ∧ mg "is_number" = some (.ref (He.ga K "is_number"))
  f_is_out : ∃ fd, FnP K "is_out" s_is_out (He.ga K "is_out") fd ∧ mg "is_out" = some (.ref (He.ga K "is_out"))
  f_is_deed : ∃ fd, FnP K "is_deed" s_is_deed (He.ga K "is_deed") fd ∧ mg "is_deed" = some (.ref (He.ga K "is_deed"))
  f_is_mark : ∃ fd, FnP K "is_mark" s_is_mark (He.ga K "is_mark") fd ∧ mg "is_mark" = some (.ref (He.ga K "is_mark"))
  f_is_marks_here : ∃ fd, FnP K "is_marks_here" s_is_marks_here (He.ga K "is_marks_here") fd ∧ mg "is_marks_here" = some (.ref (He.ga K "is_marks_here"))
  f_behind : ∃ fd, FnP K "behind" s_behind (He.ga K "behind") fd ∧ mg "behind" = some (.ref (He.ga K "behind"))
  f_need_marks : ∃ fd, FnP K "need_marks" s_need_marks (He.ga K "need_marks") fd ∧ mg "need_marks" = some (.ref (He.ga K "need_marks"))
  f_meets : ∃ fd, FnP K "meets" s_meets (He.ga K "meets") fd ∧ mg "meets" = some (.ref (He.ga K "meets"))
  f_Talk_come : ∃ fd, FnQ K "come" "Talk.come" s_Talk_come (He.ma K (He.ga K "Talk") "come") fd ∧ Meth K (He.ga K "Talk") "come" (He.ma K (He.ga K "Talk") "come")
  f_Talk_look : ∃ fd, FnQ K "look" "Talk.look" s_Talk_look (He.ma K (He.ga K "Talk") "look") fd ∧ Meth K (He.ga K "Talk") "look" (He.ma K (He.ga K "Talk") "look")
  f_Talk_sight : ∃ fd, FnQ K "sight" "Talk.sight" s_Talk_sight (He.ma K (He.ga K "Talk") "sight") fd ∧ Meth K (He.ga K "Talk") "sight" (He.ma K (He.ga K "Talk") "sight")
  f_Talk_since : ∃ fd, FnQ K "since" "Talk.since" s_Talk_since (He.ma K (He.ga K "Talk") "since") fd ∧ Meth K (He.ga K "Talk") "since" (He.ma K (He.ga K "Talk") "since")
  f_Talk_allows : ∃ fd, FnQ K "allows" "Talk.allows" s_Talk_allows (He.ma K (He.ga K "Talk") "allows") fd ∧ Meth K (He.ga K "Talk") "allows" (He.ma K (He.ga K "Talk") "allows")
  f_Talk_do : ∃ fd, FnQ K "do" "Talk.do" s_Talk_do (He.ma K (He.ga K "Talk") "do") fd ∧ Meth K (He.ga K "Talk") "do" (He.ma K (He.ga K "Talk") "do")
  f_is_helper : ∃ fd, FnP K "is_helper" s_is_helper (He.ga K "is_helper") fd ∧ mg "is_helper" = some (.ref (He.ga K "is_helper"))
  f_is_late : ∃ fd, FnP K "is_late" s_is_late (He.ga K "is_late") fd ∧ mg "is_late" = some (.ref (He.ga K "is_late"))
  f_is_entry : ∃ fd, FnP K "is_entry" s_is_entry (He.ga K "is_entry") fd ∧ mg "is_entry" = some (.ref (He.ga K "is_entry"))
  f_need_log : ∃ fd, FnP K "need_log" s_need_log (He.ga K "need_log") fd ∧ mg "need_log" = some (.ref (He.ga K "need_log"))
  f_take : ∃ fd, FnP K "take" s_take (He.ga K "take") fd ∧ mg "take" = some (.ref (He.ga K "take"))
  f_would_overlook : ∃ fd, FnP K "would_overlook" s_would_overlook (He.ga K "would_overlook") fd ∧ mg "would_overlook" = some (.ref (He.ga K "would_overlook"))
  f_faults_in : ∃ fd, FnP K "faults_in" s_faults_in (He.ga K "faults_in") fd ∧ mg "faults_in" = some (.ref (He.ga K "faults_in"))
  f__law_mixed : ∃ fd, FnP K "_law_mixed" s__law_mixed (He.ga K "_law_mixed") fd ∧ mg "_law_mixed" = some (.ref (He.ga K "_law_mixed"))
  f__law_pile : ∃ fd, FnP K "_law_pile" s__law_pile (He.ga K "_law_pile") fd ∧ mg "_law_pile" = some (.ref (He.ga K "_law_pile"))
  f__law_take : ∃ fd, FnP K "_law_take" s__law_take (He.ga K "_law_take") fd ∧ mg "_law_take" = some (.ref (He.ga K "_law_take"))
  f__law_pick : ∃ fd, FnP K "_law_pick" s__law_pick (He.ga K "_law_pick") fd ∧ mg "_law_pick" = some (.ref (He.ga K "_law_pick"))
  f__law_book : ∃ fd, FnP K "_law_book" s__law_book (He.ga K "_law_book") fd ∧ mg "_law_book" = some (.ref (He.ga K "_law_book"))
  f__law_deeds : ∃ fd, FnP K "_law_deeds" s__law_deeds (He.ga K "_law_deeds") fd ∧ mg "_law_deeds" = some (.ref (He.ga K "_law_deeds"))
  f__law_behind : ∃ fd, FnP K "_law_behind" s__law_behind (He.ga K "_law_behind") fd ∧ mg "_law_behind" = some (.ref (He.ga K "_law_behind"))
  f__law_some : ∃ fd, FnP K "_law_some" s__law_some (He.ga K "_law_some") fd ∧ mg "_law_some" = some (.ref (He.ga K "_law_some"))
  f__law_marks : ∃ fd, FnP K "_law_marks" s__law_marks (He.ga K "_law_marks") fd ∧ mg "_law_marks" = some (.ref (He.ga K "_law_marks"))
  f__law_has : ∃ fd, FnP K "_law_has" s__law_has (He.ga K "_law_has") fd ∧ mg "_law_has" = some (.ref (He.ga K "_law_has"))
  f__law_entry : ∃ fd, FnP K "_law_entry" s__law_entry (He.ga K "_law_entry") fd ∧ mg "_law_entry" = some (.ref (He.ga K "_law_entry"))
  f__law_read : ∃ fd, FnP K "_law_read" s__law_read (He.ga K "_law_read") fd ∧ mg "_law_read" = some (.ref (He.ga K "_law_read"))
  f__law_log : ∃ fd, FnP K "_law_log" s__law_log (He.ga K "_law_log") fd ∧ mg "_law_log" = some (.ref (He.ga K "_law_log"))
  f__law_good : ∃ fd, FnP K "_law_good" s__law_good (He.ga K "_law_good") fd ∧ mg "_law_good" = some (.ref (He.ga K "_law_good"))
  f_law : ∃ fd, FnP K "law" s_law (He.ga K "law") fd ∧ mg "law" = some (.ref (He.ga K "law"))
theorem mkT_of (A : Ax K mg) (h : 2 ≤ k) : MkT P w K mg base k := by
  obtain ⟨fd, F, m, hm⟩ := A.mkt
  exact ⟨_, fd, ["self", "book", "checks"], 1, h, hm, m, F.bindsN (fun _ _ _ _ _ _ us hl => match us, hl with | [_, _, _], _ => rfl), init_of A.tk F ⟨rfl, rfl, rfl, by decide +kernel, rfl, by decide +kernel, by decide +kernel⟩ rfl (Or.inl rfl) (Or.inl rfl) (Or.inl rfl)⟩
theorem sc__wall : FnScope ["k"] ["k"] (defScope s__wall) := ⟨rfl, rfl, rfl, by decide +kernel, rfl, by decide +kernel, by decide +kernel⟩
theorem ok__wall (A : Ax K mg) : DefG P w K mg base 1 "_wall" fs__wall := by
  obtain ⟨fd, F, hm⟩ := A.f__wall
  exact defG_of hm F (F.bindsN fun _ _ _ _ _ _ us hl => match us, hl with | [_], _ => rfl) sc__wall rfl (by decide) (fun E => d__wall A.bi    E) (fun _ _ _ h => h)
theorem sc_is_below : FnScope ["thing", "many"] ["thing", "many"] (defScope s_is_below) := ⟨rfl, rfl, rfl, by decide +kernel, rfl, by decide +kernel, by decide +kernel⟩
theorem ok_is_below (A : Ax K mg) : DefG P w K mg base 1 "is_below" fs_is_below := by
  obtain ⟨fd, F, hm⟩ := A.f_is_below
  exact defG_of hm F (F.bindsN fun _ _ _ _ _ _ us hl => match us, hl with | [_, _], _ => rfl) sc_is_below rfl (by decide) (fun E => d_is_below A.bi    E) (fun _ _ _ h => h)
theorem sc_is_kind : FnScope ["many", "thing", "who", "steps", "step"] ["many", "thing"] (defScope s_is_kind) := ⟨rfl, rfl, rfl, by decide +kernel, rfl, by decide +kernel, by decide +kernel⟩
theorem ok_is_kind (A : Ax K mg) : DefG P w K mg base 2 "is_kind" fs_is_kind := by
  obtain ⟨fd, F, hm⟩ := A.f_is_kind
  exact defG_of hm F (F.bindsN fun _ _ _ _ _ _ us hl => match us, hl with | [_, _], _ => rfl) sc_is_kind rfl (by decide) (fun E => d_is_kind A.bi ((ok_is_below A).mono (by decide))   E) (fun _ _ _ h => h)
theorem sc_is_book : FnScope ["thing", "many", "kinds", "kind"] ["thing"] (defScope s_is_book) := ⟨rfl, rfl, rfl, by decide +kernel, rfl, by decide +kernel, by decide +kernel⟩
theorem ok_is_book (A : Ax K mg) : DefG P w K mg base 3 "is_book" fs_is_book := by
  obtain ⟨fd, F, hm⟩ := A.f_is_book
  exact defG_of hm F (F.bindsN fun _ _ _ _ _ _ us hl => match us, hl with | [_], _ => rfl) sc_is_book rfl (by decide) (fun E => d_is_book A.bi ((ok_is_below A).mono (by decide)) ((ok_is_kind A).mono (by decide)) A.c_MOST_KINDS A.c_MOST_STATES  E) (fun _ _ _ h => h)
theorem sc_need_book : FnScope ["book"] ["book"] (defScope s_need_book) := ⟨rfl, rfl, rfl, by decide +kernel, rfl, by decide +kernel, by decide +kernel⟩
theorem ok_need_book (A : Ax K mg) : DefG P w K mg base 4 "need_book" fs_need_book := by
  obtain ⟨fd, F, hm⟩ := A.f_need_book
  exact defG_of hm F (F.bindsN fun _ _ _ _ _ _ us hl => match us, hl with | [_], _ => rfl) sc_need_book rfl (by decide) (fun E => d_need_book A.bi ((ok_is_book A).mono (by decide))  (A.x_NoBook _ _ _ _ _) E) (fun _ _ _ h => h)
theorem sc_is_number : FnScope ["book", "thing"] ["book", "thing"] (defScope s_is_number) := ⟨rfl, rfl, rfl, by decide +kernel, rfl, by decide +kernel, by decide +kernel⟩
theorem ok_is_number (A : Ax K mg) : DefG P w K mg base 2 "is_number" fs_is_number := by
  obtain ⟨fd, F, hm⟩ := A.f_is_number
  exact defG_of hm F (F.bindsN fun _ _ _ _ _ _ us hl => match us, hl with | [_, _], _ => rfl) sc_is_number rfl (by decide) (fun E => d_is_number A.bi ((ok_is_below A).mono (by decide))   E) (fun _ _ _ h => h)
theorem sc_is_out : FnScope ["book", "thing"] ["book", "thing"] (defScope s_is_out) := ⟨rfl, rfl, rfl, by decide +kernel, rfl, by decide +kernel, by decide +kernel⟩
theorem ok_is_out (A : Ax K mg) : DefG P w K mg base 3 "is_out" fs_is_out := by
  obtain ⟨fd, F, hm⟩ := A.f_is_out
  exact defG_of hm F (F.bindsN fun _ _ _ _ _ _ us hl => match us, hl with | [_, _], _ => rfl) sc_is_out rfl (by decide) (fun E => d_is_out A.bi ((ok_is_number A).mono (by decide))   E) (fun _ _ _ h => h)
theorem sc_is_deed : FnScope ["book", "thing"] ["book", "thing"] (defScope s_is_deed) := ⟨rfl, rfl, rfl, by decide +kernel, rfl, by decide +kernel, by decide +kernel⟩
theorem ok_is_deed (A : Ax K mg) : DefG P w K mg base 3 "is_deed" fs_is_deed := by
  obtain ⟨fd, F, hm⟩ := A.f_is_deed
  exact defG_of hm F (F.bindsN fun _ _ _ _ _ _ us hl => match us, hl with | [_, _], _ => rfl) sc_is_deed rfl (by decide) (fun E => d_is_deed A.bi ((ok_is_number A).mono (by decide))   E) (fun _ _ _ h => h)
theorem sc_is_mark : FnScope ["book", "kind", "thing", "k", "low", "high"] ["book", "kind", "thing"] (defScope s_is_mark) := ⟨rfl, rfl, rfl, by decide +kernel, rfl, by decide +kernel, by decide +kernel⟩
theorem ok_is_mark (A : Ax K mg) : DefG P w K mg base 3 "is_mark" fs_is_mark := by
  obtain ⟨fd, F, hm⟩ := A.f_is_mark
  exact defG_of hm F (F.bindsN fun _ _ _ _ _ _ us hl => match us, hl with | [_, _, _], _ => rfl) sc_is_mark rfl (by decide) (fun E => d_is_mark A.bi ((ok_is_number A).mono (by decide))   E) (fun _ _ _ h => h)
theorem sc_is_marks_here : FnScope ["book", "thing", "kind", "mark"] ["book", "thing"] (defScope s_is_marks_here) := ⟨rfl, rfl, rfl, by decide +kernel, rfl, by decide +kernel, by decide +kernel⟩
theorem ok_is_marks_here (A : Ax K mg) : DefG P w K mg base 4 "is_marks_here" fs_is_marks_here := by
  obtain ⟨fd, F, hm⟩ := A.f_is_marks_here
  exact defG_of hm F (F.bindsN fun _ _ _ _ _ _ us hl => match us, hl with | [_, _], _ => rfl) sc_is_marks_here rfl (by decide) (fun E => d_is_marks_here A.bi ((ok_is_mark A).mono (by decide))   E) (fun _ _ _ h => h)
theorem sc_behind : FnScope ["book", "state", "k"] ["book", "state", "k"] (defScope s_behind) := ⟨rfl, rfl, rfl, by decide +kernel, rfl, by decide +kernel, by decide +kernel⟩
theorem ok_behind (A : Ax K mg) : DefG P w K mg base 1 "behind" fs_behind := by
  obtain ⟨fd, F, hm⟩ := A.f_behind
  exact defG_of hm F (F.bindsN fun _ _ _ _ _ _ us hl => match us, hl with | [_, _, _], _ => rfl) sc_behind rfl (by decide) (fun E => d_behind A.bi    E) (fun _ _ _ h => h)
theorem sc_need_marks : FnScope ["book", "marks"] ["book", "marks"] (defScope s_need_marks) := ⟨rfl, rfl, rfl, by decide +kernel, rfl, by decide +kernel, by decide +kernel⟩
theorem ok_need_marks (A : Ax K mg) : DefG P w K mg base 5 "need_marks" fs_need_marks := by
  obtain ⟨fd, F, hm⟩ := A.f_need_marks
  exact defG_of hm F (F.bindsN fun _ _ _ _ _ _ us hl => match us, hl with | [_, _], _ => rfl) sc_need_marks rfl (by decide) (fun E => d_need_marks A.bi ((ok_is_marks_here A).mono (by decide))  (A.x_NoMarks _ _ _ _ _) E) (fun _ _ _ h => h)
theorem sc_meets : FnScope ["mark", "row", "k"] ["mark", "row"] (defScope s_meets) := ⟨rfl, rfl, rfl, by decide +kernel, rfl, by decide +kernel, by decide +kernel⟩
theorem ok_meets (A : Ax K mg) : DefG P w K mg base 1 "meets" fs_meets := by
  obtain ⟨fd, F, hm⟩ := A.f_meets
  exact defG_of hm F (F.bindsN fun _ _ _ _ _ _ us hl => match us, hl with | [_, _], _ => rfl) sc_meets rfl (by decide) (fun E => d_meets A.bi    E) (fun _ _ _ h => h)
theorem sc_Talk_come : FnScope ["self", "k", "state"] ["self", "k"] (defScope s_Talk_come) := ⟨rfl, rfl, rfl, by decide +kernel, rfl, by decide +kernel, by decide +kernel⟩
theorem ok_Talk_come (A : Ax K mg) : DefM P w K mg base 2 "come" fs_Talk_come := by
  obtain ⟨fd, F, hm⟩ := A.f_Talk_come
  exact defM_of hm F (F.bindsN fun _ _ _ _ _ _ us hl => match us, hl with | [_, _], _ => rfl) sc_Talk_come rfl (by decide) (fun E => d_Talk_come A.bi A.tk ((ok_behind A).mono (by decide))   E) (fun _ _ _ h => h)
theorem sc_Talk_look : FnScope ["self", "h", "late", "moment"] ["self", "h", "late"] (defScope s_Talk_look) := ⟨rfl, rfl, rfl, by decide +kernel, rfl, by decide +kernel, by decide +kernel⟩
theorem ok_Talk_look (A : Ax K mg) : DefM P w K mg base 1 "look" fs_Talk_look := by
  obtain ⟨fd, F, hm⟩ := A.f_Talk_look
  exact defM_of hm F (F.bindsN fun _ _ _ _ _ _ us hl => match us, hl with | [_, _, _], _ => rfl) sc_Talk_look rfl (by decide) (fun E => d_Talk_look A.bi A.tk    E) (fun _ _ _ h => h)
theorem sc_Talk_sight : FnScope ["self", "h", "moment"] ["self", "h"] (defScope s_Talk_sight) := ⟨rfl, rfl, rfl, by decide +kernel, rfl, by decide +kernel, by decide +kernel⟩
theorem ok_Talk_sight (A : Ax K mg) : DefM P w K mg base 1 "sight" fs_Talk_sight := by
  obtain ⟨fd, F, hm⟩ := A.f_Talk_sight
  exact defM_of hm F (F.bindsN fun _ _ _ _ _ _ us hl => match us, hl with | [_, _], _ => rfl) sc_Talk_sight rfl (by decide) (fun E => d_Talk_sight A.bi A.tk    E) (fun _ _ _ h => h)
theorem sc_Talk_since : FnScope ["self", "h", "moment"] ["self", "h"] (defScope s_Talk_since) := ⟨rfl, rfl, rfl, by decide +kernel, rfl, by decide +kernel, by decide +kernel⟩
theorem ok_Talk_since (A : Ax K mg) : DefM P w K mg base 1 "since" fs_Talk_since := by
  obtain ⟨fd, F, hm⟩ := A.f_Talk_since
  exact defM_of hm F (F.bindsN fun _ _ _ _ _ _ us hl => match us, hl with | [_, _], _ => rfl) sc_Talk_since rfl (by decide) (fun E => d_Talk_since A.bi A.tk    E) (fun _ _ _ h => h)
theorem sc_Talk_allows : FnScope ["self", "h", "d", "seen"] ["self", "h", "d"] (defScope s_Talk_allows) := ⟨rfl, rfl, rfl, by decide +kernel, rfl, by decide +kernel, by decide +kernel⟩
theorem ok_Talk_allows (A : Ax K mg) : DefM P w K mg base 2 "allows" fs_Talk_allows := by
  obtain ⟨fd, F, hm⟩ := A.f_Talk_allows
  exact defM_of hm F (F.bindsN fun _ _ _ _ _ _ us hl => match us, hl with | [_, _, _], _ => rfl) sc_Talk_allows rfl (by decide) (fun E => d_Talk_allows A.bi A.tk ((ok_Talk_sight A).mono (by decide)) ((ok_behind A).mono (by decide)) ((ok_meets A).mono (by decide)) ((ok_Talk_since A).mono (by decide))   E) (fun _ _ _ h => h)
theorem sc_Talk_do : FnScope ["self", "h", "d"] ["self", "h", "d"] (defScope s_Talk_do) := ⟨rfl, rfl, rfl, by decide +kernel, rfl, by decide +kernel, by decide +kernel⟩
theorem ok_Talk_do (A : Ax K mg) : DefM P w K mg base 3 "do" fs_Talk_do := by
  obtain ⟨fd, F, hm⟩ := A.f_Talk_do
  exact defM_of hm F (F.bindsN fun _ _ _ _ _ _ us hl => match us, hl with | [_, _, _], _ => rfl) sc_Talk_do rfl (by decide) (fun E => d_Talk_do A.bi A.tk ((ok_Talk_allows A).mono (by decide)) ((ok_Talk_come A).mono (by decide))   E) (fun _ _ _ h => h)
theorem sc_is_helper : FnScope ["thing"] ["thing"] (defScope s_is_helper) := ⟨rfl, rfl, rfl, by decide +kernel, rfl, by decide +kernel, by decide +kernel⟩
theorem ok_is_helper (A : Ax K mg) : DefG P w K mg base 2 "is_helper" fs_is_helper := by
  obtain ⟨fd, F, hm⟩ := A.f_is_helper
  exact defG_of hm F (F.bindsN fun _ _ _ _ _ _ us hl => match us, hl with | [_], _ => rfl) sc_is_helper rfl (by decide) (fun E => d_is_helper A.bi ((ok_is_below A).mono (by decide)) A.c_HELPERS  E) (fun _ _ _ h => h)
theorem sc_is_late : FnScope ["thing"] ["thing"] (defScope s_is_late) := ⟨rfl, rfl, rfl, by decide +kernel, rfl, by decide +kernel, by decide +kernel⟩
theorem ok_is_late (A : Ax K mg) : DefG P w K mg base 2 "is_late" fs_is_late := by
  obtain ⟨fd, F, hm⟩ := A.f_is_late
  exact defG_of hm F (F.bindsN fun _ _ _ _ _ _ us hl => match us, hl with | [_], _ => rfl) sc_is_late rfl (by decide) (fun E => d_is_late A.bi ((ok_is_below A).mono (by decide)) A.c_LATEST  E) (fun _ _ _ h => h)
theorem sc_is_entry : FnScope ["book", "thing"] ["book", "thing"] (defScope s_is_entry) := ⟨rfl, rfl, rfl, by decide +kernel, rfl, by decide +kernel, by decide +kernel⟩
theorem ok_is_entry (A : Ax K mg) : DefG P w K mg base 4 "is_entry" fs_is_entry := by
  obtain ⟨fd, F, hm⟩ := A.f_is_entry
  exact defG_of hm F (F.bindsN fun _ _ _ _ _ _ us hl => match us, hl with | [_, _], _ => rfl) sc_is_entry rfl (by decide) (fun E => d_is_entry A.bi ((ok_is_out A).mono (by decide)) ((ok_is_helper A).mono (by decide)) ((ok_is_late A).mono (by decide)) ((ok_is_deed A).mono (by decide))   E) (fun _ _ _ h => h)
theorem sc_need_log : FnScope ["book", "log", "entry"] ["book", "log"] (defScope s_need_log) := ⟨rfl, rfl, rfl, by decide +kernel, rfl, by decide +kernel, by decide +kernel⟩
theorem ok_need_log (A : Ax K mg) : DefG P w K mg base 5 "need_log" fs_need_log := by
  obtain ⟨fd, F, hm⟩ := A.f_need_log
  exact defG_of hm F (F.bindsN fun _ _ _ _ _ _ us hl => match us, hl with | [_, _], _ => rfl) sc_need_log rfl (by decide) (fun E => d_need_log A.bi ((ok_is_entry A).mono (by decide))  (A.x_NoLog _ _ _ _ _) E) (fun _ _ _ h => h)
theorem sc_take : FnScope ["talk", "entry"] ["talk", "entry"] (defScope s_take) := ⟨rfl, rfl, rfl, by decide +kernel, rfl, by decide +kernel, by decide +kernel⟩
theorem ok_take (A : Ax K mg) : DefK P w K mg base 4 "take" fs_take := by
  obtain ⟨fd, F, hm⟩ := A.f_take
  exact defK_of hm F (F.bindsN fun _ _ _ _ _ _ us hl => match us, hl with | [_, _], _ => rfl) sc_take rfl (by decide) (fun E => d_take A.bi A.tk ((ok_Talk_come A).mono (by decide)) ((ok_Talk_look A).mono (by decide)) ((ok_Talk_do A).mono (by decide))   E) (fun _ _ _ h => h)
theorem sc_would_overlook : FnScope ["talk", "page", "entry", "since"] ["talk", "page", "entry"] (defScope s_would_overlook) := ⟨rfl, rfl, rfl, by decide +kernel, rfl, by decide +kernel, by decide +kernel⟩
theorem ok_would_overlook (A : Ax K mg) : DefK P w K mg base 2 "would_overlook" fs_would_overlook := by
  obtain ⟨fd, F, hm⟩ := A.f_would_overlook
  exact defK_of hm F (F.bindsN fun _ _ _ _ _ _ us hl => match us, hl with | [_, _, _], _ => rfl) sc_would_overlook rfl (by decide) (fun E => d_would_overlook A.bi A.tk ((ok_Talk_since A).mono (by decide)) ((ok_meets A).mono (by decide))   E) (fun _ _ _ h => h)
theorem sc_faults_in : FnScope ["book", "page", "checks", "log", "talk", "places", "place", "entry", "overlooked", "told"] ["book", "page", "checks", "log"] (defScope s_faults_in) := ⟨rfl, rfl, rfl, by decide +kernel, rfl, by decide +kernel, by decide +kernel⟩
theorem ok_faults_in (A : Ax K mg) : DefG P w K mg base 6 "faults_in" fs_faults_in := by
  obtain ⟨fd, F, hm⟩ := A.f_faults_in
  exact defG_of hm F (F.bindsN fun _ _ _ _ _ _ us hl => match us, hl with | [_, _, _, _], _ => rfl) sc_faults_in rfl (by decide) (fun E => d_faults_in A.bi (mkT_of A (by decide)) A.tk ((ok_need_book A).mono (by decide)) ((ok_need_marks A).mono (by decide)) ((ok_need_log A).mono (by decide)) ((ok_would_overlook A).mono (by decide)) ((ok_take A).mono (by decide))   E) (fun _ _ _ h => h)
theorem sc__law_mixed : FnScope ["cell", "k", "number"] ["cell", "k"] (defScope s__law_mixed) := ⟨rfl, rfl, rfl, by decide +kernel, rfl, by decide +kernel, by decide +kernel⟩
theorem ok__law_mixed (A : Ax K mg) : DefG P w K mg base 1 "_law_mixed" fs__law_mixed := by
  obtain ⟨fd, F, hm⟩ := A.f__law_mixed
  exact defG_of hm F (F.bindsN fun _ _ _ _ _ _ us hl => match us, hl with | [_, _], _ => rfl) sc__law_mixed rfl (by decide) (fun E => d__law_mixed A.bi    E) (fun _ _ _ h => h)
theorem sc__law_pile : FnScope ["script", "k", "cell", "found", "j"] ["script", "k"] (defScope s__law_pile) := ⟨rfl, rfl, rfl, by decide +kernel, rfl, by decide +kernel, by decide +kernel⟩
theorem ok__law_pile (A : Ax K mg) : DefG P w K mg base 2 "_law_pile" fs__law_pile := by
  obtain ⟨fd, F, hm⟩ := A.f__law_pile
  exact defG_of hm F (F.bindsN fun _ _ _ _ _ _ us hl => match us, hl with | [_, _], _ => rfl) sc__law_pile rfl (by decide) (fun E => d__law_pile A.bi ((ok__law_mixed A).mono (by decide))   E) (fun _ _ _ h => h)
theorem sc__law_take : FnScope ["pile", "size", "digit"] ["pile", "size"] (defScope s__law_take) := ⟨rfl, rfl, rfl, by decide +kernel, rfl, by decide +kernel, by decide +kernel⟩
theorem ok__law_take (A : Ax K mg) : DefG P w K mg base 1 "_law_take" fs__law_take := by
  obtain ⟨fd, F, hm⟩ := A.f__law_take
  exact defG_of hm F (F.bindsN fun _ _ _ _ _ _ us hl => match us, hl with | [_, _], _ => rfl) sc__law_take rfl (by decide) (fun E => d__law_take A.bi    E) (fun _ _ _ h => h)
theorem sc__law_pick : FnScope ["pile", "some"] ["pile", "some"] (defScope s__law_pick) := ⟨rfl, rfl, rfl, by decide +kernel, rfl, by decide +kernel, by decide +kernel⟩
theorem ok__law_pick (A : Ax K mg) : DefG P w K mg base 2 "_law_pick" fs__law_pick := by
  obtain ⟨fd, F, hm⟩ := A.f__law_pick
  exact defG_of hm F (F.bindsN fun _ _ _ _ _ _ us hl => match us, hl with | [_, _], _ => rfl) sc__law_pick rfl (by decide) (fun E => d__law_pick A.bi ((ok__law_take A).mono (by decide))   E) (fun _ _ _ h => h)
theorem sc__law_book : FnScope ["pile", "most", "wide", "many", "count", "way", "kinds", "k", "who", "steps", "state", "gone", "kind"] ["pile", "most", "wide"] (defScope s__law_book) := ⟨rfl, rfl, rfl, by decide +kernel, rfl, by decide +kernel, by decide +kernel⟩
theorem ok__law_book (A : Ax K mg) : DefG P w K mg base 2 "_law_book" fs__law_book := by
  obtain ⟨fd, F, hm⟩ := A.f__law_book
  exact defG_of hm F (F.bindsN fun _ _ _ _ _ _ us hl => match us, hl with | [_, _, _], _ => rfl) sc__law_book rfl (by decide) (fun E => d__law_book A.bi ((ok__law_take A).mono (by decide))   E) (fun _ _ _ h => h)
theorem sc__law_deeds : FnScope ["book", "k"] ["book"] (defScope s__law_deeds) := ⟨rfl, rfl, rfl, by decide +kernel, rfl, by decide +kernel, by decide +kernel⟩
theorem ok__law_deeds (A : Ax K mg) : DefG P w K mg base 1 "_law_deeds" fs__law_deeds := by
  obtain ⟨fd, F, hm⟩ := A.f__law_deeds
  exact defG_of hm F (F.bindsN fun _ _ _ _ _ _ us hl => match us, hl with | [_], _ => rfl) sc__law_deeds rfl (by decide) (fun E => d__law_deeds A.bi    E) (fun _ _ _ h => h)
theorem sc__law_behind : FnScope ["book", "state", "kind"] ["book", "state", "kind"] (defScope s__law_behind) := ⟨rfl, rfl, rfl, by decide +kernel, rfl, by decide +kernel, by decide +kernel⟩
theorem ok__law_behind (A : Ax K mg) : DefG P w K mg base 1 "_law_behind" fs__law_behind := by
  obtain ⟨fd, F, hm⟩ := A.f__law_behind
  exact defG_of hm F (F.bindsN fun _ _ _ _ _ _ us hl => match us, hl with | [_, _, _], _ => rfl) sc__law_behind rfl (by decide) (fun E => d__law_behind A.bi    E) (fun _ _ _ h => h)
theorem sc__law_some : FnScope ["pile", "many", "k"] ["pile", "many"] (defScope s__law_some) := ⟨rfl, rfl, rfl, by decide +kernel, rfl, by decide +kernel, by decide +kernel⟩
theorem ok__law_some (A : Ax K mg) : DefG P w K mg base 2 "_law_some" fs__law_some := by
  obtain ⟨fd, F, hm⟩ := A.f__law_some
  exact defG_of hm F (F.bindsN fun _ _ _ _ _ _ us hl => match us, hl with | [_, _], _ => rfl) sc__law_some rfl (by decide) (fun E => d__law_some A.bi ((ok__law_take A).mono (by decide))   E) (fun _ _ _ h => h)
theorem sc__law_marks : FnScope ["pile", "book", "way", "found", "who", "steps", "some"] ["pile", "book", "way"] (defScope s__law_marks) := ⟨rfl, rfl, rfl, by decide +kernel, rfl, by decide +kernel, by decide +kernel⟩
theorem ok__law_marks (A : Ax K mg) : DefG P w K mg base 3 "_law_marks" fs__law_marks := by
  obtain ⟨fd, F, hm⟩ := A.f__law_marks
  exact defG_of hm F (F.bindsN fun _ _ _ _ _ _ us hl => match us, hl with | [_, _, _], _ => rfl) sc__law_marks rfl (by decide) (fun E => d__law_marks A.bi ((ok__law_some A).mono (by decide)) ((ok__law_take A).mono (by decide))   E) (fun _ _ _ h => h)
theorem sc__law_has : FnScope ["row", "some", "kind"] ["row", "some"] (defScope s__law_has) := ⟨rfl, rfl, rfl, by decide +kernel, rfl, by decide +kernel, by decide +kernel⟩
theorem ok__law_has (A : Ax K mg) : DefG P w K mg base 1 "_law_has" fs__law_has := by
  obtain ⟨fd, F, hm⟩ := A.f__law_has
  exact defG_of hm F (F.bindsN fun _ _ _ _ _ _ us hl => match us, hl with | [_, _], _ => rfl) sc__law_has rfl (by decide) (fun E => d__law_has A.bi    E) (fun _ _ _ h => h)
theorem sc__law_entry : FnScope ["pile", "book", "helpers", "way", "h", "outs", "k"] ["pile", "book", "helpers"] (defScope s__law_entry) := ⟨rfl, rfl, rfl, by decide +kernel, rfl, by decide +kernel, by decide +kernel⟩
theorem ok__law_entry (A : Ax K mg) : DefG P w K mg base 3 "_law_entry" fs__law_entry := by
  obtain ⟨fd, F, hm⟩ := A.f__law_entry
  exact defG_of hm F (F.bindsN fun _ _ _ _ _ _ us hl => match us, hl with | [_, _, _], _ => rfl) sc__law_entry rfl (by decide) (fun E => d__law_entry A.bi ((ok__law_take A).mono (by decide)) ((ok__law_pick A).mono (by decide)) ((ok__law_deeds A).mono (by decide))   E) (fun _ _ _ h => h)
theorem sc__law_read : FnScope ["book", "page", "checks", "log", "states", "row", "sights", "told", "faults", "place", "entry", "state", "helper", "d", "good", "since", "seen"] ["book", "page", "checks", "log"] (defScope s__law_read) := ⟨rfl, rfl, rfl, by decide +kernel, rfl, by decide +kernel, by decide +kernel⟩
theorem ok__law_read (A : Ax K mg) : DefG P w K mg base 2 "_law_read" fs__law_read := by
  obtain ⟨fd, F, hm⟩ := A.f__law_read
  exact defG_of hm F (F.bindsN fun _ _ _ _ _ _ us hl => match us, hl with | [_, _, _, _], _ => rfl) sc__law_read rfl (by decide) (fun E => d__law_read A.bi ((ok__law_behind A).mono (by decide)) ((ok__law_has A).mono (by decide))   E) (fun _ _ _ h => h)
theorem sc__law_log : FnScope ["pile", "book", "helpers", "turn"] ["pile", "book"] (defScope s__law_log) := ⟨rfl, rfl, rfl, by decide +kernel, rfl, by decide +kernel, by decide +kernel⟩
theorem ok__law_log (A : Ax K mg) : DefG P w K mg base 4 "_law_log" fs__law_log := by
  obtain ⟨fd, F, hm⟩ := A.f__law_log
  exact defG_of hm F (F.bindsN fun _ _ _ _ _ _ us hl => match us, hl with | [_, _], _ => rfl) sc__law_log rfl (by decide) (fun E => d__law_log A.bi ((ok__law_take A).mono (by decide)) ((ok__law_entry A).mono (by decide))   E) (fun _ _ _ h => h)
theorem sc__law_good : FnScope ["book", "page", "checks", "log", "kept", "due", "found"] ["book", "page", "checks", "log"] (defScope s__law_good) := ⟨rfl, rfl, rfl, by decide +kernel, rfl, by decide +kernel, by decide +kernel⟩
theorem ok__law_good (A : Ax K mg) : DefG P w K mg base 7 "_law_good" fs__law_good := by
  obtain ⟨fd, F, hm⟩ := A.f__law_good
  exact defG_of hm F (F.bindsN fun _ _ _ _ _ _ us hl => match us, hl with | [_, _, _, _], _ => rfl) sc__law_good rfl (by decide) (fun E => d__law_good A.bi ((ok__law_read A).mono (by decide)) ((ok_faults_in A).mono (by decide))   E) (fun _ _ _ h => h)
theorem sc_law : FnScope ["script", "k", "pile", "book", "none", "way", "page", "log", "checks", "one"] ["script"] (defScope s_law) := ⟨rfl, rfl, rfl, by decide +kernel, rfl, by decide +kernel, by decide +kernel⟩
theorem ok_law (A : Ax K mg) : DefG P w K mg base 8 "law" fs_law := by
  obtain ⟨fd, F, hm⟩ := A.f_law
  exact defG_of hm F (F.bindsN fun _ _ _ _ _ _ us hl => match us, hl with | [_], _ => rfl) sc_law rfl (by decide) (fun E => d_law A.bi ((ok__law_pile A).mono (by decide)) ((ok__law_book A).mono (by decide)) ((ok__law_marks A).mono (by decide)) ((ok__law_log A).mono (by decide)) ((ok__law_good A).mono (by decide)) ((ok_faults_in A).mono (by decide))   E) (fun _ _ _ h => h)
end
/-! ### the head -/
def dd__wall : He.DefD := ⟨("_wall", none), "_wall", "_wall", defArgs s__wall, defBody s__wall, defScope s__wall, [], []⟩
def dd_is_below : He.DefD := ⟨("is_below", none), "is_below", "is_below", defArgs s_is_below, defBody s_is_below, defScope s_is_below, [], []⟩
def dd_is_kind : He.DefD := ⟨("is_kind", none), "is_kind", "is_kind", defArgs s_is_kind, defBody s_is_kind, defScope s_is_kind, [], []⟩
def dd_is_book : He.DefD := ⟨("is_book", none), "is_book", "is_book", defArgs s_is_book, defBody s_is_book, defScope s_is_book, [], []⟩
def dd_need_book : He.DefD := ⟨("need_book", none), "need_book", "need_book", defArgs s_need_book, defBody s_need_book, defScope s_need_book, [], []⟩
def dd_is_number : He.DefD := ⟨("is_number", none), "is_number", "is_number", defArgs s_is_number, defBody s_is_number, defScope s_is_number, [], []⟩
def dd_is_out : He.DefD := ⟨("is_out", none), "is_out", "is_out", defArgs s_is_out, defBody s_is_out, defScope s_is_out, [], []⟩
def dd_is_deed : He.DefD := ⟨("is_deed", none), "is_deed", "is_deed", defArgs s_is_deed, defBody s_is_deed, defScope s_is_deed, [], []⟩
def dd_is_mark : He.DefD := ⟨("is_mark", none), "is_mark", "is_mark", defArgs s_is_mark, defBody s_is_mark, defScope s_is_mark, [], []⟩
def dd_is_marks_here : He.DefD := ⟨("is_marks_here", none), "is_marks_here", "is_marks_here", defArgs s_is_marks_here, defBody s_is_marks_here, defScope s_is_marks_here, [], []⟩
def dd_behind : He.DefD := ⟨("behind", none), "behind", "behind", defArgs s_behind, defBody s_behind, defScope s_behind, [], []⟩
def dd_need_marks : He.DefD := ⟨("need_marks", none), "need_marks", "need_marks", defArgs s_need_marks, defBody s_need_marks, defScope s_need_marks, [], []⟩
def dd_meets : He.DefD := ⟨("meets", none), "meets", "meets", defArgs s_meets, defBody s_meets, defScope s_meets, [], []⟩
def dd_Talk_come : He.DefD := ⟨("Talk", some "come"), "come", "Talk.come", defArgs s_Talk_come, defBody s_Talk_come, defScope s_Talk_come, [], []⟩
def dd_Talk_look : He.DefD := ⟨("Talk", some "look"), "look", "Talk.look", defArgs s_Talk_look, defBody s_Talk_look, defScope s_Talk_look, [], []⟩
def dd_Talk_sight : He.DefD := ⟨("Talk", some "sight"), "sight", "Talk.sight", defArgs s_Talk_sight, defBody s_Talk_sight, defScope s_Talk_sight, [], []⟩
def dd_Talk_since : He.DefD := ⟨("Talk", some "since"), "since", "Talk.since", defArgs s_Talk_since, defBody s_Talk_since, defScope s_Talk_since, [], []⟩
def dd_Talk_allows : He.DefD := ⟨("Talk", some "allows"), "allows", "Talk.allows", defArgs s_Talk_allows, defBody s_Talk_allows, defScope s_Talk_allows, [], []⟩
def dd_Talk_do : He.DefD := ⟨("Talk", some "do"), "do", "Talk.do", defArgs s_Talk_do, defBody s_Talk_do, defScope s_Talk_do, [], []⟩
def dd_is_helper : He.DefD := ⟨("is_helper", none), "is_helper", "is_helper", defArgs s_is_helper, defBody s_is_helper, defScope s_is_helper, [], []⟩
def dd_is_late : He.DefD := ⟨("is_late", none), "is_late", "is_late", defArgs s_is_late, defBody s_is_late, defScope s_is_late, [], []⟩
def dd_is_entry : He.DefD := ⟨("is_entry", none), "is_entry", "is_entry", defArgs s_is_entry, defBody s_is_entry, defScope s_is_entry, [], []⟩
def dd_need_log : He.DefD := ⟨("need_log", none), "need_log", "need_log", defArgs s_need_log, defBody s_need_log, defScope s_need_log, [], []⟩
def dd_take : He.DefD := ⟨("take", none), "take", "take", defArgs s_take, defBody s_take, defScope s_take, [], []⟩
def dd_would_overlook : He.DefD := ⟨("would_overlook", none), "would_overlook", "would_overlook", defArgs s_would_overlook, defBody s_would_overlook, defScope s_would_overlook, [], []⟩
def dd_faults_in : He.DefD := ⟨("faults_in", none), "faults_in", "faults_in", defArgs s_faults_in, defBody s_faults_in, defScope s_faults_in, [], []⟩
def dd__law_mixed : He.DefD := ⟨("_law_mixed", none), "_law_mixed", "_law_mixed", defArgs s__law_mixed, defBody s__law_mixed, defScope s__law_mixed, [], []⟩
def dd__law_pile : He.DefD := ⟨("_law_pile", none), "_law_pile", "_law_pile", defArgs s__law_pile, defBody s__law_pile, defScope s__law_pile, [], []⟩
def dd__law_take : He.DefD := ⟨("_law_take", none), "_law_take", "_law_take", defArgs s__law_take, defBody s__law_take, defScope s__law_take, [], []⟩
def dd__law_pick : He.DefD := ⟨("_law_pick", none), "_law_pick", "_law_pick", defArgs s__law_pick, defBody s__law_pick, defScope s__law_pick, [], []⟩
def dd__law_book : He.DefD := ⟨("_law_book", none), "_law_book", "_law_book", defArgs s__law_book, defBody s__law_book, defScope s__law_book, [], []⟩
def dd__law_deeds : He.DefD := ⟨("_law_deeds", none), "_law_deeds", "_law_deeds", defArgs s__law_deeds, defBody s__law_deeds, defScope s__law_deeds, [], []⟩
def dd__law_behind : He.DefD := ⟨("_law_behind", none), "_law_behind", "_law_behind", defArgs s__law_behind, defBody s__law_behind, defScope s__law_behind, [], []⟩
def dd__law_some : He.DefD := ⟨("_law_some", none), "_law_some", "_law_some", defArgs s__law_some, defBody s__law_some, defScope s__law_some, [], []⟩
def dd__law_marks : He.DefD := ⟨("_law_marks", none), "_law_marks", "_law_marks", defArgs s__law_marks, defBody s__law_marks, defScope s__law_marks, [], []⟩
def dd__law_has : He.DefD := ⟨("_law_has", none), "_law_has", "_law_has", defArgs s__law_has, defBody s__law_has, defScope s__law_has, [], []⟩
def dd__law_entry : He.DefD := ⟨("_law_entry", none), "_law_entry", "_law_entry", defArgs s__law_entry, defBody s__law_entry, defScope s__law_entry, [], []⟩
def dd__law_read : He.DefD := ⟨("_law_read", none), "_law_read", "_law_read", defArgs s__law_read, defBody s__law_read, defScope s__law_read, [], []⟩
def dd__law_log : He.DefD := ⟨("_law_log", none), "_law_log", "_law_log", defArgs s__law_log, defBody s__law_log, defScope s__law_log, [], []⟩
def dd__law_good : He.DefD := ⟨("_law_good", none), "_law_good", "_law_good", defArgs s__law_good, defBody s__law_good, defScope s__law_good, [], []⟩
def dd_law : He.DefD := ⟨("law", none), "law", "law", defArgs s_law, defBody s_law, defScope s_law, [], []⟩
def dd_Talk_init : He.DefD := ⟨("Talk", some "__init__"), "__init__", "Talk.__init__", defArgs s_Talk_init, defBody s_Talk_init, defScope s_Talk_init, [], []⟩
def hfn : List He.DefD := [dd__wall, dd_is_below, dd_is_kind, dd_is_book, dd_need_book, dd_is_number, dd_is_out, dd_is_deed, dd_is_mark, dd_is_marks_here, dd_behind, dd_need_marks, dd_meets, dd_Talk_come, dd_Talk_look, dd_Talk_sight, dd_Talk_since, dd_Talk_allows, dd_Talk_do, dd_is_helper, dd_is_late, dd_is_entry, dd_need_log, dd_take, dd_would_overlook, dd_faults_in, dd__law_mixed, dd__law_pile, dd__law_take, dd__law_pick, dd__law_book, dd__law_deeds, dd__law_behind, dd__law_some, dd__law_marks, dd__law_has, dd__law_entry, dd__law_read, dd__law_log, dd__law_good, dd_law, dd_Talk_init]
def hfa0 : List He.Fa := [.glo "_wall", .glo "is_below", .glo "is_kind", .glo "is_book", .glo "need_book", .glo "is_number", .glo "is_out", .glo "is_deed", .glo "is_mark", .glo "is_marks_here", .glo "behind", .glo "need_marks", .glo "meets", .glo "is_helper", .glo "is_late", .glo "is_entry", .glo "need_log", .glo "take", .glo "would_overlook", .glo "faults_in", .glo "_law_mixed", .glo "_law_pile", .glo "_law_take", .glo "_law_pick", .glo "_law_book", .glo "_law_deeds", .glo "_law_behind", .glo "_law_some", .glo "_law_marks", .glo "_law_has"]
def hfa1 : List He.Fa := [.glo "_law_entry", .glo "_law_read", .glo "_law_log", .glo "_law_good", .glo "law", .glo "Talk", .cls "Talk", .mkr "Talk", .noat "Talk" "book", .noat "Talk" "checks", .noat "Talk" "states", .noat "Talk" "happened", .noat "Talk" "moments", .meth "Talk" "come", .meth "Talk" "look", .meth "Talk" "sight", .meth "Talk" "since", .meth "Talk" "allows", .meth "Talk" "do", .int "HELPERS" 100, .int "LATEST" 1000, .int "MOST_KINDS" 10, .int "MOST_STATES" 10, .glo "NoBook", .exc "NoBook", .glo "NoLog", .exc "NoLog", .glo "NoMarks", .exc "NoMarks", .free "isinstance"]
def hfa2 : List He.Fa := [.free "int", .free "bool", .free "tuple", .free "list", .free "str", .free "len", .free "range", .free "all", .free "any", .free "sorted", .free "max", .free "min", .free "repr", .free "zip", .free "enumerate"]
def hfa : List He.Fa := hfa0 ++ hfa1 ++ hfa2
def hnm0 : List PySem.Str := [PySem.Str.ofString "_wall", PySem.Str.ofString "SightsError", PySem.Str.ofString "NoBook", PySem.Str.ofString "NoMarks", PySem.Str.ofString "NoLog", PySem.Str.ofString "MOST_STATES", PySem.Str.ofString "MOST_KINDS", PySem.Str.ofString "is_below", PySem.Str.ofString "is_kind", PySem.Str.ofString "is_book", PySem.Str.ofString "need_book", PySem.Str.ofString "is_number", PySem.Str.ofString "is_out", PySem.Str.ofString "is_deed", PySem.Str.ofString "is_mark", PySem.Str.ofString "is_marks_here", PySem.Str.ofString "behind", PySem.Str.ofString "need_marks", PySem.Str.ofString "meets", PySem.Str.ofString "Talk", PySem.Str.ofString "HELPERS", PySem.Str.ofString "LATEST", PySem.Str.ofString "is_helper", PySem.Str.ofString "is_late", PySem.Str.ofString "is_entry", PySem.Str.ofString "need_log", PySem.Str.ofString "take", PySem.Str.ofString "would_overlook", PySem.Str.ofString "faults_in", PySem.Str.ofString "_law_mixed", PySem.Str.ofString "_law_pile", PySem.Str.ofString "_law_take", PySem.Str.ofString "_law_pick", PySem.Str.ofString "_law_book", PySem.Str.ofString "_law_deeds"]
def hnm1 : List PySem.Str := [PySem.Str.ofString "_law_behind", PySem.Str.ofString "_law_some", PySem.Str.ofString "_law_marks", PySem.Str.ofString "_law_has", PySem.Str.ofString "_law_entry", PySem.Str.ofString "_law_read", PySem.Str.ofString "_law_log", PySem.Str.ofString "_law_good"]
def hnm : List PySem.Str := hnm0 ++ hnm1
abbrev hR : PySem.W.OpenRow := PySem.W.OpenLaw.row PySem.Challenge.rw_oldsights_k11_faults_in_logs
abbrev hk : PySem.W.Hook := He.hookD 5 hfa hfn
def hob (s : PySem.W.SharedT) : He.AlD := He.obsDG 5 hfa hfn (HandSHeadRun.getT s)
theorem hob_eq (s : PySem.W.SharedT) : hob s = hk.obs s.abs := He.obsDG_eq (HandSHeadRun.getT_eq s)
theorem hrun (w : World) : HandSHeadRun.RunEq hR (PySem.W.view hR.prog [48]) hk hob 20000 hnm w := by
  intro os
  kernel_rfl
theorem ax_of {K : PySem.W.Frag} {h : Heap} {mg : Str → Option Value} (X : K.In h) (G : h.Ns mainGlobals mg) (c : He.SaysD hfa hfn K) : Ax K mg where
  bi := ⟨He.free_ok X G (c.fact 59 (f := .free "isinstance") rfl), He.free_ok X G (c.fact 60 (f := .free "int") rfl), He.free_ok X G (c.fact 61 (f := .free "bool") rfl), He.free_ok X G (c.fact 62 (f := .free "tuple") rfl), He.free_ok X G (c.fact 63 (f := .free "list") rfl), He.free_ok X G (c.fact 64 (f := .free "str") rfl), He.free_ok X G (c.fact 65 (f := .free "len") rfl), He.free_ok X G (c.fact 66 (f := .free "range") rfl), He.free_ok X G (c.fact 67 (f := .free "all") rfl), He.free_ok X G (c.fact 68 (f := .free "any") rfl), He.free_ok X G (c.fact 69 (f := .free "sorted") rfl), He.free_ok X G (c.fact 70 (f := .free "max") rfl), He.free_ok X G (c.fact 71 (f := .free "min") rfl), He.free_ok X G (c.fact 72 (f := .free "repr") rfl), He.free_ok X G (c.fact 73 (f := .free "zip") rfl), He.free_ok X G (c.fact 74 (f := .free "enumerate") rfl)⟩
  c_HELPERS := He.int_ok X G (c.fact 49 (f := .int "HELPERS" 100) rfl)
  c_LATEST := He.int_ok X G (c.fact 50 (f := .int "LATEST" 1000) rfl)
  c_MOST_KINDS := He.int_ok X G (c.fact 51 (f := .int "MOST_KINDS" 10) rfl)
  c_MOST_STATES := He.int_ok X G (c.fact 52 (f := .int "MOST_STATES" 10) rfl)
  x_NoBook := by
    obtain ⟨e1, e2, e3, e4⟩ := He.exc_ok (c.fact 54 (f := .exc "NoBook") rfl)
    exact fun _ _ _ _ _ _ _ _ => ⟨_, _, _, _, _, He.glo_ok X G (c.fact 53 (f := .glo "NoBook") rfl), PySem.F.excBase_ValueError, e1, e2, e3, e4⟩
  x_NoLog := by
    obtain ⟨e1, e2, e3, e4⟩ := He.exc_ok (c.fact 56 (f := .exc "NoLog") rfl)
    exact fun _ _ _ _ _ _ _ _ => ⟨_, _, _, _, _, He.glo_ok X G (c.fact 55 (f := .glo "NoLog") rfl), PySem.F.excBase_ValueError, e1, e2, e3, e4⟩
  x_NoMarks := by
    obtain ⟨e1, e2, e3, e4⟩ := He.exc_ok (c.fact 58 (f := .exc "NoMarks") rfl)
    exact fun _ _ _ _ _ _ _ _ => ⟨_, _, _, _, _, He.glo_ok X G (c.fact 57 (f := .glo "NoMarks") rfl), PySem.F.excBase_ValueError, e1, e2, e3, e4⟩
  tk := ⟨He.cls_ok (c.fact 36 (f := .cls "Talk") rfl), He.noat_ok (c.fact 38 (f := .noat "Talk" "book") rfl), He.noat_ok (c.fact 39 (f := .noat "Talk" "checks") rfl), He.noat_ok (c.fact 40 (f := .noat "Talk" "states") rfl), He.noat_ok (c.fact 41 (f := .noat "Talk" "happened") rfl), He.noat_ok (c.fact 42 (f := .noat "Talk" "moments") rfl)⟩
  mkt := by
    obtain ⟨fd, F⟩ := c.def_ 41 (d := dd_Talk_init) rfl
    exact ⟨fd, F, He.mkr_ok (c.fact 37 (f := .mkr "Talk") rfl), He.glo_ok X G (c.fact 35 (f := .glo "Talk") rfl)⟩
  f__wall := by
    obtain ⟨fd, F⟩ := c.def_ 0 (d := dd__wall) rfl
    exact ⟨fd, F, He.glo_ok X G (c.fact 0 (f := .glo "_wall") rfl)⟩
  f_is_below := by
    obtain ⟨fd, F⟩ := c.def_ 1 (d := dd_is_below) rfl
    exact ⟨fd, F, He.glo_ok X G (c.fact 1 (f := .glo "is_below") rfl)⟩
  f_is_kind := by
    obtain ⟨fd, F⟩ := c.def_ 2 (d := dd_is_kind) rfl
    exact ⟨fd, F, He.glo_ok X G (c.fact 2 (f := .glo "is_kind") rfl)⟩
  f_is_book := by
    obtain ⟨fd, F⟩ := c.def_ 3 (d := dd_is_book) rfl
    exact ⟨fd, F, He.glo_ok X G (c.fact 3 (f := .glo "is_book") rfl)⟩
  f_need_book := by
    obtain ⟨fd, F⟩ := c.def_ 4 (d := dd_need_book) rfl
    exact ⟨fd, F, He.glo_ok X G (c.fact 4 (f := .glo "need_book") rfl)⟩
  f_is_number := by
    obtain ⟨fd, F⟩ := c.def_ 5 (d := dd_is_number) rfl
    exact ⟨fd, F, He.glo_ok X G (c.fact 5 (f := .glo "is_number") rfl)⟩
  f_is_out := by
    obtain ⟨fd, F⟩ := c.def_ 6 (d := dd_is_out) rfl
    exact ⟨fd, F, He.glo_ok X G (c.fact 6 (f := .glo "is_out") rfl)⟩
  f_is_deed := by
    obtain ⟨fd, F⟩ := c.def_ 7 (d := dd_is_deed) rfl
    exact ⟨fd, F, He.glo_ok X G (c.fact 7 (f := .glo "is_deed") rfl)⟩
  f_is_mark := by
    obtain ⟨fd, F⟩ := c.def_ 8 (d := dd_is_mark) rfl
    exact ⟨fd, F, He.glo_ok X G (c.fact 8 (f := .glo "is_mark") rfl)⟩
  f_is_marks_here := by
    obtain ⟨fd, F⟩ := c.def_ 9 (d := dd_is_marks_here) rfl
    exact ⟨fd, F, He.glo_ok X G (c.fact 9 (f := .glo "is_marks_here") rfl)⟩
  f_behind := by
    obtain ⟨fd, F⟩ := c.def_ 10 (d := dd_behind) rfl
    exact ⟨fd, F, He.glo_ok X G (c.fact 10 (f := .glo "behind") rfl)⟩
  f_need_marks := by
    obtain ⟨fd, F⟩ := c.def_ 11 (d := dd_need_marks) rfl
    exact ⟨fd, F, He.glo_ok X G (c.fact 11 (f := .glo "need_marks") rfl)⟩
  f_meets := by
    obtain ⟨fd, F⟩ := c.def_ 12 (d := dd_meets) rfl
    exact ⟨fd, F, He.glo_ok X G (c.fact 12 (f := .glo "meets") rfl)⟩
  f_Talk_come := by
    obtain ⟨fd, F⟩ := c.def_ 13 (d := dd_Talk_come) rfl
    exact ⟨fd, F, He.meth_ok (c.fact 43 (f := .meth "Talk" "come") rfl)⟩
  f_Talk_look := by
    obtain ⟨fd, F⟩ := c.def_ 14 (d := dd_Talk_look) rfl
    exact ⟨fd, F, He.meth_ok (c.fact 44 (f := .meth "Talk" "look") rfl)⟩
  f_Talk_sight := by
    obtain ⟨fd, F⟩ := c.def_ 15 (d := dd_Talk_sight) rfl
    exact ⟨fd, F, He.meth_ok (c.fact 45 (f := .meth "Talk" "sight") rfl)⟩
  f_Talk_since := by
    obtain ⟨fd, F⟩ := c.def_ 16 (d := dd_Talk_since) rfl
    exact ⟨fd, F, He.meth_ok (c.fact 46 (f := .meth "Talk" "since") rfl)⟩
  f_Talk_allows := by
    obtain ⟨fd, F⟩ := c.def_ 17 (d := dd_Talk_allows) rfl
    exact ⟨fd, F, He.meth_ok (c.fact 47 (f := .meth "Talk" "allows") rfl)⟩
  f_Talk_do := by
    obtain ⟨fd, F⟩ := c.def_ 18 (d := dd_Talk_do) rfl
    exact ⟨fd, F, He.meth_ok (c.fact 48 (f := .meth "Talk" "do") rfl)⟩
  f_is_helper := by
    obtain ⟨fd, F⟩ := c.def_ 19 (d := dd_is_helper) rfl
    exact ⟨fd, F, He.glo_ok X G (c.fact 13 (f := .glo "is_helper") rfl)⟩
  f_is_late := by
    obtain ⟨fd, F⟩ := c.def_ 20 (d := dd_is_late) rfl
    exact ⟨fd, F, He.glo_ok X G (c.fact 14 (f := .glo "is_late") rfl)⟩
  f_is_entry := by
    obtain ⟨fd, F⟩ := c.def_ 21 (d := dd_is_entry) rfl
    exact ⟨fd, F, He.glo_ok X G (c.fact 15 (f := .glo "is_entry") rfl)⟩
  f_need_log := by
    obtain ⟨fd, F⟩ := c.def_ 22 (d := dd_need_log) rfl
    exact ⟨fd, F, He.glo_ok X G (c.fact 16 (f := .glo "need_log") rfl)⟩
  f_take := by
    obtain ⟨fd, F⟩ := c.def_ 23 (d := dd_take) rfl
    exact ⟨fd, F, He.glo_ok X G (c.fact 17 (f := .glo "take") rfl)⟩
  f_would_overlook := by
    obtain ⟨fd, F⟩ := c.def_ 24 (d := dd_would_overlook) rfl
    exact ⟨fd, F, He.glo_ok X G (c.fact 18 (f := .glo "would_overlook") rfl)⟩
  f_faults_in := by
    obtain ⟨fd, F⟩ := c.def_ 25 (d := dd_faults_in) rfl
    exact ⟨fd, F, He.glo_ok X G (c.fact 19 (f := .glo "faults_in") rfl)⟩
  f__law_mixed := by
    obtain ⟨fd, F⟩ := c.def_ 26 (d := dd__law_mixed) rfl
    exact ⟨fd, F, He.glo_ok X G (c.fact 20 (f := .glo "_law_mixed") rfl)⟩
  f__law_pile := by
    obtain ⟨fd, F⟩ := c.def_ 27 (d := dd__law_pile) rfl
    exact ⟨fd, F, He.glo_ok X G (c.fact 21 (f := .glo "_law_pile") rfl)⟩
  f__law_take := by
    obtain ⟨fd, F⟩ := c.def_ 28 (d := dd__law_take) rfl
    exact ⟨fd, F, He.glo_ok X G (c.fact 22 (f := .glo "_law_take") rfl)⟩
  f__law_pick := by
    obtain ⟨fd, F⟩ := c.def_ 29 (d := dd__law_pick) rfl
    exact ⟨fd, F, He.glo_ok X G (c.fact 23 (f := .glo "_law_pick") rfl)⟩
  f__law_book := by
    obtain ⟨fd, F⟩ := c.def_ 30 (d := dd__law_book) rfl
    exact ⟨fd, F, He.glo_ok X G (c.fact 24 (f := .glo "_law_book") rfl)⟩
  f__law_deeds := by
    obtain ⟨fd, F⟩ := c.def_ 31 (d := dd__law_deeds) rfl
    exact ⟨fd, F, He.glo_ok X G (c.fact 25 (f := .glo "_law_deeds") rfl)⟩
  f__law_behind := by
    obtain ⟨fd, F⟩ := c.def_ 32 (d := dd__law_behind) rfl
    exact ⟨fd, F, He.glo_ok X G (c.fact 26 (f := .glo "_law_behind") rfl)⟩
  f__law_some := by
    obtain ⟨fd, F⟩ := c.def_ 33 (d := dd__law_some) rfl
    exact ⟨fd, F, He.glo_ok X G (c.fact 27 (f := .glo "_law_some") rfl)⟩
  f__law_marks := by
    obtain ⟨fd, F⟩ := c.def_ 34 (d := dd__law_marks) rfl
    exact ⟨fd, F, He.glo_ok X G (c.fact 28 (f := .glo "_law_marks") rfl)⟩
  f__law_has := by
    obtain ⟨fd, F⟩ := c.def_ 35 (d := dd__law_has) rfl
    exact ⟨fd, F, He.glo_ok X G (c.fact 29 (f := .glo "_law_has") rfl)⟩
  f__law_entry := by
    obtain ⟨fd, F⟩ := c.def_ 36 (d := dd__law_entry) rfl
    exact ⟨fd, F, He.glo_ok X G (c.fact 30 (f := .glo "_law_entry") rfl)⟩
  f__law_read := by
    obtain ⟨fd, F⟩ := c.def_ 37 (d := dd__law_read) rfl
    exact ⟨fd, F, He.glo_ok X G (c.fact 31 (f := .glo "_law_read") rfl)⟩
  f__law_log := by
    obtain ⟨fd, F⟩ := c.def_ 38 (d := dd__law_log) rfl
    exact ⟨fd, F, He.glo_ok X G (c.fact 32 (f := .glo "_law_log") rfl)⟩
  f__law_good := by
    obtain ⟨fd, F⟩ := c.def_ 39 (d := dd__law_good) rfl
    exact ⟨fd, F, He.glo_ok X G (c.fact 33 (f := .glo "_law_good") rfl)⟩
  f_law := by
    obtain ⟨fd, F⟩ := c.def_ 40 (d := dd_law) rfl
    exact ⟨fd, F, He.glo_ok X G (c.fact 34 (f := .glo "law") rfl)⟩
theorem want_of {K : PySem.W.Frag} {mg : Str → Option Value} {H : Hp} {a : Addr} {ns : List Int} (only : Only H) (hS : SqL K H a (ns.map V.int)) (m : ∃ n, fs_law.f [scrD ns] = some (.ret (.bool true) n)) :
    spOf K mg fs_law [.ref a] H (fun v _ => v = .bl true) fun _ _ _ => False := by
  obtain ⟨n, m⟩ := m
  refine ⟨rfl, fun b => b = a ∧ ∃ o, H b = some o, [scrD ns], fun b z => z.2, ?_, ?_⟩
  · refine .cons (.scr ?_ (DatL.ofInts ns)) .nil
    rcases hS with (hS | ⟨o, hS⟩) | hS
    · rcases only a with z | ⟨o, xs, z⟩
      · rw [hS] at z; cases z
      · rw [hS] at z; cases z
    · exact .inl ⟨⟨rfl, _, hS⟩, o, hS⟩
    · exact .inr hS
  · rw [m]
    exact fun v P' H' be => Dat.blOf be.val
theorem hfacts {P : Program} {w : World} {K : PySem.W.Frag} {h : Heap} {mg : Str → Option Value} {f : Addr} (X : K.In h) (G : h.Ns mainGlobals mg) (hfx : mg ("law" : Str) = some (.ref f)) (c : He.SaysD hfa hfn K) :
    ∃ fd : FuncData, (∀ (s : Shared) (v : Value), BindsTo s fd ⟨[v], []⟩ [("script", v)]) ∧ ∀ base : Heap, K.In base → base.Ns mainGlobals mg → FnG P w K mg base 8 f fd ["script"] (spOf K mg fs_law) := by
  have A := ax_of X G c
  obtain ⟨fd, F, hm⟩ := A.f_law
  have e := hfx.symm.trans hm
  cases e
  have b := FunD.bindsA (ps := ["script"]) F fun _ _ _ _ _ _ us hl => match us, hl with | [_], _ => rfl
  exact ⟨fd, fun s v => b s [v] rfl, fun base _ _ => def_of F sc_law rfl (by decide) (fun E => d_law A.bi ((ok__law_pile A).mono (by decide)) ((ok__law_book A).mono (by decide)) ((ok__law_marks A).mono (by decide)) ((ok__law_log A).mono (by decide)) ((ok__law_good A).mono (by decide)) ((ok_faults_in A).mono (by decide))   E) (fun _ _ _ h => h)⟩
end Od
open PySem PySem.W PySem.Calls PyProof.Rows
theorem PySem.Challenge.cw_oldsights_k11_faults_in_logs_holds : PySem.Challenge.rw_oldsights_k11_faults_in_logs.Holds := by
  w_on; o_law
  refine HandSHeadRun.head_any (r := OpenLaw.row PySem.Challenge.rw_oldsights_k11_faults_in_logs) (q := view (OpenLaw.row PySem.Challenge.rw_oldsights_k11_faults_in_logs).prog [48]) (H := Od.hk) (ob := Od.hob) (M := 20000) (loose := Od.hnm) (d := HandSHeadRun.topDef (OpenLaw.row PySem.Challenge.rw_oldsights_k11_faults_in_logs).prog 48) (kwd := []) Od.hob_eq
    (by kernel_rfl) (fun s => by kernel_rfl) Od.hrun (by kernel_rfl) (by kernel_rfl) (by kernel_rfl) (by rfl) (by first | assumption | decide +kernel) (by decide +kernel) ⟨rfl, rfl, rfl, rfl, rfl, by decide +kernel⟩ ?hw ?hc
  case hw => w_witness2
  case hc =>
    refine Od.walk_ofG (l := PySem.Challenge.rw_oldsights_k11_faults_in_logs) (n := 63) (k := 8) (x := "script") rfl (by decide) (by kernel_rfl) ⟨rfl, by decide, by decide⟩ ?F
    intro w mg fx h Y G hmg0
    obtain ⟨K, KX, c⟩ := Y
    have hmg : mg ("law" : PySem.Str) = some (.ref fx) := by
      have e : (HandSHeadRun.topDef (OpenLaw.row PySem.Challenge.rw_oldsights_k11_faults_in_logs).prog 48).name = ("law" : PySem.Str) := by kernel_rfl
      rw [← e]
      exact hmg0
    obtain ⟨fd, hb, hF⟩ := Od.hfacts (P := (PySem.Challenge.rw_oldsights_k11_faults_in_logs).prog) (w := w) KX G hmg c
    exact ⟨K, fd, Od.spOf K mg Od.fs_law, KX, hb, fun H a ns hl ho hS => Od.want_of ho hS (Od.math ns hl), hF⟩
