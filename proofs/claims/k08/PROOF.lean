import PyProof.Rows.All
import Wide.All
import OpenK.AllK
import Wide.FinOn
import HandS.ForMost
import HandS.IsInst
import HandS.Style
import HandS.RevRange
import HandS.OwnEq
import HandS.SortKw
import KE.DataMinMax
import HandS.Deep
import HandS.Zip
import HandS.ListItems
import KE.KDictZip
import HandS.ForExc
import HandS.ExcInit
import HandS.ExcField
import HandS.ExcIs
import HandS.WordsExc
import KE.KExcIs
import HandS.IterVal
import HandS.OwnIter
import PyProof.WalksMore
import PyProof.CollectIter
import HandS.TryMany
import HandS.Lambda
import HandS.TupLe
import HandS.EndTab
import KE.KNestM
import HandS.Star
import HandS.ClsMeth
import KE.KLam
import PySem.Challenge.RW_waystaken_k08_books
set_option Elab.async false
set_option linter.all false
set_option maxRecDepth 100000
set_option maxHeartbeats 4000000
namespace Wv
open PySem PySem.Spec PyProof.Rows L2
/-! ### a def of the module, called by its name -/
section
variable {P : Program} {w : World} {K : PySem.W.Frag} {mg : Str → Option Value} {base : Heap}
structure DefOk (P : Program) (w : World) (K : PySem.W.Frag) (mg : Str → Option Value) (base : Heap) (k : Nat) (x : Str) (ps : List Str) (sp : Sp) : Prop where
  ex : ∃ (f : Addr) (fd : FuncData), mg x = some (.ref f) ∧ PySem.W.keepIn K (.ref f) = true ∧ Binds K fd ps [] ∧ FnOk P w K mg base CX0 k f fd ps sp
theorem DefOk.mono {j k : Nat} {x : Str} {ps : List Str} {sp : Sp} (h : DefOk P w K mg base j x ps sp) (q : j ≤ k) : DefOk P w K mg base k x ps sp := by
  obtain ⟨f, fd, a, b, c, d⟩ := h.ex
  exact ⟨f, fd, a, b, c, d.mono q⟩
/-- the def as the top left it -/
structure Here (K : PySem.W.Frag) (mg : Str → Option Value) (x : Str) (st : Stmt) (ps : List Str) : Prop where
  ex : ∃ (f : Addr) (fd : FuncData), Fun K x x st f fd ∧ mg x = some (.ref f) ∧ Binds K fd ps []
theorem Here.ok {x : Str} {st : Stmt} {N ps : List Str} {k : Nat} {sp : Sp} (h : Here K mg x st ps) (S : FnScope N ps (defScope st)) (len : ∀ vs H Q E, sp vs H Q E → vs.length = ps.length)
    (hbody : ∀ (f : Addr) (cdv : Value) (A : Around) (outer : List Env) (s : Shared) (H : Hp) (vs : List V) (Q : VK) (E : XK), Room k (A.deeper (envOfC x (defScope st) s.heap.objs.size f cdv)) → sp vs H Q E →
      ∃ t, PSs (cxOf CX0 P w K mg base N x (defScope st) f cdv A outer s H E).nox (defBody st) t ∧ t { nx := fun _ H' => Q .non H', rt := Q } (start N vs) H) : DefOk P w K mg base (k + 1) x ps sp := by
  obtain ⟨f, fd, F, m, b⟩ := h.ex
  exact ⟨f, fd, m, F.kp, b, F.ok S len fun cdv A outer s H vs Q E hr q => hbody f cdv A outer s H vs Q E hr q⟩
end
section
variable {X : Cx} {k : Nat} {x : Str} {ps : List Str} {sp : Sp} {e : Expr} {es : List Expr} {t : TA} {p pos : Pos}
theorem pe_callD (G : DefOk X.prog X.w X.K X.mg X.base k x ps sp) (hr : Room k X.A) (hg : Gl X x) (ha : PA X (e :: es) t) (hdb : (x == ("__debug__" : Str)) = false := by decide)
    (he : starEach (e :: es) X.env = (false, eval e X.env) :: starEach es X.env := by rfl) (hpl : (backTo pos (starEach es X.env)).any (·.1) = false := by rfl) :
    PE X (.Call (.Name x p) (e :: es) [] pos) (tCall sp [] E0 t) := by
  obtain ⟨f, fd, m, kp, b, F⟩ := G.ex
  exact pe_call F hr hg m kp b .nil pass0 ha hdb he hpl
theorem pe_callD0 (G : DefOk X.prog X.w X.K X.mg X.base k x ps sp) (hr : Room k X.A) (hg : Gl X x) (hdb : (x == ("__debug__" : Str)) = false := by decide) :
    PE X (.Call (.Name x p) [] [] pos) (tCall sp [] E0 tNil) := by
  obtain ⟨f, fd, m, kp, b, F⟩ := G.ex
  exact pe_call0 F hr hg m kp b .nil pass0 hdb
end
/-! ### a class of the module, made by its name -/
structure ClsOk (P : Program) (w : World) (K : PySem.W.Frag) (mg : Str → Option Value) (base : Heap) (k : Nat) (x : Str) (C : Addr) (ps : List Str) (sp : Sp) : Prop where
  ex : ∃ (f : Addr) (fd : FuncData), mg x = some (.ref C) ∧ Mk K C f ∧ Binds K fd ps [] ∧ FnOk P w K mg base CX0 k f fd ps sp
section
variable {X : Cx} {k : Nat} {x : Str} {C : Addr} {ps : List Str} {sp : Sp} {e : Expr} {es : List Expr} {t : TA} {p pos : Pos}
theorem pe_makeD (G : ClsOk X.prog X.w X.K X.mg X.base k x C ps sp) (hr : Room (k + 1) X.A) (hg : Gl X x) (ha : PA X (e :: es) t) (hdb : (x == ("__debug__" : Str)) = false := by decide)
    (he : starEach (e :: es) X.env = (false, eval e X.env) :: starEach es X.env := by rfl) (hpl : (backTo pos (starEach es X.env)).any (·.1) = false := by rfl) :
    PE X (.Call (.Name x p) (e :: es) [] pos) (tMake C sp [] E0 t) := by
  obtain ⟨f, fd, m, M, b, F⟩ := G.ex
  exact pe_make M F hr hg m b .nil pass0 ha hdb he hpl
theorem pe_makeD0 (G : ClsOk X.prog X.w X.K X.mg X.base k x C ps sp) (hr : Room (k + 1) X.A) (hg : Gl X x) (hdb : (x == ("__debug__" : Str)) = false := by decide) :
    PE X (.Call (.Name x p) [] [] pos) (tMake C sp [] E0 tNil) := by
  obtain ⟨f, fd, m, M, b, F⟩ := G.ex
  exact pe_make0 M F hr hg m b .nil pass0 hdb
end
/-! ### a class of the module without an __init__ of its own -/
structure Mk0 (K : PySem.W.Frag) (mg : Str → Option Value) (x : Str) (C : Addr) : Prop where
  m : mg x = some (.ref C)
  makes : PySem.W.makesIn K C = true
  init : PySem.W.findIn K (.ref C) "__init__" = some (some (.builtin "object.__init__"))
  kp : PySem.W.keepIn K (.ref C) = true
def tMake0 (C : Addr) : TE := fun _ H Q => ∀ x dx, H x = none → H dx = none → dx ≠ x → Q (.ref x) (upd (upd H dx (.own x)) x (.ins C dx []))
section
open PySem.W
variable {X : Cx} {C : Addr} {x : Str} {p pos : Pos}
theorem make0_raw {prog : Program} {w : World} {A : Around} {K : Frag} {C : Addr} {s : Shared} {R : Result → Shared → Prop} (X : K.In s.heap) (hm : makesIn K C = true) (hi : findIn K (.ref C) "__init__" = some (some (.builtin "object.__init__")))
    (z : R (.ok (.ret (.ref (s.heap.objs.size + 1)))) { s with heap := (s.heap.push emptyDict).push (instObj C s.heap.objs.size) }) :
    codeAny (model prog w) A (.call (.ref C) ⟨[], []⟩) R s := by
  obtain ⟨hh, g, d, t, os⟩ := s
  have Y := makes_of (M := model prog w) X hm
  have hx : ((hh.push emptyDict).push (instObj C hh.objs.size)).get? (hh.objs.size + 1) = some (instObj C hh.objs.size) := by heap_get
  refine make_core Y (looks_findIn X hi) (fun self => Looks.of_pure (oi_bind self)) (.inr ⟨rfl, rfl⟩) ?_
  have t1 : Looks (model prog w) ((hh.push emptyDict).push (instObj C hh.objs.size)) (typeOf (.ref (hh.objs.size + 1))) (.ref C) := (Looks.ld hx).andThen .now
  have t2 : Looks (model prog w) ((hh.push emptyDict).push (instObj C hh.objs.size)) (isInstance (.ref (hh.objs.size + 1)) (.type "object")) true := t1.andThen (Y.top.keeps fun b o e => Heap.get?_push_of_some _ (Heap.get?_push_of_some _ e))
  refine codeAny_call_builtin oi_plain entry_oi (@check_slot (model prog w) _ _ _ "object.__init__" "object" "__init__" (.ref (hh.objs.size + 1)) [] [] _ oi_kind oi_split t2 (oi_args (.ref (hh.objs.size + 1))) ?_)
  rw [oi_run]
  exact wpAny_pure (And.intro rfl z)
theorem pe_make00 (M : Mk0 X.K X.mg x C) (hg : Gl X x) (hdb : (x == ("__debug__" : Str)) = false := by decide) : PE X (.Call (.Name x p) [] [] pos) (tMake0 C) := by
  refine ⟨fun pins s σ H Q I h => ?_⟩
  refine wpAny_Call_Name_kw (ld_glob I hg M.m ?_ hdb)
  refine PySem.W.callWith_K0 I.kIn M.kp ?_
  have hq := h (s.heap.objs.size + 1) s.heap.objs.size (I.hok.fresh (Nat.le_succ _)) (I.hok.fresh (Nat.le_refl _)) (Nat.ne_of_lt (Nat.lt_succ_self _))
  have I2 := Inv.made (C := C) I
  exact wpAny_call (make0_raw I.kIn M.makes M.init ⟨.ref _, _, I2, rfl, hq⟩)
end
/-- the built-ins' names that the text leaves as they are -/
structure Bs (mg : Str → Option Value) : Prop where
  len : mg "len" = none
  int : mg "int" = none
  list : mg "list" = none
  range : mg "range" = none
  min : mg "min" = none
  tuple : mg "tuple" = none
  isinstance : mg "isinstance" = none
  zip : mg "zip" = none
  sum : mg "sum" = none
  max : mg "max" = none
  reversed : mg "reversed" = none
  enumerate : mg "enumerate" = none
  repr : mg "repr" = none
/-! ### a part of a reading by itself: what it gives, whatever follows -/
theorem withQ {E : TE} {σ : L2.St} {H : Hp} {Q : VK} (C : V → Hp → Prop) (h : ∀ Q' : VK, (∀ x H', C x H' → Q' x H') → E σ H Q') (g : ∀ x H', C x H' → Q x H') : E σ H Q := h Q g
theorem withB {E : TT} {σ : L2.St} {H : Hp} {Q : Bool → Hp → Prop} (C : Bool → Hp → Prop) (h : ∀ Q' : Bool → Hp → Prop, (∀ x H', C x H' → Q' x H') → E σ H Q') (g : ∀ x H', C x H' → Q x H') : E σ H Q := h Q g
theorem gset {i : Nat} {x : V} {σ : L2.St} {H : Hp} {Q : L2.St → Hp → Prop} (h : Q (σ.set i (some x)) H) : gName i x σ H Q := h
theorem st_seq {t u : TS} {D : Ends} {σ : L2.St} {H : Hp} (h : t { D with nx := u D } σ H) : tSeq t u D σ H := h
theorem st_asg {te : TE} {g : TG} {D : Ends} {σ : L2.St} {H : Hp} (h : te σ H fun x H1 => g x σ H1 D.nx) : tAsg te g D σ H := h
theorem st_next {D : Ends} {σ : L2.St} {H : Hp} (h : D.nx σ H) : tNext D σ H := h
theorem st_drop {te : TE} {D : Ends} {σ : L2.St} {H : Hp} (h : te σ H fun _ H1 => D.nx σ H1) : tDrop te D σ H := h
theorem st_ret {te : TE} {D : Ends} {σ : L2.St} {H : Hp} (h : te σ H D.rt) : tRet te D σ H := h
/-! ### heaps: all but the dicts stay -/
/-- the dict of a pen -/
def Penny (kvs : List (Key × V)) : Prop := ∃ v r, kvs = (.inr (Str.ofString "cells"), v) :: r
/-- one dict of a pen instead of another -/
def Moves (o : HO) (u : Option HO) : Prop := ∃ kvs kvs', (o = .dK kvs ∧ u = some (.dK kvs')) ∧ Penny kvs ∧ Penny kvs'
def Keep (H H' : Hp) : Prop := ∀ b o, H b = some o → H' b = some o ∨ Moves o (H' b)
theorem Keep.refl (H : Hp) : Keep H H := fun _ _ h => .inl h
theorem Keep.trans {H H1 H2 : Hp} (a : Keep H H1) (b : Keep H1 H2) : Keep H H2 := fun c o h => by
  rcases a c o h with h1 | ⟨k1, k2, ⟨e, h1⟩, p1, p2⟩
  · exact b c o h1
  · rcases b c _ h1 with h2 | ⟨k3, k4, ⟨e2, h2⟩, _, p4⟩
    · exact .inr ⟨k1, k2, ⟨e, h2⟩, p1, p2⟩
    · exact .inr ⟨k1, k4, ⟨e, h2⟩, p1, p4⟩
theorem Keep.of {H H' : Hp} (s : Same H H') : Keep H H' := fun b o h => .inl (s b o h)
theorem Keep.at_ {H H' : Hp} {a : Addr} {o : HO} (k : Keep H H') (h : H a = some o) (n : ∀ kvs, o ≠ .dK kvs) : H' a = some o := by
  rcases k a o h with q | ⟨k1, _, ⟨e, _⟩, _⟩
  · exact q
  · exact absurd e (n k1)
theorem Keep.dict {H H' : Hp} {a : Addr} {kvs : List (Key × V)} (k : Keep H H') (h : H a = some (.dK kvs)) (n : ¬ Penny kvs) : H' a = some (.dK kvs) := by
  rcases k a _ h with q | ⟨k1, _, ⟨e, _⟩, p, _⟩
  · exact q
  · cases e
    exact absurd p n
theorem Keep.free {H H' : Hp} {a : Addr} (k : Keep H H') (h : H' a = none) : H a = none := by
  cases e : H a with
  | none => rfl
  | some o =>
    rcases k a o e with q | ⟨_, _, ⟨_, q⟩, _⟩
    · rw [h] at q; cases q
    · rw [h] at q; cases q
theorem Keep.lst {H H' : Hp} {a : Addr} {xs : List V} (k : Keep H H') (h : H a = some (.lst xs)) : H' a = some (.lst xs) := k.at_ h (fun _ z => by cases z)
theorem Keep.tup {H H' : Hp} {a : Addr} {xs : List V} (k : Keep H H') (h : H a = some (.tup xs)) : H' a = some (.tup xs) := k.at_ h (fun _ z => by cases z)
theorem Keep.ins {H H' : Hp} {a C d : Addr} {fs : List (Str × V)} (k : Keep H H') (h : H a = some (.ins C d fs)) : H' a = some (.ins C d fs) := k.at_ h (fun _ z => by cases z)
theorem Keep.seq {K : PySem.W.Frag} {H H' : Hp} {a : Addr} {xs : List V} (k : Keep H H') (h : SqL K H a xs) : SqL K H' a xs := by
  rcases h with (h | ⟨o, h⟩) | h
  · exact .inl (.inl (k.lst h))
  · exact .inl (.inr ⟨o, k.at_ h (fun _ z => by cases z)⟩)
  · exact .inr h
theorem Keep.seqT {K : PySem.W.Frag} {H H' : Hp} {a : Addr} {xs : List V} (k : Keep H H') (h : SqT K H a xs) : SqT K H' a xs := by
  rcases h with (h | ⟨o, h⟩) | h
  · exact .inl (.inl (k.tup h))
  · exact .inl (.inr ⟨o, k.at_ h (fun _ z => by cases z)⟩)
  · exact .inr h
theorem Same.new {H : Hp} {p : Addr} (h : H p = none) (o : HO) : Same H (upd H p o) := fun b u q => by rw [upd_ne (ne_of_none q h)]; exact q
theorem Same.put {H H' : Hp} {p : Addr} (h : H p = none) (s : Same H H') (o : HO) : Same H (upd H' p o) := fun b u q => by rw [upd_ne (ne_of_none q h)]; exact s b u q
theorem Keep.new {H : Hp} {p : Addr} (h : H p = none) (o : HO) : Keep H (upd H p o) := .of (Same.new h o)
theorem Keep.put {H H' : Hp} {p : Addr} (h : H p = none) (s : Keep H H') (o : HO) : Keep H (upd H' p o) := fun b u q => by rw [upd_ne (ne_of_none q h)]; exact s b u q
/-! ### what is new in a heap -/
def newer (H H' : Hp) : Hp := fun a => if (H a).isSome = true then none else H' a
theorem newer_at {H H' : Hp} {a : Addr} (h : H a = none) : newer H H' a = H' a := by unfold newer; rw [h]; exact if_neg (by decide)
theorem newer_old {H H' : Hp} {a : Addr} {o : HO} (h : H a = some o) : newer H H' a = none := by unfold newer; rw [h]; exact if_pos rfl
theorem newer_of {H H' : Hp} {a : Addr} {o : HO} (h : newer H H' a = some o) : H a = none ∧ H' a = some o := by
  cases e : H a with
  | none => rw [newer_at e] at h; exact ⟨rfl, h⟩
  | some u => rw [newer_old e] at h; cases h
theorem newer_le {H H' : Hp} : Keep (newer H H') H' := fun _ _ h => .inl (newer_of h).2
theorem newer_up {H H' H'' : Hp} (k : Keep H' H'') : Keep (newer H H') (newer H H'') := fun a o h => by
  obtain ⟨h1, h2⟩ := newer_of h
  rw [newer_at h1]
  exact k a o h2
theorem newer_down {H H0 H' : Hp} (k : Keep H H0) : Keep (newer H0 H') (newer H H') := fun a o h => by
  obtain ⟨h1, h2⟩ := newer_of h
  rw [newer_at (k.free h1)]
  exact .inl h2
def Sub (H H' : Hp) : Prop := ∀ a, H' a = none → H a = none
theorem Keep.sub {H H' : Hp} (k : Keep H H') : Sub H H' := fun _ h => k.free h
theorem Sub.trans {H H1 H2 : Hp} (a : Sub H H1) (b : Sub H1 H2) : Sub H H2 := fun c h => a c (b c h)
theorem Sub.put {H H' : Hp} (s : Sub H H') (p : Addr) (o : HO) : Sub H (upd H' p o) := fun a h => by
  by_cases e : a = p
  · rw [e, upd_same] at h; cases h
  · rw [upd_ne e] at h; exact s a h
theorem newer_sub {H H0 H' : Hp} (k : Sub H H0) : Keep (newer H0 H') (newer H H') := fun a o h => by
  obtain ⟨h1, h2⟩ := newer_of h
  rw [newer_at (k a h1)]
  exact .inl h2
theorem newer_put {H H' : Hp} {p : Addr} {o u : HO} (h : H p = some u) : newer H (upd H' p o) = newer H H' := by
  funext a
  unfold newer
  by_cases e : a = p
  · rw [e, h]; rfl
  · rw [upd_ne e]
/-! ### arithmetic -/
theorem fmod_in (x : Int) {m : Int} (h : 0 < m) : 0 ≤ x.fmod m ∧ x.fmod m < m := ⟨Int.fmod_nonneg_of_pos x h, Int.fmod_lt_of_pos x h⟩
theorem small' {n : Nat} (h : n ≤ 1000000) : n < sizeLine := Nat.lt_of_le_of_lt h (by decide)
theorem atI_of {xs : List V} {i : Int} (h0 : 0 ≤ i) (h1 : i < (xs.length : Int)) : ∃ v, xs[i.toNat]? = some v ∧ atI xs i = some v := by
  have hk : i.toNat < xs.length := by omega
  have ek : i = ((i.toNat : Nat) : Int) := by omega
  refine ⟨xs[i.toNat], List.getElem?_eq_getElem hk, ?_⟩
  have q : atI xs ((i.toNat : Nat) : Int) = some xs[i.toNat] := atI_nat (List.getElem?_eq_getElem hk)
  rw [← ek] at q
  exact q
/-- a text of one sign -/
abbrev sg (c : Nat) : Str := ⟨#[c]⟩
/-- a text by its codes -/
def tx (l : List Nat) : Str := ⟨l.toArray⟩
end Wv
local macro_rules | `(tactic| walk_at "rd") => `(tactic| (repeat (first | refine ⟨_, rfl, ?_⟩ | refine ⟨_, _, rfl, rfl, ?_⟩ | refine ⟨rfl, ?_⟩ | refine Or.inl ⟨_, rfl, ?_⟩)))
local macro_rules | `(tactic| walk_at "nx") => `(tactic| (repeat (first | (with_reducible refine Wv.gset ?_) | (with_reducible refine Wv.st_seq ?_) | (with_reducible refine Wv.st_asg ?_) | (with_reducible refine Wv.st_next ?_) | (with_reducible refine Wv.st_drop ?_) | (with_reducible refine Wv.st_ret ?_))))
/-! max([..], default=d) of integers -/
namespace Wv
open PySem PySem.Spec PyProof.Rows L2
/-- the greatest one, d if there is none -/
def mx (d : Int) : List Int → Int
  | [] => d
  | n :: r => r.foldl max n
def rMaxDef (K : PySem.W.Frag) : List V → List V → Hp → VK → Prop := fun xs zs H Q => ∃ (a : Addr) (ns : List Int) (d : Int), xs = [.ref a] ∧ zs = [.int d] ∧ SqL K H a (ns.map V.int) ∧
  Q (.int (mx d ns)) H
theorem ints_alike (ns : List Int) : PySem.W.AlikeAll (ns.map PyData.int) := by
  refine ⟨fun x hx y hy => ?_, fun x hx => ?_⟩
  · obtain ⟨n, _, rfl⟩ := List.mem_map.mp hx
    obtain ⟨m, _, rfl⟩ := List.mem_map.mp hy
    rfl
  · obtain ⟨n, _, rfl⟩ := List.mem_map.mp hx
    intro e; cases e
theorem depth_ints0 : ∀ ns : List Int, PyData.depthAll (ns.map PyData.int) = 0
  | [] => rfl
  | n :: r => by
    rw [List.map_cons, PyData.depthAll, depth_ints0 r]; rfl
theorem cr_maxDef {X : Cx} (hc : X.calm = true) (hu : X.A.units + 1 < cLine) : CallRK X (.builtin "max") [Str.ofString "default"] (rMaxDef X.K) := by
  intro pins s σ H vs zs us ws Q I r1 r2 h
  obtain ⟨a, ns, d, rfl, rfl, hs, q⟩ := h
  obtain ⟨its, rv, hl, _⟩ := I.list hs
  rw [Vals.ref1 r1]
  obtain ⟨u, rfl, ru⟩ := r2.one
  obtain ⟨t, rfl⟩ := ru
  have hi := rv.ints
  obtain ⟨as, hr⟩ : ∃ as, ReadsAll s.heap its (ns.map PyData.int) as := ⟨_, hi.reads s.heap⟩
  show wpAny _ X.A (call (.builtin "max") [.ref a] [(Str.ofString "default", .int d t)]) _ _ s
  refine PySem.W.max_list_default (xs := ns.map PyData.int) (I.ok.hd hc) hl.isList (by simpa using hr) (ints_alike ns) (by rw [depth_ints0]; exact hu) (fun e h' tk hk => ?_) (fun y ys i v h' tk bs e hv hr' hk => ?_)
  · have : ns = [] := by simpa using e
    subst this
    exact ⟨.int d, H, I.kept hk, ⟨_, rfl⟩, q⟩
  · cases ns with
    | nil => cases e
    | cons n r =>
      rw [List.map_cons] at e
      obtain ⟨rfl, rfl⟩ := List.cons.inj e
      rw [PySem.W.maxD_ints] at hr'
      cases hr'
      exact ⟨.int _, H, I.kept hk, ⟨_, rfl⟩, q⟩
/-- an attribute, where K is told by itself -/
theorem pe_fldK {X : Cx} {K : PySem.W.Frag} {e : Expr} {f : Str} {pos : Pos} {ta : TE} (q : X.K = K) (he : PE X e ta) (hb : attributeBase e f X.env (eval e X.env) = eval e X.env) : PE X (.Attribute e f pos) (tFld K ta f) := q ▸ pe_fld he hb
end Wv
namespace Wv
open PySem PySem.Spec PyProof.Rows L2
/-! ### ways as data -/
inductive W where
  | nothing | one | letter (c : Nat) | call (x : Str)
  | row (ws : List W) | choice (ws : List W)
  | again (w : W) | maybe (w : W) | ahead (w : W) | unless (w : W)
mutual
def W.size : W → Nat
  | .nothing => 1 | .one => 1 | .letter _ => 1 | .call _ => 1
  | .row ws => 1 + W.sizes ws | .choice ws => 1 + W.sizes ws
  | .again w => 1 + W.size w | .maybe w => 1 + W.size w | .ahead w => 1 + W.size w | .unless w => 1 + W.size w
def W.sizes : List W → Nat
  | [] => 0
  | w :: ws => W.size w + W.sizes ws
end
theorem W.size_pos (w : W) : 0 < w.size := by cases w <;> simp only [W.size] <;> omega
theorem W.sizes_app : ∀ (a b : List W), W.sizes (a ++ b) = W.sizes a + W.sizes b
  | [], b => by simp [W.sizes]
  | x :: a, b => by simp only [List.cons_append, W.sizes, W.sizes_app a b]; omega
theorem W.sizes_len : ∀ ws : List W, ws.length ≤ W.sizes ws
  | [] => Nat.le_refl _
  | w :: ws => by
    have h := W.sizes_len ws
    have h2 := w.size_pos
    simp only [List.length_cons, W.sizes]
    omega
-- letters among these codes, rows and choices of two or more, no calls
mutual
def W.wf (z : List Nat) : W → Prop
  | .nothing => True | .one => True | .letter c => c ∈ z | .call _ => False
  | .row ws => 2 ≤ ws.length ∧ W.wfs z ws | .choice ws => 2 ≤ ws.length ∧ W.wfs z ws
  | .again w => W.wf z w | .maybe w => W.wf z w | .ahead w => W.wf z w | .unless w => W.wf z w
def W.wfs (z : List Nat) : List W → Prop
  | [] => True
  | w :: ws => W.wf z w ∧ W.wfs z ws
end
theorem W.wfs_app (z : List Nat) : ∀ (a b : List W), W.wfs z (a ++ b) ↔ W.wfs z a ∧ W.wfs z b
  | [], b => by simp [W.wfs]
  | x :: a, b => by simp only [List.cons_append, W.wfs, W.wfs_app z a b, and_assoc]
mutual

def W.data : W → PyData
  | .nothing => .tuple [.str (Str.ofString "nothing")]
  | .one => .tuple [.str (Str.ofString "one")]
  | .letter c => .tuple [.str (Str.ofString "letter"), .str (sg c)]
  | .call x => .tuple [.str (Str.ofString "call"), .str x]
  | .row ws => .tuple [.str (Str.ofString "row"), .list (W.datas ws)]
  | .choice ws => .tuple [.str (Str.ofString "choice"), .list (W.datas ws)]
  | .again w => .tuple [.str (Str.ofString "again"), W.data w]
  | .maybe w => .tuple [.str (Str.ofString "maybe"), W.data w]
  | .ahead w => .tuple [.str (Str.ofString "ahead"), W.data w]
  | .unless w => .tuple [.str (Str.ofString "unless"), W.data w]
def W.datas : List W → List PyData
  | [] => []
  | w :: ws => W.data w :: W.datas ws
end
mutual
theorem W.depth_data : ∀ w : W, (W.data w).depth ≤ 2 * w.size
  | .nothing => by simp only [W.data, W.size, PyData.depth, PyData.depthAll]; omega
  | .one => by simp only [W.data, W.size, PyData.depth, PyData.depthAll]; omega
  | .letter c => by simp only [W.data, W.size, PyData.depth, PyData.depthAll]; omega
  | .call x => by simp only [W.data, W.size, PyData.depth, PyData.depthAll]; omega
  | .row ws => by
    have h := W.depth_datas ws
    simp only [W.data, W.size, PyData.depth, PyData.depthAll]; omega
  | .choice ws => by
    have h := W.depth_datas ws
    simp only [W.data, W.size, PyData.depth, PyData.depthAll]; omega
  | .again w => by
    have h := W.depth_data w
    simp only [W.data, W.size, PyData.depth, PyData.depthAll]; omega
  | .maybe w => by
    have h := W.depth_data w
    simp only [W.data, W.size, PyData.depth, PyData.depthAll]; omega
  | .ahead w => by
    have h := W.depth_data w
    simp only [W.data, W.size, PyData.depth, PyData.depthAll]; omega
  | .unless w => by
    have h := W.depth_data w
    simp only [W.data, W.size, PyData.depth, PyData.depthAll]; omega
theorem W.depth_datas : ∀ ws : List W, PyData.depthAll (W.datas ws) ≤ 2 * W.sizes ws
  | [] => by simp [W.datas, PyData.depthAll]
  | w :: ws => by
    have h := W.depth_data w
    have h2 := W.depth_datas ws
    simp only [W.datas, W.sizes, PyData.depthAll]; omega
end
def W.tag : W → Str
  | .nothing => Str.ofString "nothing"
  | .one => Str.ofString "one"
  | .again _ => Str.ofString "again"
  | .maybe _ => Str.ofString "maybe"
  | .ahead _ => Str.ofString "ahead"
  | .unless _ => Str.ofString "unless"
  | .letter _ => Str.ofString "letter"
  | .call _ => Str.ofString "call"
  | .row _ => Str.ofString "row"
  | .choice _ => Str.ofString "choice"
mutual
def WayAt (H : Hp) : V → W → Prop
  | v, .nothing => ∃ a, v = .ref a ∧ H a = some (.tup [.str (Str.ofString "nothing")])
  | v, .one => ∃ a, v = .ref a ∧ H a = some (.tup [.str (Str.ofString "one")])
  | v, .letter c => ∃ a, v = .ref a ∧ H a = some (.tup [.str (Str.ofString "letter"), .str (sg c)])
  | v, .call x => ∃ a, v = .ref a ∧ H a = some (.tup [.str (Str.ofString "call"), .str x])
  | v, .row ws => ∃ a l vs, v = .ref a ∧ H a = some (.tup [.str (Str.ofString "row"), .ref l]) ∧ H l = some (.lst vs) ∧ WaysAt H vs ws
  | v, .choice ws => ∃ a l vs, v = .ref a ∧ H a = some (.tup [.str (Str.ofString "choice"), .ref l]) ∧ H l = some (.lst vs) ∧ WaysAt H vs ws
  | v, .again w => ∃ a u, v = .ref a ∧ H a = some (.tup [.str (Str.ofString "again"), u]) ∧ WayAt H u w
  | v, .maybe w => ∃ a u, v = .ref a ∧ H a = some (.tup [.str (Str.ofString "maybe"), u]) ∧ WayAt H u w
  | v, .ahead w => ∃ a u, v = .ref a ∧ H a = some (.tup [.str (Str.ofString "ahead"), u]) ∧ WayAt H u w
  | v, .unless w => ∃ a u, v = .ref a ∧ H a = some (.tup [.str (Str.ofString "unless"), u]) ∧ WayAt H u w
def WaysAt (H : Hp) : List V → List W → Prop
  | vs, [] => vs = []
  | vs, w :: ws => ∃ u us, vs = u :: us ∧ WayAt H u w ∧ WaysAt H us ws
end
theorem WaysAt.len {H : Hp} : ∀ (ws : List W) (vs : List V), WaysAt H vs ws → vs.length = ws.length
  | [], vs, h => by rw [show vs = [] from h]; rfl
  | w :: ws, vs, ⟨u, us, e, _, h⟩ => by rw [e, List.length_cons, List.length_cons, WaysAt.len ws us h]
theorem WaysAt.app {H : Hp} : ∀ (ws : List W) (vs : List V) {us : List V} {xs : List W}, WaysAt H vs ws → WaysAt H us xs → WaysAt H (vs ++ us) (ws ++ xs)
  | [], vs, us, xs, h, h2 => by rw [show vs = [] from h]; exact h2
  | w :: ws, vs, us, xs, ⟨u, r, e, hu, h⟩, h2 => by rw [e]; exact ⟨u, r ++ us, rfl, hu, WaysAt.app ws r h h2⟩
theorem WaysAt.at_ {H : Hp} : ∀ (ws : List W) (vs : List V) (i : Nat) (w : W), WaysAt H vs ws → ws[i]? = some w → ∃ v, vs[i]? = some v ∧ WayAt H v w
  | [], vs, i, w, h, e => by simp at e
  | x :: ws, vs, 0, w, ⟨u, us, ev, hu, h⟩, e => by
    have q : x = w := by simpa using e
    subst q
    exact ⟨u, by rw [ev]; rfl, hu⟩
  | x :: ws, vs, i + 1, w, ⟨u, us, ev, hu, h⟩, e => by
    obtain ⟨v, h1, h2⟩ := WaysAt.at_ ws us i w h (by simpa using e)
    exact ⟨v, by rw [ev]; simpa using h1, h2⟩
mutual
theorem WayAt.keep {H H' : Hp} (k : Keep H H') : ∀ (w : W) (v : V), WayAt H v w → WayAt H' v w
  | .nothing, v, ⟨a, e, h⟩ => ⟨a, e, k.tup h⟩
  | .one, v, ⟨a, e, h⟩ => ⟨a, e, k.tup h⟩
  | .letter _, v, ⟨a, e, h⟩ => ⟨a, e, k.tup h⟩
  | .call _, v, ⟨a, e, h⟩ => ⟨a, e, k.tup h⟩
  | .row ws, v, ⟨a, l, vs, e, h, h2, h3⟩ => ⟨a, l, vs, e, k.tup h, k.lst h2, WaysAt.keep k ws vs h3⟩
  | .choice ws, v, ⟨a, l, vs, e, h, h2, h3⟩ => ⟨a, l, vs, e, k.tup h, k.lst h2, WaysAt.keep k ws vs h3⟩
  | .again w, v, ⟨a, u, e, h, h2⟩ => ⟨a, u, e, k.tup h, WayAt.keep k w u h2⟩
  | .maybe w, v, ⟨a, u, e, h, h2⟩ => ⟨a, u, e, k.tup h, WayAt.keep k w u h2⟩
  | .ahead w, v, ⟨a, u, e, h, h2⟩ => ⟨a, u, e, k.tup h, WayAt.keep k w u h2⟩
  | .unless w, v, ⟨a, u, e, h, h2⟩ => ⟨a, u, e, k.tup h, WayAt.keep k w u h2⟩
theorem WaysAt.keep {H H' : Hp} (k : Keep H H') : ∀ (ws : List W) (vs : List V), WaysAt H vs ws → WaysAt H' vs ws
  | [], _, h => h
  | w :: ws, vs, ⟨u, us, e, h, h2⟩ => ⟨u, us, e, WayAt.keep k w u h, WaysAt.keep k ws us h2⟩
end
mutual
theorem WayAt.dp {K : PySem.W.Frag} {H : Hp} : ∀ (w : W) (v : V), WayAt H v w → Dp K H v (W.data w)
  | .nothing, v, ⟨a, e, h⟩ => by rw [e]; exact .tup (SqT.of h) (.cons (.str _) .nil)
  | .one, v, ⟨a, e, h⟩ => by rw [e]; exact .tup (SqT.of h) (.cons (.str _) .nil)
  | .letter _, v, ⟨a, e, h⟩ => by rw [e]; exact .tup (SqT.of h) (.cons (.str _) (.cons (.str _) .nil))
  | .call _, v, ⟨a, e, h⟩ => by rw [e]; exact .tup (SqT.of h) (.cons (.str _) (.cons (.str _) .nil))
  | .row ws, v, ⟨a, l, vs, e, h, h2, h3⟩ => by rw [e]; exact .tup (SqT.of h) (.cons (.str _) (.cons (.lst (SqL.of h2) (WaysAt.dp ws vs h3)) .nil))
  | .choice ws, v, ⟨a, l, vs, e, h, h2, h3⟩ => by rw [e]; exact .tup (SqT.of h) (.cons (.str _) (.cons (.lst (SqL.of h2) (WaysAt.dp ws vs h3)) .nil))
  | .again w, v, ⟨a, u, e, h, h2⟩ => by rw [e]; exact .tup (SqT.of h) (.cons (.str _) (.cons (WayAt.dp w u h2) .nil))
  | .maybe w, v, ⟨a, u, e, h, h2⟩ => by rw [e]; exact .tup (SqT.of h) (.cons (.str _) (.cons (WayAt.dp w u h2) .nil))
  | .ahead w, v, ⟨a, u, e, h, h2⟩ => by rw [e]; exact .tup (SqT.of h) (.cons (.str _) (.cons (WayAt.dp w u h2) .nil))
  | .unless w, v, ⟨a, u, e, h, h2⟩ => by rw [e]; exact .tup (SqT.of h) (.cons (.str _) (.cons (WayAt.dp w u h2) .nil))
theorem WaysAt.dp {K : PySem.W.Frag} {H : Hp} : ∀ (ws : List W) (vs : List V), WaysAt H vs ws → DpAll K H vs (W.datas ws)
  | [], vs, h => by rw [show vs = [] from h]; exact .nil
  | w :: ws, vs, ⟨u, us, e, h, h2⟩ => by rw [e]; exact .cons (WayAt.dp w u h) (WaysAt.dp ws us h2)
end
-- letters that are letters
abbrev Az (z : List Nat) : Prop := ∀ c ∈ z, 97 ≤ c ∧ c ≤ 122
theorem strOk_sg {c : Nat} (h : c ≤ 122) : PyData.strOk (sg c) = true := by
  show (#[c] : Array Nat).all (fun x => decide (x < 0x110000)) = true
  simp
  omega
mutual
theorem W.lay {z : List Nat} (hz : Az z) : ∀ w : W, w.wf z → (W.data w).canLay0 = true
  | .nothing, _ => by decide +kernel
  | .one, _ => by decide +kernel
  | .letter c, h => by
    have q := strOk_sg (hz c h).2
    simp only [W.data, PyData.canLay0, PyData.canLayAll0, q, Bool.and_true, Bool.and_eq_true, and_true]
    decide +kernel
  | .call x, h => by cases h
  | .row ws, h => by
    have q := W.lays hz ws h.2
    simp only [W.data, PyData.canLay0, PyData.canLayAll0, q, Bool.and_true, Bool.and_eq_true, and_true]
    decide +kernel
  | .choice ws, h => by
    have q := W.lays hz ws h.2
    simp only [W.data, PyData.canLay0, PyData.canLayAll0, q, Bool.and_true, Bool.and_eq_true, and_true]
    decide +kernel
  | .again w, h => by
    have q := W.lay hz w h
    simp only [W.data, PyData.canLay0, PyData.canLayAll0, q, Bool.and_true, Bool.and_eq_true, and_true]
    decide +kernel
  | .maybe w, h => by
    have q := W.lay hz w h
    simp only [W.data, PyData.canLay0, PyData.canLayAll0, q, Bool.and_true, Bool.and_eq_true, and_true]
    decide +kernel
  | .ahead w, h => by
    have q := W.lay hz w h
    simp only [W.data, PyData.canLay0, PyData.canLayAll0, q, Bool.and_true, Bool.and_eq_true, and_true]
    decide +kernel
  | .unless w, h => by
    have q := W.lay hz w h
    simp only [W.data, PyData.canLay0, PyData.canLayAll0, q, Bool.and_true, Bool.and_eq_true, and_true]
    decide +kernel
theorem W.lays {z : List Nat} (hz : Az z) : ∀ ws : List W, W.wfs z ws → PyData.canLayAll0 (W.datas ws) = true
  | [], _ => rfl
  | w :: ws, h => by
    simp only [W.datas, PyData.canLayAll0, W.lay hz w h.1, W.lays hz ws h.2, Bool.and_self]
end
theorem W.shaped_list {z : List Nat} (hz : Az z) {ws : List W} (h : W.wfs z ws) (hs : W.sizes ws ≤ 31) : SeqAt.shaped (.list (W.datas ws)) = true := by
  unfold SeqAt.shaped
  have d := W.depth_datas ws
  rw [Bool.and_eq_true]
  refine ⟨W.lays hz ws h, decide_eq_true ?_⟩
  simp only [PyData.depth]
  omega
theorem datas_empty (ws : List W) : (W.datas ws).isEmpty = ws.isEmpty := by cases ws <;> rfl
end Wv
namespace Wv
open PySem PySem.Spec PyProof.Rows L2
def top (i : Nat) : Stmt := PySem.Challenge.pw_waystaken_k08_books.main.body.getD i (.Pass ⟨0, 0, 0, 0⟩)
/-! ### the source of draws: what holds of it, whatever it draws -/
abbrev kC : Key := .inr (Str.ofString "cells")
abbrev kA : Key := .inr (Str.ofString "at")
abbrev kL : Key := .inr (Str.ofString "left")
def penF (l : Addr) (a b : Int) : List (Key × V) := [(kC, .ref l), (kA, .int a), (kL, .int b)]
theorem k12 : ¬ (kC = kA) := by decide
theorem k13 : ¬ (kC = kL) := by decide
theorem k23 : ¬ (kA = kL) := by decide
theorem k32 : ¬ (kL = kA) := by decide
theorem pen_cells (l : Addr) (a b : Int) : valV (penF l a b) kC = some (.ref l) := by
  unfold penF; rw [valV_pos rfl]
theorem pen_at (l : Addr) (a b : Int) : valV (penF l a b) kA = some (.int a) := by
  unfold penF; rw [valV_neg k12, valV_pos rfl]
theorem pen_left (l : Addr) (a b : Int) : valV (penF l a b) kL = some (.int b) := by
  unfold penF; rw [valV_neg k13, valV_neg k23, valV_pos rfl]
theorem put_at (l : Addr) (a b c : Int) : putK (penF l a b) kA (.int c) = penF l c b := by
  unfold putK
  rw [valV_any, pen_at, if_pos (show (some (V.int a)).isSome = true from rfl)]
  have h1 := k12; have h2 := k32
  unfold penF
  rw [List.map_cons, List.map_cons, List.map_cons, List.map_nil, if_neg h1, if_pos rfl, if_neg h2]
theorem put_left (l : Addr) (a b c : Int) : putK (penF l a b) kL (.int c) = penF l a c := by
  unfold putK
  rw [valV_any, pen_left, if_pos (show (some (V.int b)).isSome = true from rfl)]
  have h1 := k13; have h2 := k23
  unfold penF
  rw [List.map_cons, List.map_cons, List.map_cons, List.map_nil, if_neg h1, if_neg h2, if_pos rfl]
theorem get_cells {H : Hp} {p l : Addr} {a b : Int} (h : H p = some (.dK (penF l a b))) : DGet H p (.str "cells") (some (.ref l)) := by
  rw [← pen_cells l a b]; exact DGet.k (k := kC) h
theorem get_at {H : Hp} {p l : Addr} {a b : Int} (h : H p = some (.dK (penF l a b))) : DGet H p (.str "at") (some (.int a)) := by
  rw [← pen_at l a b]; exact DGet.k (k := kA) h
theorem get_left {H : Hp} {p l : Addr} {a b : Int} (h : H p = some (.dK (penF l a b))) : DGet H p (.str "left") (some (.int b)) := by
  rw [← pen_left l a b]; exact DGet.k (k := kL) h
theorem dput_at {H : Hp} {p l : Addr} {a b : Int} (c : Int) (h : H p = some (.dK (penF l a b))) : DPut H p (.str "at") (.int c) (upd H p (.dK (penF l c b))) := by
  rw [← put_at l a b c]; exact DPut.k (k := kA) h (by show 3 < sizeLine; decide)
theorem dput_left {H : Hp} {p l : Addr} {a b : Int} (c : Int) (h : H p = some (.dK (penF l a b))) : DPut H p (.str "left") (.int c) (upd H p (.dK (penF l a c))) := by
  rw [← put_left l a b c]; exact DPut.k (k := kL) h (by show 3 < sizeLine; decide)
/-- a pen: its dict, the list of its cells -/
structure Pen where
  d : Addr
  l : Addr
/-- the pen p, of which at most n draws have been made -/
structure PenAt (K : PySem.W.Frag) (H : Hp) (p : Pen) (n : Nat) : Prop where
  ex : ∃ (a b : Int) (cs : List Int), H p.d = some (.dK (penF p.l a b)) ∧ SqL K H p.l (cs.map V.int) ∧ cs.length ≤ 63 ∧ 0 ≤ a ∧ a ≤ (n : Int)
theorem PenAt.same {K : PySem.W.Frag} {H H' : Hp} {p : Pen} {n : Nat} (h : PenAt K H p n) (s : Same H H') : PenAt K H' p n := by
  obtain ⟨a, b, cs, h1, h2, h3, h4⟩ := h.ex
  exact ⟨a, b, cs, s _ _ h1, s.seq h2, h3, h4⟩
theorem PenAt.mono {K : PySem.W.Frag} {H : Hp} {p : Pen} {n m : Nat} (h : PenAt K H p n) (q : n ≤ m) : PenAt K H p m := by
  obtain ⟨a, b, cs, h1, h2, h3, h4, h5⟩ := h.ex
  exact ⟨a, b, cs, h1, h2, h3, h4, by omega⟩
theorem Keep.pen {H : Hp} {p l : Addr} {a b a' b' : Int} (h : H p = some (.dK (penF l a b))) : Keep H (upd H p (.dK (penF l a' b'))) := fun c o e => by
  by_cases z : c = p
  · rw [z, h] at e
    exact .inr ⟨_, _, ⟨(Option.some.inj e).symm, by rw [z]; exact upd_same⟩, ⟨_, _, rfl⟩, ⟨_, _, rfl⟩⟩
  · rw [upd_ne z]; exact .inl e
theorem PenAt.mk' {K : PySem.W.Frag} {H : Hp} {p : Pen} {a b a' b' : Int} {cs : List Int} {n : Nat} (h : H p.d = some (.dK (penF p.l a b))) (hs : SqL K H p.l (cs.map V.int)) (hl : cs.length ≤ 63) (h0 : 0 ≤ a') (h1 : a' ≤ (n : Int)) :
    PenAt K (upd H p.d (.dK (penF p.l a' b'))) p n := ⟨a', b', cs, upd_same, (Keep.pen h).seq hs, hl, h0, h1⟩
/-- a list that was new is written -/
theorem PenAt.put {K : PySem.W.Frag} {H H' : Hp} {p : Pen} {n m : Nat} {q : Addr} {xs ys : List V} (h0 : PenAt K H p m) (hq : H q = none) (h : PenAt K H' p n) (k : Keep H H') (e : H' q = some (.lst xs)) : PenAt K (upd H' q (.lst ys)) p n := by
  obtain ⟨_, _, cs, _, h2, h3, _⟩ := h0.ex
  obtain ⟨a, b, _, h1, _, _, h4, h5⟩ := h.ex
  have hpq : p.d ≠ q := ne_of h1 e (by intro z; cases z)
  exact ⟨a, b, cs, by rw [upd_ne hpq]; exact h1, (Keep.put hq k _).seq h2, h3, h4, h5⟩
/-! ### their promises -/
def LIM : Nat := 1000000000000
def spPen (K : PySem.W.Frag) : Sp := fun vs H Q _ => ∃ (a : Addr) (ns : List Int), vs = [.ref a] ∧ SqL K H a (ns.map V.int) ∧ ns.length ≤ 63 ∧ ∀ (p : Pen) (H' : Hp), Same H H' → PenAt K H' p 0 → Q (.ref p.d) H'
def spDraw (K : PySem.W.Frag) : Sp := fun vs H Q _ => ∃ (p : Pen) (m : Int) (n : Nat), vs = [.ref p.d, .int m] ∧ PenAt K H p n ∧ n < LIM ∧ 0 < m ∧ m < 1073741824 ∧
  ∀ (d : Int) (H' : Hp), 0 ≤ d → d < m → Keep H H' → PenAt K H' p (n + 1) → Q (.int d) H'
def spPick (K : PySem.W.Frag) : Sp := fun vs H Q _ => ∃ (p : Pen) (y : V) (n : Nat), vs = [.ref p.d, y] ∧ PenAt K H p n ∧ n < LIM ∧
  ((∃ (q : Addr) (xs : List V), y = .ref q ∧ SqL K H q xs ∧ 0 < xs.length ∧ xs.length ≤ 1000 ∧ ∀ (v : V) (H' : Hp), v ∈ xs → Keep H H' → PenAt K H' p (n + 1) → Q v H') ∨
   (∃ (z : List Nat), y = .str (tx z) ∧ 0 < z.length ∧ z.length ≤ 1000 ∧ ∀ (c : Nat) (H' : Hp), c ∈ z → Keep H H' → PenAt K H' p (n + 1) → Q (.str (sg c)) H'))
section
variable {P : Program} {w : World} {K : PySem.W.Frag} {mg : Str → Option Value} {base : Heap}
theorem dpAll_ints {H : Hp} : ∀ ns : List Int, DpAll K H (ns.map V.int) (ns.map PyData.int)
  | [] => .nil
  | n :: r => .cons (.int n) (dpAll_ints r)
theorem canLay_ints : ∀ ns : List Int, PyData.canLayAll0 (ns.map PyData.int) = true
  | [] => rfl
  | n :: r => by
    show (PyData.canLay0 (.int n) && PyData.canLayAll0 (r.map PyData.int)) = true
    rw [canLay_ints r]; rfl
theorem depth_ints : ∀ ns : List Int, PyData.depthAll (ns.map PyData.int) ≤ 1
  | [] => by decide
  | n :: r => by
    have h := depth_ints r
    simp only [List.map_cons, PyData.depthAll, PyData.depth]
    omega
theorem shaped_ints (ns : List Int) : SeqAt.shaped (.list (ns.map PyData.int)) = true := by
  unfold SeqAt.shaped
  have h := depth_ints ns
  rw [Bool.and_eq_true]
  refine ⟨?_, decide_eq_true ?_⟩
  · show PyData.canLayAll0 (ns.map PyData.int) = true
    exact canLay_ints ns
  · simp only [PyData.depth]
    omega
theorem eqv_nil (ds : List PyData) : PyData.eqv (.list ds) (.list []) = ds.isEmpty := by
  cases ds <;> simp [PyData.eqv, PyData.eqvAll]
theorem ints_get {ns : List Int} {i : Nat} {v : V} (h : (ns.map V.int)[i]? = some v) : ∃ z, v = .int z := by
  rw [List.getElem?_map] at h
  cases e : ns[i]? with
  | none => rw [e] at h; cases h
  | some z => rw [e] at h; exact ⟨z, (Option.some.inj h).symm⟩
theorem cmul_fmod (x : Int) {m : Int} (h0 : 0 < m) (h1 : m < 18446744073709551616) (j : Int) : CMul (x.fmod m) j := by
  have h := fmod_in x h0
  exact .inl ⟨by omega, by omega⟩
abbrev s_l_pen : Stmt := top 52
theorem sc_l_pen : FnScope ["_law_script"] ["_law_script"] (defScope s_l_pen) := ⟨rfl, rfl, rfl, by decide +kernel, rfl, by decide +kernel, by decide +kernel⟩
theorem cutV_len (xs : List V) (lo hi : Option Int) : (cutV xs lo hi).length ≤ xs.length := by
  unfold cutV
  rw [List.length_take, List.length_drop]
  omega
theorem cutV_ints (ns : List Int) (lo hi : Option Int) : ∃ cs : List Int, cutV (ns.map V.int) lo hi = cs.map V.int ∧ cs.length ≤ ns.length := by
  unfold cutV
  refine ⟨(ns.drop (HT.sIx (ns.map V.int).length 0 lo)).take (HT.sIx (ns.map V.int).length (ns.map V.int).length hi - HT.sIx (ns.map V.int).length 0 lo), by rw [List.map_take, List.map_drop], ?_⟩
  rw [List.length_take, List.length_drop]
  omega
theorem mergePen (l : Addr) : mergeK [] (penF l 0 0) = penF l 0 0 := by
  have e1 : putK ([] : List (Key × V)) kC (.ref l) = [(kC, V.ref l)] := putK_new _ rfl
  have e2 : putK ([(kC, V.ref l)] : List (Key × V)) kA (.int 0) = [(kC, V.ref l), (kA, V.int 0)] := putK_new _ (by rw [valV_neg k12]; rfl)
  have e3 : putK ([(kC, V.ref l), (kA, V.int 0)] : List (Key × V)) kL (.int 0) = penF l 0 0 := putK_new _ (by rw [valV_neg k13, valV_neg k23]; rfl)
  show putK (putK (putK ([] : List (Key × V)) kC (.ref l)) kA (.int 0)) kL (.int 0) = _
  rw [e1, e2, e3]
theorem d_l_pen (h : Here K mg "_law_pen" s_l_pen ["_law_script"]) (B : Bs mg) : DefOk P w K mg base 1 "_law_pen" ["_law_script"] (spPen K) := by
  have B_list := B.list
  refine h.ok sc_l_pen (fun vs H Q E h => by obtain ⟨a, ns, rfl, _⟩ := h; rfl) (fun f cdv A outer s H vs Q E hr h => ?_)
  obtain ⟨a, ns, rfl, hS, hl, k⟩ := h
  refine ⟨_, (pss_one (ps_ret (pe_disp (pps_cons pe_str (pe_callTy call_list_of rfl B_list (by decide +kernel) (pa_cons (pe_slice sl_list (pv 0) po_none (po_some pe_int)) pa_nil)) (pps_cons pe_str pe_int (pps_cons pe_str pe_int pps_nil))) (by rfl) (by rfl) (fun z => by cases z) (by decide)))), ?_⟩
  intro p hp
  have s0 : Same H (upd H p (.dK [])) := Same.new hp _
  refine ⟨_, rfl, _, rfl, a, _, rfl, s0.seq hS, fun q hq => ?_⟩
  obtain ⟨cs, ec, hc⟩ := cutV_ints ns none (some 63)
  have npq : p ≠ q := ne_of_none upd_same hq
  refine ⟨q, _, rfl, .inl (SqL.of upd_same), fun l hl' => ?_⟩
  have npl : p ≠ l := ne_of_none (by rw [upd_ne npq]; exact upd_same) hl'
  refine ⟨by rw [upd_ne npl, upd_ne npq, upd_same], penF l 0 0, rfl, by show 3 ≤ 15; decide, ?_⟩
  rw [mergePen]
  refine k ⟨p, l⟩ _ ?_ ⟨0, 0, cs, upd_same, ?_, by omega, by omega, by omega⟩
  · exact Same.put hp ((s0.trans (Same.new hq _)).trans (Same.new hl' _)) _
  · refine SqL.of ?_
    rw [upd_ne (Ne.symm npl), upd_same, ec]
abbrev s_l_draw : Stmt := top 53
theorem sc_l_draw : FnScope ["_law_pen_here", "_law_many", "_law_digit", "_law_at", "_law_cell", "_law_mixed"] ["_law_pen_here", "_law_many"] (defScope s_l_draw) := ⟨rfl, rfl, rfl, by decide +kernel, rfl, by decide +kernel, by decide +kernel⟩
theorem d_l_draw (h : Here K mg "_law_draw" s_l_draw ["_law_pen_here", "_law_many"]) (B : Bs mg) : DefOk P w K mg base 1 "_law_draw" ["_law_pen_here", "_law_many"] (spDraw K) := by
  have B_int := B.int
  have B_len := B.len
  refine h.ok sc_l_draw (fun vs H Q E h => by obtain ⟨a, ns, n, rfl, _⟩ := h; rfl) (fun f cdv A outer s H vs Q E hr h => ?_)
  obtain ⟨p, m, n, rfl, hP, hn, hm0, hm1, k⟩ := h
  obtain ⟨a, b, cs, hp, hS, hc, ha0, ha1⟩ := hP.ex
  have hu := hu_of hr
  have hnl : (n : Int) < 1000000000000 := by unfold LIM at hn; omega
  have hmn : m ≠ 0 := by omega
  have hdiv : CDivN b m := ⟨hmn, by omega⟩
  refine ⟨_, (pss_cons (ps_if (pt_cmpR op_ge (pe_dget hu (pv 0) pe_str (fun _ _ => rfl)) (pv 1) (nomark _)) (pss_cons (ps_set (i := 2) sc_l_draw.nd rfl (Or.inl rfl) (pe_op op_modN (pe_callTy call_int1 rfl B_int (by decide +kernel) (pa_cons (pe_dget hu (pv 0) pe_str (fun _ _ => rfl)) pa_nil)) (pv 1)))
  (pss_cons (ps_dput hu (pv 0) pe_str (pe_op op_fdivN (pe_dget hu (pv 0) pe_str (fun _ _ => rfl)) (pv 1)) rfl)
  (pss_one (ps_ret (pv 2))))) pss_nil)
  (pss_cons (ps_set (i := 3) sc_l_draw.nd rfl (Or.inl rfl) (pe_dget hu (pv 0) pe_str (fun _ _ => rfl)))
  (pss_cons (ps_dput hu (pv 0) pe_str (pe_op op_add (pv 3) pe_int) rfl)
  (pss_cons (ps_set (i := 4) sc_l_draw.nd rfl (Or.inl rfl) (pe_op op_add (pe_op op_mul pe_int (pv 3)) pe_int))
  (pss_cons (ps_if (pt_cmpR (op_neD hr.units) (pe_dget hu (pv 0) pe_str (fun _ _ => rfl)) (pe_lst pa_nil) (nomark _)) (pss_one (ps_set (i := 4) sc_l_draw.nd rfl (Or.inl rfl) (pe_ix ix_list (pe_dget hu (pv 0) pe_str (fun _ _ => rfl)) (pe_op op_modN (pe_callTy call_int1 rfl B_int (by decide +kernel) (pa_cons (pv 3) pa_nil)) (pe_callB call_len_seq rfl B_len PySem.boot_len (pa_cons (pe_dget hu (pv 0) pe_str (fun _ _ => rfl)) pa_nil))) (fun _ _ => rfl)))) pss_nil)
  (pss_cons (ps_if (PW.pt (pw_and (pt_cmpR op_lt (pv 3) (pe_callB call_len_seq rfl B_len PySem.boot_len (pa_cons (pe_dget hu (pv 0) pe_str (fun _ _ => rfl)) pa_nil)) (nomark _)) (pw_and1 (pt_cmpR op_ge (pv 4) (pe_op op_pow pe_int pe_int) (nomark _))))) (pss_cons (ps_dput hu (pv 0) pe_str (pe_op op_fdivN (pe_op op_sub (pv 4) (pe_op op_pow pe_int pe_int)) (pv 1)) rfl)
  (pss_one (ps_ret (pe_op op_modN (pe_callTy call_int1 rfl B_int (by decide +kernel) (pa_cons (pe_op op_sub (pv 4) (pe_op op_pow pe_int pe_int)) pa_nil)) (pv 1))))) pss_nil)
  (pss_cons (ps_set (i := 5) sc_l_draw.nd rfl (Or.inl rfl) (pe_op op_add (pe_op op_add (pe_op op_add (pe_op op_mul (pe_op op_modN (pe_callTy call_int1 rfl B_int (by decide +kernel) (pa_cons (pv 4) pa_nil)) pe_int) pe_int) (pe_op op_mul (pe_op op_mul pe_int (pv 3)) (pv 3))) (pe_op op_mul pe_int (pv 3))) pe_int))
  (pss_cons (ps_set (i := 5) sc_l_draw.nd rfl (Or.inl rfl) (pe_op op_modN (pe_callTy call_int1 rfl B_int (by decide +kernel) (pa_cons (pv 5) pa_nil)) pe_int))
  (pss_cons (ps_set (i := 5) sc_l_draw.nd rfl (Or.inl rfl) (pe_op op_modN (pe_callTy call_int1 rfl B_int (by decide +kernel) (pa_cons (pe_op op_mul (pv 5) (pe_op op_add (pv 5) pe_int)) pa_nil)) pe_int))
  (pss_one (ps_ret (pe_op op_modN (pe_callTy call_int1 rfl B_int (by decide +kernel) (pa_cons (pe_op op_fdivN (pe_op op_modN (pe_callTy call_int1 rfl B_int (by decide +kernel) (pa_cons (pe_op op_mul (pv 5) (pv 5)) pa_nil)) pe_int) pe_int) pa_nil)) (pv 1))))))))))))), ?_⟩
  -- if pen["left"] >= many
  refine ⟨_, rfl, p.d, _, rfl, get_left hp, _, rfl, _, _, rfl, rfl, _, rfl, ?_⟩
  refine ite2 (fun _ => ?_) (fun _ => ?_)
  · refine ⟨_, rfl, p.d, _, rfl, get_left hp, .inl ⟨_, rfl, _, rfl, _, _, rfl, rfl, hmn, ?_⟩⟩
    refine ⟨_, rfl, p.d, _, rfl, get_left hp, _, rfl, _, _, rfl, rfl, ⟨hmn, by omega⟩, _, rfl, p.d, _, rfl, dput_left _ hp, _, rfl, ?_⟩
    exact k _ _ (fmod_in _ hm0).1 (fmod_in _ hm0).2 (Keep.pen hp) (.mk' hp hS hc ha0 (by omega))
  · refine ⟨_, rfl, p.d, _, rfl, get_at hp, ?_⟩
    refine ⟨_, rfl, _, _, rfl, rfl, _, rfl, p.d, _, rfl, dput_at _ hp, ?_⟩
    have hp1 : upd H p.d (.dK (penF p.l (a + 1) b)) p.d = some (.dK (penF p.l (a + 1) b)) := upd_same
    have hS1 := (Keep.pen (a' := a + 1) (b' := b) hp).seq hS
    refine ⟨_, rfl, _, _, rfl, rfl, .inl ⟨by decide, by decide⟩, _, _, rfl, rfl, ?_⟩
    refine ⟨_, rfl, p.d, _, rfl, get_cells hp1, ?_⟩
    refine ⟨by show 0 ≤ sizeLine; decide, fun q hq => ?_⟩
    have s1 := Same.new hq (.lst [])
    have npq : p.d ≠ q := ne_of_none hp1 hq
    have hp2 := s1 _ _ hp1
    have hS2 := s1.seq hS1
    refine ⟨.list (cs.map PyData.int), .list [], .lst hS2 (dpAll_ints cs), .lst (SqL.of upd_same) .nil, shaped_ints cs, by decide, _, rfl, ?_⟩
    rw [eqv_nil]
    have hk : Keep H (upd (upd H p.d (.dK (penF p.l (a + 1) b))) q (.lst [])) := (Keep.pen hp).trans (.of s1)
    have hP2 : PenAt K (upd (upd H p.d (.dK (penF p.l (a + 1) b))) q (.lst [])) p (n + 1) := ⟨a + 1, b, cs, hp2, hS2, hc, by omega, by omega⟩
    have hlen : ((cs.map V.int).length : Int) ≤ 63 := by rw [List.length_map]; omega
    refine ite2 (fun e => ?_) (fun _ => ?_)
    · have hpos : 0 < ((cs.map V.int).length : Int) := by
        cases cs with
        | nil => simp at e
        | cons c r => rw [List.length_map, List.length_cons]; omega
      have hb := fmod_in a hpos
      obtain ⟨v, hv1, hv2⟩ := atI_of (xs := cs.map V.int) hb.1 hb.2
      obtain ⟨z, rfl⟩ := ints_get hv1
      refine ⟨_, rfl, p.d, _, rfl, get_cells hp2, ?_⟩
      walk_at "rd"
      refine ⟨p.d, _, rfl, get_cells hp2, _, _, rfl, .inl hS2, ?_⟩
      walk_at "rd"
      refine ⟨by omega, _, _, _, _, rfl, rfl, hS2, hv2, ?_⟩
      walk_at "rd"
      refine ⟨p.d, _, rfl, get_cells hp2, _, _, rfl, .inl hS2, ?_⟩
      walk_at "rd"
      refine ite2 (fun _ => ?_) (fun _ => ?_)
      · walk_at "rd"
        refine ⟨⟨by decide, by decide, by decide⟩, ?_⟩
        walk_at "rd"
        refine ite2 (fun _ => ?_) (fun _ => ?_)
        · walk_at "rd"
          refine ⟨⟨by decide, by decide, by decide⟩, ?_⟩
          walk_at "rd"
          refine ⟨⟨hmn, by omega⟩, ?_⟩
          walk_at "rd"
          refine ⟨p.d, _, rfl, dput_left _ hp2, ?_⟩
          walk_at "rd"
          refine ⟨⟨by decide, by decide, by decide⟩, ?_⟩
          walk_at "rd"
          refine ⟨hmn, ?_⟩
          exact k _ _ (fmod_in _ hm0).1 (fmod_in _ hm0).2 (hk.trans (Keep.pen hp2)) (.mk' hp2 hS2 hc (by omega) (by omega))
        · walk_at "rd"
          refine ⟨show (2147483587 : Int) ≠ 0 by decide, ?_⟩
          walk_at "rd"
          refine ⟨.inr ⟨by decide, by decide⟩, ?_⟩
          walk_at "rd"
          refine ⟨.inl ⟨by decide, by decide⟩, ?_⟩
          walk_at "rd"
          refine ⟨.inr ⟨by omega, by omega⟩, ?_⟩
          walk_at "rd"
          refine ⟨.inl ⟨by decide, by decide⟩, ?_⟩
          walk_at "rd"
          refine ⟨show (2147483629 : Int) ≠ 0 by decide, ?_⟩
          walk_at "rd"
          refine ⟨cmul_fmod _ (by decide) (by decide) _, ?_⟩
          walk_at "rd"
          refine ⟨show (2147483549 : Int) ≠ 0 by decide, ?_⟩
          walk_at "rd"
          refine ⟨cmul_fmod _ (by decide) (by decide) _, ?_⟩
          walk_at "rd"
          refine ⟨show (2147483579 : Int) ≠ 0 by decide, ?_⟩
          walk_at "rd"
          refine ⟨⟨by decide, by decide⟩, ?_⟩
          walk_at "rd"
          refine ⟨hmn, ?_⟩
          exact k _ _ (fmod_in _ hm0).1 (fmod_in _ hm0).2 hk hP2
      · walk_at "rd"
        refine ⟨show (2147483587 : Int) ≠ 0 by decide, ?_⟩
        walk_at "rd"
        refine ⟨.inr ⟨by decide, by decide⟩, ?_⟩
        walk_at "rd"
        refine ⟨.inl ⟨by decide, by decide⟩, ?_⟩
        walk_at "rd"
        refine ⟨.inr ⟨by omega, by omega⟩, ?_⟩
        walk_at "rd"
        refine ⟨.inl ⟨by decide, by decide⟩, ?_⟩
        walk_at "rd"
        refine ⟨show (2147483629 : Int) ≠ 0 by decide, ?_⟩
        walk_at "rd"
        refine ⟨cmul_fmod _ (by decide) (by decide) _, ?_⟩
        walk_at "rd"
        refine ⟨show (2147483549 : Int) ≠ 0 by decide, ?_⟩
        walk_at "rd"
        refine ⟨cmul_fmod _ (by decide) (by decide) _, ?_⟩
        walk_at "rd"
        refine ⟨show (2147483579 : Int) ≠ 0 by decide, ?_⟩
        walk_at "rd"
        refine ⟨⟨by decide, by decide⟩, ?_⟩
        walk_at "rd"
        refine ⟨hmn, ?_⟩
        exact k _ _ (fmod_in _ hm0).1 (fmod_in _ hm0).2 hk hP2
    · walk_at "rd"
      refine ⟨p.d, _, rfl, get_cells hp2, _, _, rfl, .inl hS2, ?_⟩
      walk_at "rd"
      refine ite2 (fun _ => ?_) (fun _ => ?_)
      · walk_at "rd"
        refine ⟨⟨by decide, by decide, by decide⟩, ?_⟩
        walk_at "rd"
        refine ite2 (fun _ => ?_) (fun _ => ?_)
        · walk_at "rd"
          refine ⟨⟨by decide, by decide, by decide⟩, ?_⟩
          walk_at "rd"
          refine ⟨⟨hmn, by omega⟩, ?_⟩
          walk_at "rd"
          refine ⟨p.d, _, rfl, dput_left _ hp2, ?_⟩
          walk_at "rd"
          refine ⟨⟨by decide, by decide, by decide⟩, ?_⟩
          walk_at "rd"
          refine ⟨hmn, ?_⟩
          exact k _ _ (fmod_in _ hm0).1 (fmod_in _ hm0).2 (hk.trans (Keep.pen hp2)) (.mk' hp2 hS2 hc (by omega) (by omega))
        · walk_at "rd"
          refine ⟨show (2147483587 : Int) ≠ 0 by decide, ?_⟩
          walk_at "rd"
          refine ⟨.inr ⟨by decide, by decide⟩, ?_⟩
          walk_at "rd"
          refine ⟨.inl ⟨by decide, by decide⟩, ?_⟩
          walk_at "rd"
          refine ⟨.inr ⟨by omega, by omega⟩, ?_⟩
          walk_at "rd"
          refine ⟨.inl ⟨by decide, by decide⟩, ?_⟩
          walk_at "rd"
          refine ⟨show (2147483629 : Int) ≠ 0 by decide, ?_⟩
          walk_at "rd"
          refine ⟨cmul_fmod _ (by decide) (by decide) _, ?_⟩
          walk_at "rd"
          refine ⟨show (2147483549 : Int) ≠ 0 by decide, ?_⟩
          walk_at "rd"
          refine ⟨cmul_fmod _ (by decide) (by decide) _, ?_⟩
          walk_at "rd"
          refine ⟨show (2147483579 : Int) ≠ 0 by decide, ?_⟩
          walk_at "rd"
          refine ⟨⟨by decide, by decide⟩, ?_⟩
          walk_at "rd"
          refine ⟨hmn, ?_⟩
          exact k _ _ (fmod_in _ hm0).1 (fmod_in _ hm0).2 hk hP2
      · walk_at "rd"
        refine ⟨show (2147483587 : Int) ≠ 0 by decide, ?_⟩
        walk_at "rd"
        refine ⟨.inr ⟨by decide, by decide⟩, ?_⟩
        walk_at "rd"
        refine ⟨.inl ⟨by decide, by decide⟩, ?_⟩
        walk_at "rd"
        refine ⟨.inr ⟨by omega, by omega⟩, ?_⟩
        walk_at "rd"
        refine ⟨.inl ⟨by decide, by decide⟩, ?_⟩
        walk_at "rd"
        refine ⟨show (2147483629 : Int) ≠ 0 by decide, ?_⟩
        walk_at "rd"
        refine ⟨cmul_fmod _ (by decide) (by decide) _, ?_⟩
        walk_at "rd"
        refine ⟨show (2147483549 : Int) ≠ 0 by decide, ?_⟩
        walk_at "rd"
        refine ⟨cmul_fmod _ (by decide) (by decide) _, ?_⟩
        walk_at "rd"
        refine ⟨show (2147483579 : Int) ≠ 0 by decide, ?_⟩
        walk_at "rd"
        refine ⟨⟨by decide, by decide⟩, ?_⟩
        walk_at "rd"
        refine ⟨hmn, ?_⟩
        exact k _ _ (fmod_in _ hm0).1 (fmod_in _ hm0).2 hk hP2
end
end Wv
namespace Wv
open PySem PySem.Spec PyProof.Rows L2
/-! ### texts as codes -/
theorem tx_len (l : List Nat) : (tx l).length = l.length := by simp [tx, Str.length]
theorem tx_app (a b : List Nat) : tx a ++ tx b = tx (a ++ b) := by
  show Str.mk (a.toArray ++ b.toArray) = Str.mk (a ++ b).toArray
  simp
theorem tx_list (l : List Nat) : (tx l).cps.toList = l := rfl
theorem tx_take (l : List Nat) (k : Nat) : cutS (tx l) none (some (k : Int)) = tx (l.take k) := by
  unfold cutS
  rw [tx_len, tx_list, HT.sIx_none, HT.sIx_nat, List.drop_zero, Nat.sub_zero]
  unfold tx
  congr 2
  rw [List.take_eq_take_iff]
  omega
theorem tx_drop (l : List Nat) (k : Nat) : cutS (tx l) (some (k : Int)) none = tx (l.drop k) := by
  unfold cutS
  rw [tx_len, tx_list, HT.sIx_none, HT.sIx_nat]
  unfold tx
  congr 2
  by_cases h : k ≤ l.length
  · rw [Nat.min_eq_left h, List.take_of_length_le (by rw [List.length_drop]; omega)]
  · rw [Nat.min_eq_right (by omega), Nat.sub_self, List.take_zero, List.drop_eq_nil_of_le (by omega)]
abbrev alpha : List Nat := [97, 98, 99, 100, 101, 102, 103, 104, 105, 106, 107, 108, 109, 110, 111, 112, 113, 114, 115, 116, 117, 118, 119, 120, 121, 122]
theorem alpha_tx : Str.ofString "abcdefghijklmnopqrstuvwxyz" = tx alpha := by decide +kernel
theorem empty_tx : Str.ofString "" = tx [] := by decide +kernel
theorem alpha_az : Az alpha := by decide
theorem alpha_nd : alpha.Nodup := by decide
theorem perm_move {l fd : List Nat} {k : Nat} (h : k < l.length) (q : (fd ++ l).Perm alpha) : ((fd ++ [l[k]]) ++ (l.take k ++ l.drop (k + 1))).Perm alpha := by
  refine List.Perm.trans ?_ q
  rw [List.append_assoc]
  refine List.Perm.append_left fd ?_
  have e : l = l.take k ++ (l[k] :: l.drop (k + 1)) := by rw [← List.drop_eq_getElem_cons h, List.take_append_drop]
  refine List.Perm.trans ?_ (List.Perm.of_eq e.symm)
  exact (List.perm_middle (a := l[k]) (l₁ := l.take k) (l₂ := l.drop (k + 1))).symm
def spSigns (K : PySem.W.Frag) : Sp := fun vs H Q _ => ∃ (p : Pen) (m n : Nat), vs = [.ref p.d, .int (m : Int)] ∧ PenAt K H p n ∧ n + 30 < LIM ∧ m ≤ 20 ∧
  ∀ (z : List Nat) (H' : Hp), z.length = m → z.Nodup → Az z → Keep H H' → PenAt K H' p (n + m) → Q (.str (tx z)) H'
/-- leaves: the draws that they may make are counted -/
def spLeaf (K : PySem.W.Frag) : Sp := fun vs H Q _ => ∃ (p : Pen) (z : List Nat) (n : Nat), vs = [.ref p.d, .str (tx z)] ∧ PenAt K H p n ∧ n + 30 < LIM ∧ 0 < z.length ∧ z.length ≤ 100 ∧
  ∀ (v : V) (w : W) (H' : Hp), w.size = 1 → w.wf z → WayAt (newer H H') v w → Keep H H' → PenAt K H' p (n + 2) → Q v H'
def spWayOf (K : PySem.W.Frag) (s : Nat) : Sp := fun vs H Q _ => ∃ (p : Pen) (z : List Nat) (m n : Nat), vs = [.ref p.d, .str (tx z), .int (m : Int)] ∧ PenAt K H p n ∧ n + 4 * m + 30 < LIM ∧ 0 < z.length ∧ z.length ≤ 100 ∧ Az z ∧ 0 < m ∧ m ≤ s ∧ m ≤ 30 ∧
  ∀ (v : V) (w : W) (H' : Hp), w.size = m → w.wf z → WayAt (newer H H') v w → Keep H H' → PenAt K H' p (n + (4 * m - 2)) → Q v H'
def spWay (K : PySem.W.Frag) : Sp := fun vs H Q _ => ∃ (p : Pen) (z : List Nat) (m n : Nat), vs = [.ref p.d, .str (tx z), .int (m : Int)] ∧ PenAt K H p n ∧ n + 300 < LIM ∧ 0 < z.length ∧ z.length ≤ 100 ∧ Az z ∧ 0 < m ∧ m ≤ 30 ∧
  ∀ (v : V) (w : W) (H' : Hp), w.size ≤ m → w.wf z → WayAt (newer H H') v w → Keep H H' → PenAt K H' p (n + 200) → Q v H'
section
variable {P : Program} {w : World} {K : PySem.W.Frag} {mg : Str → Option Value} {base : Heap}
abbrev s_l_pick : Stmt := top 54
theorem sc_l_pick : FnScope ["_law_pen_here", "_law_items"] ["_law_pen_here", "_law_items"] (defScope s_l_pick) := ⟨rfl, rfl, rfl, by decide +kernel, rfl, by decide +kernel, by decide +kernel⟩
theorem d_l_pick (h : Here K mg "_law_pick" s_l_pick ["_law_pen_here", "_law_items"]) (B : Bs mg) (G_l_draw : DefOk P w K mg base 1 "_law_draw" ["_law_pen_here", "_law_many"] (spDraw K)) : DefOk P w K mg base 2 "_law_pick" ["_law_pen_here", "_law_items"] (spPick K) := by
  have B_len := B.len
  refine h.ok sc_l_pick (fun vs H Q E h => by obtain ⟨a, q, n, rfl, _⟩ := h; rfl) (fun f cdv A outer s H vs Q E hr h => ?_)
  obtain ⟨p, y, n, rfl, hP, hn, ⟨q, xs, rfl, hS, h0, h1, k⟩ | ⟨z, rfl, h0, h1, k⟩⟩ := h
  · refine ⟨_, (pss_one (ps_ret (pe_ix (IxR.or ix_list (IxR.or ix_str ix_tup)) (pv 1) (pe_callD G_l_draw (hr.mono (by first | decide | omega)) rfl (pa_cons (pv 0) (pa_cons (pe_callB (CallR.or call_len_seq call_len_str) rfl B_len PySem.boot_len (pa_cons (pv 1) pa_nil)) pa_nil))) (fun _ _ => rfl)))), ?_⟩
    refine ⟨_, rfl, _, rfl, _, rfl, .inl ⟨q, _, rfl, .inl hS, ?_⟩⟩
    refine ⟨p, _, n, rfl, hP, hn, by omega, by omega, fun d H' d0 d1 kp hP' => ?_⟩
    obtain ⟨v, hv1, hv2⟩ := atI_of d0 d1
    exact .inl ⟨q, _, _, _, rfl, rfl, kp.seq hS, hv2, k v H' (List.mem_of_getElem? hv1) kp hP'⟩
  · have hl : (tx z).length = z.length := tx_len z
    have hz : (tx z).length ≤ sizeLine := by rw [hl]; exact Nat.le_of_lt (small' (by omega))
    refine ⟨_, (pss_one (ps_ret (pe_ix (IxR.or ix_list (IxR.or ix_str ix_tup)) (pv 1) (pe_callD G_l_draw (hr.mono (by first | decide | omega)) rfl (pa_cons (pv 0) (pa_cons (pe_callB (CallR.or call_len_seq call_len_str) rfl B_len PySem.boot_len (pa_cons (pv 1) pa_nil)) pa_nil))) (fun _ _ => rfl)))), ?_⟩
    refine ⟨_, rfl, _, rfl, _, rfl, .inr ⟨_, rfl, hz, ?_⟩⟩
    refine ⟨p, _, n, rfl, hP, hn, by rw [hl]; omega, by rw [hl]; omega, fun d H' d0 d1 kp hP' => ?_⟩
    rw [hl] at d1
    obtain ⟨j, rfl⟩ : ∃ j : Nat, d = (j : Int) := ⟨d.toNat, by omega⟩
    have hj : j < z.length := by omega
    exact .inr (.inl ⟨tx z, _, z[j], rfl, rfl, hz, atI_nat (by rw [tx_list]; exact List.getElem?_eq_getElem hj), k _ H' (List.getElem_mem hj) kp hP'⟩)
abbrev s_l_signs : Stmt := top 55
theorem sc_l_signs : FnScope ["_law_pen_here", "_law_many", "_law_left", "_law_found", "_law_turn", "_law_at"] ["_law_pen_here", "_law_many"] (defScope s_l_signs) := ⟨rfl, rfl, rfl, by decide +kernel, rfl, by decide +kernel, by decide +kernel⟩
theorem d_l_signs (h : Here K mg "_law_signs" s_l_signs ["_law_pen_here", "_law_many"]) (B : Bs mg) (G_l_draw : DefOk P w K mg base 1 "_law_draw" ["_law_pen_here", "_law_many"] (spDraw K)) : DefOk P w K mg base 2 "_law_signs" ["_law_pen_here", "_law_many"] (spSigns K) := by
  have B_len := B.len
  have B_range := B.range
  refine h.ok sc_l_signs (fun vs H Q E h => by obtain ⟨a, q, n, rfl, _⟩ := h; rfl) (fun f cdv A outer s H vs Q E hr h => ?_)
  obtain ⟨p, m, n, rfl, hP, hn, hm, k⟩ := h
  refine ⟨_, (pss_cons (ps_asg (pe_tup (pa_cons pe_str (pa_cons pe_str pa_nil))) (pg_tup rfl (pgs_cons (pg_name (i := 2) sc_l_signs.nd rfl (Or.inl rfl)) (pgs_cons (pg_name (i := 3) sc_l_signs.nd rfl (Or.inl rfl)) pgs_nil))))
  (pss_cons (ps_for PassesOwn.never rfl (pi_range1 rfl B_range (pa_cons (pv 1) pa_nil)) (pg_name (i := 4) sc_l_signs.nd rfl (Or.inl rfl))
   (pss_cons (ps_set (i := 5) sc_l_signs.nd rfl (Or.inl rfl) (pe_callD G_l_draw (hr.mono (by first | decide | omega)) rfl (pa_cons (pv 0) (pa_cons (pe_callB call_len_str rfl B_len PySem.boot_len (pa_cons (pv 2) pa_nil)) pa_nil))))
  (pss_one (ps_par (i := 3) (j := 2) rfl sc_l_signs.nd rfl rfl (by decide) rfl rfl (pa_cons (pe_op op_add_str (pv 3) (pe_ix ix_str (pv 2) (pv 5) (fun _ _ => rfl))) (pa_cons (pe_op op_add_str (pe_slice sl_str (pv 2) po_none (po_some (pv 5))) (pe_slice sl_str (pv 2) (po_some (pe_op op_add (pv 5) pe_int)) po_none)) pa_nil)) (by rfl)))))
  (pss_one (ps_ret (pv 3))))), ?_⟩
  refine ⟨by show 2 ≤ sizeLine; decide, fun t ht => ?_⟩
  have st := Same.new ht (.tup [.str (Str.ofString "abcdefghijklmnopqrstuvwxyz"), .str (Str.ofString "")])
  refine ⟨t, _, rfl, SqT.of upd_same, rfl, ?_⟩
  refine ⟨_, _, rfl, _, _, rfl, rfl, _, rfl, (m : Int), rfl, by omega, by omega, ?_⟩
  refine for_range (lo := 0) (n := (m : Int).toNat) (fun i σ H' => ∃ (lf fd : List Nat) (v4 v5 : Option V), σ = [some (.ref p.d), some (.int m), some (.str (tx lf)), some (.str (tx fd)), v4, v5] ∧ fd.length = i ∧ (fd ++ lf).Perm alpha ∧ Keep H H' ∧ PenAt K H' p (n + i)) ?_ ?_ ?_
  · exact ⟨alpha, [], none, none, by rw [← alpha_tx, ← empty_tx]; rfl, rfl, .refl _, .of st, hP.same st⟩
  · rintro i σ H1 hi ⟨lf, fd, v4, v5, rfl, hl, hp, hk, hP1⟩
    have e26 : fd.length + lf.length = 26 := by rw [← List.length_append, hp.length_eq]; rfl
    have hsz : (tx lf).length = lf.length := tx_len lf
    refine ⟨_, rfl, _, rfl, _, rfl, by rw [hsz]; exact Nat.le_of_lt (small' (by omega)), p, _, _, rfl, hP1, by omega, by rw [hsz]; omega, by rw [hsz]; omega, fun d H2 d0 d1 k2 hP2 => ?_⟩
    rw [hsz] at d1
    obtain ⟨j, rfl⟩ : ∃ j : Nat, d = (j : Int) := ⟨d.toNat, by omega⟩
    have hj : j < lf.length := by omega
    have g1 : (tx fd).length + (sg lf[j]).length ≤ sizeLine := by rw [tx_len]; exact Nat.le_of_lt (small' (by show fd.length + 1 ≤ _; omega))
    walk_at "rd"
    have hz : (tx lf).length ≤ sizeLine := by rw [tx_len]; exact Nat.le_of_lt (small' (by omega))
    refine ⟨tx lf, _, lf[j], rfl, rfl, hz, atI_nat (by rw [tx_list]; exact List.getElem?_eq_getElem hj), ?_⟩
    walk_at "rd"
    refine ⟨g1, ?_⟩
    walk_at "rd"
    refine ⟨hz, ?_⟩
    walk_at "rd"
    refine ⟨hz, ?_⟩
    walk_at "rd"
    have ej : ((j : Int) + 1) = ((j + 1 : Nat) : Int) := by omega
    have g2 : (cutS (tx lf) none (some (j : Int))).length + (cutS (tx lf) (some ((j : Int) + 1)) none).length ≤ sizeLine := by
      rw [ej, tx_take, tx_drop, tx_len, tx_len, List.length_take, List.length_drop]
      exact Nat.le_of_lt (small' (by omega))
    refine ⟨g2, ?_⟩
    walk_at "rd"
    refine ⟨_, _, rfl, lf.take j ++ lf.drop (j + 1), fd ++ [lf[j]], some (.int (0 + i)), some (.int j), ?_, by rw [List.length_append, hl]; rfl, perm_move hj hp, hk.trans k2, hP2⟩
    show [some (V.ref p.d), some (V.int m), some (V.str (cutS (tx lf) none (some (j : Int)) ++ cutS (tx lf) (some ((j : Int) + 1)) none)), some (V.str (tx fd ++ sg lf[j])), some (V.int (0 + i)), some (V.int j)] = _
    rw [ej, tx_take, tx_drop, tx_app, show sg lf[j] = tx [lf[j]] from rfl, tx_app]
  · rintro σ H1 ⟨lf, fd, v4, v5, rfl, hl, hp, hk, hP1⟩
    refine ⟨_, rfl, ?_⟩
    have nd : (fd ++ lf).Nodup := hp.nodup_iff.mpr alpha_nd
    exact k fd H1 (by omega) (List.nodup_append.mp nd).1 (fun c hc => alpha_az c (hp.mem_iff.mp (List.mem_append_left _ hc))) hk (by rw [Int.toNat_natCast] at hP1; exact hP1)
abbrev s_l_leaf : Stmt := top 56
theorem sc_l_leaf : FnScope ["_law_pen_here", "_law_signs_here", "_law_sort"] ["_law_pen_here", "_law_signs_here"] (defScope s_l_leaf) := ⟨rfl, rfl, rfl, by decide +kernel, rfl, by decide +kernel, by decide +kernel⟩
theorem d_l_leaf (h : Here K mg "_law_leaf" s_l_leaf ["_law_pen_here", "_law_signs_here"]) (B : Bs mg) (G_l_draw : DefOk P w K mg base 1 "_law_draw" ["_law_pen_here", "_law_many"] (spDraw K)) (G_l_pick : DefOk P w K mg base 2 "_law_pick" ["_law_pen_here", "_law_items"] (spPick K)) : DefOk P w K mg base 3 "_law_leaf" ["_law_pen_here", "_law_signs_here"] (spLeaf K) := by
  refine h.ok sc_l_leaf (fun vs H Q E h => by obtain ⟨a, q, n, rfl, _⟩ := h; rfl) (fun f cdv A outer s H vs Q E hr h => ?_)
  obtain ⟨p, z, n, rfl, hP, hn, hz0, hz1, k⟩ := h
  refine ⟨_, (pss_cons (ps_set (i := 2) sc_l_leaf.nd rfl (Or.inl rfl) (pe_callD G_l_draw (hr.mono (by first | decide | omega)) rfl (pa_cons (pv 0) (pa_cons pe_int pa_nil))))
  (pss_cons (ps_if (pt_cmpR op_eq (pv 2) pe_int (nomark _)) (pss_one (ps_ret (pe_tup (pa_cons pe_str pa_nil)))) pss_nil)
  (pss_one (ps_ret (pe_ifExp (pt_cmpR op_lt (pv 2) pe_int (nomark _)) (pe_tup (pa_cons pe_str pa_nil)) (pe_tup (pa_cons pe_str (pa_cons (pe_callD G_l_pick (hr.mono (by first | decide | omega)) rfl (pa_cons (pv 0) (pa_cons (pv 1) pa_nil))) pa_nil)))))))), ?_⟩
  refine ⟨_, rfl, p, 8, n, rfl, hP, by omega, by decide, by decide, fun d H1 d0 d1 k1 hP1 => ?_⟩
  walk_at "rd"
  refine ite2 (fun _ => ?_) (fun _ => ?_)
  · refine ⟨by show 1 ≤ sizeLine; decide, fun t ht => ?_⟩
    have s1 := Same.new ht (.tup [.str (Str.ofString "nothing")])
    exact k _ .nothing _ rfl trivial ⟨t, rfl, by rw [newer_at (k1.free ht)]; exact upd_same⟩ (k1.trans (.of s1)) ((hP1.same s1).mono (by omega))
  · walk_at "rd"
    refine ite2 (fun _ => ?_) (fun _ => ?_)
    · refine ⟨by show 1 ≤ sizeLine; decide, fun t ht => ?_⟩
      have s1 := Same.new ht (.tup [.str (Str.ofString "one")])
      exact k _ .one _ rfl trivial ⟨t, rfl, by rw [newer_at (k1.free ht)]; exact upd_same⟩ (k1.trans (.of s1)) ((hP1.same s1).mono (by omega))
    · walk_at "rd"
      refine ⟨p, _, n + 1, rfl, hP1, by omega, .inr ⟨z, rfl, hz0, by omega, fun c H2 hc k2 hP2 => ?_⟩⟩
      refine ⟨by show 2 ≤ sizeLine; decide, fun t ht => ?_⟩
      have s1 := Same.new ht (.tup [.str (Str.ofString "letter"), .str (sg c)])
      exact k _ (.letter c) _ rfl hc ⟨t, rfl, by rw [newer_at ((k1.trans k2).free ht)]; exact upd_same⟩ ((k1.trans k2).trans (.of s1)) (hP2.same s1)
/-- the number in a slot -/
def slotN (k : Nat) (σ : L2.St) : Nat := match σ[k]? with
  | some (some (V.int i)) => i.toNat
  | _ => 0
theorem dec_t {a b : Int} (h : decide (V.int a = V.int b) = true) : a = b := V.int.inj (of_decide_eq_true h)
theorem dec_f {a b : Int} (h : ¬ decide (V.int a = V.int b) = true) : a ≠ b := fun e => h (decide_eq_true (by rw [e]))
abbrev s_l_way_of : Stmt := top 58
theorem sc_l_way_of : FnScope ["_law_pen_here", "_law_signs_here", "_law_size_here", "_law_word", "_law_left", "_law_found", "_law_rest", "_law_share"] ["_law_pen_here", "_law_signs_here", "_law_size_here"] (defScope s_l_way_of) := ⟨rfl, rfl, rfl, by decide +kernel, rfl, by decide +kernel, by decide +kernel⟩
theorem none_way_of {f : Addr} {fd : FuncData} : FnOk P w K mg base CX0 3 f fd ["_law_pen_here", "_law_signs_here", "_law_size_here"] (spWayOf K 0) := by
  have no : ∀ vs H Q E, ¬ spWayOf K 0 vs H Q E := fun vs H Q E h => by
    obtain ⟨p, z, m, n, _, _, _, _, _, _, h1, h2, _⟩ := h
    omega
  exact ⟨fun vs H Q E h => absurd h (no vs H Q E), fun A outer s H args us vs Q E _ _ _ _ h => absurd h (no vs H Q E)⟩
theorem step_l_way_of (s : Nat) (h : Here K mg "_law_way_of" s_l_way_of ["_law_pen_here", "_law_signs_here", "_law_size_here"]) (B : Bs mg) (G_l_draw : DefOk P w K mg base 1 "_law_draw" ["_law_pen_here", "_law_many"] (spDraw K)) (G_l_pick : DefOk P w K mg base 2 "_law_pick" ["_law_pen_here", "_law_items"] (spPick K))
    (G_l_leaf : DefOk P w K mg base 3 "_law_leaf" ["_law_pen_here", "_law_signs_here"] (spLeaf K)) (G_l_way_of : DefOk P w K mg base (3 + s) "_law_way_of" ["_law_pen_here", "_law_signs_here", "_law_size_here"] (spWayOf K s)) : DefOk P w K mg base (3 + s + 1) "_law_way_of" ["_law_pen_here", "_law_signs_here", "_law_size_here"] (spWayOf K (s + 1)) := by
  refine h.ok sc_l_way_of (fun vs H Q E h => by obtain ⟨a, q, m, n, rfl, _⟩ := h; rfl) (fun f cdv A outer s' H vs Q E hr h => ?_)
  obtain ⟨p, z, m, n, rfl, hP, hn, hz0, hz1, hz, hm0, hm1, hm2, k⟩ := h
  refine ⟨_, (pss_cons (ps_if (pt_cmpR op_eq (pv 2) pe_int (nomark _)) (pss_one (ps_ret (pe_callD G_l_leaf (hr.mono (by first | decide | omega)) rfl (pa_cons (pv 0) (pa_cons (pv 1) pa_nil))))) pss_nil)
  (pss_cons (ps_if (PW.pt (pw_or (pt_cmpR op_eq (pv 2) pe_int (nomark _)) (pw_or1 (pt_cmpR op_eq (pe_callD G_l_draw (hr.mono (by first | decide | omega)) rfl (pa_cons (pv 0) (pa_cons pe_int pa_nil))) pe_int (nomark _))))) (pss_cons (ps_set (i := 3) sc_l_way_of.nd rfl (Or.inl rfl) (pe_callD G_l_pick (hr.mono (by first | decide | omega)) rfl (pa_cons (pv 0) (pa_cons (pe_lst (pa_cons pe_str (pa_cons pe_str (pa_cons pe_str (pa_cons pe_str (pa_cons pe_str pa_nil)))))) pa_nil))))
  (pss_one (ps_ret (pe_tup (pa_cons (pv 3) (pa_cons (pe_callD G_l_way_of (hr.mono (by first | decide | omega)) rfl (pa_cons (pv 0) (pa_cons (pv 1) (pa_cons (pe_op op_sub (pv 2) pe_int) pa_nil)))) pa_nil)))))) pss_nil)
  (pss_cons (ps_par3 (i := 3) (j := 4) (l := 5) rfl sc_l_way_of.nd rfl rfl rfl (by decide) (by decide) (by decide) rfl rfl rfl (pa_cons (pe_callD G_l_pick (hr.mono (by first | decide | omega)) rfl (pa_cons (pv 0) (pa_cons (pe_lst (pa_cons pe_str (pa_cons pe_str (pa_cons pe_str pa_nil)))) pa_nil))) (pa_cons (pe_op op_sub (pv 2) pe_int) (pa_cons (pe_lst pa_nil) pa_nil))) (by rfl))
  (pss_cons (ps_while PassesOwn.never (pt_cmpR op_gt (pv 4) pe_int (nomark _)) (pss_cons (ps_set (i := 6) sc_l_way_of.nd rfl (Or.inl rfl) (pe_and (pe_cmpR (op_neD hr.units) (pv 5) (pe_lst pa_nil) (nomark _)) (pe_one (pe_cmpR op_eq (pe_callD G_l_draw (hr.mono (by first | decide | omega)) rfl (pa_cons (pv 0) (pa_cons pe_int pa_nil))) pe_int (nomark _)))))
  (pss_cons (ps_set (i := 7) sc_l_way_of.nd rfl (Or.inl rfl) (pe_ifExp (pt_val (pv 6)) (pv 4) (pe_op op_add pe_int (pe_callD G_l_draw (hr.mono (by first | decide | omega)) rfl (pa_cons (pv 0) (pa_cons (pv 4) pa_nil))))))
  (pss_cons (ps_set (i := 7) sc_l_way_of.nd rfl (Or.inl rfl) (pe_ifExp (PW.pt (pw_and (pt_cmpR (op_eqD hr.units) (pv 5) (pe_lst pa_nil) (nomark _)) (pw_and1 (pt_cmpR op_eq (pv 7) (pv 4) (nomark _))))) (pe_op op_sub (pv 4) pe_int) (pv 7)))
  (pss_cons (ps_expr (pe_bm PySem.F.plainAttrs_list PySem.F.slot_list_append PySem.F.type_list_append mt_append (pv 5) (pa_cons (pe_callD G_l_way_of (hr.mono (by first | decide | omega)) rfl (pa_cons (pv 0) (pa_cons (pv 1) (pa_cons (pv 7) pa_nil)))) pa_nil)))
  (pss_one (ps_set (i := 4) sc_l_way_of.nd rfl (Or.inl rfl) (pe_op op_sub (pv 4) (pv 7)))))))))
  (pss_one (ps_ret (pe_tup (pa_cons (pv 3) (pa_cons (pv 5) pa_nil))))))))), ?_⟩
  walk_at "rd"
  refine ite2 (fun e1 => ?_) (fun e1 => ?_)
  · have e1 := dec_t e1
    walk_at "rd"
    refine ⟨p, z, n, rfl, hP, by omega, hz0, hz1, fun v w' H' hs hw hv kk hP' => k v w' H' (by omega) hw hv kk (hP'.mono (by omega))⟩
  · have e1 := dec_f e1
    walk_at "rd"
    refine ite2 (fun e2 => ?_) (fun e2 => ?_)
    · have e2 := dec_t e2
      obtain ⟨n1, hn1, en1⟩ : ∃ n1, n1 ≤ n + 1 ∧ n1 = n := ⟨n, by omega, rfl⟩
      have hP1 : PenAt K H p n1 := by rw [en1]; exact hP
      have k1 : Keep H H := .refl H
      refine iteT ?_
      walk_at "rd"
      refine ⟨by show 5 ≤ sizeLine; decide, fun q hq => ?_⟩
      have s2 := Same.new hq (.lst [.str (Str.ofString "again"), .str (Str.ofString "again"), .str (Str.ofString "maybe"), .str (Str.ofString "ahead"), .str (Str.ofString "unless")])
      refine ⟨p, _, n1, rfl, hP1.same s2, by omega, .inl ⟨q, _, rfl, SqL.of upd_same, by decide, by decide, fun v H2 hv k2 hP2 => ?_⟩⟩
      walk_at "rd"
      have em : ((m : Int) - 1) = ((m - 1 : Nat) : Int) := by omega
      have k12 := (k1.trans (.of s2)).trans k2
      refine ⟨p, z, m - 1, n1 + 1, by rw [← em]; rfl, hP2, by omega, hz0, hz1, hz, by omega, by omega, by omega, fun u wu H3 hs hw hu k3 hP3 => ?_⟩
      refine ⟨by show 2 ≤ sizeLine; decide, fun t ht => ?_⟩
      have s4 := Same.new ht (.tup [v, u])
      have k13 := k12.trans k3
      have hu' : WayAt (newer H (upd H3 t (.tup [v, u]))) u wu := WayAt.keep ((newer_down k12).trans (newer_up (.of s4))) _ _ hu
      have ht' : newer H (upd H3 t (.tup [v, u])) t = some (.tup [v, u]) := by rw [newer_at (k13.free ht)]; exact upd_same
      have kf := k13.trans (.of s4)
      have pf := (hP3.same s4).mono (show n1 + 1 + (4 * (m - 1) - 2) ≤ n + (4 * m - 2) by omega)
      simp only [List.mem_cons, List.not_mem_nil, or_false] at hv
      rcases hv with rfl | rfl | rfl | rfl | rfl
      · exact k _ (.again wu) _ (by simp only [W.size]; omega) hw ⟨t, u, rfl, ht', hu'⟩ kf pf
      · exact k _ (.again wu) _ (by simp only [W.size]; omega) hw ⟨t, u, rfl, ht', hu'⟩ kf pf
      · exact k _ (.maybe wu) _ (by simp only [W.size]; omega) hw ⟨t, u, rfl, ht', hu'⟩ kf pf
      · exact k _ (.ahead wu) _ (by simp only [W.size]; omega) hw ⟨t, u, rfl, ht', hu'⟩ kf pf
      · exact k _ (.unless wu) _ (by simp only [W.size]; omega) hw ⟨t, u, rfl, ht', hu'⟩ kf pf
    · have e2 := dec_f e2
      refine ⟨_, rfl, p, 3, n, rfl, hP, by omega, by decide, by decide, fun d H1 d0 d1 k1 hP1 => ?_⟩
      walk_at "rd"
      obtain ⟨n1, hn1, en1⟩ : ∃ n1, n1 ≤ n + 1 ∧ n1 = n + 1 := ⟨n + 1, by omega, rfl⟩
      rw [← en1] at hP1
      refine ite2 (fun e3 => ?_) (fun e3 => ?_)
      · walk_at "rd"
        refine ⟨by show 5 ≤ sizeLine; decide, fun q hq => ?_⟩
        have s2 := Same.new hq (.lst [.str (Str.ofString "again"), .str (Str.ofString "again"), .str (Str.ofString "maybe"), .str (Str.ofString "ahead"), .str (Str.ofString "unless")])
        refine ⟨p, _, n1, rfl, hP1.same s2, by omega, .inl ⟨q, _, rfl, SqL.of upd_same, by decide, by decide, fun v H2 hv k2 hP2 => ?_⟩⟩
        walk_at "rd"
        have em : ((m : Int) - 1) = ((m - 1 : Nat) : Int) := by omega
        have k12 := (k1.trans (.of s2)).trans k2
        refine ⟨p, z, m - 1, n1 + 1, by rw [← em]; rfl, hP2, by omega, hz0, hz1, hz, by omega, by omega, by omega, fun u wu H3 hs hw hu k3 hP3 => ?_⟩
        refine ⟨by show 2 ≤ sizeLine; decide, fun t ht => ?_⟩
        have s4 := Same.new ht (.tup [v, u])
        have k13 := k12.trans k3
        have hu' : WayAt (newer H (upd H3 t (.tup [v, u]))) u wu := WayAt.keep ((newer_down k12).trans (newer_up (.of s4))) _ _ hu
        have ht' : newer H (upd H3 t (.tup [v, u])) t = some (.tup [v, u]) := by rw [newer_at (k13.free ht)]; exact upd_same
        have kf := k13.trans (.of s4)
        have pf := (hP3.same s4).mono (show n1 + 1 + (4 * (m - 1) - 2) ≤ n + (4 * m - 2) by omega)
        simp only [List.mem_cons, List.not_mem_nil, or_false] at hv
        rcases hv with rfl | rfl | rfl | rfl | rfl
        · exact k _ (.again wu) _ (by simp only [W.size]; omega) hw ⟨t, u, rfl, ht', hu'⟩ kf pf
        · exact k _ (.again wu) _ (by simp only [W.size]; omega) hw ⟨t, u, rfl, ht', hu'⟩ kf pf
        · exact k _ (.maybe wu) _ (by simp only [W.size]; omega) hw ⟨t, u, rfl, ht', hu'⟩ kf pf
        · exact k _ (.ahead wu) _ (by simp only [W.size]; omega) hw ⟨t, u, rfl, ht', hu'⟩ kf pf
        · exact k _ (.unless wu) _ (by simp only [W.size]; omega) hw ⟨t, u, rfl, ht', hu'⟩ kf pf
      · walk_at "rd"
        refine ⟨by show 3 ≤ sizeLine; decide, fun q0 hq0 => ?_⟩
        have s2 := Same.new hq0 (.lst [.str (Str.ofString "row"), .str (Str.ofString "row"), .str (Str.ofString "choice")])
        refine ⟨p, _, n1, rfl, hP1.same s2, by omega, .inl ⟨q0, _, rfl, SqL.of upd_same, by decide, by decide, fun v H2 hv k2 hP2 => ?_⟩⟩
        walk_at "rd"
        refine ⟨Nat.zero_le _, fun q hq => ?_⟩
        have s3 := Same.new hq (.lst [])
        have k13 := (k1.trans (.of s2)).trans k2
        have k14 := k13.trans (.of s3)
        have hqH := k13.free hq
        have hP4 := hP2.same s3
        generalize hH4 : upd H2 q (.lst []) = H4 at *
        have hq4 : H4 q = some (.lst []) := by rw [← hH4]; exact upd_same
        refine ⟨_, _, _, rfl, ?_⟩
        refine while_by (fun σ H' => ∃ (lf : Nat) (ws : List W) (vs : List V) (v6 v7 : Option V), σ = [some (.ref p.d), some (.str (tx z)), some (.int m), some v, some (.int lf), some (.ref q), v6, v7] ∧ H' q = some (.lst vs) ∧ WaysAt (newer H4 H') vs ws ∧ W.wfs z ws ∧
            W.sizes ws + lf + 1 = m ∧ (lf = 0 → 2 ≤ ws.length) ∧ Keep H H' ∧ Sub H4 H' ∧ PenAt K H' p (n + 2 + 4 * W.sizes ws)) (fun σ _ => slotN 4 σ) ?_ ?_ (fun σ H Q Q' hq ⟨v, e, i, j, e1, e2, k, e3, h⟩ => ⟨v, e, i, j, e1, e2, k, e3, hq _ _ h⟩)
        · refine ⟨m - 1, [], [], none, none, ?_, hq4, rfl, trivial, by simp only [W.sizes]; omega, fun _ => by omega, k14, fun _ h => h, hP4.mono (by simp only [W.sizes]; omega)⟩
          have em : ((m : Int) - 1) = ((m - 1 : Nat) : Int) := by omega
          rw [← em]
          rfl
        · rintro σ H5 ⟨lf, ws, vs, v6, v7, rfl, hq5, hws, hwf, hsum, h0, k5, k45, hP5⟩
          walk_at "rd"
          refine ite2 (fun e4 => ?_) (fun e4 => ?_)
          · have e4 : (0 : Int) < lf := of_decide_eq_true e4
            have hlen := WaysAt.len _ _ hws
            have hll := W.sizes_len ws
            have hshape := W.shaped_list hz hwf (show W.sizes ws ≤ 31 by omega)
            -- whether the last one takes all that is left
            refine withQ (E := tAndV _ _) (fun x H6 => ∃ b : Bool, x = .bl b ∧ (b = true → ws ≠ []) ∧ Keep H5 H6 ∧ PenAt K H6 p (n + 2 + 4 * W.sizes ws + 1)) (fun Q' go => ?_) ?_
            · walk_at "rd"
              refine ⟨Nat.zero_le _, fun qe hqe => ?_⟩
              have se := Same.new hqe (.lst [])
              refine ⟨.list (W.datas ws), .list [], .lst (SqL.of (se _ _ hq5)) (WaysAt.dp _ _ (WaysAt.keep (newer_le.trans (.of se)) _ _ hws)), .lst (SqL.of upd_same) .nil, hshape, by decide, ?_⟩
              rw [eqv_nil, datas_empty]
              refine ⟨_, rfl, ?_⟩
              refine ite2 (fun e5 => ?_) (fun e5 => ?_)
              · refine ⟨_, rfl, p, 2, _, rfl, hP5.same se, by omega, by decide, by decide, fun d H6 d0 d1 k6 hP6 => ?_⟩
                refine ⟨rfl, go _ _ ⟨_, rfl, fun _ e => ?_, (Keep.of se).trans k6, hP6⟩⟩
                rw [e] at e5
                cases e5
              · exact go _ _ ⟨false, rfl, fun e => Bool.noConfusion e, Keep.of se, (hP5.same se).mono (by omega)⟩
            rintro x H6 ⟨b, rfl, hb, k6, hP6⟩
            -- the share
            walk_at "nx"
            refine withQ (E := tIf _ _ _) (fun x H7 => ∃ sh : Nat, x = .int sh ∧ 0 < sh ∧ sh ≤ lf ∧ Keep H5 H7 ∧ PenAt K H7 p (n + 2 + 4 * W.sizes ws + 2)) (fun Q' go => ?_) ?_
            · walk_at "rd"
              refine ite2 (fun e5 => ?_) (fun e5 => ?_)
              · walk_at "rd"
                exact go _ _ ⟨lf, rfl, by omega, Nat.le_refl _, k6, hP6.mono (by omega)⟩
              · refine ⟨_, rfl, _, rfl, p, lf, _, rfl, hP6, by omega, e4, by omega, fun d H7 d0 d1 k7 hP7 => ?_⟩
                walk_at "rd"
                exact go _ _ ⟨d.toNat + 1, by show V.int (1 + d) = _; congr 1; omega, by omega, by omega, k6.trans k7, hP7⟩
            rintro x H7 ⟨sh, rfl, hs0, hs1, k7, hP7⟩
            walk_at "nx"
            refine withQ (E := tIf _ _ _) (fun x H8 => ∃ sh : Nat, x = .int sh ∧ 0 < sh ∧ sh ≤ lf ∧ (ws = [] → sh < lf) ∧ Keep H5 H8 ∧ PenAt K H8 p (n + 2 + 4 * W.sizes ws + 2)) (fun Q' go => ?_) ?_
            · refine withB (E := tAnd _ _) (fun b H8 => (b = true ↔ (ws = [] ∧ sh = lf)) ∧ Keep H5 H8 ∧ PenAt K H8 p (n + 2 + 4 * W.sizes ws + 2)) (fun Q' go => ?_) ?_
              · walk_at "rd"
                refine ⟨Nat.zero_le _, fun qe hqe => ?_⟩
                have se := Same.new hqe (.lst [])
                have k75 : Keep H5 (upd H7 qe (.lst [])) := k7.trans (.of se)
                refine ⟨.list (W.datas ws), .list [], .lst (SqL.of (k75.lst hq5)) (WaysAt.dp _ _ (WaysAt.keep (newer_le.trans k75) _ _ hws)), .lst (SqL.of upd_same) .nil, hshape, by decide, _, rfl, ?_⟩
                rw [eqv_nil, datas_empty]
                refine ite2 (fun e5 => ?_) (fun e5 => ?_)
                · walk_at "rd"
                  refine go _ _ ⟨⟨fun e => ⟨List.isEmpty_iff.mp e5, ?_⟩, fun e => decide_eq_true (by rw [e.2])⟩, k75, hP7.same se⟩
                  have := dec_t e
                  omega
                · exact go _ _ ⟨⟨fun e => Bool.noConfusion e, fun e => absurd (List.isEmpty_iff.mpr e.1) e5⟩, k75, hP7.same se⟩
              · rintro b' H8 ⟨hb', k8, hP8⟩
                refine ite2 (fun e5 => ?_) (fun e5 => ?_)
                · obtain ⟨e6, e7⟩ := hb'.mp e5
                  walk_at "rd"
                  have hz0 : W.sizes ws = 0 := by rw [e6]; rfl
                  refine go _ _ ⟨lf - 1, ?_, by omega, by omega, fun _ => by omega, k8, hP8⟩
                  show V.int ((lf : Int) - 1) = _
                  congr 1
                  omega
                · walk_at "rd"
                  refine go _ _ ⟨sh, rfl, hs0, hs1, fun e => ?_, k8, hP8⟩
                  by_cases e7 : sh = lf
                  · exact absurd (hb'.mpr ⟨e, e7⟩) e5
                  · omega
            rintro x H8 ⟨sh', rfl, hs0', hs1', hne, k8, hP8⟩
            walk_at "nx"
            refine ⟨_, rfl, .inl ⟨rfl, _, SqL.of (k8.lst hq5)⟩, _, rfl, _, rfl, _, rfl, ?_⟩
            refine ⟨p, z, sh', _, rfl, hP8, by omega, hz0, hz1, hz, hs0', by omega, by omega, fun u wu H9 hs hw hu k9 hP9 => ?_⟩
            have k59 := k8.trans k9
            refine ⟨q, vs, u, rfl, rfl, k59.lst hq5, small' (by omega), ?_⟩
            walk_at "rd"
            have esz : W.sizes (ws ++ [wu]) = W.sizes ws + sh' := by rw [W.sizes_app]; simp only [W.sizes]; omega
            have elf : ((lf : Int) - sh') = ((lf - sh' : Nat) : Int) := by omega
            refine ⟨⟨lf - sh', ws ++ [wu], vs ++ [u], some (.bl b), some (.int sh'), ?_, upd_same, ?_, (W.wfs_app _ _ _).mpr ⟨hwf, hw, trivial⟩, by rw [esz]; omega, fun e => ?_, Keep.put hqH (k5.trans k59) _, (k45.trans k59.sub).put _ _, ?_⟩, ?_⟩
            · show [some (V.ref p.d), some (V.str (tx z)), some (V.int m), some v, some (V.int ((lf : Int) - sh')), some (V.ref q), some (V.bl b), some (V.int sh')] = _
              rw [elf]
            · rw [newer_put hq4]
              exact WaysAt.app _ _ (WaysAt.keep (newer_up k59) _ _ hws) ⟨u, [], rfl, WayAt.keep (newer_sub (k45.trans k8.sub)) _ _ hu, rfl⟩
            · have : ws ≠ [] := fun e' => by have := hne e'; omega
              have : 0 < ws.length := List.length_pos_iff.mpr this
              rw [List.length_append]
              show 2 ≤ ws.length + 1
              omega
            · rw [esz]
              exact hP.put hqH (hP9.mono (by omega)) (k5.trans k59) (k59.lst hq5)
            · show slotN 4 _ < slotN 4 _
              have e1 : slotN 4 [some (V.ref p.d), some (V.str (tx z)), some (V.int m), some v, some (V.int ((lf : Int) - sh')), some (V.ref q), some (V.bl b), some (V.int sh')] = ((lf : Int) - sh').toNat := rfl
              have e2 : slotN 4 [some (V.ref p.d), some (V.str (tx z)), some (V.int m), some v, some (V.int lf), some (V.ref q), v6, v7] = (lf : Int).toNat := rfl
              rw [show slotN 4 _ = _ from e2]
              refine Nat.lt_of_le_of_lt (Nat.le_of_eq e1) ?_
              omega
          · have e4 : lf = 0 := by
              by_cases h : lf = 0
              · exact h
              · exact absurd (decide_eq_true (show (0 : Int) < lf by omega)) e4
            walk_at "nx"
            walk_at "rd"
            refine ⟨by show 2 ≤ sizeLine; decide, fun t ht => ?_⟩
            have s6 := Same.new ht (.tup [v, .ref q])
            have kf := k5.trans (.of s6)
            have ht' : newer H (upd H5 t (.tup [v, .ref q])) t = some (.tup [v, .ref q]) := by rw [newer_at (k5.free ht)]; exact upd_same
            have hq' : newer H (upd H5 t (.tup [v, .ref q])) q = some (.lst vs) := by rw [newer_at hqH]; exact s6 _ _ hq5
            have hw' : WaysAt (newer H (upd H5 t (.tup [v, .ref q]))) vs ws := WaysAt.keep ((newer_up (.of s6)).trans (newer_down k14)) _ _ hws
            have pf := (hP5.same s6).mono (show n + 2 + 4 * W.sizes ws ≤ n + (4 * m - 2) by omega)
            simp only [List.mem_cons, List.not_mem_nil, or_false] at hv
            rcases hv with rfl | rfl | rfl
            · exact k _ (.row ws) _ (by simp only [W.size]; omega) ⟨h0 e4, hwf⟩ ⟨t, q, vs, rfl, ht', hq', hw'⟩ kf pf
            · exact k _ (.row ws) _ (by simp only [W.size]; omega) ⟨h0 e4, hwf⟩ ⟨t, q, vs, rfl, ht', hq', hw'⟩ kf pf
            · exact k _ (.choice ws) _ (by simp only [W.size]; omega) ⟨h0 e4, hwf⟩ ⟨t, q, vs, rfl, ht', hq', hw'⟩ kf pf
theorem d_l_way_of (h : Here K mg "_law_way_of" s_l_way_of ["_law_pen_here", "_law_signs_here", "_law_size_here"]) (B : Bs mg) (G_l_draw : DefOk P w K mg base 1 "_law_draw" ["_law_pen_here", "_law_many"] (spDraw K)) (G_l_pick : DefOk P w K mg base 2 "_law_pick" ["_law_pen_here", "_law_items"] (spPick K))
    (G_l_leaf : DefOk P w K mg base 3 "_law_leaf" ["_law_pen_here", "_law_signs_here"] (spLeaf K)) : ∀ s, DefOk P w K mg base (3 + s) "_law_way_of" ["_law_pen_here", "_law_signs_here", "_law_size_here"] (spWayOf K s)
  | 0 => by
    obtain ⟨f, fd, F, m, b⟩ := h.ex
    exact ⟨f, fd, m, F.kp, b, none_way_of⟩
  | s + 1 => step_l_way_of s h B G_l_draw G_l_pick G_l_leaf (d_l_way_of h B G_l_draw G_l_pick G_l_leaf s)
end
end Wv
namespace Wv
open PySem PySem.Spec PyProof.Rows L2
/-! ### ways as objects of the program -/
structure Cs where
  lt : Addr
  on : Addr
  no : Addr
  ro : Addr
  ch : Addr
  ag : Addr
  ma : Addr
  ah : Addr
  un : Addr
  ca : Addr
/-- the class of a way -/
def Cs.of (c : Cs) : W → Addr
  | .one => c.on
  | .nothing => c.no
  | .letter _ => c.lt
  | .call _ => c.ca
  | .row _ => c.ro
  | .choice _ => c.ch
  | .again _ => c.ag
  | .maybe _ => c.ma
  | .ahead _ => c.ah
  | .unless _ => c.un
/-- what a way notes of itself: the name of its first call, how many Agains stand within one another -/
def fV : Option Str → V
  | none => .non
  | some x => .str x
mutual
def W.called : W → Option Str
  | .call x => some x
  | .row ws => W.calleds ws | .choice ws => W.calleds ws
  | .again w => w.called | .maybe w => w.called | .ahead w => w.called | .unless w => w.called
  | _ => none
def W.calleds : List W → Option Str
  | [] => none
  | w :: ws => match w.called with
    | some x => some x
    | none => W.calleds ws
end
mutual
def W.rounds : W → Nat
  | .row ws => W.roundss ws | .choice ws => W.roundss ws
  | .again w => w.rounds + 1 | .maybe w => w.rounds | .ahead w => w.rounds | .unless w => w.rounds
  | _ => 0
def W.roundss : List W → Nat
  | [] => 0
  | w :: ws => max w.rounds (W.roundss ws)
end
def nts (o : Option Str) (n : Nat) (r : List (Str × V)) : List (Str × V) := (Str.ofString "called", fV o) :: (Str.ofString "rounds", .int (n : Nat)) :: r
mutual
def ObjAt (c : Cs) (H : Hp) : V → W → Prop
  | v, .one => ∃ a d, v = .ref a ∧ H a = some (.ins c.on d (nts none 0 []))
  | v, .nothing => ∃ a d, v = .ref a ∧ H a = some (.ins c.no d (nts none 0 []))
  | v, .letter x => ∃ a d, v = .ref a ∧ H a = some (.ins c.lt d ((Str.ofString "letter", .str (sg x)) :: nts none 0 []))
  | v, .call x => ∃ a d, v = .ref a ∧ H a = some (.ins c.ca d ((Str.ofString "name", .str x) :: nts (some x) 0 []))
  | v, .row ws => ∃ a d t vs, v = .ref a ∧ H a = some (.ins c.ro d ((Str.ofString "ways", .ref t) :: nts (W.calleds ws) (W.roundss ws) [])) ∧ H t = some (.tup vs) ∧ ObjsAt c H vs ws
  | v, .choice ws => ∃ a d t vs, v = .ref a ∧ H a = some (.ins c.ch d ((Str.ofString "ways", .ref t) :: nts (W.calleds ws) (W.roundss ws) [])) ∧ H t = some (.tup vs) ∧ ObjsAt c H vs ws
  | v, .again w => ∃ a d u mk, v = .ref a ∧ H a = some (.ins c.ag d ((Str.ofString "part", u) :: nts w.called (w.rounds + 1) [(Str.ofString "mark", mk)])) ∧ ObjAt c H u w
  | v, .maybe w => ∃ a d u, ∃ _ : V, v = .ref a ∧ H a = some (.ins c.ma d ((Str.ofString "part", u) :: nts w.called w.rounds [])) ∧ ObjAt c H u w
  | v, .ahead w => ∃ a d u, ∃ _ : V, v = .ref a ∧ H a = some (.ins c.ah d ((Str.ofString "part", u) :: nts w.called w.rounds [])) ∧ ObjAt c H u w
  | v, .unless w => ∃ a d u, ∃ _ : V, v = .ref a ∧ H a = some (.ins c.un d ((Str.ofString "part", u) :: nts w.called w.rounds [])) ∧ ObjAt c H u w
def ObjsAt (c : Cs) (H : Hp) : List V → List W → Prop
  | vs, [] => vs = []
  | vs, w :: ws => ∃ u us, vs = u :: us ∧ ObjAt c H u w ∧ ObjsAt c H us ws
end
theorem ObjsAt.len {c : Cs} {H : Hp} : ∀ (ws : List W) (vs : List V), ObjsAt c H vs ws → vs.length = ws.length
  | [], vs, h => by rw [show vs = [] from h]; rfl
  | w :: ws, vs, ⟨u, us, e, _, h⟩ => by rw [e, List.length_cons, List.length_cons, ObjsAt.len ws us h]
theorem ObjsAt.app {c : Cs} {H : Hp} : ∀ (ws : List W) (vs : List V) {us : List V} {xs : List W}, ObjsAt c H vs ws → ObjsAt c H us xs → ObjsAt c H (vs ++ us) (ws ++ xs)
  | [], vs, us, xs, h, h2 => by rw [show vs = [] from h]; exact h2
  | w :: ws, vs, us, xs, ⟨u, r, e, hu, h⟩, h2 => by rw [e]; exact ⟨u, r ++ us, rfl, hu, ObjsAt.app ws r h h2⟩
theorem ObjsAt.at_ {c : Cs} {H : Hp} : ∀ (ws : List W) (vs : List V) (i : Nat) (w : W), ObjsAt c H vs ws → ws[i]? = some w → ∃ v, vs[i]? = some v ∧ ObjAt c H v w
  | [], vs, i, w, h, e => by simp at e
  | x :: ws, vs, 0, w, ⟨u, us, ev, hu, h⟩, e => by
    have q : x = w := by simpa using e
    subst q
    exact ⟨u, by rw [ev]; rfl, hu⟩
  | x :: ws, vs, i + 1, w, ⟨u, us, ev, hu, h⟩, e => by
    obtain ⟨v, h1, h2⟩ := ObjsAt.at_ ws us i w h (by simpa using e)
    exact ⟨v, by rw [ev]; simpa using h1, h2⟩
theorem ObjsAt.rev {c : Cs} {H : Hp} : ∀ (ws : List W) (vs : List V), ObjsAt c H vs ws → ObjsAt c H vs.reverse ws.reverse
  | [], vs, h => by rw [show vs = [] from h]; rfl
  | w :: ws, vs, ⟨u, us, e, hu, h⟩ => by
    rw [e, List.reverse_cons, List.reverse_cons]
    exact ObjsAt.app _ _ (ObjsAt.rev ws us h) ⟨u, [], rfl, hu, rfl⟩
/-- tuples and instances stay -/
structure Still (H H' : Hp) : Prop where
  tup : ∀ {a : Addr} {xs : List V}, H a = some (.tup xs) → H' a = some (.tup xs)
  ins : ∀ {a C d : Addr} {fs : List (Str × V)}, H a = some (.ins C d fs) → H' a = some (.ins C d fs)
theorem Still.refl (H : Hp) : Still H H := ⟨fun h => h, fun h => h⟩
theorem Still.trans {H H1 H2 : Hp} (a : Still H H1) (b : Still H1 H2) : Still H H2 := ⟨fun h => b.tup (a.tup h), fun h => b.ins (a.ins h)⟩
theorem Keep.still {H H' : Hp} (k : Keep H H') : Still H H' := ⟨fun h => k.tup h, fun h => k.ins h⟩
theorem stillS {H H' : Hp} (k : Same H H') : Still H H' := (Keep.of k).still
theorem Still.put {H : Hp} {q : Addr} {xs ys : List V} (h : H q = some (.lst xs)) : Still H (upd H q (.lst ys)) :=
  ⟨fun {a} _ e => by rw [upd_ne (ne_of e h (by intro z; cases z))]; exact e, fun {a} _ _ _ e => by rw [upd_ne (ne_of e h (by intro z; cases z))]; exact e⟩
mutual
theorem ObjAt.keep {c : Cs} {H H' : Hp} (k : Still H H') : ∀ (w : W) (v : V), ObjAt c H v w → ObjAt c H' v w
  | .one, v, ⟨a, d, e, h⟩ => ⟨a, d, e, k.ins h⟩
  | .nothing, v, ⟨a, d, e, h⟩ => ⟨a, d, e, k.ins h⟩
  | .letter _, v, ⟨a, d, e, h⟩ => ⟨a, d, e, k.ins h⟩
  | .call _, v, ⟨a, d, e, h⟩ => ⟨a, d, e, k.ins h⟩
  | .row ws, v, ⟨a, d, t, vs, e, h, h2, h3⟩ => ⟨a, d, t, vs, e, k.ins h, k.tup h2, ObjsAt.keep k ws vs h3⟩
  | .choice ws, v, ⟨a, d, t, vs, e, h, h2, h3⟩ => ⟨a, d, t, vs, e, k.ins h, k.tup h2, ObjsAt.keep k ws vs h3⟩
  | .again w, v, ⟨a, d, u, m, e, h, h2⟩ => ⟨a, d, u, m, e, k.ins h, ObjAt.keep k w u h2⟩
  | .maybe w, v, ⟨a, d, u, m, e, h, h2⟩ => ⟨a, d, u, m, e, k.ins h, ObjAt.keep k w u h2⟩
  | .ahead w, v, ⟨a, d, u, m, e, h, h2⟩ => ⟨a, d, u, m, e, k.ins h, ObjAt.keep k w u h2⟩
  | .unless w, v, ⟨a, d, u, m, e, h, h2⟩ => ⟨a, d, u, m, e, k.ins h, ObjAt.keep k w u h2⟩
theorem ObjsAt.keep {c : Cs} {H H' : Hp} (k : Still H H') : ∀ (ws : List W) (vs : List V), ObjsAt c H vs ws → ObjsAt c H' vs ws
  | [], _, h => h
  | w :: ws, vs, ⟨u, us, e, h, h2⟩ => ⟨u, us, e, ObjAt.keep k w u h, ObjsAt.keep k ws us h2⟩
end
/-- the ways of which a way is made -/
def W.inner : W → List W
  | .row ws => ws
  | .choice ws => ws
  | .again w => [w]
  | .maybe w => [w]
  | .ahead w => [w]
  | .unless w => [w]
  | _ => []
theorem W.size_inner (w : W) : w.size = 1 + W.sizes w.inner := by
  cases w <;> simp [W.size, W.inner, W.sizes]
theorem W.size_mem : ∀ {ws : List W} {i : Nat} {w : W}, ws[i]? = some w → w.size ≤ W.sizes ws
  | [], i, w, h => by simp at h
  | x :: ws, 0, w, h => by
    have q : x = w := by simpa using h
    subst q
    simp only [W.sizes]; omega
  | x :: ws, i + 1, w, h => by
    have q := W.size_mem (ws := ws) (i := i) (w := w) (by simpa using h)
    simp only [W.sizes]; omega
theorem take_more' {α : Type} : ∀ {l : List α} {i : Nat} {x : α}, l[i]? = some x → l.take (i + 1) = l.take i ++ [x]
  | [], i, x, h => by simp at h
  | a :: l, 0, x, h => by
    have e : a = x := Option.some.inj h
    subst e
    rfl
  | a :: l, i + 1, x, h => by
    have ih := take_more' (l := l) (i := i) (x := x) h
    show a :: l.take (i + 1) = a :: l.take i ++ [x]
    rw [ih]
    rfl
/-! ### tests by the tag -/
def W.is_lc : W → Bool
  | .letter _ => true
  | .call _ => true
  | _ => false
theorem in_lc (w : W) : inV (.str w.tag) [.str (Str.ofString "letter"), .str (Str.ofString "call")] = w.is_lc := by cases w <;> (simp only [W.tag, W.is_lc]; decide +kernel)
def W.is_on : W → Bool
  | .one => true
  | .nothing => true
  | _ => false
theorem in_on (w : W) : inV (.str w.tag) [.str (Str.ofString "one"), .str (Str.ofString "nothing")] = w.is_on := by cases w <;> (simp only [W.tag, W.is_on]; decide +kernel)
def W.is_rc : W → Bool
  | .row _ => true
  | .choice _ => true
  | _ => false
theorem in_rc (w : W) : inV (.str w.tag) [.str (Str.ofString "row"), .str (Str.ofString "choice")] = w.is_rc := by cases w <;> (simp only [W.tag, W.is_rc]; decide +kernel)
def W.is_am : W → Bool
  | .again _ => true
  | .maybe _ => true
  | _ => false
theorem in_am (w : W) : inV (.str w.tag) [.str (Str.ofString "again"), .str (Str.ofString "maybe")] = w.is_am := by cases w <;> (simp only [W.tag, W.is_am]; decide +kernel)
def W.is_un : W → Bool
  | .again _ => true
  | .maybe _ => true
  | .ahead _ => true
  | .unless _ => true
  | _ => false
theorem in_un (w : W) : inV (.str w.tag) [.str (Str.ofString "again"), .str (Str.ofString "maybe"), .str (Str.ofString "ahead"), .str (Str.ofString "unless")] = w.is_un := by cases w <;> (simp only [W.tag, W.is_un]; decide +kernel)
def W.is_nothing' : W → Bool
  | .nothing => true
  | _ => false
theorem eq_nothing (w : W) : decide (V.str w.tag = V.str (Str.ofString "nothing")) = w.is_nothing' := by
  cases w <;> first
    | exact decide_eq_true rfl
    | exact decide_eq_false (fun h => absurd (V.str.inj h) (by simp only [W.tag]; decide +kernel))
def W.is_one' : W → Bool
  | .one => true
  | _ => false
theorem eq_one (w : W) : decide (V.str w.tag = V.str (Str.ofString "one")) = w.is_one' := by
  cases w <;> first
    | exact decide_eq_true rfl
    | exact decide_eq_false (fun h => absurd (V.str.inj h) (by simp only [W.tag]; decide +kernel))
def W.is_letter' : W → Bool
  | .letter _ => true
  | _ => false
theorem eq_letter (w : W) : decide (V.str w.tag = V.str (Str.ofString "letter")) = w.is_letter' := by
  cases w <;> first
    | exact decide_eq_true rfl
    | exact decide_eq_false (fun h => absurd (V.str.inj h) (by simp only [W.tag]; decide +kernel))
def W.is_call' : W → Bool
  | .call _ => true
  | _ => false
theorem eq_call (w : W) : decide (V.str w.tag = V.str (Str.ofString "call")) = w.is_call' := by
  cases w <;> first
    | exact decide_eq_true rfl
    | exact decide_eq_false (fun h => absurd (V.str.inj h) (by simp only [W.tag]; decide +kernel))
def W.is_row' : W → Bool
  | .row _ => true
  | _ => false
theorem eq_row (w : W) : decide (V.str w.tag = V.str (Str.ofString "row")) = w.is_row' := by
  cases w <;> first
    | exact decide_eq_true rfl
    | exact decide_eq_false (fun h => absurd (V.str.inj h) (by simp only [W.tag]; decide +kernel))
def W.is_choice' : W → Bool
  | .choice _ => true
  | _ => false
theorem eq_choice (w : W) : decide (V.str w.tag = V.str (Str.ofString "choice")) = w.is_choice' := by
  cases w <;> first
    | exact decide_eq_true rfl
    | exact decide_eq_false (fun h => absurd (V.str.inj h) (by simp only [W.tag]; decide +kernel))
def W.is_again' : W → Bool
  | .again _ => true
  | _ => false
theorem eq_again (w : W) : decide (V.str w.tag = V.str (Str.ofString "again")) = w.is_again' := by
  cases w <;> first
    | exact decide_eq_true rfl
    | exact decide_eq_false (fun h => absurd (V.str.inj h) (by simp only [W.tag]; decide +kernel))
def W.is_maybe' : W → Bool
  | .maybe _ => true
  | _ => false
theorem eq_maybe (w : W) : decide (V.str w.tag = V.str (Str.ofString "maybe")) = w.is_maybe' := by
  cases w <;> first
    | exact decide_eq_true rfl
    | exact decide_eq_false (fun h => absurd (V.str.inj h) (by simp only [W.tag]; decide +kernel))
def W.is_ahead' : W → Bool
  | .ahead _ => true
  | _ => false
theorem eq_ahead (w : W) : decide (V.str w.tag = V.str (Str.ofString "ahead")) = w.is_ahead' := by
  cases w <;> first
    | exact decide_eq_true rfl
    | exact decide_eq_false (fun h => absurd (V.str.inj h) (by simp only [W.tag]; decide +kernel))
def W.is_unless' : W → Bool
  | .unless _ => true
  | _ => false
theorem eq_unless (w : W) : decide (V.str w.tag = V.str (Str.ofString "unless")) = w.is_unless' := by
  cases w <;> first
    | exact decide_eq_true rfl
    | exact decide_eq_false (fun h => absurd (V.str.inj h) (by simp only [W.tag]; decide +kernel))
theorem WayAt.head {H : Hp} {v : V} {w : W} (h : WayAt H v w) : ∃ a rest, v = .ref a ∧ H a = some (.tup (.str w.tag :: rest)) := by
  cases w <;> first
    | (obtain ⟨a, e, h⟩ := h; exact ⟨a, _, e, h⟩)
    | (obtain ⟨a, u, e, h, _⟩ := h; exact ⟨a, _, e, h⟩)
    | (obtain ⟨a, l, vs, e, h, _⟩ := h; exact ⟨a, _, e, h⟩)
theorem atI0 {x : V} {r : List V} : atI (x :: r) 0 = some x := atI_nat (j := 0) rfl
theorem atI1 {x y : V} {r : List V} : atI (x :: y :: r) 1 = some y := atI_nat (j := 1) rfl
/-! ### what the written part says of a class of ways -/
structure ClsF (K : PySem.W.Frag) (C : Addr) : Prop where
  cl : Cls K C
  nl : NoAttr K C "letter"
  nn : NoAttr K C "name"
  nw : NoAttr K C "ways"
  np : NoAttr K C "part"
  nc : NoAttr K C "called"
  nr : NoAttr K C "rounds"
  nm : NoAttr K C "mark"
  ha : PySem.W.findIn K (.ref C) "__class__" = some (some (.builtin "object.__class__"))
  hm : PySem.W.mroIn K C (.type "object") = some true
/-- what kind_of asks of the classes -/
structure AllF (K : PySem.W.Frag) (mg : Str → Option Value) (c : Cs) : Prop where
  f : ∀ w : W, ClsF K (c.of w)
  hn : PySem.W.specialIn K (.builtin "object.__class__") "__get__" = some (some (.builtin "getset_descriptor.__get__"))
  ht : PySem.W.takesIn K (.builtin "object.__class__") = some true
  kit : ∀ w u : W, PySem.W.kitOne K (.ref (c.of w)) (.ref (c.of u)) = some (decide (w.tag = u.tag))
  mLt : mg "Letter" = some (.ref c.lt)
  mOn : mg "One" = some (.ref c.on)
  mNo : mg "Nothing" = some (.ref c.no)
  mRo : mg "Row" = some (.ref c.ro)
  mCh : mg "Choice" = some (.ref c.ch)
  mAg : mg "Again" = some (.ref c.ag)
  mMa : mg "Maybe" = some (.ref c.ma)
  mAh : mg "Ahead" = some (.ref c.ah)
  mUn : mg "Unless" = some (.ref c.un)
  mCa : mg "Call" = some (.ref c.ca)
theorem ObjAt.head {c : Cs} {H : Hp} {v : V} {w : W} (h : ObjAt c H v w) : ∃ a d fs, v = .ref a ∧ H a = some (.ins (c.of w) d fs) := by
  cases w <;> first
    | (obtain ⟨a, d, e, h⟩ := h; exact ⟨a, d, _, e, h⟩)
    | (obtain ⟨a, d, u, m, e, h, _⟩ := h; exact ⟨a, d, _, e, h⟩)
/-- no attribute of a way has another name -/
def Names7 (m : Str) : Prop := m ≠ Str.ofString "letter" ∧ m ≠ Str.ofString "name" ∧ m ≠ Str.ofString "ways" ∧ m ≠ Str.ofString "part" ∧ m ≠ Str.ofString "called" ∧ m ≠ Str.ofString "rounds" ∧ m ≠ Str.ofString "mark"
theorem look_cons {f m : Str} {v : V} {r : List (Str × V)} (h : m ≠ f) : List.lookup m ((f, v) :: r) = List.lookup m r := by
  have q : (m == f) = false := by simpa using h
  simp [List.lookup, q]
theorem look_nts {o : Option Str} {n : Nat} {r : List (Str × V)} {m : Str} (h1 : m ≠ Str.ofString "called") (h2 : m ≠ Str.ofString "rounds") : List.lookup m (nts o n r) = List.lookup m r := by
  unfold nts
  rw [look_cons h1, look_cons h2]
theorem ObjAt.head' {c : Cs} {H : Hp} {v : V} {w : W} (h : ObjAt c H v w) : ∃ a d fs, v = .ref a ∧ H a = some (.ins (c.of w) d fs) ∧ ∀ m : Str, Names7 m → fs.lookup m = none := by
  cases w <;> first
    | (obtain ⟨a, d, e, h⟩ := h; exact ⟨a, d, _, e, h, fun m ⟨h1, h2, h3, h4, h5, h6, h7⟩ => by first | (rw [look_nts h5 h6]; rfl) | (rw [look_cons h1, look_nts h5 h6]; rfl) | (rw [look_cons h2, look_nts h5 h6]; rfl)⟩)
    | (obtain ⟨a, d, t, vs, e, h, _⟩ := h; exact ⟨a, d, _, e, h, fun m ⟨h1, h2, h3, h4, h5, h6, h7⟩ => by first | (rw [look_cons h3, look_nts h5 h6]; rfl) | (rw [look_cons h4, look_nts h5 h6]; rfl) | (rw [look_cons h4, look_nts h5 h6, look_cons h7]; rfl)⟩)
/-- what a way notes of itself, whatever its kind -/
theorem ObjAt.notes {c : Cs} {H : Hp} {v : V} {w : W} (h : ObjAt c H v w) : ∃ a d fs, v = .ref a ∧ H a = some (.ins (c.of w) d fs) ∧ fs.lookup (Str.ofString "called") = some (fV w.called) ∧ fs.lookup (Str.ofString "rounds") = some (.int (w.rounds : Nat)) := by
  cases w <;> first
    | (obtain ⟨a, d, e, h⟩ := h; exact ⟨a, d, _, e, h, rfl, rfl⟩)
    | (obtain ⟨a, d, t, vs, e, h, _⟩ := h; exact ⟨a, d, _, e, h, rfl, rfl⟩)
end Wv
namespace Wv
open PySem PySem.Spec PyProof.Rows L2
/-! ### the classes' __init__ -/
/-- what an __init__ leaves: the fields of the object at p; what was there ahead of the object stays -/
def Left (C p dx : Addr) (H0 : Hp) (fs : List (Str × V)) (Q : VK) : Prop := ∀ H' : Hp, H' p = some (.ins C dx fs) → Same H0 H' → Q .non H'
def At0 (C p dx : Addr) (H0 H : Hp) : Prop := H p = some (.ins C dx []) ∧ H0 p = none ∧ Same H0 H
def spInit0 (C : Addr) : Sp := fun vs H Q _ => ∃ (p dx : Addr) (H0 : Hp), vs = [.ref p] ∧ At0 C p dx H0 H ∧ Left C p dx H0 (nts none 0 []) Q
def spInitL (C : Addr) : Sp := fun vs H Q _ => ∃ (p dx : Addr) (v : V) (H0 : Hp), vs = [.ref p, v] ∧ At0 C p dx H0 H ∧ Left C p dx H0 ((Str.ofString "letter", v) :: nts none 0 []) Q
def spInitC (C : Addr) : Sp := fun vs H Q _ => ∃ (p dx : Addr) (v : V) (H0 : Hp), vs = [.ref p, v] ∧ At0 C p dx H0 H ∧ Left C p dx H0 ((Str.ofString "name", v) :: (Str.ofString "called", v) :: (Str.ofString "rounds", .int 0) :: []) Q
def spInitP (c : Cs) (C : Addr) : Sp := fun vs H Q _ => ∃ (p dx : Addr) (u : V) (w : W) (H0 : Hp), vs = [.ref p, u] ∧ At0 C p dx H0 H ∧ ObjAt c H0 u w ∧ Left C p dx H0 ((Str.ofString "part", u) :: nts w.called w.rounds []) Q
def spInitA (c : Cs) (C : Addr) : Sp := fun vs H Q _ => ∃ (p dx : Addr) (u : V) (w : W) (H0 : Hp), vs = [.ref p, u] ∧ At0 C p dx H0 H ∧ ObjAt c H0 u w ∧ ∀ mk : V, Left C p dx H0 ((Str.ofString "part", u) :: nts w.called (w.rounds + 1) [(Str.ofString "mark", mk)]) Q
def spInitT (K : PySem.W.Frag) (c : Cs) (C : Addr) : Sp := fun vs H Q _ => ∃ (p dx q : Addr) (xs : List V) (ws : List W) (H0 : Hp), vs = [.ref p, .ref q] ∧ At0 C p dx H0 H ∧ (H0 q = some (.lst xs) ∨ H0 q = some (.tup xs)) ∧ ObjsAt c H0 xs ws ∧ ws.length ≤ 1000000 ∧
  ∀ (t : Addr) (H' : Hp), H' t = some (.tup xs) → H' p = some (.ins C dx ((Str.ofString "ways", .ref t) :: nts (W.calleds ws) (W.roundss ws) [])) → Same H0 H' → Q .non H'
theorem at0 {H : Hp} {x dx C : Addr} (hx : H x = none) (hd : H dx = none) : At0 C x dx H (upd (upd H dx (.own x)) x (.ins C dx [])) :=
  ⟨upd_same, hx, fun b o e => by rw [upd_ne (ne_of_none e hx), upd_ne (ne_of_none e hd)]; exact e⟩
section
variable {c : Cs} {K : PySem.W.Frag} {C : Addr} {H : Hp} {Q : VK} {E : XK}
theorem make0 (h : ∀ x dx H', Same H H' → H' x = some (.ins C dx (nts none 0 [])) → Q (.ref x) H') :
    ∀ x dx, H x = none → H dx = none → dx ≠ x → spInit0 C (.ref x :: []) (upd (upd H dx (.own x)) x (.ins C dx [])) (fun v H2 => v = .non ∧ Q (.ref x) H2) E := fun x dx hx hd _ =>
  ⟨x, dx, H, rfl, at0 hx hd, fun H' e s => ⟨rfl, h x dx H' s e⟩⟩
theorem makeL {v : V} (h : ∀ x dx H', Same H H' → H' x = some (.ins C dx ((Str.ofString "letter", v) :: nts none 0 [])) → Q (.ref x) H') :
    ∀ x dx, H x = none → H dx = none → dx ≠ x → spInitL C (.ref x :: ([v] ++ [])) (upd (upd H dx (.own x)) x (.ins C dx [])) (fun v H2 => v = .non ∧ Q (.ref x) H2) E := fun x dx hx hd _ =>
  ⟨x, dx, v, H, rfl, at0 hx hd, fun H' e s => ⟨rfl, h x dx H' s e⟩⟩
theorem makeC {y : Str} (h : ∀ x dx H', Same H H' → H' x = some (.ins C dx ((Str.ofString "name", .str y) :: nts (some y) 0 [])) → Q (.ref x) H') :
    ∀ x dx, H x = none → H dx = none → dx ≠ x → spInitC C (.ref x :: ([.str y] ++ [])) (upd (upd H dx (.own x)) x (.ins C dx [])) (fun v H2 => v = .non ∧ Q (.ref x) H2) E := fun x dx hx hd _ =>
  ⟨x, dx, .str y, H, rfl, at0 hx hd, fun H' e s => ⟨rfl, h x dx H' s e⟩⟩
theorem makeP {u : V} {w : W} (hu : ObjAt c H u w) (h : ∀ x dx H', Same H H' → H' x = some (.ins C dx ((Str.ofString "part", u) :: nts w.called w.rounds [])) → Q (.ref x) H') :
    ∀ x dx, H x = none → H dx = none → dx ≠ x → spInitP c C (.ref x :: ([u] ++ [])) (upd (upd H dx (.own x)) x (.ins C dx [])) (fun v H2 => v = .non ∧ Q (.ref x) H2) E := fun x dx hx hd _ =>
  ⟨x, dx, u, w, H, rfl, at0 hx hd, hu, fun H' e s => ⟨rfl, h x dx H' s e⟩⟩
theorem makeA {u : V} {w : W} (hu : ObjAt c H u w) (h : ∀ x dx mk H', Same H H' → H' x = some (.ins C dx ((Str.ofString "part", u) :: nts w.called (w.rounds + 1) [(Str.ofString "mark", mk)])) → Q (.ref x) H') :
    ∀ x dx, H x = none → H dx = none → dx ≠ x → spInitA c C (.ref x :: ([u] ++ [])) (upd (upd H dx (.own x)) x (.ins C dx [])) (fun v H2 => v = .non ∧ Q (.ref x) H2) E := fun x dx hx hd _ =>
  ⟨x, dx, u, w, H, rfl, at0 hx hd, hu, fun mk H' e s => ⟨rfl, h x dx mk H' s e⟩⟩
theorem makeT {q : Addr} {xs : List V} {ws : List W} (hq : H q = some (.lst xs) ∨ H q = some (.tup xs)) (hw : ObjsAt c H xs ws) (hl : ws.length ≤ 1000000) (h : ∀ x dx t H', Same H H' → H' t = some (.tup xs) → H' x = some (.ins C dx ((Str.ofString "ways", .ref t) :: nts (W.calleds ws) (W.roundss ws) [])) → Q (.ref x) H') :
    ∀ x dx, H x = none → H dx = none → dx ≠ x → spInitT K c C (.ref x :: ([.ref q] ++ [])) (upd (upd H dx (.own x)) x (.ins C dx [])) (fun v H2 => v = .non ∧ Q (.ref x) H2) E := fun x dx hx hd _ =>
  ⟨x, dx, q, xs, ws, H, rfl, at0 hx hd, hq, hw, hl, fun t H' ht e s => ⟨rfl, h x dx t H' s ht e⟩⟩
end
def spFirst (c : Cs) : Sp := fun vs H Q _ => ∃ (t : Addr) (xs : List V) (ws : List W), vs = [.ref t] ∧ H t = some (.tup xs) ∧ ObjsAt c H xs ws ∧ ws.length ≤ 1000000 ∧ ∀ H', Same H H' → Q (fV (W.calleds ws)) H'
def spMost (c : Cs) : Sp := fun vs H Q _ => ∃ (t : Addr) (xs : List V) (ws : List W), vs = [.ref t] ∧ H t = some (.tup xs) ∧ ObjsAt c H xs ws ∧ ws.length ≤ 1000000 ∧ ∀ H', Same H H' → Q (.int (W.roundss ws : Nat)) H'
section
variable {P : Program} {w : World} {K : PySem.W.Frag} {mg : Str → Option Value} {base : Heap}
theorem calleds_map : ∀ ws : List W, W.calleds ws = (ws.filterMap W.called).head?
  | [] => rfl
  | w :: ws => by
    rw [W.calleds, List.filterMap_cons]
    cases h : w.called with
    | none => exact calleds_map ws
    | some x => rfl
theorem rounds_max : ∀ (ws : List W) (n : Nat), (ws.map fun w => ((w.rounds : Nat) : Int)).foldl max ((n : Nat) : Int) = ((max n (W.roundss ws) : Nat) : Int)
  | [], n => by rw [W.roundss, Nat.max_zero]; rfl
  | w :: ws, n => by
    rw [List.map_cons, List.foldl_cons, W.roundss]
    have e : max ((n : Nat) : Int) ((w.rounds : Nat) : Int) = ((max n w.rounds : Nat) : Int) := by omega
    rw [e, rounds_max ws, Nat.max_assoc]
theorem rounds_fold (ws : List W) : mx 0 (ws.map fun w => ((w.rounds : Nat) : Int)) = ((W.roundss ws : Nat) : Int) := by
  cases ws with
  | nil => rfl
  | cons w ws => exact rounds_max ws w.rounds
abbrev s_first_call : Stmt := top 33
theorem sc_first_call : FnScope ["ways", "calls", "way"] ["ways"] (defScope s_first_call) := ⟨rfl, rfl, rfl, by decide +kernel, rfl, by decide +kernel, by decide +kernel⟩
theorem d_first_call (h : Here K mg "first_call" s_first_call ["ways"]) {c : Cs} (hf : ∀ w : W, ClsF K (c.of w)) : DefOk P w K mg base 1 "first_call" ["ways"] (spFirst c) := by
  refine h.ok sc_first_call (fun vs H Q E h => by obtain ⟨_, _, _, rfl, _⟩ := h; rfl) (fun f cdv A outer s H vs Q E hr h => ?_)
  obtain ⟨t, xs, ws, rfl, ht, hw, hl, k⟩ := h
  refine ⟨_, (pss_cons (ps_setLc (i := 1) (own := [("way", 2)]) (g := (gName 2)) rfl sc_first_call.nd rfl rfl (sw_true rfl rfl rfl (by decide +kernel)) (pi_tup (pv 0)) (blkOk_by (own := [("way", 2)]) (N := ["ways", "calls", "way"]) (sc := defScope s_first_call) (by decide +kernel)) (fun _ _ _ _ _ => pg_name (i := 2) sc_first_call.nd rfl (Or.inl rfl)) (fun _ _ _ _ _ => pts_one (pt_cmpR op_notN (pe_fldK (K := K) rfl (pv 2) rfl) pe_non (nomark _))) (fun _ _ _ _ _ => (pe_fldK (K := K) rfl (pv 2) rfl)))
  (pss_one (ps_ret (pe_ifExp (pt_truth (pv 1) (by intro _; rfl)) (pe_ix ix_list (pv 1) pe_int (fun _ _ => rfl)) pe_non)))), ?_⟩
  have elen := ObjsAt.len _ _ hw
  refine ⟨_, rfl, t, rfl, ⟨xs, SqT.of ht⟩, fun D hD => ?_⟩
  refine lc_tup (K := K) (a := t) (xs := xs) (fun i H' => H' D = some (.lst (((ws.take i).filterMap W.called).map V.str)) ∧ Same H H') ?_ ?_ ?_ ?_
  · exact ⟨upd_same, Same.new hD _⟩
  · rintro i H' _ ⟨_, s1⟩
    exact SqT.of (s1 _ _ ht)
  · rintro i x H' hx ⟨hD', s1⟩
    have hi : i < xs.length := (List.getElem?_eq_some_iff.mp hx).1
    obtain ⟨wi, hwi⟩ : ∃ wi, ws[i]? = some wi := ⟨ws[i]'(by omega), List.getElem?_eq_getElem (by omega)⟩
    obtain ⟨x', hx', hxw⟩ := ObjsAt.at_ _ _ _ _ hw hwi
    have ex : x = x' := Option.some.inj (hx.symm.trans hx')
    subst ex
    obtain ⟨a, d, fs, ea, ha, l1, l2⟩ := (ObjAt.keep (stillS s1) _ _ hxw).notes
    refine ⟨rfl, _, rfl, a, _, d, fs, _, ea, ha, (hf wi).cl, (hf wi).nc, l1, rfl, _, rfl, ?_⟩
    rw [take_more' hwi, List.filterMap_append, List.map_append]
    cases hc : wi.called with
    | none =>
      rw [hc] at l1
      have e9 : (!decide (fV none = V.non)) = false := rfl
      rw [e9]
      refine iteF ⟨?_, s1⟩
      rw [List.filterMap_cons, hc, List.filterMap_nil, List.map_nil, List.append_nil]
      exact hD'
    | some y =>
      rw [hc] at l1
      have e9 : (!decide (fV (some y) = V.non)) = true := rfl
      rw [e9]
      have hlen := List.length_filterMap_le W.called (ws.take i)
      have hlen2 : (ws.take i).length ≤ ws.length := by rw [List.length_take]; omega
      refine iteT ⟨_, rfl, a, _, d, fs, _, ea, ha, (hf wi).cl, (hf wi).nc, l1, _, hD', small' (by rw [List.length_map]; omega), ?_, Same.put hD s1 _⟩
      rw [upd_same, List.filterMap_cons, hc, List.filterMap_nil]
      rfl
  · rintro H1 ⟨hD1, s1⟩
    rw [elen, List.take_length] at hD1
    walk_at "nx"
    refine ⟨_, rfl, _, .inl ⟨_, SqL.of hD1, rfl⟩, ?_⟩
    have e := calleds_map ws
    cases hl : ws.filterMap W.called with
    | nil =>
      rw [hl] at e hD1
      refine iteF ?_
      have k' := k H1 s1
      rw [e] at k'
      exact k'
    | cons y ys =>
      rw [hl] at e hD1
      refine iteT ⟨_, rfl, D, _, _, _, rfl, rfl, SqL.of hD1, atI0, ?_⟩
      have k' := k H1 s1
      rw [e] at k'
      exact k'
abbrev s_most_rounds : Stmt := top 34
theorem sc_most_rounds : FnScope ["ways", "way"] ["ways"] (defScope s_most_rounds) := ⟨rfl, rfl, rfl, by decide +kernel, rfl, by decide +kernel, by decide +kernel⟩
theorem d_most_rounds (h : Here K mg "most_rounds" s_most_rounds ["ways"]) (B : Bs mg) {c : Cs} (hf : ∀ w : W, ClsF K (c.of w)) : DefOk P w K mg base 1 "most_rounds" ["ways"] (spMost c) := by
  have B_max := B.max
  refine h.ok sc_most_rounds (fun vs H Q E h => by obtain ⟨_, _, _, rfl, _⟩ := h; rfl) (fun f cdv A outer s H vs Q E hr h => ?_)
  obtain ⟨t, xs, ws, rfl, ht, hw, hl, k⟩ := h
  refine ⟨_, (pss_one (ps_ret (pe_callBK (cr_maxDef rfl (Nat.lt_of_le_of_lt (Nat.add_le_add_left (by decide) _) hr.units)) rfl B_max (by decide +kernel) (pa_cons (pe_lc (own := [("way", 1)]) (g := (gName 1)) (tt := tYes) rfl sc_most_rounds.nd (pi_tup (pv 0)) (blkOk_by (own := [("way", 1)]) (N := ["ways", "way"]) (sc := defScope s_most_rounds) (by decide +kernel)) (fun _ _ _ _ _ => pg_name (i := 1) sc_most_rounds.nd rfl (Or.inl rfl)) (fun _ _ _ _ _ => pts_nil) (fun _ _ _ _ _ => (pe_fldK (K := K) rfl (pv 1) rfl))) pa_nil) (pk_cons pe_int pk_nil)))), ?_⟩
  have elen := ObjsAt.len _ _ hw
  refine ⟨_, rfl, t, rfl, ⟨xs, SqT.of ht⟩, fun D hD => ?_⟩
  refine lc_tup (K := K) (a := t) (xs := xs) (fun i H' => H' D = some (.lst ((ws.take i).map fun w => V.int ((w.rounds : Nat) : Int))) ∧ Same H H') ?_ ?_ ?_ ?_
  · exact ⟨upd_same, Same.new hD _⟩
  · rintro i H' _ ⟨_, s1⟩
    exact SqT.of (s1 _ _ ht)
  · rintro i x H' hx ⟨hD', s1⟩
    have hi : i < xs.length := (List.getElem?_eq_some_iff.mp hx).1
    obtain ⟨wi, hwi⟩ : ∃ wi, ws[i]? = some wi := ⟨ws[i]'(by omega), List.getElem?_eq_getElem (by omega)⟩
    obtain ⟨x', hx', hxw⟩ := ObjsAt.at_ _ _ _ _ hw hwi
    have ex : x = x' := Option.some.inj (hx.symm.trans hx')
    subst ex
    obtain ⟨a, d, fs, ea, ha, l1, l2⟩ := (ObjAt.keep (stillS s1) _ _ hxw).notes
    refine ⟨rfl, _, rfl, a, _, d, fs, _, ea, ha, (hf wi).cl, (hf wi).nr, l2, _, hD', small' (by rw [List.length_map, List.length_take]; omega), ?_, Same.put hD s1 _⟩
    rw [upd_same, take_more' hwi, List.map_append]
    rfl
  · rintro H1 ⟨hD1, s1⟩
    rw [elen, List.take_length] at hD1
    refine ⟨D, ws.map fun w => ((w.rounds : Nat) : Int), 0, rfl, rfl, SqL.of (by rw [List.map_map]; exact hD1), ?_⟩
    rw [rounds_fold]
    exact k H1 s1
abbrev s_One_init : Stmt := inClass (top 24) 0
theorem sc_One_init : FnScope ["self"] ["self"] (defScope s_One_init) := ⟨rfl, rfl, rfl, by decide +kernel, rfl, by decide +kernel, by decide +kernel⟩
theorem ok_One {f C : Addr} {fd : FuncData} (F : Fun K "__init__" "One.__init__" s_One_init f fd) (T : ClsF K C) : FnOk P w K mg base CX0 1 f fd ["self"] (spInit0 C) := by
  refine F.ok sc_One_init (fun vs H Q E h => by obtain ⟨_, _, _, rfl, _⟩ := h; rfl) (fun cdv A outer s H vs Q E hr h => ?_)
  obtain ⟨p, dx, H0, rfl, ⟨hp, h0, s0⟩, k⟩ := h
  refine ⟨_, (pss_cons (ps_fld (pv 0) pe_non rfl)
  (pss_one (ps_fld (pv 0) pe_int rfl))), ?_⟩
  refine ⟨_, rfl, p, C, dx, [], rfl, hp, T.cl, T.nc, (by show 0 < 1000; decide), ?_⟩
  refine ⟨_, rfl, p, C, dx, _, rfl, upd_same, T.cl, T.nr, (by show 1 < 1000; decide), ?_⟩
  exact k _ upd_same (Same.put h0 (Same.put h0 s0 _) _)
abbrev s_Nothing_init : Stmt := inClass (top 25) 0
theorem sc_Nothing_init : FnScope ["self"] ["self"] (defScope s_Nothing_init) := ⟨rfl, rfl, rfl, by decide +kernel, rfl, by decide +kernel, by decide +kernel⟩
theorem ok_Nothing {f C : Addr} {fd : FuncData} (F : Fun K "__init__" "Nothing.__init__" s_Nothing_init f fd) (T : ClsF K C) : FnOk P w K mg base CX0 1 f fd ["self"] (spInit0 C) := by
  refine F.ok sc_Nothing_init (fun vs H Q E h => by obtain ⟨_, _, _, rfl, _⟩ := h; rfl) (fun cdv A outer s H vs Q E hr h => ?_)
  obtain ⟨p, dx, H0, rfl, ⟨hp, h0, s0⟩, k⟩ := h
  refine ⟨_, (pss_cons (ps_fld (pv 0) pe_non rfl)
  (pss_one (ps_fld (pv 0) pe_int rfl))), ?_⟩
  refine ⟨_, rfl, p, C, dx, [], rfl, hp, T.cl, T.nc, (by show 0 < 1000; decide), ?_⟩
  refine ⟨_, rfl, p, C, dx, _, rfl, upd_same, T.cl, T.nr, (by show 1 < 1000; decide), ?_⟩
  exact k _ upd_same (Same.put h0 (Same.put h0 s0 _) _)
abbrev s_Letter_init : Stmt := inClass (top 23) 0
theorem sc_Letter_init : FnScope ["self", "letter"] ["self", "letter"] (defScope s_Letter_init) := ⟨rfl, rfl, rfl, by decide +kernel, rfl, by decide +kernel, by decide +kernel⟩
theorem ok_Letter {f C : Addr} {fd : FuncData} (F : Fun K "__init__" "Letter.__init__" s_Letter_init f fd) (T : ClsF K C) : FnOk P w K mg base CX0 1 f fd ["self", "letter"] (spInitL C) := by
  refine F.ok sc_Letter_init (fun vs H Q E h => by obtain ⟨_, _, _, _, rfl, _⟩ := h; rfl) (fun cdv A outer s H vs Q E hr h => ?_)
  obtain ⟨p, dx, v, H0, rfl, ⟨hp, h0, s0⟩, k⟩ := h
  refine ⟨_, (pss_cons (ps_fld (pv 0) (pv 1) rfl)
  (pss_cons (ps_fld (pv 0) pe_non rfl)
  (pss_one (ps_fld (pv 0) pe_int rfl)))), ?_⟩
  refine ⟨_, rfl, _, rfl, p, C, dx, [], rfl, hp, T.cl, T.nl, (by show 0 < 1000; decide), ?_⟩
  refine ⟨_, rfl, p, C, dx, _, rfl, upd_same, T.cl, T.nc, (by show 1 < 1000; decide), ?_⟩
  refine ⟨_, rfl, p, C, dx, _, rfl, upd_same, T.cl, T.nr, (by show 2 < 1000; decide), ?_⟩
  exact k _ upd_same (Same.put h0 (Same.put h0 (Same.put h0 s0 _) _) _)
abbrev s_Call_init : Stmt := inClass (top 32) 0
theorem sc_Call_init : FnScope ["self", "name"] ["self", "name"] (defScope s_Call_init) := ⟨rfl, rfl, rfl, by decide +kernel, rfl, by decide +kernel, by decide +kernel⟩
theorem ok_Call {f C : Addr} {fd : FuncData} (F : Fun K "__init__" "Call.__init__" s_Call_init f fd) (T : ClsF K C) : FnOk P w K mg base CX0 1 f fd ["self", "name"] (spInitC C) := by
  refine F.ok sc_Call_init (fun vs H Q E h => by obtain ⟨_, _, _, _, rfl, _⟩ := h; rfl) (fun cdv A outer s H vs Q E hr h => ?_)
  obtain ⟨p, dx, v, H0, rfl, ⟨hp, h0, s0⟩, k⟩ := h
  refine ⟨_, (pss_cons (ps_fld (pv 0) (pv 1) rfl)
  (pss_cons (ps_fld (pv 0) (pv 1) rfl)
  (pss_one (ps_fld (pv 0) pe_int rfl)))), ?_⟩
  refine ⟨_, rfl, _, rfl, p, C, dx, [], rfl, hp, T.cl, T.nn, (by show 0 < 1000; decide), ?_⟩
  refine ⟨_, rfl, _, rfl, p, C, dx, _, rfl, upd_same, T.cl, T.nc, (by show 1 < 1000; decide), ?_⟩
  refine ⟨_, rfl, p, C, dx, _, rfl, upd_same, T.cl, T.nr, (by show 2 < 1000; decide), ?_⟩
  exact k _ upd_same (Same.put h0 (Same.put h0 (Same.put h0 s0 _) _) _)
abbrev s_Maybe_init : Stmt := inClass (top 29) 0
theorem sc_Maybe_init : FnScope ["self", "part"] ["self", "part"] (defScope s_Maybe_init) := ⟨rfl, rfl, rfl, by decide +kernel, rfl, by decide +kernel, by decide +kernel⟩
theorem ok_Maybe {f C : Addr} {fd : FuncData} {c : Cs} (F : Fun K "__init__" "Maybe.__init__" s_Maybe_init f fd) (T : ClsF K C) (hf : ∀ w : W, ClsF K (c.of w)) : FnOk P w K mg base CX0 1 f fd ["self", "part"] (spInitP c C) := by
  refine F.ok sc_Maybe_init (fun vs H Q E h => by obtain ⟨_, _, _, _, _, rfl, _⟩ := h; rfl) (fun cdv A outer s H vs Q E hr h => ?_)
  obtain ⟨p, dx, u, w, H0, rfl, ⟨hp, h0, s0⟩, hu, k⟩ := h
  refine ⟨_, (pss_cons (ps_fld (pv 0) (pv 1) rfl)
  (pss_cons (ps_fld (pv 0) (pe_fld (pv 1) rfl) rfl)
  (pss_one (ps_fld (pv 0) (pe_fld (pv 1) rfl) rfl)))), ?_⟩
  refine ⟨_, rfl, _, rfl, p, C, dx, [], rfl, hp, T.cl, T.np, (by show 0 < 1000; decide), ?_⟩
  have s1 := Same.put h0 s0 (HO.ins C dx (putF (Str.ofString "part") u []))
  have g1 : upd H p (HO.ins C dx (putF (Str.ofString "part") u [])) p = some (HO.ins C dx (putF (Str.ofString "part") u [])) := upd_same
  generalize upd H p (HO.ins C dx (putF (Str.ofString "part") u [])) = H1 at *
  obtain ⟨a, d, fs, ea, ha, l1, l2⟩ := (ObjAt.keep (stillS s1) _ _ hu).notes
  refine ⟨_, rfl, a, _, d, fs, _, ea, ha, (hf w).cl, (hf w).nc, l1, _, rfl, p, C, dx, _, rfl, g1, T.cl, T.nc, (by show 1 < 1000; decide), ?_⟩
  have s2 := Same.put h0 s1 (HO.ins C dx (putF (Str.ofString "called") (fV w.called) (putF (Str.ofString "part") u [])))
  have g2 : upd H1 p (HO.ins C dx (putF (Str.ofString "called") (fV w.called) (putF (Str.ofString "part") u []))) p = some _ := upd_same
  generalize upd H1 p (HO.ins C dx (putF (Str.ofString "called") (fV w.called) (putF (Str.ofString "part") u []))) = H2 at *
  obtain ⟨a, d, fs, ea, ha, l1, l2⟩ := (ObjAt.keep (stillS s2) _ _ hu).notes
  refine ⟨_, rfl, a, _, d, fs, _, ea, ha, (hf w).cl, (hf w).nr, l2, _, rfl, p, C, dx, _, rfl, g2, T.cl, T.nr, (by show 2 < 1000; decide), ?_⟩
  exact k _ upd_same (Same.put h0 s2 _)
abbrev s_Ahead_init : Stmt := inClass (top 30) 0
theorem sc_Ahead_init : FnScope ["self", "part"] ["self", "part"] (defScope s_Ahead_init) := ⟨rfl, rfl, rfl, by decide +kernel, rfl, by decide +kernel, by decide +kernel⟩
theorem ok_Ahead {f C : Addr} {fd : FuncData} {c : Cs} (F : Fun K "__init__" "Ahead.__init__" s_Ahead_init f fd) (T : ClsF K C) (hf : ∀ w : W, ClsF K (c.of w)) : FnOk P w K mg base CX0 1 f fd ["self", "part"] (spInitP c C) := by
  refine F.ok sc_Ahead_init (fun vs H Q E h => by obtain ⟨_, _, _, _, _, rfl, _⟩ := h; rfl) (fun cdv A outer s H vs Q E hr h => ?_)
  obtain ⟨p, dx, u, w, H0, rfl, ⟨hp, h0, s0⟩, hu, k⟩ := h
  refine ⟨_, (pss_cons (ps_fld (pv 0) (pv 1) rfl)
  (pss_cons (ps_fld (pv 0) (pe_fld (pv 1) rfl) rfl)
  (pss_one (ps_fld (pv 0) (pe_fld (pv 1) rfl) rfl)))), ?_⟩
  refine ⟨_, rfl, _, rfl, p, C, dx, [], rfl, hp, T.cl, T.np, (by show 0 < 1000; decide), ?_⟩
  have s1 := Same.put h0 s0 (HO.ins C dx (putF (Str.ofString "part") u []))
  have g1 : upd H p (HO.ins C dx (putF (Str.ofString "part") u [])) p = some (HO.ins C dx (putF (Str.ofString "part") u [])) := upd_same
  generalize upd H p (HO.ins C dx (putF (Str.ofString "part") u [])) = H1 at *
  obtain ⟨a, d, fs, ea, ha, l1, l2⟩ := (ObjAt.keep (stillS s1) _ _ hu).notes
  refine ⟨_, rfl, a, _, d, fs, _, ea, ha, (hf w).cl, (hf w).nc, l1, _, rfl, p, C, dx, _, rfl, g1, T.cl, T.nc, (by show 1 < 1000; decide), ?_⟩
  have s2 := Same.put h0 s1 (HO.ins C dx (putF (Str.ofString "called") (fV w.called) (putF (Str.ofString "part") u [])))
  have g2 : upd H1 p (HO.ins C dx (putF (Str.ofString "called") (fV w.called) (putF (Str.ofString "part") u []))) p = some _ := upd_same
  generalize upd H1 p (HO.ins C dx (putF (Str.ofString "called") (fV w.called) (putF (Str.ofString "part") u []))) = H2 at *
  obtain ⟨a, d, fs, ea, ha, l1, l2⟩ := (ObjAt.keep (stillS s2) _ _ hu).notes
  refine ⟨_, rfl, a, _, d, fs, _, ea, ha, (hf w).cl, (hf w).nr, l2, _, rfl, p, C, dx, _, rfl, g2, T.cl, T.nr, (by show 2 < 1000; decide), ?_⟩
  exact k _ upd_same (Same.put h0 s2 _)
abbrev s_Unless_init : Stmt := inClass (top 31) 0
theorem sc_Unless_init : FnScope ["self", "part"] ["self", "part"] (defScope s_Unless_init) := ⟨rfl, rfl, rfl, by decide +kernel, rfl, by decide +kernel, by decide +kernel⟩
theorem ok_Unless {f C : Addr} {fd : FuncData} {c : Cs} (F : Fun K "__init__" "Unless.__init__" s_Unless_init f fd) (T : ClsF K C) (hf : ∀ w : W, ClsF K (c.of w)) : FnOk P w K mg base CX0 1 f fd ["self", "part"] (spInitP c C) := by
  refine F.ok sc_Unless_init (fun vs H Q E h => by obtain ⟨_, _, _, _, _, rfl, _⟩ := h; rfl) (fun cdv A outer s H vs Q E hr h => ?_)
  obtain ⟨p, dx, u, w, H0, rfl, ⟨hp, h0, s0⟩, hu, k⟩ := h
  refine ⟨_, (pss_cons (ps_fld (pv 0) (pv 1) rfl)
  (pss_cons (ps_fld (pv 0) (pe_fld (pv 1) rfl) rfl)
  (pss_one (ps_fld (pv 0) (pe_fld (pv 1) rfl) rfl)))), ?_⟩
  refine ⟨_, rfl, _, rfl, p, C, dx, [], rfl, hp, T.cl, T.np, (by show 0 < 1000; decide), ?_⟩
  have s1 := Same.put h0 s0 (HO.ins C dx (putF (Str.ofString "part") u []))
  have g1 : upd H p (HO.ins C dx (putF (Str.ofString "part") u [])) p = some (HO.ins C dx (putF (Str.ofString "part") u [])) := upd_same
  generalize upd H p (HO.ins C dx (putF (Str.ofString "part") u [])) = H1 at *
  obtain ⟨a, d, fs, ea, ha, l1, l2⟩ := (ObjAt.keep (stillS s1) _ _ hu).notes
  refine ⟨_, rfl, a, _, d, fs, _, ea, ha, (hf w).cl, (hf w).nc, l1, _, rfl, p, C, dx, _, rfl, g1, T.cl, T.nc, (by show 1 < 1000; decide), ?_⟩
  have s2 := Same.put h0 s1 (HO.ins C dx (putF (Str.ofString "called") (fV w.called) (putF (Str.ofString "part") u [])))
  have g2 : upd H1 p (HO.ins C dx (putF (Str.ofString "called") (fV w.called) (putF (Str.ofString "part") u []))) p = some _ := upd_same
  generalize upd H1 p (HO.ins C dx (putF (Str.ofString "called") (fV w.called) (putF (Str.ofString "part") u []))) = H2 at *
  obtain ⟨a, d, fs, ea, ha, l1, l2⟩ := (ObjAt.keep (stillS s2) _ _ hu).notes
  refine ⟨_, rfl, a, _, d, fs, _, ea, ha, (hf w).cl, (hf w).nr, l2, _, rfl, p, C, dx, _, rfl, g2, T.cl, T.nr, (by show 2 < 1000; decide), ?_⟩
  exact k _ upd_same (Same.put h0 s2 _)
abbrev s_Again_init : Stmt := inClass (top 28) 0
theorem sc_Again_init : FnScope ["self", "part"] ["self", "part"] (defScope s_Again_init) := ⟨rfl, rfl, rfl, by decide +kernel, rfl, by decide +kernel, by decide +kernel⟩
theorem ok_Again {f C : Addr} {fd : FuncData} {c : Cs} {mkC : Addr} (F : Fun K "__init__" "Again.__init__" s_Again_init f fd) (T : ClsF K C) (hf : ∀ w : W, ClsF K (c.of w)) (G_Mark : Mk0 K mg "Mark" mkC) : FnOk P w K mg base CX0 1 f fd ["self", "part"] (spInitA c C) := by
  refine F.ok sc_Again_init (fun vs H Q E h => by obtain ⟨_, _, _, _, _, rfl, _⟩ := h; rfl) (fun cdv A outer s H vs Q E hr h => ?_)
  obtain ⟨p, dx, u, w, H0, rfl, ⟨hp, h0, s0⟩, hu, k⟩ := h
  refine ⟨_, (pss_cons (ps_fld (pv 0) (pv 1) rfl)
  (pss_cons (ps_fld (pv 0) (pe_fld (pv 1) rfl) rfl)
  (pss_cons (ps_fld (pv 0) (pe_op op_add (pe_fld (pv 1) rfl) pe_int) rfl)
  (pss_one (ps_fld (pv 0) (pe_make00 G_Mark rfl) rfl))))), ?_⟩
  refine ⟨_, rfl, _, rfl, p, C, dx, [], rfl, hp, T.cl, T.np, (by show 0 < 1000; decide), ?_⟩
  have s1 := Same.put h0 s0 (HO.ins C dx (putF (Str.ofString "part") u []))
  have g1 : upd H p (HO.ins C dx (putF (Str.ofString "part") u [])) p = some (HO.ins C dx (putF (Str.ofString "part") u [])) := upd_same
  generalize upd H p (HO.ins C dx (putF (Str.ofString "part") u [])) = H1 at *
  obtain ⟨a, d, fs, ea, ha, l1, l2⟩ := (ObjAt.keep (stillS s1) _ _ hu).notes
  refine ⟨_, rfl, a, _, d, fs, _, ea, ha, (hf w).cl, (hf w).nc, l1, _, rfl, p, C, dx, _, rfl, g1, T.cl, T.nc, (by show 1 < 1000; decide), ?_⟩
  have s2 := Same.put h0 s1 (HO.ins C dx (putF (Str.ofString "called") (fV w.called) (putF (Str.ofString "part") u [])))
  have g2 : upd H1 p (HO.ins C dx (putF (Str.ofString "called") (fV w.called) (putF (Str.ofString "part") u []))) p = some _ := upd_same
  generalize upd H1 p (HO.ins C dx (putF (Str.ofString "called") (fV w.called) (putF (Str.ofString "part") u []))) = H2 at *
  obtain ⟨a, d, fs, ea, ha, l1, l2⟩ := (ObjAt.keep (stillS s2) _ _ hu).notes
  refine ⟨_, rfl, a, _, d, fs, _, ea, ha, (hf w).cl, (hf w).nr, l2, _, _, rfl, rfl, _, rfl, p, C, dx, _, rfl, g2, T.cl, T.nr, (by show 2 < 1000; decide), ?_⟩
  generalize e3 : putF (Str.ofString "rounds") (V.int ((w.rounds : Nat) + 1)) (putF (Str.ofString "called") (fV w.called) (putF (Str.ofString "part") u [])) = f3
  have s3 := Same.put h0 s2 (HO.ins C dx f3)
  have g3 : upd H2 p (HO.ins C dx f3) p = some (HO.ins C dx f3) := upd_same
  generalize upd H2 p (HO.ins C dx f3) = H3 at *
  intro m dm hm hdm hne
  have s4 := (at0 (C := mkC) hm hdm).2.2
  refine ⟨_, rfl, p, C, dx, _, rfl, s4 _ _ g3, T.cl, T.nm, (by rw [← e3]; show 3 < 1000; decide), ?_⟩
  refine k (.ref m) _ ?_ (Same.put h0 (s3.trans s4) _)
  rw [upd_same, ← e3]
  rfl
abbrev s_Row_init : Stmt := inClass (top 26) 0
theorem sc_Row_init : FnScope ["self", "ways"] ["self", "ways"] (defScope s_Row_init) := ⟨rfl, rfl, rfl, by decide +kernel, rfl, by decide +kernel, by decide +kernel⟩
theorem ok_Row {f C : Addr} {fd : FuncData} {c : Cs} (F : Fun K "__init__" "Row.__init__" s_Row_init f fd) (T : ClsF K C) (B : Bs mg) (G_first_call : DefOk P w K mg base 1 "first_call" ["ways"] (spFirst c)) (G_most_rounds : DefOk P w K mg base 1 "most_rounds" ["ways"] (spMost c)) : FnOk P w K mg base CX0 2 f fd ["self", "ways"] (spInitT K c C) := by
  have B_tuple := B.tuple
  refine F.ok sc_Row_init (fun vs H Q E h => by obtain ⟨_, _, _, _, _, _, rfl, _⟩ := h; rfl) (fun cdv A outer s H vs Q E hr h => ?_)
  obtain ⟨p, dx, q, xs, ws, H0, rfl, ⟨hp, h0, s0⟩, hq, hw, hl, k⟩ := h
  refine ⟨_, (pss_cons (ps_fld (pv 0) (pe_callTy call_tuple_of rfl B_tuple (by decide +kernel) (pa_cons (pv 1) pa_nil)) rfl)
  (pss_cons (ps_fld (pv 0) (pe_callD G_first_call (hr.mono (by first | decide | omega)) rfl (pa_cons (pe_fld (pv 0) rfl) pa_nil)) rfl)
  (pss_one (ps_fld (pv 0) (pe_callD G_most_rounds (hr.mono (by first | decide | omega)) rfl (pa_cons (pe_fld (pv 0) rfl) pa_nil)) rfl)))), ?_⟩
  have elen := ObjsAt.len _ _ hw
  have hq' := hq.imp (s0 _ _) (s0 _ _)
  refine ⟨_, rfl, q, xs, rfl, ?_⟩
  rcases hq' with hq' | hq'
  · refine .inl ⟨SqL.of hq', fun t ht0 => ?_⟩
    have npt : p ≠ t := ne_of_none hp ht0
    have s1 := s0.trans (Same.new ht0 (.tup xs))
    have ht : upd H t (.tup xs) t = some (.tup xs) := upd_same
    have hp1 : upd H t (.tup xs) p = some (.ins C dx []) := by rw [upd_ne npt]; exact hp
    generalize upd H t (.tup xs) = H1 at *
    refine ⟨_, rfl, p, C, dx, [], rfl, hp1, T.cl, T.nw, (by show 0 < 1000; decide), ?_⟩
    have s2 := Same.put h0 s1 (HO.ins C dx (putF (Str.ofString "ways") (.ref t) []))
    have g2 : upd H1 p (HO.ins C dx (putF (Str.ofString "ways") (.ref t) [])) p = some (HO.ins C dx (putF (Str.ofString "ways") (.ref t) [])) := upd_same
    have t2 : upd H1 p (HO.ins C dx (putF (Str.ofString "ways") (.ref t) [])) t = some (.tup xs) := by rw [upd_ne npt.symm]; exact ht
    generalize upd H1 p (HO.ins C dx (putF (Str.ofString "ways") (.ref t) [])) = H2 at *
    refine ⟨_, rfl, p, C, dx, _, _, rfl, g2, T.cl, T.nw, rfl, t, xs, ws, rfl, t2, ObjsAt.keep (stillS s2) _ _ hw, hl, fun H3 s3 => ?_⟩
    refine ⟨_, rfl, p, C, dx, _, rfl, s3 _ _ g2, T.cl, T.nc, (by show 1 < 1000; decide), ?_⟩
    generalize e4 : putF (Str.ofString "called") (fV (W.calleds ws)) (putF (Str.ofString "ways") (.ref t) []) = f4
    have s4 := Same.put h0 (s2.trans s3) (HO.ins C dx f4)
    have g4 : upd H3 p (HO.ins C dx f4) p = some (HO.ins C dx f4) := upd_same
    have t4 : upd H3 p (HO.ins C dx f4) t = some (.tup xs) := by rw [upd_ne npt.symm]; exact s3 _ _ t2
    generalize upd H3 p (HO.ins C dx f4) = H4 at *
    refine ⟨_, rfl, p, C, dx, _, _, rfl, g4, T.cl, T.nw, (by rw [← e4]; rfl), t, xs, ws, rfl, t4, ObjsAt.keep (stillS s4) _ _ hw, hl, fun H5 s5 => ?_⟩
    refine ⟨_, rfl, p, C, dx, _, rfl, s5 _ _ g4, T.cl, T.nr, (by rw [← e4]; show 2 < 1000; decide), ?_⟩
    refine k t _ (by rw [upd_ne npt.symm]; exact s5 _ _ t4) ?_ (Same.put h0 (s4.trans s5) _)
    rw [upd_same, ← e4]
    rfl
  · refine .inr ⟨SqT.of hq', ?_⟩
    have npt : p ≠ q := (ne_of hq' hp (by intro z; cases z)).symm
    have s1 := s0
    have ht := hq'
    have hp1 := hp
    refine ⟨_, rfl, p, C, dx, [], rfl, hp1, T.cl, T.nw, (by show 0 < 1000; decide), ?_⟩
    have s2 := Same.put h0 s1 (HO.ins C dx (putF (Str.ofString "ways") (.ref q) []))
    have g2 : upd H p (HO.ins C dx (putF (Str.ofString "ways") (.ref q) [])) p = some (HO.ins C dx (putF (Str.ofString "ways") (.ref q) [])) := upd_same
    have t2 : upd H p (HO.ins C dx (putF (Str.ofString "ways") (.ref q) [])) q = some (.tup xs) := by rw [upd_ne npt.symm]; exact ht
    generalize upd H p (HO.ins C dx (putF (Str.ofString "ways") (.ref q) [])) = H2 at *
    refine ⟨_, rfl, p, C, dx, _, _, rfl, g2, T.cl, T.nw, rfl, q, xs, ws, rfl, t2, ObjsAt.keep (stillS s2) _ _ hw, hl, fun H3 s3 => ?_⟩
    refine ⟨_, rfl, p, C, dx, _, rfl, s3 _ _ g2, T.cl, T.nc, (by show 1 < 1000; decide), ?_⟩
    generalize e4 : putF (Str.ofString "called") (fV (W.calleds ws)) (putF (Str.ofString "ways") (.ref q) []) = f4
    have s4 := Same.put h0 (s2.trans s3) (HO.ins C dx f4)
    have g4 : upd H3 p (HO.ins C dx f4) p = some (HO.ins C dx f4) := upd_same
    have t4 : upd H3 p (HO.ins C dx f4) q = some (.tup xs) := by rw [upd_ne npt.symm]; exact s3 _ _ t2
    generalize upd H3 p (HO.ins C dx f4) = H4 at *
    refine ⟨_, rfl, p, C, dx, _, _, rfl, g4, T.cl, T.nw, (by rw [← e4]; rfl), q, xs, ws, rfl, t4, ObjsAt.keep (stillS s4) _ _ hw, hl, fun H5 s5 => ?_⟩
    refine ⟨_, rfl, p, C, dx, _, rfl, s5 _ _ g4, T.cl, T.nr, (by rw [← e4]; show 2 < 1000; decide), ?_⟩
    refine k q _ (by rw [upd_ne npt.symm]; exact s5 _ _ t4) ?_ (Same.put h0 (s4.trans s5) _)
    rw [upd_same, ← e4]
    rfl
abbrev s_Choice_init : Stmt := inClass (top 27) 0
theorem sc_Choice_init : FnScope ["self", "ways"] ["self", "ways"] (defScope s_Choice_init) := ⟨rfl, rfl, rfl, by decide +kernel, rfl, by decide +kernel, by decide +kernel⟩
theorem ok_Choice {f C : Addr} {fd : FuncData} {c : Cs} (F : Fun K "__init__" "Choice.__init__" s_Choice_init f fd) (T : ClsF K C) (B : Bs mg) (G_first_call : DefOk P w K mg base 1 "first_call" ["ways"] (spFirst c)) (G_most_rounds : DefOk P w K mg base 1 "most_rounds" ["ways"] (spMost c)) : FnOk P w K mg base CX0 2 f fd ["self", "ways"] (spInitT K c C) := by
  have B_tuple := B.tuple
  refine F.ok sc_Choice_init (fun vs H Q E h => by obtain ⟨_, _, _, _, _, _, rfl, _⟩ := h; rfl) (fun cdv A outer s H vs Q E hr h => ?_)
  obtain ⟨p, dx, q, xs, ws, H0, rfl, ⟨hp, h0, s0⟩, hq, hw, hl, k⟩ := h
  refine ⟨_, (pss_cons (ps_fld (pv 0) (pe_callTy call_tuple_of rfl B_tuple (by decide +kernel) (pa_cons (pv 1) pa_nil)) rfl)
  (pss_cons (ps_fld (pv 0) (pe_callD G_first_call (hr.mono (by first | decide | omega)) rfl (pa_cons (pe_fld (pv 0) rfl) pa_nil)) rfl)
  (pss_one (ps_fld (pv 0) (pe_callD G_most_rounds (hr.mono (by first | decide | omega)) rfl (pa_cons (pe_fld (pv 0) rfl) pa_nil)) rfl)))), ?_⟩
  have elen := ObjsAt.len _ _ hw
  have hq' := hq.imp (s0 _ _) (s0 _ _)
  refine ⟨_, rfl, q, xs, rfl, ?_⟩
  rcases hq' with hq' | hq'
  · refine .inl ⟨SqL.of hq', fun t ht0 => ?_⟩
    have npt : p ≠ t := ne_of_none hp ht0
    have s1 := s0.trans (Same.new ht0 (.tup xs))
    have ht : upd H t (.tup xs) t = some (.tup xs) := upd_same
    have hp1 : upd H t (.tup xs) p = some (.ins C dx []) := by rw [upd_ne npt]; exact hp
    generalize upd H t (.tup xs) = H1 at *
    refine ⟨_, rfl, p, C, dx, [], rfl, hp1, T.cl, T.nw, (by show 0 < 1000; decide), ?_⟩
    have s2 := Same.put h0 s1 (HO.ins C dx (putF (Str.ofString "ways") (.ref t) []))
    have g2 : upd H1 p (HO.ins C dx (putF (Str.ofString "ways") (.ref t) [])) p = some (HO.ins C dx (putF (Str.ofString "ways") (.ref t) [])) := upd_same
    have t2 : upd H1 p (HO.ins C dx (putF (Str.ofString "ways") (.ref t) [])) t = some (.tup xs) := by rw [upd_ne npt.symm]; exact ht
    generalize upd H1 p (HO.ins C dx (putF (Str.ofString "ways") (.ref t) [])) = H2 at *
    refine ⟨_, rfl, p, C, dx, _, _, rfl, g2, T.cl, T.nw, rfl, t, xs, ws, rfl, t2, ObjsAt.keep (stillS s2) _ _ hw, hl, fun H3 s3 => ?_⟩
    refine ⟨_, rfl, p, C, dx, _, rfl, s3 _ _ g2, T.cl, T.nc, (by show 1 < 1000; decide), ?_⟩
    generalize e4 : putF (Str.ofString "called") (fV (W.calleds ws)) (putF (Str.ofString "ways") (.ref t) []) = f4
    have s4 := Same.put h0 (s2.trans s3) (HO.ins C dx f4)
    have g4 : upd H3 p (HO.ins C dx f4) p = some (HO.ins C dx f4) := upd_same
    have t4 : upd H3 p (HO.ins C dx f4) t = some (.tup xs) := by rw [upd_ne npt.symm]; exact s3 _ _ t2
    generalize upd H3 p (HO.ins C dx f4) = H4 at *
    refine ⟨_, rfl, p, C, dx, _, _, rfl, g4, T.cl, T.nw, (by rw [← e4]; rfl), t, xs, ws, rfl, t4, ObjsAt.keep (stillS s4) _ _ hw, hl, fun H5 s5 => ?_⟩
    refine ⟨_, rfl, p, C, dx, _, rfl, s5 _ _ g4, T.cl, T.nr, (by rw [← e4]; show 2 < 1000; decide), ?_⟩
    refine k t _ (by rw [upd_ne npt.symm]; exact s5 _ _ t4) ?_ (Same.put h0 (s4.trans s5) _)
    rw [upd_same, ← e4]
    rfl
  · refine .inr ⟨SqT.of hq', ?_⟩
    have npt : p ≠ q := (ne_of hq' hp (by intro z; cases z)).symm
    have s1 := s0
    have ht := hq'
    have hp1 := hp
    refine ⟨_, rfl, p, C, dx, [], rfl, hp1, T.cl, T.nw, (by show 0 < 1000; decide), ?_⟩
    have s2 := Same.put h0 s1 (HO.ins C dx (putF (Str.ofString "ways") (.ref q) []))
    have g2 : upd H p (HO.ins C dx (putF (Str.ofString "ways") (.ref q) [])) p = some (HO.ins C dx (putF (Str.ofString "ways") (.ref q) [])) := upd_same
    have t2 : upd H p (HO.ins C dx (putF (Str.ofString "ways") (.ref q) [])) q = some (.tup xs) := by rw [upd_ne npt.symm]; exact ht
    generalize upd H p (HO.ins C dx (putF (Str.ofString "ways") (.ref q) [])) = H2 at *
    refine ⟨_, rfl, p, C, dx, _, _, rfl, g2, T.cl, T.nw, rfl, q, xs, ws, rfl, t2, ObjsAt.keep (stillS s2) _ _ hw, hl, fun H3 s3 => ?_⟩
    refine ⟨_, rfl, p, C, dx, _, rfl, s3 _ _ g2, T.cl, T.nc, (by show 1 < 1000; decide), ?_⟩
    generalize e4 : putF (Str.ofString "called") (fV (W.calleds ws)) (putF (Str.ofString "ways") (.ref q) []) = f4
    have s4 := Same.put h0 (s2.trans s3) (HO.ins C dx f4)
    have g4 : upd H3 p (HO.ins C dx f4) p = some (HO.ins C dx f4) := upd_same
    have t4 : upd H3 p (HO.ins C dx f4) q = some (.tup xs) := by rw [upd_ne npt.symm]; exact s3 _ _ t2
    generalize upd H3 p (HO.ins C dx f4) = H4 at *
    refine ⟨_, rfl, p, C, dx, _, _, rfl, g4, T.cl, T.nw, (by rw [← e4]; rfl), q, xs, ws, rfl, t4, ObjsAt.keep (stillS s4) _ _ hw, hl, fun H5 s5 => ?_⟩
    refine ⟨_, rfl, p, C, dx, _, rfl, s5 _ _ g4, T.cl, T.nr, (by rw [← e4]; show 2 < 1000; decide), ?_⟩
    refine k q _ (by rw [upd_ne npt.symm]; exact s5 _ _ t4) ?_ (Same.put h0 (s4.trans s5) _)
    rw [upd_same, ← e4]
    rfl
end
end Wv
namespace Wv
open PySem PySem.Spec PyProof.Rows L2
/-! ### the law's inner, made, way -/
def spInner : Sp := fun vs H Q _ => ∃ (v : V) (w : W), vs = [v] ∧ WayAt H v w ∧ ∀ (q : Addr) (us : List V) (H' : Hp), Same H H' → H' q = some (.lst us) → WaysAt H' us w.inner → Q (.ref q) H'
def spMade (c : Cs) (s : Nat) : Sp := fun vs H Q _ => ∃ (v : V) (w : W), vs = [v] ∧ WayAt H v w ∧ w.size ≤ s ∧ w.size ≤ 1000 ∧ ∀ (u : V) (H' : Hp), Same H H' → ObjAt c H' u w → Q u H'
section
variable {P : Program} {w : World} {K : PySem.W.Frag} {mg : Str → Option Value} {base : Heap}
/-- the classes as they are made -/
structure Gs (P : Program) (w : World) (K : PySem.W.Frag) (mg : Str → Option Value) (base : Heap) (c : Cs) : Prop where
  lt : ClsOk P w K mg base 1 "Letter" c.lt ["self", "letter"] (spInitL c.lt)
  ca : ClsOk P w K mg base 1 "Call" c.ca ["self", "name"] (spInitC c.ca)
  ro : ClsOk P w K mg base 2 "Row" c.ro ["self", "ways"] (spInitT K c c.ro)
  ch : ClsOk P w K mg base 2 "Choice" c.ch ["self", "ways"] (spInitT K c c.ch)
  ag : ClsOk P w K mg base 1 "Again" c.ag ["self", "part"] (spInitA c c.ag)
  ma : ClsOk P w K mg base 1 "Maybe" c.ma ["self", "part"] (spInitP c c.ma)
  ah : ClsOk P w K mg base 1 "Ahead" c.ah ["self", "part"] (spInitP c c.ah)
  un : ClsOk P w K mg base 1 "Unless" c.un ["self", "part"] (spInitP c c.un)
  on : ClsOk P w K mg base 1 "One" c.on ["self"] (spInit0 c.on)
  no : ClsOk P w K mg base 1 "Nothing" c.no ["self"] (spInit0 c.no)
abbrev s_l_inner : Stmt := top 59
theorem sc_l_inner : FnScope ["_law_way_here"] ["_law_way_here"] (defScope s_l_inner) := ⟨rfl, rfl, rfl, by decide +kernel, rfl, by decide +kernel, by decide +kernel⟩
theorem d_l_inner (h : Here K mg "_law_inner" s_l_inner ["_law_way_here"]) : DefOk P w K mg base 1 "_law_inner" ["_law_way_here"] spInner := by
  refine h.ok sc_l_inner (fun vs H Q E h => by obtain ⟨p, v, rfl, _⟩ := h; rfl) (fun f cdv A outer s H vs Q E hr h => ?_)
  obtain ⟨v, w, rfl, hv, k⟩ := h
  refine ⟨_, (pss_cons (ps_if (pt_cmpR op_in_seq (pe_ix ix_tup (pv 0) pe_int (fun _ _ => rfl)) (pe_lst (pa_cons pe_str (pa_cons pe_str pa_nil))) (by rfl)) (pss_one (ps_ret (pe_ix ix_tup (pv 0) pe_int (fun _ _ => rfl)))) pss_nil)
  (pss_one (ps_ret (pe_ifExp (pt_cmpR op_in_seq (pe_ix ix_tup (pv 0) pe_int (fun _ _ => rfl)) (pe_lst (pa_cons pe_str (pa_cons pe_str (pa_cons pe_str (pa_cons pe_str pa_nil))))) (by rfl)) (pe_lst (pa_cons (pe_ix ix_tup (pv 0) pe_int (fun _ _ => rfl)) pa_nil)) (pe_lst pa_nil))))), ?_⟩
  obtain ⟨a, rest, rfl, ha⟩ := hv.head
  walk_at "rd"
  refine ⟨a, _, _, _, rfl, rfl, SqT.of ha, atI0, ?_⟩
  refine ⟨by show 2 ≤ sizeLine; decide, fun q hq => ?_⟩
  have s1 := Same.new hq (.lst [.str (Str.ofString "row"), .str (Str.ofString "choice")])
  refine ⟨q, _, rfl, .inl (SqL.of upd_same), rfl, by decide +kernel, ?_⟩
  rw [if_neg Bool.false_ne_true, in_rc]
  walk_at "rd"
  refine ite2 (fun e => ?_) (fun e => ?_)
  · have hv' := WayAt.keep (Keep.of s1) _ _ hv
    walk_at "rd"
    cases w <;> first | exact absurd e Bool.false_ne_true | skip
    all_goals
      obtain ⟨a', l, vs, e', h1, h2, h3⟩ := hv'
      cases e'
      refine ⟨a, _, _, _, rfl, rfl, SqT.of h1, atI1, ?_⟩
      exact k l vs _ s1 h2 h3
  · have hv' := WayAt.keep (Keep.of s1) _ _ hv
    walk_at "nx"
    walk_at "rd"
    refine ⟨a, _, _, _, rfl, rfl, SqT.of (s1 _ _ ha), atI0, ?_⟩
    refine ⟨by show 4 ≤ sizeLine; decide, fun q2 hq2 => ?_⟩
    have s2 := s1.trans (Same.new hq2 (.lst [.str (Str.ofString "again"), .str (Str.ofString "maybe"), .str (Str.ofString "ahead"), .str (Str.ofString "unless")]))
    refine ⟨q2, _, rfl, .inl (SqL.of upd_same), rfl, by decide +kernel, ?_⟩
    rw [if_neg Bool.false_ne_true, in_un]
    walk_at "rd"
    have hv2 := WayAt.keep (Keep.of s2) _ _ hv
    refine ite2 (fun e2 => ?_) (fun e2 => ?_)
    · cases w <;> first | exact absurd e2 Bool.false_ne_true | skip
      all_goals
        obtain ⟨a', u, e', h1, h2⟩ := hv2
        cases e'
        walk_at "rd"
        refine ⟨a, _, _, _, rfl, rfl, SqT.of h1, atI1, by show 1 ≤ sizeLine; decide, fun q3 hq3 => ?_⟩
        have s3 := Same.new hq3 (.lst [u])
        exact k q3 _ _ (s2.trans s3) upd_same ⟨u, [], rfl, WayAt.keep (Keep.of s3) _ _ h2, rfl⟩
    · refine ⟨Nat.zero_le _, fun q3 hq3 => ?_⟩
      have s3 := Same.new hq3 (.lst [])
      cases w <;> first | exact absurd rfl e2 | exact absurd rfl e | exact k q3 _ _ (s2.trans s3) upd_same rfl
abbrev s_l_made : Stmt := top 60
theorem sc_l_made : FnScope ["_law_way_here", "_law_ways", "_law_one"] ["_law_way_here"] (defScope s_l_made) := ⟨rfl, rfl, rfl, by decide +kernel, rfl, by decide +kernel, by decide +kernel⟩
theorem none_made (c : Cs) {f : Addr} {fd : FuncData} : FnOk P w K mg base CX0 3 f fd ["_law_way_here"] (spMade c 0) := by
  have no : ∀ vs H Q E, ¬ spMade c 0 vs H Q E := fun vs H Q E h => by
    obtain ⟨v, w, _, _, h1, _⟩ := h
    have := w.size_pos
    omega
  exact ⟨fun vs H Q E h => absurd h (no vs H Q E), fun A outer s H args us vs Q E _ _ _ _ h => absurd h (no vs H Q E)⟩
theorem step_l_made (c : Cs) (s : Nat) (h : Here K mg "_law_made" s_l_made ["_law_way_here"]) (g : Gs P w K mg base c) (G_l_inner : DefOk P w K mg base 1 "_law_inner" ["_law_way_here"] spInner) (G_l_made : DefOk P w K mg base (3 + s) "_law_made" ["_law_way_here"] (spMade c s)) :
    DefOk P w K mg base (3 + s + 1) "_law_made" ["_law_way_here"] (spMade c (s + 1)) := by
  have G_Letter := g.lt; have G_Call := g.ca; have G_Row := g.ro; have G_Choice := g.ch; have G_Again := g.ag; have G_Maybe := g.ma; have G_Ahead := g.ah; have G_Unless := g.un
  have G_One := g.on; have G_Nothing := g.no
  refine h.ok sc_l_made (fun vs H Q E h => by obtain ⟨p, v, rfl, _⟩ := h; rfl) (fun f cdv A outer s' H vs Q E hr h => ?_)
  obtain ⟨v, w, rfl, hv, hs, hs2, k⟩ := h
  refine ⟨_, (pss_cons (ps_if (pt_cmpR op_in_seq (pe_ix ix_tup (pv 0) pe_int (fun _ _ => rfl)) (pe_lst (pa_cons pe_str (pa_cons pe_str pa_nil))) (by rfl)) (pss_one (ps_ret (pe_ifExp (pt_cmpR op_eq (pe_ix ix_tup (pv 0) pe_int (fun _ _ => rfl)) pe_str (nomark _)) (pe_makeD G_Letter (hr.mono (by first | decide | omega)) rfl (pa_cons (pe_ix ix_tup (pv 0) pe_int (fun _ _ => rfl)) pa_nil)) (pe_makeD G_Call (hr.mono (by first | decide | omega)) rfl (pa_cons (pe_ix ix_tup (pv 0) pe_int (fun _ _ => rfl)) pa_nil))))) pss_nil)
  (pss_cons (ps_if (pt_cmpR op_in_seq (pe_ix ix_tup (pv 0) pe_int (fun _ _ => rfl)) (pe_lst (pa_cons pe_str (pa_cons pe_str pa_nil))) (by rfl)) (pss_one (ps_ret (pe_ifExp (pt_cmpR op_eq (pe_ix ix_tup (pv 0) pe_int (fun _ _ => rfl)) pe_str (nomark _)) (pe_makeD0 G_One (hr.mono (by first | decide | omega)) rfl) (pe_makeD0 G_Nothing (hr.mono (by first | decide | omega)) rfl)))) pss_nil)
  (pss_cons (ps_setLc (i := 1) (own := [("_law_one", 2)]) (g := (gName 2)) (tt := tYes) rfl sc_l_made.nd rfl rfl (sw_true rfl rfl rfl (by decide +kernel)) (pi_list (pe_callD G_l_inner (hr.mono (by first | decide | omega)) rfl (pa_cons (pv 0) pa_nil))) (blkOk_by (own := [("_law_one", 2)]) (N := ["_law_way_here", "_law_ways", "_law_one"]) (sc := defScope s_l_made) (by decide +kernel)) (fun _ _ _ _ _ => pg_name (i := 2) sc_l_made.nd rfl (Or.inl rfl)) (fun _ _ _ _ _ => pts_nil) (fun _ _ _ _ _ => (pe_callD G_l_made (hr.mono (by first | decide | omega)) rfl (pa_cons (pv 2) pa_nil))))
  (pss_cons (ps_if (pt_cmpR op_in_seq (pe_ix ix_tup (pv 0) pe_int (fun _ _ => rfl)) (pe_lst (pa_cons pe_str (pa_cons pe_str pa_nil))) (by rfl)) (pss_one (ps_ret (pe_ifExp (pt_cmpR op_eq (pe_ix ix_tup (pv 0) pe_int (fun _ _ => rfl)) pe_str (nomark _)) (pe_makeD G_Row (hr.mono (by first | decide | omega)) rfl (pa_cons (pv 1) pa_nil)) (pe_makeD G_Choice (hr.mono (by first | decide | omega)) rfl (pa_cons (pv 1) pa_nil))))) pss_nil)
  (pss_cons (ps_if (pt_cmpR op_in_seq (pe_ix ix_tup (pv 0) pe_int (fun _ _ => rfl)) (pe_lst (pa_cons pe_str (pa_cons pe_str pa_nil))) (by rfl)) (pss_one (ps_ret (pe_ifExp (pt_cmpR op_eq (pe_ix ix_tup (pv 0) pe_int (fun _ _ => rfl)) pe_str (nomark _)) (pe_makeD G_Again (hr.mono (by first | decide | omega)) rfl (pa_cons (pe_ix ix_list (pv 1) pe_int (fun _ _ => rfl)) pa_nil)) (pe_makeD G_Maybe (hr.mono (by first | decide | omega)) rfl (pa_cons (pe_ix ix_list (pv 1) pe_int (fun _ _ => rfl)) pa_nil))))) pss_nil)
  (pss_one (ps_ret (pe_ifExp (pt_cmpR op_eq (pe_ix ix_tup (pv 0) pe_int (fun _ _ => rfl)) pe_str (nomark _)) (pe_makeD G_Ahead (hr.mono (by first | decide | omega)) rfl (pa_cons (pe_ix ix_list (pv 1) pe_int (fun _ _ => rfl)) pa_nil)) (pe_makeD G_Unless (hr.mono (by first | decide | omega)) rfl (pa_cons (pe_ix ix_list (pv 1) pe_int (fun _ _ => rfl)) pa_nil)))))))))), ?_⟩
  obtain ⟨a, rest, rfl, ha⟩ := hv.head
  walk_at "rd"
  refine ⟨a, _, _, _, rfl, rfl, SqT.of ha, atI0, ?_⟩
  refine ⟨by show 2 ≤ sizeLine; decide, fun q hq => ?_⟩
  have s1 := Same.new hq (.lst [.str (Str.ofString "letter"), .str (Str.ofString "call")])
  refine ⟨q, _, rfl, .inl (SqL.of upd_same), rfl, by decide +kernel, ?_⟩
  rw [if_neg Bool.false_ne_true, in_lc]
  walk_at "rd"
  refine ite2 (fun e => ?_) (fun e => ?_)
  · have hv' := WayAt.keep (Keep.of s1) _ _ hv
    walk_at "rd"
    refine ⟨a, _, _, _, rfl, rfl, SqT.of (s1 _ _ ha), atI0, rfl, _, rfl, ?_⟩
    rw [eq_letter]
    cases w <;> first | exact absurd e Bool.false_ne_true | skip
    · obtain ⟨a', e', h1⟩ := hv'
      cases e'
      refine iteT ?_
      walk_at "rd"
      refine ⟨a, _, _, _, rfl, rfl, SqT.of h1, atI1, makeL fun x dx H' s2 h => ?_⟩
      exact k _ H' (s1.trans s2) ⟨x, dx, rfl, h⟩
    · obtain ⟨a', e', h1⟩ := hv'
      cases e'
      refine iteF ?_
      walk_at "rd"
      refine ⟨a, _, _, _, rfl, rfl, SqT.of h1, atI1, makeC fun x dx H' s2 h => ?_⟩
      exact k _ H' (s1.trans s2) ⟨x, dx, rfl, h⟩
  · walk_at "nx"
    walk_at "rd"
    refine ⟨a, _, _, _, rfl, rfl, SqT.of (s1 _ _ ha), atI0, ?_⟩
    refine ⟨by show 2 ≤ sizeLine; decide, fun q2 hq2 => ?_⟩
    have s2 := s1.trans (Same.new hq2 (.lst [.str (Str.ofString "one"), .str (Str.ofString "nothing")]))
    refine ⟨q2, _, rfl, .inl (SqL.of upd_same), rfl, by decide +kernel, ?_⟩
    rw [if_neg Bool.false_ne_true, in_on]
    walk_at "rd"
    refine ite2 (fun e2 => ?_) (fun e2 => ?_)
    · walk_at "rd"
      refine ⟨a, _, _, _, rfl, rfl, SqT.of (s2 _ _ ha), atI0, rfl, _, rfl, ?_⟩
      rw [eq_one]
      cases w <;> first | exact absurd e2 Bool.false_ne_true | skip
      · exact iteF (make0 fun x dx H' s3 h => k _ H' (s2.trans s3) ⟨x, dx, rfl, h⟩)
      · exact iteT (make0 fun x dx H' s3 h => k _ H' (s2.trans s3) ⟨x, dx, rfl, h⟩)
    · walk_at "nx"
      refine ⟨_, rfl, .ref a, w, rfl, WayAt.keep (Keep.of s2) _ _ hv, fun qi us Hi si hqi hus => ?_⟩
      have s3 := s2.trans si
      refine ⟨qi, rfl, ⟨us, SqL.of hqi⟩, fun D hD => ?_⟩
      have elen := WaysAt.len _ _ hus
      refine lc_list (K := K) (a := qi) (xs := us) (fun i H' => ∃ os, H' D = some (.lst os) ∧ os.length = i ∧ Same Hi H' ∧ ObjsAt c H' os (w.inner.take i)) ?_ ?_ ?_ ?_
      · exact ⟨[], upd_same, rfl, Same.new hD _, rfl⟩
      · rintro i H' _ ⟨os, _, _, s4, _⟩
        exact SqL.of (s4 _ _ hqi)
      · rintro i x H' hx ⟨os, hD', hlo, s4, hos⟩
        have hi : i < us.length := (List.getElem?_eq_some_iff.mp hx).1
        obtain ⟨wi, hwi⟩ : ∃ wi, w.inner[i]? = some wi := ⟨w.inner[i]'(by omega), List.getElem?_eq_getElem (by omega)⟩
        obtain ⟨x', hx', hxw⟩ := WaysAt.at_ _ _ _ _ hus hwi
        have ex : x = x' := Option.some.inj (hx.symm.trans hx')
        subst ex
        have hsz := W.size_mem hwi
        have hsi := w.size_inner
        refine ⟨rfl, _, rfl, x, wi, rfl, WayAt.keep (Keep.of s4) _ _ hxw, by omega, by omega, fun u H2 s5 hu => ?_⟩
        have hl := W.sizes_len w.inner
        refine ⟨os, s5 _ _ hD', small' (by omega), os ++ [u], upd_same, by rw [List.length_append, hlo]; rfl, Same.put hD (s4.trans s5) _, ?_⟩
        rw [take_more' hwi]
        have st : Still H2 (upd H2 D (.lst (os ++ [u]))) := Still.put (s5 _ _ hD')
        exact ObjsAt.app _ _ (ObjsAt.keep ((stillS s5).trans st) _ _ hos) ⟨u, [], rfl, ObjAt.keep st _ _ hu, rfl⟩
      · rintro H5 ⟨os, hD', hlo, s4, hos⟩
        rw [elen, List.take_length] at hos
        have hwl : w.inner.length ≤ 1000000 := by have := W.sizes_len w.inner; have := w.size_inner; omega
        have s5 := s3.trans s4
        have ha5 := s5 _ _ ha
        walk_at "nx"
        walk_at "rd"
        refine ⟨a, _, _, _, rfl, rfl, SqT.of ha5, atI0, ?_⟩
        refine ⟨by show 2 ≤ sizeLine; decide, fun q3 hq3 => ?_⟩
        have s6 := Same.new hq3 (.lst [.str (Str.ofString "row"), .str (Str.ofString "choice")])
        refine ⟨q3, _, rfl, .inl (SqL.of upd_same), rfl, by decide +kernel, ?_⟩
        rw [if_neg Bool.false_ne_true, in_rc]
        walk_at "rd"
        refine ite2 (fun e3 => ?_) (fun e3 => ?_)
        · walk_at "rd"
          refine ⟨a, _, _, _, rfl, rfl, SqT.of (s6 _ _ ha5), atI0, rfl, _, rfl, ?_⟩
          rw [eq_row]
          cases w <;> first | exact absurd e3 Bool.false_ne_true | skip
          · refine iteT ⟨_, rfl, makeT (.inl (s6 _ _ hD')) (ObjsAt.keep (stillS s6) _ _ hos) (by exact hwl) fun x dx t H' s7 ht h => ?_⟩
            exact k _ H' ((s5.trans s6).trans s7) ⟨x, dx, t, os, rfl, h, ht, ObjsAt.keep (stillS (s6.trans s7)) _ _ hos⟩
          · refine iteF ⟨_, rfl, makeT (.inl (s6 _ _ hD')) (ObjsAt.keep (stillS s6) _ _ hos) (by exact hwl) fun x dx t H' s7 ht h => ?_⟩
            exact k _ H' ((s5.trans s6).trans s7) ⟨x, dx, t, os, rfl, h, ht, ObjsAt.keep (stillS (s6.trans s7)) _ _ hos⟩
        · walk_at "nx"
          walk_at "rd"
          refine ⟨a, _, _, _, rfl, rfl, SqT.of (s6 _ _ ha5), atI0, ?_⟩
          refine ⟨by show 2 ≤ sizeLine; decide, fun q4 hq4 => ?_⟩
          have s7 := s6.trans (Same.new hq4 (.lst [.str (Str.ofString "again"), .str (Str.ofString "maybe")]))
          refine ⟨q4, _, rfl, .inl (SqL.of upd_same), rfl, by decide +kernel, ?_⟩
          rw [if_neg Bool.false_ne_true, in_am]
          walk_at "rd"
          refine ite2 (fun e4 => ?_) (fun e4 => ?_)
          · walk_at "rd"
            refine ⟨a, _, _, _, rfl, rfl, SqT.of (s7 _ _ ha5), atI0, rfl, _, rfl, ?_⟩
            rw [eq_again]
            cases w <;> first | exact absurd e4 Bool.false_ne_true | skip
            · obtain ⟨u, us', rfl, hu, hn⟩ := hos
              refine iteT ⟨_, rfl, D, _, _, _, rfl, rfl, SqL.of (s7 _ _ hD'), atI0, makeA (ObjAt.keep (stillS s7) _ _ hu) fun x dx mk H' s8 h => ?_⟩
              exact k _ H' ((s5.trans s7).trans s8) ⟨x, dx, u, mk, rfl, h, ObjAt.keep (stillS (s7.trans s8)) _ _ hu⟩
            · obtain ⟨u, us', rfl, hu, hn⟩ := hos
              refine iteF ⟨_, rfl, D, _, _, _, rfl, rfl, SqL.of (s7 _ _ hD'), atI0, makeP (ObjAt.keep (stillS s7) _ _ hu) fun x dx H' s8 h => ?_⟩
              exact k _ H' ((s5.trans s7).trans s8) ⟨x, dx, u, .non, rfl, h, ObjAt.keep (stillS (s7.trans s8)) _ _ hu⟩
          · walk_at "nx"
            walk_at "rd"
            refine ⟨a, _, _, _, rfl, rfl, SqT.of (s7 _ _ ha5), atI0, rfl, _, rfl, ?_⟩
            rw [eq_ahead]
            cases w <;> first | exact absurd rfl e | exact absurd rfl e2 | exact absurd rfl e3 | exact absurd rfl e4 | skip
            · obtain ⟨u, us', rfl, hu, hn⟩ := hos
              refine iteT ⟨_, rfl, D, _, _, _, rfl, rfl, SqL.of (s7 _ _ hD'), atI0, makeP (ObjAt.keep (stillS s7) _ _ hu) fun x dx H' s8 h => ?_⟩
              exact k _ H' ((s5.trans s7).trans s8) ⟨x, dx, u, .non, rfl, h, ObjAt.keep (stillS (s7.trans s8)) _ _ hu⟩
            · obtain ⟨u, us', rfl, hu, hn⟩ := hos
              refine iteF ⟨_, rfl, D, _, _, _, rfl, rfl, SqL.of (s7 _ _ hD'), atI0, makeP (ObjAt.keep (stillS s7) _ _ hu) fun x dx H' s8 h => ?_⟩
              exact k _ H' ((s5.trans s7).trans s8) ⟨x, dx, u, .non, rfl, h, ObjAt.keep (stillS (s7.trans s8)) _ _ hu⟩
theorem d_l_made (c : Cs) (h : Here K mg "_law_made" s_l_made ["_law_way_here"]) (g : Gs P w K mg base c) (G_l_inner : DefOk P w K mg base 1 "_law_inner" ["_law_way_here"] spInner) : ∀ s, DefOk P w K mg base (3 + s) "_law_made" ["_law_way_here"] (spMade c s)
  | 0 => by
    obtain ⟨f, fd, F, m, b⟩ := h.ex
    exact ⟨f, fd, m, F.kp, b, none_made c⟩
  | s + 1 => step_l_made c s h g G_l_inner (d_l_made c h g G_l_inner s)
abbrev s_l_way : Stmt := top 57
theorem sc_l_way : FnScope ["_law_pen_here", "_law_signs_here", "_law_most", "_law_size_here"] ["_law_pen_here", "_law_signs_here", "_law_most"] (defScope s_l_way) := ⟨rfl, rfl, rfl, by decide +kernel, rfl, by decide +kernel, by decide +kernel⟩
theorem d_l_way (h : Here K mg "_law_way" s_l_way ["_law_pen_here", "_law_signs_here", "_law_most"]) (G_l_draw : DefOk P w K mg base 1 "_law_draw" ["_law_pen_here", "_law_many"] (spDraw K)) (G_l_way_of : DefOk P w K mg base (3 + 30) "_law_way_of" ["_law_pen_here", "_law_signs_here", "_law_size_here"] (spWayOf K 30)) :
    DefOk P w K mg base 34 "_law_way" ["_law_pen_here", "_law_signs_here", "_law_most"] (spWay K) := by
  refine h.ok sc_l_way (fun vs H Q E h => by obtain ⟨p, v, m, n, rfl, _⟩ := h; rfl) (fun f cdv A outer s' H vs Q E hr h => ?_)
  obtain ⟨p, z, m, n, rfl, hP, hn, hz0, hz1, hz, hm0, hm1, k⟩ := h
  refine ⟨_, (pss_cons (ps_set (i := 3) sc_l_way.nd rfl (Or.inl rfl) (pe_op op_add pe_int (pe_callD G_l_draw (hr.mono (by first | decide | omega)) rfl (pa_cons (pv 0) (pa_cons (pv 2) pa_nil)))))
  (pss_one (ps_ret (pe_callD G_l_way_of (hr.mono (by first | decide | omega)) rfl (pa_cons (pv 0) (pa_cons (pv 1) (pa_cons (pv 3) pa_nil))))))), ?_⟩
  refine ⟨_, rfl, _, rfl, p, m, n, rfl, hP, by omega, by omega, by omega, fun d H1 d0 d1 k1 hP1 => ?_⟩
  walk_at "rd"
  have e1 : (1 + d) = ((d.toNat + 1 : Nat) : Int) := by omega
  refine ⟨p, z, d.toNat + 1, n + 1, by rw [← e1]; rfl, hP1, by omega, hz0, hz1, hz, by omega, by omega, by omega, fun v w H2 hs hw hv k2 hP2 => ?_⟩
  exact k v w H2 (by omega) hw (WayAt.keep (newer_down k1) _ _ hv) (k1.trans k2) (hP2.mono (by omega))
end
end Wv
/-! Rules of my own: t[::-1] of a tuple, xs.extend(t) of a tuple, constants of the module. -/
namespace Wv
open PySem PySem.Spec PyProof.Rows L2 HT
section
variable {prog : Program} {w : World} {A : Around} {E : Value → Shared → Prop} {s : Shared}
theorem adj_back (n : Nat) : Builtin.Slice.sliceAdjust none none (-1) (n : Int) = ((n : Int) - 1, -1) := by
  unfold Builtin.Slice.sliceAdjust
  simp
theorem places_back (n : Nat) : Builtin.Slice.slicePlaces ((n : Int) - 1) (-1) (-1) = n := by
  unfold Builtin.Slice.slicePlaces
  simp
  omega
theorem applied_back {sl : Addr} {n : Nat} {t : Tok} {Q : Int × Int × Nat → Shared → Prop} (hs : s.heap.IsSliceOf sl .none .none (.int (-1) t)) (h : Q ((n : Int) - 1, -1, n) s) :
    wpAny (model prog w) A (Builtin.Slice.sliceApplied (.ref sl) (pure (n : Int))) Q E s := by
  obtain ⟨os, hos, hcs, hds⟩ := id hs
  unfold Builtin.Slice.sliceApplied Builtin.Slice.sliceFields
  refine wpAny_bind (wpAny_bind (wpAny_field hos hds (x := Value.none) rfl (wpAny_bind (wpAny_field hos hds (x := Value.none) rfl (wpAny_bind (wpAny_field hos hds (x := Value.int (-1) t) rfl (wpAny_pure ?_)))))))
  refine wpAny_bind (slicePart_int ?_)
  show wpAny _ _ (if ((-1 : Int) == 0) = true then _ else _) _ _ s
  rw [if_neg (by decide)]
  refine wpAny_bind (slicePart_none (wpAny_bind (slicePart_none (wpAny_bind (wpAny_pure ?_)))))
  show wpAny _ _ (match Builtin.Slice.sliceAdjust none none (-1) (n : Int) with | (lo, hi) => pure (lo, (-1 : Int), Builtin.Slice.slicePlaces lo hi (-1))) _ _ s
  rw [adj_back n]
  show wpAny _ _ (pure ((n : Int) - 1, (-1 : Int), Builtin.Slice.slicePlaces ((n : Int) - 1) (-1) (-1))) _ _ s
  rw [places_back]
  exact wpAny_pure h
theorem pick_back (xs : Array Value) : ((List.range xs.size).filterMap fun (m : Nat) => xs[(((xs.size : Int) - 1) + (m : Int) * (-1)).toNat]?).toArray = xs.toList.reverse.toArray := by
  have e : (fun (m : Nat) => xs[(((xs.size : Int) - 1) + (m : Int) * (-1)).toNat]?) = (fun i => xs[i]?) ∘ fun m => xs.size - 1 - m := by
    funext m
    have : (((xs.size : Int) - 1) + (m : Int) * (-1)).toNat = xs.size - 1 - m := by omega
    rw [this]
    rfl
  rw [e, ← List.filterMap_map, PySem.W.krv_range, List.filterMap_reverse, PySem.W.krv_all]
theorem getItem_tuple_back {t sl : Addr} {items : Array Value} {tk : Tok} {Q : Value → Shared → Prop} (ht : IsTup s.heap t items) (hs : s.heap.IsSliceOf sl .none .none (.int (-1) tk))
    (h : Q (.ref s.heap.objs.size) { s with heap := s.heap.push { cls := .type "tuple", data := .seq items.toList.reverse.toArray } }) (hsz : items.size ≤ sizeLine) : wpAny (model prog w) A (getItem (.ref t) (.ref sl)) Q E s := by
  have htake : sizeOk (.seq items.toList.reverse.toArray) := by
    show items.toList.reverse.toArray.size ≤ sizeLine
    rw [List.size_toArray, List.length_reverse, Array.length_toList]
    exact hsz
  obtain ⟨os, hos, hcs, _⟩ := id hs
  have isSl : s.TypeIs (.ref sl) "slice" := ⟨os, hos, hcs⟩
  unfold getItem
  try with_reducible refine wpAny_holding ?_
  first | refine wpAny_bind (wpAny_pure ?_) | skip
  refine wpAny_bind (wpAny_sequenceKey ht.typeIs (by decide) ?_)
  refine wpAny_bind (wpAny_callSpecial?_slot (name := Str.ofString "__getitem__") ht.typeIs slot_tuple_getitem (wpAny_call_entry slot_tuple_getitem ht.typeIs entry_tuple_getitem ?_ (args_tuple_getitem _ _)))
  show wpAny _ _ (Builtin.Tuple.tupleItemsOf (.ref t) >>= _) _ _ s
  refine wpAny_bind (tupleItemsOf_ ht (wpAny_bind (wpAny_typeOf isSl ?_)))
  rw [if_pos (by decide)]
  refine wpAny_bind (applied_back hs ?_)
  show wpAny _ _ (if (((items.size : Int) - 1) == 0 && (-1 : Int) == 1 && items.size == items.size) = true then _ else _) _ _ s
  rw [if_neg (by simp), pick_back]
  first
    | exact wpAny_bind (m := Builtin.Tuple.tupleExact _) (wpAny_newObj_type (wpAny_pure ⟨_, rfl, wpAny_pure h⟩) htake)
    | exact wpAny_bind (wpAny_bind (m := Builtin.Tuple.tupleExact _) (wpAny_newObj_type (wpAny_pure (wpAny_pure ⟨_, rfl, wpAny_pure h⟩)) htake))
    | exact wpAny_bind (wpAny_bind (m := Builtin.Tuple.tupleExact _) (wpAny_newObj_type (wpAny_pure ⟨_, rfl, wpAny_pure h⟩) htake))
    | exact wpAny_bind (m := Builtin.Tuple.tupleExact _) (wpAny_newObj_type (wpAny_bind (wpAny_pure (wpAny_pure ⟨_, rfl, wpAny_pure h⟩))) htake)
end
/-! ### t[::-1] -/
def tRevT (K : PySem.W.Frag) (te : TE) : TE := fun σ H Q => te σ H fun x H1 => ∃ a xs, x = .ref a ∧ SqT K H1 a xs ∧ ∀ p, H1 p = none → Q (.ref p) (upd H1 p (.tup xs.reverse))
section
variable {X : Cx}
theorem pe_revT {e : Expr} {te : TE} {k : Nat} {p1 p2 p3 pos : Pos} (he : PE X e te) : PE X (.Subscript e (.Slice none none (some (.UnaryOp .USub (.Constant (.int 1) k p1) p2)) p3) pos) (tRevT X.K te) := by
  refine ⟨fun pins s σ H Q I h => ?_⟩
  refine Subscript_ (thn (he.run pins s σ H _ I h) fun v s1 ⟨x, H1, I1, r1, q1⟩ => ?_)
  obtain ⟨a, xs, ex, hx, q⟩ := q1
  subst ex
  cases r1
  have hst : PO X (some (.UnaryOp .USub (.Constant (.int 1) k p1) p2)) (tPart (tUn (rU fun i => .int (-i)) (tC (.int 1)))) := po_some (pe_un un_neg pe_int)
  refine wpAny_Slice (thn (po_none.run pins s1 σ H1 (fun o H2 => o = none ∧ H2 = H1) I1 ⟨rfl, rfl⟩) fun vl s2 ⟨l, H2, I2, pl, el, e2⟩ => ?_)
  subst el e2
  refine thn (po_none.run pins s2 σ H2 (fun o H3 => o = none ∧ H3 = H2) I2 ⟨rfl, rfl⟩) fun vu s3 ⟨u, H3, I3, pu, eu, e3⟩ => ?_
  subst eu e3
  refine thn (hst.run pins s3 σ H3 (fun o H4 => o = some (-1) ∧ H4 = H3) I3 ⟨1, rfl, -1, rfl, rfl, rfl⟩) fun vs s4 ⟨o, H4, I4, ps, eo, e4⟩ => ?_
  subst eo e4
  cases pl
  cases pu
  generalize hv : (-1 : Int) = mi at ps
  cases ps with
  | int i tk =>
    subst hv
    have I5 : Inv X pins σ H4 { s4 with heap := s4.heap.push { cls := .type "slice", data := .fields #[.none, .none, .int (-1) tk] } } := I4.kept (t' := s4.toks) fun b ob q => Heap.get?_push_of_some _ q
    obtain ⟨its, r, ht, hz⟩ := I5.tuple hx
    have hlen := r.length
    show wpAny (model X.prog X.w) X.A (subscriptTail e (.Slice none none (some (.UnaryOp .USub (.Constant (.int 1) k p1) p2)) p3) (.ref a) (.ref s4.heap.objs.size)) (EP X pins σ Q) X.xe { s4 with heap := s4.heap.push { cls := .type "slice", data := .fields #[.none, .none, .int (-1) tk] } }
    refine tail_any (ops := [.ref a, .ref s4.heap.objs.size]) ht.typeIs (PyProof.Rows.slot_tuple_getitem.lookup) ?_ (by with_unfolding_all rfl)
    refine getItem_tuple_back ht (Heap.IsSliceOf.new _ .none .none (.int (-1) tk)) ?_ (by rw [List.size_toArray]; omega)
    refine ⟨.ref _, _, I5.laid (t' := s4.toks) (o := .tup xs.reverse) (fun b ob q => Heap.get?_push_of_some _ q) (Nat.le_refl _) ?_, rfl, q _ (I5.hok.fresh (Nat.le_refl _))⟩
    exact ⟨by rw [List.length_reverse]; exact hz, _, r.reverse, IsTup.new _ _⟩
/-! ### xs.extend(t), t a tuple -/
theorem ext_tup (l : Addr) (items : Array Value) (n : Nat) (b : Addr) (items2 : Array Value) (n2 : Nat) (dd : Option Addr) (sl : Array (Option Value)) (hs0 : ¬(!items.isEmpty && Builtin.List.listTooLong (items.size + items2.size)) = true) (hs1 : items.size ≤ sizeLine) (hs2 : items.size + items2.size ≤ sizeLine + 1) :
    Meets (Builtin.«list.extend» ⟨[.ref l, .ref b], []⟩) (fun _ R s => s.heap.get? l = some { cls := .type "list", dict := none, data := .seq items n, slots := #[] } ∧ s.heap.get? b = some { cls := .type "tuple", dict := dd, data := .seq items2 n2, slots := sl } ∧
      R (.ok (.ret Value.none)) { s with heap := s.heap.update l (Obj.mapSeq fun x => x ++ items2), toks := s.toks }) :=
  .of_wp fun prog w A R s h => by
    obtain ⟨hp, g, d, tk, os⟩ := s
    obtain ⟨hl, hb, h⟩ := h
    have f1 := AutoSeq1.idx_int; have f2 := AutoSeq1.sub_tuple_tuple; have f3 := AutoSeq1.sub_list_list; have f4 := AutoSeq1.sub_tuple_list; have f5 := AutoSeq1.sub_list_tuple
    have hz' : (items ++ items2).size ≤ sizeLine + 1 := by rw [Array.size_append]; omega
    wp_walk using (wpAny_updateSeq hl rfl (hz := hs1) (_hz' := hz')), wpAny_loadPart' hl, wpAny_loadPart' hb
    exact ⟨_, rfl, h⟩
def rExtT (K : PySem.W.Frag) : V → List V → Hp → VK → Prop := fun x vs H Q => ∃ l b xs zs, x = .ref l ∧ vs = [.ref b] ∧ H l = some (.lst xs) ∧ SqT K H b zs ∧ xs.length + zs.length ≤ sizeLine ∧ Q .non (upd H l (.lst (xs ++ zs)))
theorem mt_extendT : MtR X "list.extend" (rExtT X.K) := by
  intro pins s σ H x vs v us Q I rx rv h
  obtain ⟨l, b, xs, zs, rfl, rfl, hH, hB, hz, q⟩ := h
  cases rx
  obtain ⟨u, rfl, ru⟩ := rv.one
  cases ru
  obtain ⟨z, its, n, r, hl, e⟩ := I.lstM hH
  obtain ⟨its2, r2, ht2, hl2⟩ := I.tuple hB
  obtain ⟨⟨cls2, dd2, data2, sl2⟩, e2, hc2, n2, hd2⟩ := id ht2
  simp only at hc2 hd2
  subst hc2 hd2
  have hsz : its.toArray.size + its2.toArray.size ≤ sizeLine := by rw [List.size_toArray, List.size_toArray, ← r.length, ← r2.length]; exact hz
  have hlong : ¬ (!its.toArray.isEmpty && Builtin.List.listTooLong (its.toArray.size + its2.toArray.size)) = true := by
    rw [notLongL hsz, Bool.and_false]
    exact Bool.false_ne_true
  refine call_meets PySem.F.slot_list_extend ⟨_, e, rfl⟩ PySem.F.entry_list_extend (PySem.F.args_list_extend_2 _ _) (ext_tup l its.toArray n b its2.toArray n2 dd2 sl2 hlong (by omega) (by omega)) ⟨e, e2, ?_⟩
  refine ⟨.non, _, I.lset (its' := its ++ its2) hH e (by simp) (r.append r2) ?_, rfl, q⟩
  rw [List.length_append]
  exact hz
/-! ### a constant of the module -/
theorem pe_globI {x : Str} {i : Int} {pos : Pos} (hg : Gl X x) (hm : ∃ t, X.mg x = some (.int i t)) (hd : (x == ("__debug__" : Str)) = false := by decide) : PE X (.Name x pos) (tC (.int i)) := by
  obtain ⟨t, e⟩ := hm
  exact pe_glob hg e ⟨t, rfl⟩ hd
/-- a class of the module as a value -/
theorem pe_globC {x : Str} {C : Addr} {pos : Pos} (hg : Gl X x) (hm : X.mg x = some (.ref C)) (hd : (x == ("__debug__" : Str)) = false := by decide) : PE X (.Name x pos) (tC (.ref C)) := pe_glob hg hm rfl hd
/-- t + u, also of empty ones -/
def rCatA (K : PySem.W.Frag) : R2 := fun x y H Q => ∃ a b xs ys, x = .ref a ∧ y = .ref b ∧ SqT K H a xs ∧ SqT K H b ys ∧ xs.length + ys.length ≤ sizeLine ∧
  (xs = [] → Q (.ref b) H) ∧ (xs ≠ [] → ys = [] → Q (.ref a) H) ∧ (xs ≠ [] → ys ≠ [] → ∀ p, H p = none → Q (.ref p) (upd H p (.tup (xs ++ ys))))
theorem op_catA : OpR X (binaryOp .Add) (rCatA X.K) := by
  intro pins s σ H x y v u Q I rx ry h
  obtain ⟨a, b, xs, ys, rfl, rfl, ha, hb, hz, q0, q1, q2⟩ := h
  by_cases hx : xs = []
  · subst hx
    cases rx
    cases ry
    obtain ⟨its, r1, p1, _⟩ := I.tuple ha
    obtain ⟨its2, r2, p2, _⟩ := I.tuple hb
    cases r1
    obtain ⟨⟨cls, dd, data, sl⟩, ho, hc, n, hd⟩ := id p1
    obtain ⟨⟨cls2, dd2, data2, sl2⟩, ho2, hc2, n2, hd2⟩ := id p2
    simp only at hc hd hc2 hd2
    subst hc hd hc2 hd2
    exact concat_meets ⟨_, ho, rfl⟩ ⟨_, ho2, rfl⟩ noFill_tuple_add seq_tuple_add PySem.F.slot_tuple_add PySem.F.entry_tuple_add (PySem.F.args_tuple_add_2 _ _)
      (tuple_addW0 a b #[] its2.toArray n n2 dd dd2 sl sl2 (by rfl)) ⟨ho, ho2, ⟨.ref b, H, I, rfl, q0 rfl⟩⟩
  · exact op_catT pins s σ H _ _ v u Q I rx ry ⟨a, b, xs, ys, rfl, rfl, ha, hb, hx, hz, q1 hx, q2 hx⟩
/-- what does not name the part around it: for a comprehension's block -/
theorem op_catTK {K : PySem.W.Frag} (e : X.K = K) : OpR X (binaryOp .Add) (rCatT K) := e ▸ op_catT
theorem pg_tupK {K : PySem.W.Frag} {es : List Expr} {k : Nat} {t : TGs} {n : Nat} {pos : Pos} (e : X.K = K) (hc : X.calm = true) (h : PGs X es t)
    (hn : (assignEach es X.env).length = n := by rfl) (hst : (assignEach es X.env).findIdx? (·.1) = none := by rfl) : PG X (.Tuple es k pos) (gTup K n t) := e ▸ pg_tup hc h hn hst
end
end Wv
/-! list(zip(s, t)) of two tuples of one length: the pairs are kept, so that each turn makes its own. -/
namespace Wz
open PySem
open Sem (wp)
open PySem.W (kdx_alive)
section
variable {prog : Program} {w : World} {A : Around} {E : Value → Shared → Prop} {s : Shared}
theorem held_item {z TI TO T i1 i2 l1 l2 : Addr} {f : Bool} {oT : Obj} {k1 k2 : Nat} {xs ys : Array Value} {x y : Value} {Q : Value → Shared → Prop} (D : ZipApart z TI TO i1 i2 l1 l2)
    (zh : IsZipHeld s.heap z TI TO T f) (hT : s.heap.get? T = some oT) (hTI : IsPair s.heap TI (.ref i1) (.ref i2)) (t1 : s.heap.IsTupleIter i1 l1 k1) (t2 : s.heap.IsTupleIter i2 l2 k2) (u1 : s.heap.IsTuple l1 xs) (u2 : s.heap.IsTuple l2 ys)
    (hx : xs[k1]? = some x) (hy : ys[k2]? = some y)
    (go : ∀ h', IsZipHeld h' z TI TO T true → h'.IsTupleIter i1 l1 (k1 + 1) → h'.IsTupleIter i2 l2 (k2 + 1) → IsPair h' s.heap.objs.size x y → h'.objs.size = s.heap.objs.size + 1 → (∀ c o, c ≠ z → c ≠ i1 → c ≠ i2 → s.heap.get? c = some o → h'.get? c = some o) →
      Q (.ref s.heap.objs.size) { s with heap := h' }) : wpAny (model prog w) A (Builtin.«zip.__next__» ⟨[.ref z], []⟩) (fun fin s' => ∃ v, fin = .done (.ret v) ∧ Q v s') E s := by
  show wpAny _ _ (field (.ref z) 2 >>= _) _ _ _
  refine wpAny_bind (wpAny_field zh rfl (x := .bool false) rfl ?_); show wpAny _ _ (field (.ref z) 3 >>= _) _ _ _
  refine wpAny_bind (wpAny_field zh rfl (x := .ref TI) rfl (wpAny_bind (wpAny_seqItems hTI rfl ?_)))
  show wpAny _ _ (Builtin.SmallTypes.ownedTupleIsFree (.ref z) >>= _) _ _ _
  refine wpAny_bind (wpAny_tupleHeld_zip zh hT fun ha za sa => ?_)
  simp only [Bool.false_eq_true, if_false]
  refine wpAny_bind ?_
  rw [← Array.forIn_toList]; simp only [List.forIn_cons, List.forIn_nil]
  refine wpAny_bind (wpAny_bind (wpAny_holding ?_)); show wpAny _ _ (Builtin.SmallTypes.nextOf (.ref i1) >>= _) _ _ _
  refine wpAny_bind (RZ.nextOf_tuple_item (s := { s with heap := ha }) (t1.extBut sa.extBut D.i1z) (u1.extBut sa.extBut D.l1z) hx fun hb tb sb => wpAny_pure (wpAny_pure ?_))
  refine wpAny_bind (wpAny_bind (wpAny_holding ?_)); show wpAny _ _ (Builtin.SmallTypes.nextOf (.ref i2) >>= _) _ _ _
  refine wpAny_bind (RZ.nextOf_tuple_item (s := { s with heap := hb }) ((t2.extBut sa.extBut D.i2z).extBut sb.extBut D.i12.symm) ((u2.extBut sa.extBut D.l2z).extBut sb.extBut D.l2i1) hy fun hc tc sc => wpAny_pure (wpAny_pure (wpAny_pure ?_)))
  show wpAny _ _ (newTuple [x, y] >>= _) _ _ _
  refine wpAny_bind (wpAny_newTuple ?_)
  have ez : hc.objs.size = s.heap.objs.size := by rw [sc.1, sb.1, sa.1]
  have zc : IsZipHeld hc z TI TO T true := sc.extBut _ _ D.i2z.symm (sb.extBut _ _ D.i1z.symm za)
  have kc : ∀ c o, c ≠ z → c ≠ i1 → c ≠ i2 → s.heap.get? c = some o → hc.get? c = some o := fun c o c1 c2 c3 e => sc.extBut _ _ c3 (sb.extBut _ _ c2 (sa.extBut _ _ c1 e))
  have td : hc.IsTupleIter i1 l1 (k1 + 1) := tb.extBut sc.extBut D.i12
  refine wpAny_pure ⟨_, rfl, ?_⟩
  show Q (.ref hc.objs.size) _
  have pn : IsPair (hc.push { cls := .type "tuple", data := .seq #[x, y] }) hc.objs.size x y := Heap.get?_push_size _ rfl
  have sn : (hc.push { cls := .type "tuple", data := .seq #[x, y] }).objs.size = hc.objs.size + 1 := Heap.size_push ..
  rw [ez] at pn sn ⊢
  exact go _ (Heap.get?_push_of_some _ zc) (td.at fun o e => Heap.get?_push_of_some _ e) (tc.at fun o e => Heap.get?_push_of_some _ e) pn sn fun c o c1 c2 c3 e => Heap.get?_push_of_some _ (kc c o c1 c2 c3 e)
theorem held_end {z TI TO T i1 i2 l1 l2 : Addr} {f : Bool} {oT : Obj} {k1 : Nat} {xs : Array Value} {Q : Fin → Shared → Prop} (hh : A.handled = none) (D : ZipApart z TI TO i1 i2 l1 l2)
    (zh : IsZipHeld s.heap z TI TO T f) (hT : s.heap.get? T = some oT) (hTI : IsPair s.heap TI (.ref i1) (.ref i2)) (t1 : s.heap.IsTupleIter i1 l1 k1) (u1 : s.heap.IsTuple l1 xs) (hx : xs[k1]? = none)
    (go : ∀ h' e, (∀ c o, c ≠ z → c ≠ i1 → c ≠ i2 → s.heap.get? c = some o → h'.get? c = some o) → (∃ o, h'.get? e = some o ∧ o.cls = .type "StopIteration") → E (.ref e) { s with heap := h' }) :
    wpAny (model prog w) A (Builtin.«zip.__next__» ⟨[.ref z], []⟩) Q E s := by
  show wpAny _ _ (field (.ref z) 2 >>= _) _ _ _
  refine wpAny_bind (wpAny_field zh rfl (x := .bool false) rfl ?_); show wpAny _ _ (field (.ref z) 3 >>= _) _ _ _
  refine wpAny_bind (wpAny_field zh rfl (x := .ref TI) rfl (wpAny_bind (wpAny_seqItems hTI rfl ?_)))
  show wpAny _ _ (Builtin.SmallTypes.ownedTupleIsFree (.ref z) >>= _) _ _ _
  refine wpAny_bind (wpAny_tupleHeld_zip zh hT fun ha za sa => ?_)
  simp only [Bool.false_eq_true, if_false]
  refine wpAny_bind ?_
  rw [← Array.forIn_toList]; simp only [List.forIn_cons, List.forIn_nil]
  refine wpAny_bind (wpAny_bind (wpAny_holding ?_)); show wpAny _ _ (Builtin.SmallTypes.nextOf (.ref i1) >>= _) _ _ _
  refine wpAny_bind (RZ.nextOf_tuple_end (s := { s with heap := ha }) hh (t1.extBut sa.extBut D.i1z) (u1.extBut sa.extBut D.l1z) hx fun hb e sb he => ?_)
  exact go hb e (fun c o c1 c2 _ x => sb _ _ c2 (sa.extBut _ _ c1 x)) he
theorem next_held {z TI TO T i1 i2 l1 l2 : Addr} {f : Bool} {oT : Obj} {k1 k2 : Nat} {xs ys : Array Value} {x y : Value} {Q : Option Value → Shared → Prop} (D : ZipApart z TI TO i1 i2 l1 l2)
    (zh : IsZipHeld s.heap z TI TO T f) (hT : s.heap.get? T = some oT) (hTI : IsPair s.heap TI (.ref i1) (.ref i2)) (t1 : s.heap.IsTupleIter i1 l1 k1) (t2 : s.heap.IsTupleIter i2 l2 k2) (u1 : s.heap.IsTuple l1 xs) (u2 : s.heap.IsTuple l2 ys)
    (hx : xs[k1]? = some x) (hy : ys[k2]? = some y)
    (go : ∀ h', IsZipHeld h' z TI TO T true → h'.IsTupleIter i1 l1 (k1 + 1) → h'.IsTupleIter i2 l2 (k2 + 1) → IsPair h' s.heap.objs.size x y → h'.objs.size = s.heap.objs.size + 1 → (∀ c o, c ≠ z → c ≠ i1 → c ≠ i2 → s.heap.get? c = some o → h'.get? c = some o) →
      Q (some (.ref s.heap.objs.size)) { s with heap := h' }) : wpAny (model prog w) A (pyNext (.ref z)) Q E s := by
  have ty : s.TypeIs (.ref z) "zip" := ⟨_, zh, rfl⟩
  unfold pyNext
  exact wpAny_bind (wpAny_attempt (wpAny_callSpecial?_slot (name := Str.ofString "__next__") ty F.slot_zip_next (wpAny_call_entry F.slot_zip_next ty F.entry_zip_next
    (held_item D zh hT hTI t1 t2 u1 u2 hx hy fun h' a1 a3 a4 a5 a6 a7 => wpAny_pure (go h' a1 a3 a4 a5 a6 a7)) (F.args_zip_next_1 _))))
theorem next_held_end {z TI TO T i1 i2 l1 l2 : Addr} {f : Bool} {oT : Obj} {k1 : Nat} {xs : Array Value} {Q : Option Value → Shared → Prop} (hh : A.handled = none) (D : ZipApart z TI TO i1 i2 l1 l2)
    (zh : IsZipHeld s.heap z TI TO T f) (hT : s.heap.get? T = some oT) (hTI : IsPair s.heap TI (.ref i1) (.ref i2)) (t1 : s.heap.IsTupleIter i1 l1 k1) (u1 : s.heap.IsTuple l1 xs) (hx : xs[k1]? = none)
    (go : ∀ h', (∀ c o, c ≠ z → c ≠ i1 → c ≠ i2 → s.heap.get? c = some o → h'.get? c = some o) → Q none { s with heap := h' }) : wpAny (model prog w) A (pyNext (.ref z)) Q E s := by
  have ty : s.TypeIs (.ref z) "zip" := ⟨_, zh, rfl⟩
  unfold pyNext
  refine wpAny_bind (wpAny_attempt (wpAny_callSpecial?_slot (name := Str.ofString "__next__") ty F.slot_zip_next (wpAny_call_entry F.slot_zip_next ty F.entry_zip_next (held_end hh D zh hT hTI t1 u1 hx fun h' e hk he => ?_) (F.args_zip_next_1 _))))
  obtain ⟨o, ho, hc⟩ := he
  exact wpAny_bind (wpAny_isInstance (T := "StopIteration") (b := true) ⟨o, ho, hc⟩ isSubtype_stop (wpAny_pure (go _ hk)))
end
/-- the five records of a zip and its tuples, the list at S behind them -/
structure Apart (z TI TO i1 i2 l1 l2 S : Addr) : Prop where
  D : ZipApart z TI TO i1 i2 l1 l2
  zS : z < S
  TIS : TI < S
  TOS : TO < S
  i1S : i1 < S
  i2S : i2 < S
  l1S : l1 < S
  l2S : l2 < S
/-- the zip ahead of turn i -/
structure St (h : Heap) (z TI TO i1 i2 l1 l2 S : Addr) (xs ys : Array Value) (i : Nat) : Prop where
  ti : IsPair h TI (.ref i1) (.ref i2)
  t1 : h.IsTupleIter i1 l1 i
  t2 : h.IsTupleIter i2 l2 i
  u1 : h.IsTuple l1 xs
  u2 : h.IsTuple l2 ys
  own : (IsZip h z TI TO .none ∧ ∃ a b, IsPair h TO a b) ∨ ∃ T f oT, IsZipHeld h z TI TO T f ∧ h.get? T = some oT ∧ S < T
theorem St.keep {h h' : Heap} {z TI TO i1 i2 l1 l2 S : Addr} {xs ys : Array Value} {i : Nat} (A : Apart z TI TO i1 i2 l1 l2 S) (st : St h z TI TO i1 i2 l1 l2 S xs ys i) (k : ∀ b o, b ≠ S → h.get? b = some o → h'.get? b = some o) : St h' z TI TO i1 i2 l1 l2 S xs ys i where
  ti := k _ _ (Nat.ne_of_lt A.TIS) st.ti
  t1 := st.t1.at fun o e => k _ o (Nat.ne_of_lt A.i1S) e
  t2 := st.t2.at fun o e => k _ o (Nat.ne_of_lt A.i2S) e
  u1 := let ⟨o, e, r⟩ := st.u1; ⟨o, k _ _ (Nat.ne_of_lt A.l1S) e, r⟩
  u2 := let ⟨o, e, r⟩ := st.u2; ⟨o, k _ _ (Nat.ne_of_lt A.l2S) e, r⟩
  own := by
    rcases st.own with ⟨h1, a, b, h2⟩ | ⟨T, f, oT, h1, h2, h3⟩
    · exact .inl ⟨k _ _ (Nat.ne_of_lt A.zS) h1, a, b, k _ _ (Nat.ne_of_lt A.TOS) h2⟩
    · exact .inr ⟨T, f, oT, k _ _ (Nat.ne_of_lt A.zS) h1, k _ _ (Nat.ne_of_gt h3) h2, h3⟩
section
variable {prog : Program} {w : World} {A : Around} {E : Value → Shared → Prop} {s : Shared}
theorem far_ne {c m S i1 : Nat} (h : c < i1 ∨ S ≤ c) (a : i1 ≤ m) (b : m < S) : c ≠ m := by omega
theorem low_ne {c S i1 : Nat} (h : c < i1) (b : i1 < S) : c ≠ S := by omega
theorem turn_item {z TI TO i1 i2 l1 l2 S : Addr} {i : Nat} {xs ys : Array Value} {x y : Value} {Q : Option Value → Shared → Prop} (B : Apart z TI TO i1 i2 l1 l2 S) (hS : S < s.heap.objs.size) (st : St s.heap z TI TO i1 i2 l1 l2 S xs ys i) (hx : xs[i]? = some x) (hy : ys[i]? = some y)
    (go : ∀ h', St h' z TI TO i1 i2 l1 l2 S xs ys (i + 1) → IsPair h' s.heap.objs.size x y → h'.objs.size = s.heap.objs.size + 1 → (∀ c o, (c < i1 ∨ S ≤ c) → s.heap.get? c = some o → h'.get? c = some o) → Q (some (.ref s.heap.objs.size)) { s with heap := h' })
    (low : i1 ≤ i2 ∧ i1 ≤ TI ∧ i1 ≤ TO ∧ i1 ≤ z ∧ l1 < i1 ∧ l2 < i1) : wpAny (model prog w) A (pyNext (.ref z)) Q E s := by
  obtain ⟨b1, b2, b3, b4, b5, b6⟩ := low
  have D := B.D
  have zS := B.zS; have TOS := B.TOS; have i1S := B.i1S; have i2S := B.i2S; have TIS := B.TIS
  rcases st.own with ⟨h1, a, b, h2⟩ | ⟨T, f, oT, h1, h2, h3⟩
  · refine RZ.pyNext_zipT_item D h1 st.ti h2 st.t1 st.t2 st.u1 st.u2 hx hy fun h' z' TO' t1' t2' pn sz k => ?_
    refine go h' ⟨k _ _ D.TIz D.TITO D.TIi1 D.TIi2 st.ti, t1', t2', ?_, ?_, .inr ⟨_, false, _, z', pn, hS⟩⟩ pn sz fun c o hc e => k c o (far_ne hc b4 zS) (far_ne hc b3 TOS) (far_ne hc (Nat.le_refl _) i1S) (far_ne hc b1 i2S) e
    · obtain ⟨o, e, r⟩ := st.u1; exact ⟨o, k _ _ D.l1z D.l1TO D.l1i1 D.l1i2 e, r⟩
    · obtain ⟨o, e, r⟩ := st.u2; exact ⟨o, k _ _ D.l2z D.l2TO D.l2i1 D.l2i2 e, r⟩
  · refine next_held D h1 h2 st.ti st.t1 st.t2 st.u1 st.u2 hx hy fun h' z' t1' t2' pn sz k => ?_
    refine go h' ⟨k _ _ D.TIz D.TIi1 D.TIi2 st.ti, t1', t2', ?_, ?_, .inr ⟨T, true, oT, z', k _ _ (Nat.ne_of_gt (Nat.lt_trans zS h3)) (Nat.ne_of_gt (Nat.lt_trans i1S h3)) (Nat.ne_of_gt (Nat.lt_trans i2S h3)) h2, h3⟩⟩ pn sz fun c o hc e => k c o (far_ne hc b4 zS) (far_ne hc (Nat.le_refl _) i1S) (far_ne hc b1 i2S) e
    · obtain ⟨o, e, r⟩ := st.u1; exact ⟨o, k _ _ D.l1z D.l1i1 D.l1i2 e, r⟩
    · obtain ⟨o, e, r⟩ := st.u2; exact ⟨o, k _ _ D.l2z D.l2i1 D.l2i2 e, r⟩
theorem turn_end {z TI TO i1 i2 l1 l2 S : Addr} {i : Nat} {xs ys : Array Value} {Q : Option Value → Shared → Prop} (hh : A.handled = none) (B : Apart z TI TO i1 i2 l1 l2 S) (st : St s.heap z TI TO i1 i2 l1 l2 S xs ys i) (hx : xs[i]? = none)
    (go : ∀ h', (∀ c o, (c < i1 ∨ S ≤ c) → s.heap.get? c = some o → h'.get? c = some o) → Q none { s with heap := h' })
    (low : i1 ≤ i2 ∧ i1 ≤ TI ∧ i1 ≤ TO ∧ i1 ≤ z ∧ l1 < i1 ∧ l2 < i1) : wpAny (model prog w) A (pyNext (.ref z)) Q E s := by
  obtain ⟨b1, b2, b3, b4, b5, b6⟩ := low
  have D := B.D
  have zS := B.zS; have TOS := B.TOS; have i1S := B.i1S; have i2S := B.i2S; have TIS := B.TIS
  rcases st.own with ⟨h1, a, b, h2⟩ | ⟨T, f, oT, h1, h2, h3⟩
  · refine RZ.pyNext_zipT_end hh D h1 st.ti h2 st.t1 st.t2 st.u1 st.u2 (.inl hx) fun h' k => go h' fun c o hc e => k c o (far_ne hc b4 zS) (far_ne hc b3 TOS) (far_ne hc (Nat.le_refl _) i1S) (far_ne hc b1 i2S) e
  · refine next_held_end hh D h1 h2 st.ti st.t1 st.u1 hx fun h' k => go h' fun c o hc e => k c o (far_ne hc b4 zS) (far_ne hc (Nat.le_refl _) i1S) (far_ne hc b1 i2S) e
end
/-- the pairs made so far -/
structure Gv (xs ys : Array Value) (lo : Addr) (h : Heap) (as : List Addr) : Prop where
  rise : as.Pairwise (· < ·)
  above : ∀ a ∈ as, lo < a
  pairs : ∀ (j : Nat) (a : Addr), as[j]? = some a → ∃ x y, xs[j]? = some x ∧ ys[j]? = some y ∧ IsPair h a x y
theorem Gv.there {xs ys : Array Value} {lo : Addr} {h : Heap} {as : List Addr} (g : Gv xs ys lo h as) {a : Addr} (ha : a ∈ as) : a < h.objs.size := by
  obtain ⟨j, hj⟩ := List.mem_iff_getElem?.mp ha
  obtain ⟨_, _, _, _, e⟩ := g.pairs j a hj
  exact Heap.lt_size e
theorem Gv.keep {xs ys : Array Value} {lo : Addr} {h h' : Heap} {as : List Addr} (g : Gv xs ys lo h as) (k : ∀ b o, lo < b → h.get? b = some o → h'.get? b = some o) : Gv xs ys lo h' as := ⟨g.rise, g.above, fun j a hj => by
  obtain ⟨x, y, e1, e2, e3⟩ := g.pairs j a hj
  exact ⟨x, y, e1, e2, k a _ (g.above a (List.mem_of_getElem? hj)) e3⟩⟩
section
variable {prog : Program} {w : World} {A : Around} {s : Shared} {R : Result → Shared → Prop}
theorem z_loop {z TI TO i1 i2 l1 l2 S : Addr} {xs ys : Array Value} (hh : A.handled = none) (B : Apart z TI TO i1 i2 l1 l2 S) (low : i1 ≤ i2 ∧ i1 ≤ TI ∧ i1 ≤ TO ∧ i1 ≤ z ∧ l1 < i1 ∧ l2 < i1) (hl : xs.size = ys.size) (hn : xs.size ≤ sizeLine) (res : Value) {h0 : Heap}
    (go : ∀ h' tk acc c as, (∀ b o, b < i1 → h0.get? b = some o → h'.get? b = some o) → h'.get? S = some { cls := .type "list", dict := none, data := .seq acc c, slots := #[] } → as.length = xs.size → Gv xs ys S h' as → acc.toList = as.map Value.ref → R (.ok (.ret res)) { s with heap := h', toks := tk }) :
    ∀ (k i : Nat) (h : Heap) (tk c : Nat) (acc : Array Value) (as : List Addr), xs.size - i = k → i ≤ xs.size → St h z TI TO i1 i2 l1 l2 S xs ys i → (∀ b o, b < i1 → h0.get? b = some o → h.get? b = some o) →
      h.get? S = some { cls := .type "list", dict := none, data := .seq acc c, slots := #[] } → acc.toList = as.map Value.ref → as.length = i → Gv xs ys S h as →
      codeAny (model prog w) A (.builtin "list.extend.loop" ⟨[.ref S, .ref z, res], []⟩) R { s with heap := h, toks := tk } := by
  have i1S := B.i1S
  intro k
  induction k with
  | zero =>
    intro i h tk c acc as hk hi st keep hS hacc hal hG
    refine codeAny_builtin PySem.F.entry_extend_loop ?_
    rw [Around.under_plainId PySem.F.plain_extend_loop _]; show wpAny _ A.in1 (pyNext (.ref z) >>= _) _ _ _
    refine wpAny_bind (turn_end (s := { s with heap := h, toks := tk }) (A := A.in1) hh B st (Array.getElem?_eq_none (by omega)) (fun h' he => ?_) low)
    exact wpAny_pure (go h' tk acc c as (fun b o hb e => he b o (.inl hb) (keep b o hb e)) (he S _ (.inr (Nat.le_refl _)) hS) (by omega) (hG.keep fun b o hb e => he b o (.inr (Nat.le_of_lt hb)) e) hacc)
  | succ k ih =>
    intro i h tk c acc as hk hi st keep hS hacc hal hG
    have hlt : i < xs.size := by omega
    have hx : xs[i]? = some xs[i] := Array.getElem?_eq_getElem hlt
    have hy : ys[i]? = some (ys[i]'(by omega)) := Array.getElem?_eq_getElem (by omega)
    have hsz : acc.size = i := by rw [← Array.length_toList, hacc, List.length_map, hal]
    have hSl : S < h.objs.size := Heap.lt_size hS
    refine codeAny_builtin PySem.F.entry_extend_loop ?_
    rw [Around.under_plainId PySem.F.plain_extend_loop _]; show wpAny _ A.in1 (pyNext (.ref z) >>= _) _ _ _
    refine wpAny_bind (turn_item (s := { s with heap := h, toks := tk }) B hSl st hx hy (fun h' st' pn sz kp => ?_) low)
    dsimp only at pn sz kp ⊢
    have hS' := kp S _ (.inr (Nat.le_refl _)) hS
    have up : ∀ b o, b ≠ S → h'.get? b = some o → (h'.update S (Obj.mapSeq (·.push (Value.ref h.objs.size)))).get? b = some o := fun b o hb e => (Heap.get?_update_other _ _ (Ne.symm hb)).trans e
    show wpAny _ A.in1 (updateSeq S (·.push (Value.ref h.objs.size)) >>= _) _ _ _
    refine wpAny_bind (wpAny_updateSeq hS' rfl (wpAny_pure ⟨plainId_quiet PySem.F.plain_extend_loop _, ih (i + 1) _ tk _ (acc.push (Value.ref h.objs.size)) (as ++ [h.objs.size]) (by omega) hlt (st'.keep B up) (fun b o hb e => up b o (low_ne hb i1S) (kp b o (.inl hb) (keep b o hb e)))
      (Heap.get?_update_self _ hS' rfl) (by rw [Array.toList_push, hacc, List.map_append]; rfl) (by rw [List.length_append, hal]; rfl) ⟨?_, ?_, ?_⟩⟩) (by rw [hsz]; omega) (by show (acc.push (Value.ref h.objs.size)).size ≤ sizeLine + 1; rw [Array.size_push, hsz]; omega))
    · refine List.pairwise_append.mpr ⟨hG.rise, List.pairwise_singleton _ _, fun a ha b hb => ?_⟩
      rw [List.mem_singleton.mp hb]; exact hG.there ha
    · intro a ha
      rcases List.mem_append.mp ha with ha | ha
      · exact hG.above a ha
      · rw [List.mem_singleton.mp ha]; exact hSl
    · intro j b hj
      rcases Nat.lt_trichotomy j as.length with q | q | q
      · rw [List.getElem?_append_left q] at hj
        obtain ⟨x', y', e1, e2, e3⟩ := hG.pairs j b hj
        have hb := hG.above b (List.mem_of_getElem? hj)
        exact ⟨x', y', e1, e2, up b _ (Nat.ne_of_gt hb) (kp b _ (.inr (Nat.le_of_lt hb)) e3)⟩
      · subst q
        have hb : h.objs.size = b := by simpa using hj
        subst hb
        exact ⟨_, _, by rw [hal]; exact hx, by rw [hal]; exact hy, up _ _ (Nat.ne_of_gt hSl) pn⟩
      · have no : (as ++ [h.objs.size])[j]? = none := List.getElem?_eq_none (by rw [List.length_append, List.length_singleton]; omega)
        rw [no] at hj; cases hj
end
theorem zip_no_len : typeLookup (.type "zip") "__len__" = pure none := by rw [typeLookup_type, builtinLookup_eq_fast]; kernel_rfl
theorem zip_no_hint : typeLookup (.type "zip") "__length_hint__" = pure none := by rw [typeLookup_type, builtinLookup_eq_fast]; kernel_rfl
section
variable {prog : Program} {w : World} {A : Around} {E : Value → Shared → Prop} {s : Shared}
theorem z_extend {z TI TO i1 i2 l1 l2 S : Addr} {xs ys : Array Value} {c₀ : Nat} {R : Result → Shared → Prop} (hh : A.handled = none) (B : Apart z TI TO i1 i2 l1 l2 S) (low : i1 ≤ i2 ∧ i1 ≤ TI ∧ i1 ≤ TO ∧ i1 ≤ z ∧ l1 < i1 ∧ l2 < i1) (hl : xs.size = ys.size) (hn : xs.size ≤ sizeLine) (res : Value)
    (st : St s.heap z TI TO i1 i2 l1 l2 S xs ys 0) (hz : IsZip s.heap z TI TO .none) (hS : s.heap.get? S = some { cls := .type "list", data := .seq #[] c₀ })
    (go : ∀ h' tk acc c as, (∀ b o, b < i1 → s.heap.get? b = some o → h'.get? b = some o) → h'.get? S = some { cls := .type "list", dict := none, data := .seq acc c, slots := #[] } → as.length = xs.size → Gv xs ys S h' as → acc.toList = as.map Value.ref → R (.ok (.ret res)) { s with heap := h', toks := tk }) :
    wpAny (model prog w) A.in1 (Builtin.List.listExtendWith (.ref S) (.ref z) res)
      (fun fin s' => match fin with | .done f => R (.ok f) s' | .again c' => c'.quiet = true ∧ codeAny (model prog w) A c' R s') (fun e s' => R (.error e) s') s := by
  have i1S := B.i1S
  have ty : s.TypeIs (.ref z) "zip" := ⟨_, hz, rfl⟩
  have key : ∀ (h : Heap) (c₁ tk : Nat), (∀ b o, b ≠ S → s.heap.get? b = some o → h.get? b = some o) → h.get? S = some { cls := .type "list", data := .seq #[] c₁ } →
      codeAny (model prog w) A (.builtin "list.extend.loop" ⟨[.ref S, .ref z, res], []⟩) R { s with heap := h, toks := tk } := fun h c₁ tk hk hS₁ =>
    z_loop (s := s) (h0 := s.heap) hh B low hl hn res go xs.size 0 h tk c₁ #[] [] (Nat.sub_zero _) (Nat.zero_le _) (st.keep B hk) (fun b o hb e => hk b o (low_ne hb i1S) e) hS₁ rfl rfl ⟨List.Pairwise.nil, (fun _ ha => nomatch ha), (fun j a hj => by simp at hj)⟩
  unfold Builtin.List.listExtendWith
  refine wpAny_bind (wpAny_typeOf (T := "zip") ty ?_)
  have e1 : Builtin.List.listSameRef (.ref S) (.ref z) = false := by simp [Builtin.List.listSameRef, Nat.ne_of_gt B.zS]
  have e2 : (Value.type "zip" == Value.type "list") = false := by decide
  have e3 : (Value.type "zip" == Value.type "tuple") = false := by decide
  simp only [e1, e2, e3, Bool.or_false, Bool.false_eq_true, if_false]
  refine wpAny_bind (wpAny_pyIter_zip hz (wpAny_bind (wpAny_holding ?_)))
  unfold Builtin.List.listLengthHint
  refine wpAny_bind (wpAny_specialOf ty zip_no_len ?_)
  show wpAny _ A.in1 (specialOf (Value.ref z) (Str.ofString "__length_hint__") >>= _) _ _ _
  refine wpAny_bind (wpAny_specialOf ty zip_no_hint (wpAny_pure ?_))
  show wpAny _ A.in1 (rule "list.extend.makes-room" >>= fun _ => Builtin.List.listTouch (.ref S) >>= fun _ => again (.builtin "list.extend.loop" ⟨[.ref S, .ref z, res], []⟩)) _ _ _
  refine wpAny_bind (wpAny_rule (wpAny_bind ?_))
  show wpAny _ A.in1 (updateSeq S (·.push .none) >>= fun _ => updateSeq S (·.pop)) _ _ _
  refine wpAny_bind (wpAny_updateSeq hS rfl ?_)
  have g1 := Heap.get?_update_self (Obj.mapSeq (·.push Value.none)) hS rfl
  refine wpAny_updateSeq (hz := by seq_fits) g1 rfl ?_
  have g2 := Heap.get?_update_self (Obj.mapSeq (·.pop)) g1 rfl
  refine wpAny_pure ⟨plainId_quiet PySem.F.plain_extend_loop _, key _ _ _ (fun b o hb e => ?_) g2⟩
  exact (Heap.get?_update_other _ _ (Ne.symm hb)).trans ((Heap.get?_update_other _ _ (Ne.symm hb)).trans e)
theorem z_init {z TI TO i1 i2 l1 l2 S : Addr} {xs ys : Array Value} {R : Result → Shared → Prop} (hh : A.handled = none) (B : Apart z TI TO i1 i2 l1 l2 S) (low : i1 ≤ i2 ∧ i1 ≤ TI ∧ i1 ≤ TO ∧ i1 ≤ z ∧ l1 < i1 ∧ l2 < i1) (hl : xs.size = ys.size) (hn : xs.size ≤ sizeLine)
    (st : St s.heap z TI TO i1 i2 l1 l2 S xs ys 0) (hz : IsZip s.heap z TI TO .none) (hS : s.heap.get? S = some { cls := .type "list", data := .seq #[] })
    (go : ∀ h' tk acc c as, (∀ b o, b < i1 → s.heap.get? b = some o → h'.get? b = some o) → h'.get? S = some { cls := .type "list", dict := none, data := .seq acc c, slots := #[] } → as.length = xs.size → Gv xs ys S h' as → acc.toList = as.map Value.ref → R (.ok (.ret .none)) { s with heap := h', toks := tk }) :
    wpAny (model prog w) A.in1 (Builtin.«list.__init__» ⟨[.ref S, .ref z], []⟩)
      (fun fin s' => match fin with | .done f => R (.ok f) s' | .again c' => c'.quiet = true ∧ codeAny (model prog w) A c' R s') (fun e s' => R (.error e) s') s := by
  show wpAny _ _ (do let old ← Builtin.List.listItems (.ref S); Builtin.List.listUpdate (.ref S) (fun _ => #[]); letGo old.toList.reverse; Builtin.List.listExtendWith (.ref S) (.ref z) .none) _ _ s
  refine wpAny_bind ?_
  unfold Builtin.List.listItems
  refine wpAny_bind (wpAny_seqItems hS rfl (wpAny_pure ?_))
  show wpAny _ _ (updateSeq S (fun _ => #[]) >>= fun _ => letGo (#[] : Array Value).toList.reverse >>= fun _ => Builtin.List.listExtendWith (.ref S) (.ref z) .none) _ _ s
  refine wpAny_bind (wpAny_updateSeq hS rfl ?_)
  have g2 := Heap.get?_update_self (Obj.mapSeq (fun _ => (#[] : Array Value))) hS rfl
  have oth : ∀ b o, b ≠ S → s.heap.get? b = some o → (s.heap.update S (Obj.mapSeq (fun _ => (#[] : Array Value)))).get? b = some o := fun b o hb e => (Heap.get?_update_other _ _ (Ne.symm hb)).trans e
  refine wpAny_bind (wpAny_letGo ?_)
  exact z_extend hh B low hl hn .none (st.keep B oth) (oth _ _ (Nat.ne_of_lt B.zS) hz) g2 fun h' tk acc c as hk => go h' tk acc c as fun b o hb e => hk b o hb (oth b o (low_ne hb B.i1S) e)
theorem z_call {z TI TO i1 i2 l1 l2 : Addr} {xs ys : Array Value} {Q : Value → Shared → Prop} (hh : A.handled = none) (D : ZipApart z TI TO i1 i2 l1 l2) (low : i1 ≤ i2 ∧ i1 ≤ TI ∧ i1 ≤ TO ∧ i1 ≤ z ∧ l1 < i1 ∧ l2 < i1) (hl : xs.size = ys.size) (hn : xs.size ≤ sizeLine)
    (hz : IsZip s.heap z TI TO .none) (hTI : IsPair s.heap TI (.ref i1) (.ref i2)) (hTO : ∃ a b, IsPair s.heap TO a b) (t1 : s.heap.IsTupleIter i1 l1 0) (t2 : s.heap.IsTupleIter i2 l2 0) (u1 : s.heap.IsTuple l1 xs) (u2 : s.heap.IsTuple l2 ys)
    (go : ∀ h' tk acc c as, (∀ b o, b < i1 → s.heap.get? b = some o → h'.get? b = some o) → h'.get? s.heap.objs.size = some { cls := .type "list", dict := none, data := .seq acc c, slots := #[] } → as.length = xs.size → Gv xs ys s.heap.objs.size h' as → acc.toList = as.map Value.ref →
      Q (.ref s.heap.objs.size) { s with heap := h', toks := tk }) : wpAny (model prog w) A (call (.type "list") [.ref z]) Q E s := by
  refine callType_codes (Q₁ := fun obj s₁ => obj = .ref s.heap.objs.size ∧ s₁ = { s with heap := s.heap.push { cls := .type "list", data := .seq #[] } }) PySem.F.called_list (PySem.F.typeCall_list_1 _) PySem.F.entry_list_init
    (code_list_new _ ⟨rfl, rfl⟩) fun obj s₁ h₁ => ?_
  obtain ⟨rfl, rfl⟩ := h₁
  have hS : (s.heap.push { cls := .type "list", data := .seq #[] }).get? s.heap.objs.size = some { cls := .type "list", data := .seq #[] } := Heap.get?_push_size _ rfl
  have up : ∀ b o, s.heap.get? b = some o → (s.heap.push { cls := .type "list", data := .seq #[] }).get? b = some o := fun b o e => Heap.get?_push_of_some _ e
  obtain ⟨a, b, hTO⟩ := hTO
  have B : Apart z TI TO i1 i2 l1 l2 s.heap.objs.size := ⟨D, Heap.lt_size hz, Heap.lt_size hTI, Heap.lt_size hTO, (let ⟨_, e, _⟩ := t1; Heap.lt_size e), (let ⟨_, e, _⟩ := t2; Heap.lt_size e), (let ⟨_, e, _⟩ := u1; Heap.lt_size e), (let ⟨_, e, _⟩ := u2; Heap.lt_size e)⟩
  refine ⟨⟨_, hS, rfl⟩, PySem.F.args_list_init_2 _ _, z_init (A := A.in1) (xs := xs) (ys := ys) hh B low hl hn ⟨up _ _ hTI, t1.at fun o e => up _ o e, t2.at fun o e => up _ o e, (let ⟨o, e, r⟩ := u1; ⟨o, up _ _ e, r⟩), (let ⟨o, e, r⟩ := u2; ⟨o, up _ _ e, r⟩), .inl ⟨up _ _ hz, a, b, up _ _ hTO⟩⟩ (up _ _ hz) hS
    fun h' tk acc c as hk hS' hl' hG hacc => ?_⟩
  exact ⟨rfl, go h' tk acc c as (fun b o hb e => hk b o hb (up _ _ e)) hS' hl' hG hacc⟩
end
end Wz
namespace Wz
open PySem PySem.Spec PyProof.Rows L2
/-! ### the rule -/
def putP : Hp → List Addr → List (V × V) → Hp
  | H, a :: as, p :: ps => putP (upd H a (.tup [p.1, p.2])) as ps
  | H, _, _ => H
theorem putP_off {b : Addr} : ∀ (as : List Addr) (ps : List (V × V)) (H : Hp), b ∉ as → putP H as ps b = H b
  | [], _, _, _ => rfl
  | _ :: _, [], _, _ => rfl
  | a :: as, p :: ps, H, h => by
    show putP (upd H a (.tup [p.1, p.2])) as ps b = H b
    rw [putP_off as ps _ (fun q => h (List.mem_cons_of_mem _ q)), upd_ne (fun q => h (by rw [q]; exact List.mem_cons_self))]
theorem putP_at : ∀ (as : List Addr) (ps : List (V × V)) (H : Hp), as.length = ps.length → as.Nodup → ∀ (j : Nat) (a : Addr) (p : V × V), as[j]? = some a → ps[j]? = some p → putP H as ps a = some (.tup [p.1, p.2])
  | [], _, _, _, _, j, a, p, h, _ => by simp at h
  | _ :: _, [], _, _, _, j, a, p, _, h => by simp at h
  | b :: as, q :: ps, H, hl, hn, 0, a, p, h1, h2 => by
    have hn' := List.nodup_cons.mp hn
    have e1 : b = a := by simpa using h1
    have e2 : q = p := by simpa using h2
    subst e1 e2
    show putP (upd H b (.tup [q.1, q.2])) as ps b = _
    rw [putP_off as ps _ hn'.1, upd_same]
  | b :: as, q :: ps, H, hl, hn, j + 1, a, p, h1, h2 => putP_at as ps _ (Nat.succ.inj hl) (List.nodup_cons.mp hn).2 j a p (by simpa using h1) (by simpa using h2)
/-- pairs of values at addresses -/
structure PairsAt (H : Hp) (ts : List Addr) (xs ys : List V) : Prop where
  len : ts.length = xs.length
  at_ : ∀ (j : Nat) (t : Addr), ts[j]? = some t → ∃ x y, xs[j]? = some x ∧ ys[j]? = some y ∧ H t = some (.tup [x, y])
def rListZip (K : PySem.W.Frag) : List V → Hp → VK → Prop := fun vs H Q => ∃ (a b : Addr) (xs ys : List V), vs = [.ref a, .ref b] ∧ SqT K H a xs ∧ SqT K H b ys ∧ xs.length = ys.length ∧
  ∀ (H' : Hp) (p : Addr) (ts : List Addr), Same H H' → H p = none → H' p = some (.lst (ts.map V.ref)) → PairsAt H' ts xs ys → Q (.ref p) H'
def tListZip (K : PySem.W.Frag) (ta : TA) : TE := fun σ H Q => ta σ H fun vs H1 => rListZip K vs H1 Q
section
variable {X : Cx}
theorem pairs_laid {pins : List (Addr × Obj)} {σ : L2.St} {H : Hp} {s : Shared} {h' : Heap} {tk S : Nat} {xs ys : List V} {its its2 : List Value} {acc : Array Value} {c : Nat} {as : List Addr} (I : Inv X pins σ H s) (hz : xs.length ≤ sizeLine) (r : Vals xs its) (r2 : Vals ys its2) (el : xs.length = ys.length) (hSz : s.heap.objs.size ≤ S)
    (hk : ∀ b o, s.heap.get? b = some o → h'.get? b = some o) (hS : h'.get? S = some { cls := .type "list", dict := none, data := .seq acc c, slots := #[] }) (hl : as.length = its.length) (hG : Gv its.toArray its2.toArray S h' as) (hacc : acc.toList = as.map Value.ref) :
    ∃ H' : Hp, Same H H' ∧ H S = none ∧ H' S = some (.lst (as.map V.ref)) ∧ PairsAt H' as xs ys ∧ Inv X pins σ H' { s with heap := h', toks := tk } := by
  have l1 := r.length
  have l2 := r2.length
  have hSn : S ∉ as := fun q => Nat.lt_irrefl _ (hG.above _ q)
  have nd : as.Nodup := List.Pairwise.imp (fun {a b} (h : a < b) => Nat.ne_of_lt h) hG.rise
  have fresh : ∀ t ∈ as, H t = none := fun t ht => I.hok.fresh (Nat.le_trans hSz (Nat.le_of_lt (hG.above t ht)))
  have freshS : H S = none := I.hok.fresh hSz
  have lz : as.length = (xs.zip ys).length := by rw [List.length_zip]; omega
  have off : ∀ b, b ∉ as → b ≠ S → putP (upd H S (.lst (as.map V.ref))) as (xs.zip ys) b = H b := fun b h1 h2 => by rw [putP_off as _ _ h1, upd_ne h2]
  have kp : Same H (putP (upd H S (.lst (as.map V.ref))) as (xs.zip ys)) := fun b u e => by
    rw [off b (fun q => by rw [fresh b q] at e; cases e) (fun q => by rw [q, freshS] at e; cases e)]
    exact e
  have eS : putP (upd H S (.lst (as.map V.ref))) as (xs.zip ys) S = some (.lst (as.map V.ref)) := by rw [putP_off as _ _ hSn, upd_same]
  have at2 : ∀ (j : Nat) (t : Addr), as[j]? = some t → ∃ x y, xs[j]? = some x ∧ ys[j]? = some y ∧ putP (upd H S (.lst (as.map V.ref))) as (xs.zip ys) t = some (.tup [x, y]) := fun j t ht => by
    have hj : j < as.length := (List.getElem?_eq_some_iff.mp ht).1
    refine ⟨xs[j]'(by omega), ys[j]'(by omega), List.getElem?_eq_getElem (by omega), List.getElem?_eq_getElem (by omega), ?_⟩
    exact putP_at as (xs.zip ys) _ lz nd j t (xs[j]'(by omega), ys[j]'(by omega)) ht (by rw [List.getElem?_zip_eq_some]; exact ⟨List.getElem?_eq_getElem (by omega), List.getElem?_eq_getElem (by omega)⟩)
  have low : ∀ b o, s.heap.get? b = some o → b ∉ as ∧ b ≠ S := fun b o e => ⟨fun q => absurd (Heap.lt_size e) (Nat.not_lt.mpr (Nat.le_trans hSz (Nat.le_of_lt (hG.above b q)))), Nat.ne_of_lt (Nat.lt_of_lt_of_le (Heap.lt_size e) hSz)⟩
  refine ⟨putP (upd H S (.lst (as.map V.ref))) as (xs.zip ys), kp, freshS, eS, ⟨by omega, at2⟩, ?_⟩
  refine I.call' (ch := []) rfl ⟨fun b o q _ _ _ => hk b o q, fun b o q _ _ _ => ⟨o.slots, hk b o q⟩, fun b o q n _ => ?_, fun b o q _ => ⟨o, hk b o q⟩, fun b xs q => kp b _ q, fun b o u q => kp b _ q, fun b ps q => ⟨#[], by rw [kp b _ q]; simp⟩⟩ (fun b u q => ?_) I.bare fun b q => by simp at q
  · obtain ⟨z1, z2⟩ := low b o q
    rw [off b z1 z2]
    exact n
  · by_cases hb : b ∈ as
    · obtain ⟨j, hj⟩ := List.mem_iff_getElem?.mp hb
      obtain ⟨x, y, e1, e2, e3⟩ := at2 j b hj
      rw [e3] at q
      cases q
      obtain ⟨u, v, f1, f2, f3⟩ := hG.pairs j b hj
      obtain ⟨u', g1, ru⟩ := r.get e1
      obtain ⟨v', g2, rv⟩ := r2.get e2
      have q1 : u = u' := Option.some.inj ((by simpa using f1.symm : some u = its[j]?).trans g1)
      have q2 : v = v' := Option.some.inj ((by simpa using f2.symm : some v = its2[j]?).trans g2)
      subst q1 q2
      exact ⟨by show 2 ≤ sizeLine; decide, [u, v], .cons ru (.cons rv .nil), ⟨_, f3, rfl, _, rfl⟩⟩
    · by_cases hb2 : b = S
      · rw [hb2] at q ⊢
        rw [eS] at q
        cases q
        refine ⟨by rw [List.length_map]; omega, acc.toList, c, by rw [hacc]; exact LiI.vals_refs as, ?_⟩
        rw [Array.toArray_toList]
        exact hS
      · rw [off b hb hb2] at q
        exact (I.hok b u q).stay (fun d v _ y => hk d v y) (fun d y => kp d _ y) fun d xs y => kp d _ y
/-- list(zip(e, e2)) -/
theorem pe_listZip {e e2 : Expr} {ta : TA} {p p2 pos pos2 : Pos} (hc : X.calm = true) (hg : Gl X "list") (hm : X.mg "list" = none) (hg2 : Gl X "zip") (hm2 : X.mg "zip" = none) (ha : PA X [e, e2] ta)
    (hs : starEach [.Call (.Name "zip" p2) [e, e2] [] pos2] X.env = (false, eval (.Call (.Name "zip" p2) [e, e2] [] pos2) X.env) :: starEach [] X.env := by rfl)
    (hs2 : starEach [e, e2] X.env = (false, eval e X.env) :: starEach [e2] X.env := by rfl) (hpl : (backTo pos2 (starEach [e2] X.env)).any (·.1) = false := by rfl) :
    PE X (.Call (.Name "list" p) [.Call (.Name "zip" p2) [e, e2] [] pos2] [] pos) (tListZip X.K ta) := by
  refine ⟨fun pins s σ H Q I hq => ?_⟩
  refine wpAny_Call_Name_kw (ld_blt I hg hm (by decide +kernel : bootBuiltins "list" = some (.type "list")) ?_)
  refine PyProof.Rows.callWith_type1 ?_ hs rfl
  rw [hs]
  show wpAny _ _ (spliced ((false, eval (.Call (.Name "zip" p2) [e, e2] [] pos2) X.env) :: backTo pos (starEach [] X.env))) _ _ s
  refine Calls.spliced_cons ?_
  refine Call_ (ld_blt I hg2 hm2 PyProof.Rows.boot_zip (PyProof.Rows.callWith_type1 (thn (ha.run pos2 pins s σ H _ I hq) fun us s1 ⟨vs, H1, I1, r1, q1⟩ => ?_) hs2 hpl))
  obtain ⟨a, b, xs, ys, ex, hqx, hqy, el, q⟩ := q1
  subst ex
  cases r1 with
  | cons r rr =>
    cases rr with
    | cons r' rr =>
      cases rr
      cases r
      cases r'
      obtain ⟨its, rv, u1, hz1⟩ := I1.tuple hqx
      obtain ⟨its2, rv2, u2, hz2⟩ := I1.tuple hqy
      obtain ⟨o1, ho1, _⟩ := id u1
      obtain ⟨o2, ho2, _⟩ := id u2
      refine RZ.call_zipT (show s1.heap.IsTuple a its.toArray from u1) (show s1.heap.IsTuple b its2.toArray from u2) fun h' hz hTI hTO t1 t2 hsz hk => ?_
      have n1 : a < s1.heap.objs.size := Heap.lt_size ho1
      have n2 : b < s1.heap.objs.size := Heap.lt_size ho2
      refine Calls.spliced_nil ?_
      have e1 := rv.length
      have e2 := rv2.length
      refine z_call (s := { s1 with heap := h' }) (xs := its.toArray) (ys := its2.toArray) (I1.ok.hd hc) (PySem.W.ktu_apart s1.heap.objs.size a b n1 n2) ⟨Nat.le_succ _, Nat.le_add_right _ _, Nat.le_add_right _ _, Nat.le_add_right _ _, n1, n2⟩
        (by rw [List.size_toArray, List.size_toArray]; omega) (by rw [List.size_toArray]; omega) hz hTI ⟨_, _, hTO⟩ t1 t2 (let ⟨o, q1, r⟩ := u1; ⟨o, hk _ _ q1, r⟩) (let ⟨o, q1, r⟩ := u2; ⟨o, hk _ _ q1, r⟩) fun h'' tk acc c as k2 hS hl hG hacc => ?_
      obtain ⟨H', j1, j2, j3, j4, J⟩ := pairs_laid (tk := tk) I1 (by omega) rv rv2 el (show s1.heap.objs.size ≤ h'.objs.size by omega) (fun b o q1 => k2 b o (Heap.lt_size q1) (hk b o q1)) hS (by rw [hl, List.size_toArray]) hG hacc
      exact ⟨.ref _, H', J, rfl, q H' _ as j1 j2 j3 j4⟩
end
end Wz
/-! == and len of ways, by the text's own __eq__ and __len__ -/
namespace Wv
open PySem PySem.Spec PyProof.Rows L2
/-- both are the same way -/
def DW (c : Cs) : Eqv := fun x y H => ∃ w : W, w.size ≤ 1000 ∧ ObjAt c H x w ∧ ObjAt c H y w
structure EqOk (P : Program) (w : World) (K : PySem.W.Frag) (mg : Str → Option Value) (base : Heap) (c : Cs) (n : Nat) : Prop where
  ex : ∃ (f : Addr) (fd : FuncData) (ps : List Str), FnOk P w K mg base CX0 n f fd ps (spEq fun a b H => DW c (.ref a) (.ref b) H) ∧ (∀ u : W, PySem.W.findIn K (.ref (c.of u)) "__eq__" = some (some (.ref f))) ∧ PySem.W.isFn K (.ref f) = true ∧ Binds K fd ps []
structure LenOk (P : Program) (w : World) (K : PySem.W.Frag) (mg : Str → Option Value) (base : Heap) (c : Cs) (n : Nat) (sp : Sp) : Prop where
  ex : ∃ (f : Addr) (fd : FuncData) (ps : List Str), FnOk P w K mg base CX0 n f fd ps sp ∧ (∀ u : W, PySem.W.findIn K (.ref (c.of u)) "__len__" = some (some (.ref f))) ∧ PySem.W.isFn K (.ref f) = true ∧ Binds K fd ps []
section
variable {X : Cx} {c : Cs} {n : Nat} {sp : Sp}
theorem op_way (G : EqOk X.prog X.w X.K X.mg X.base c n) (hr : Room n X.A) : OpR X (compareOp .Eq) (rEqG (DW c)) := by
  obtain ⟨f, fd, ps, F, hs, hf, hb⟩ := G.ex
  refine op_eqG (n := n) (fun A pins s σ H x y u v sb I rx ry d => ?_) hr
  obtain ⟨w, _, hx, hy⟩ := id d
  obtain ⟨a, da, fa, ea, ha⟩ := hx.head
  obtain ⟨b, db, fb, eb, hb'⟩ := hy.head
  subst ea eb
  exact rcG_ins (C := c.of w) (R := fun a b H => DW c (.ref a) (.ref b) H) F (hs w) hf hb pass0 A pins s σ H _ _ u v sb I rx ry ⟨a, b, da, db, fa, fb, rfl, rfl, ha, hb', d⟩
/-- len(x) of a way -/
def rLenW (c : Cs) (sp : Sp) : List V → Hp → VK → Prop := fun xs H Q => ∃ (v : V) (w : W), xs = [v] ∧ ObjAt c H v w ∧ sp [v] H (fun z H' => ∃ i : Int, z = .int i ∧ 0 ≤ i ∧ i < 2 ^ 63 ∧ Q (.int i) H') E0
theorem call_lenW (G : LenOk X.prog X.w X.K X.mg X.base c n sp) (hr : Room (n + 1) X.A) : CallR X (.builtin "len") (rLenW c sp) := by
  obtain ⟨f, fd, ps, F, hs, hf, hb⟩ := G.ex
  intro pins s σ H xs us Q I r h
  obtain ⟨v, w, rfl, hv, hsp⟩ := h
  obtain ⟨u, rfl, ru⟩ := r.one
  obtain ⟨a, d, fs, ev, ha⟩ := hv.head
  subst ev
  cases ru
  obtain ⟨mA, J, _⟩ := ins_get I.hok ha
  obtain ⟨od, J, _⟩ := J.look
  obtain ⟨m, hF⟩ := I.fr
  have hl := F.len _ _ _ _ hsp
  have r2 : Vals [V.ref a] [Value.ref a] := .cons rfl .nil
  refine PySem.W.len_K hF I.ok.mod.kin J (hs w) hf (wpAny_call (codeAny_mono (F.run X.A.in1 X.stack s H ⟨[.ref a], []⟩ [.ref a] [.ref a] _ E0 hr.in1 (I.env0.in1) (by
    have q := hb s [.ref a] I.kIn (by simpa using hl)
    simpa using q) r2 hsp) fun r s' hq => ?_))
  cases r with
  | error e => exact (pass0 (X := X) pins σ H s e s' I hq)
  | ok fl =>
    cases fl with
    | ret x =>
      obtain ⟨z, H', I', rz, i, ez, h0, h1, q⟩ := I.after hq
      subst ez
      obtain ⟨t, ex⟩ := rz
      subst ex
      exact ⟨⟨h0, h1⟩, ⟨.int i, H', I'.tok _, ⟨_, rfl⟩, q⟩⟩
    | next => exact False.elim hq
    | brk => exact False.elim hq
    | cont => exact False.elim hq
/-! ### a method of a way, called -/
structure MethOk (P : Program) (w : World) (K : PySem.W.Frag) (mg : Str → Option Value) (base : Heap) (c : Cs) (n : Nat) (m : Str) (ps : List Str) (sp : Sp) : Prop where
  ex : ∃ (f : Addr) (fd : FuncData), FnOk P w K mg base CX0 n f fd ps sp ∧ (∀ u : W, Meth K (c.of u) m f) ∧ (∀ u : W, Cls K (c.of u)) ∧ Binds K fd ps []
def tMethW (c : Cs) (m : Str) (sp : Sp) (ta : TE) (t : TA) : TE := fun σ H Q => ta σ H fun x H1 => ∃ w, ObjAt c H1 x w ∧ t σ H1 fun vs H2 => sp (x :: vs) H2 Q E0
theorem pe_methW {pl : Sem Bool} {m : Str} {ps : List Str} {o e : Expr} {es : List Expr} {ta : TE} {t : TA} {apos pos : Pos} (G : MethOk X.prog X.w X.K X.mg X.base c n m ps sp) (hr : Room n X.A) (he : PE X o ta) (ha : PA X (e :: es) t)
    (nl : Names7 m := by unfold Names7; decide +kernel)
    (hst : starEach (e :: es) X.env = (false, eval e X.env) :: starEach es X.env := by rfl) (hpl : (backTo pos (starEach es X.env)).any (·.1) = false := by rfl)
    (ht : eval (.Call (.Attribute o m apos) (e :: es) [] pos) X.env = (do
      let ov ← eval o X.env
      standAt apos.atName
      let (f, first) ← holding [ov] (getMethod ov m pl)
      callWith pos f first (backTo pos (starEach (e :: es) X.env)) (backToKw pos (keywordEach [] X.env))) := by rfl) :
    PE X (.Call (.Attribute o m apos) (e :: es) [] pos) (tMethW c m sp ta t) := by
  obtain ⟨f, fd, F, hm, hc, hb⟩ := G.ex
  refine ⟨fun pins s σ H Q I h => ?_⟩
  refine PySem.W.methodCall_KW (pl := pl) (thn (he.run pins s σ H _ I h) fun u s1 ⟨x, H1, I1, rx, w, hx, q⟩ => ?_) ht
  obtain ⟨a, dx, fs, ex, ea, l⟩ := hx.head'
  subst ex
  obtain rfl : u = Value.ref a := rx
  refine getmeth_ok I1 ea (hc w) (hm w) (l m nl) ?_
  refine PySem.W.callWith_K (first := [.ref a]) (h₀ := X.base) I.ok.mod.kin (hm w).kp (thn (ha.run pos pins s1 σ H1 _ I1 q) fun us s2 ⟨vs, H2, I2, r, q2⟩ => ⟨I2.kIn, ?_⟩) hst hpl
  exact run_fn (us := .ref a :: us) (vs := .ref a :: vs) (dvs := []) (ds := []) F hr hb .nil pass0 I2 (.cons rfl r) (by simpa using q2)
end
end Wv
namespace Wv
open PySem PySem.Spec PyProof.Rows L2
/-! ### kind, word and inner ways of a way -/
def W.kind : W → Nat
  | .letter _ => 0 | .one => 1 | .nothing => 2 | .row _ => 3 | .choice _ => 4 | .again _ => 5 | .maybe _ => 6 | .ahead _ => 7 | .unless _ => 8 | .call _ => 9
def W.word : W → Str
  | .letter x => sg x
  | .call x => x
  | _ => Str.ofString ""
def spKind (c : Cs) : Sp := fun vs H Q _ => ∃ (v : V) (w : W), vs = [v] ∧ ObjAt c H v w ∧ Q (.int w.kind) H
def spWord (c : Cs) : Sp := fun vs H Q _ => ∃ (v : V) (w : W), vs = [v] ∧ ObjAt c H v w ∧ Q (.str w.word) H
def spMadeOf (c : Cs) : Sp := fun vs H Q _ => ∃ (v : V) (w : W), vs = [v] ∧ ObjAt c H v w ∧ ∀ (t : Addr) (us : List V) (H' : Hp), Same H H' → H' t = some (.tup us) → ObjsAt c H' us w.inner → Q (.ref t) H'
structure Kc (mg : Str → Option Value) : Prop where
  k0 : ∃ t, mg "LETTER" = some (.int 0 t)
  k1 : ∃ t, mg "ONE" = some (.int 1 t)
  k2 : ∃ t, mg "NOTHING" = some (.int 2 t)
  k3 : ∃ t, mg "ROW" = some (.int 3 t)
  k4 : ∃ t, mg "CHOICE" = some (.int 4 t)
  k5 : ∃ t, mg "AGAIN" = some (.int 5 t)
  k6 : ∃ t, mg "MAYBE" = some (.int 6 t)
  k7 : ∃ t, mg "AHEAD" = some (.int 7 t)
  k8 : ∃ t, mg "UNLESS" = some (.int 8 t)
  k9 : ∃ t, mg "CALL" = some (.int 9 t)
section
variable {P : Program} {w : World} {K : PySem.W.Frag} {mg : Str → Option Value} {base : Heap} {c : Cs} {H : Hp} {v : V} {x : W} {Q : VK}
theorem ObjAt.ty (A : AllF K mg c) (h : ObjAt c H v x) : TyX K H v (.ref (c.of x)) := by
  obtain ⟨a, d, fs, e, ha⟩ := h.head
  subst e
  have f := A.f x
  exact .base (.ins ha f.cl f.ha A.hn A.ht f.hm)
theorem st_isi (A : AllF K mg c) (h : ObjAt c H v x) (u : W) {tb r : TS} {D : Ends} (hy : x.tag = u.tag → tb { D with nx := r D } [some v] H) (hn : x.tag ≠ u.tag → r D [some v] H) :
    (tSeq (tIfS (tB (tCB (rIsi K) (tCons (tVar 0) (tCons (tC (V.ref (c.of u))) tNil)))) tb tNext) r) D [some v] H := by
  refine ⟨v, rfl, v, .ref (c.of u), _, _, _, rfl, .own _, h.ty A, A.kit x u, _, rfl, ?_⟩
  refine ite2 (fun e => hy (of_decide_eq_true e)) (fun e => hn fun e2 => e (decide_eq_true e2))
theorem kitAny2 (A : AllF K mg c) (x : W) : ∀ us : List W, PySem.W.kitAny K (.ref (c.of x)) (us.map fun u => .ref (c.of u)) = some (us.any fun u => decide (x.tag = u.tag))
  | [] => kitAny_nil
  | u :: us => by
    refine kitAny_cons (A.kit x u) (fun e => ?_) (fun e => ?_)
    · rw [List.any_cons, e, Bool.false_or]; exact kitAny2 A x us
    · rw [List.any_cons, e]; rfl
def fRc (t : Str) : Bool := decide (t = Str.ofString "row") || (decide (t = Str.ofString "choice") || false)
def fUn (t : Str) : Bool := decide (t = Str.ofString "again") || (decide (t = Str.ofString "maybe") || (decide (t = Str.ofString "ahead") || (decide (t = Str.ofString "unless") || false)))
theorem any_rc (x : W) : ([W.row [], .choice []].any fun u => decide (x.tag = u.tag)) = x.is_rc := by
  show fRc x.tag = x.is_rc
  cases x <;> (simp only [W.tag, W.is_rc]; decide +kernel)
theorem any_un (x : W) : ([W.again .one, .maybe .one, .ahead .one, .unless .one].any fun u => decide (x.tag = u.tag)) = x.is_un := by
  show fUn x.tag = x.is_un
  cases x <;> (simp only [W.tag, W.is_un]; decide +kernel)
theorem kit_rc (A : AllF K mg c) (x : W) : PySem.W.kitAny K (.ref (c.of x)) [.ref c.ro, .ref c.ch] = some x.is_rc := by rw [← any_rc]; exact kitAny2 A x [.row [], .choice []]
theorem kit_un (A : AllF K mg c) (x : W) : PySem.W.kitAny K (.ref (c.of x)) [.ref c.ag, .ref c.ma, .ref c.ah, .ref c.un] = some x.is_un := by rw [← any_un]; exact kitAny2 A x [.again .one, .maybe .one, .ahead .one, .unless .one]
theorem clsv (c : Cs) : ∀ us : List W, Paired ClsV (us.map fun u => V.ref (c.of u)) (us.map fun u => Value.ref (c.of u))
  | [] => .nil
  | u :: us => .cons (.own _) (clsv c us)
abbrev s_kind_of : Stmt := top 35
theorem sc_kind_of : FnScope ["way"] ["way"] (defScope s_kind_of) := ⟨rfl, rfl, rfl, by decide +kernel, rfl, by decide +kernel, by decide +kernel⟩
theorem d_kind_of (h : Here K mg "kind_of" s_kind_of ["way"]) (A : AllF K mg c) (B : Bs mg) (C : Kc mg) : DefOk P w K mg base 1 "kind_of" ["way"] (spKind c) := by
  have B_isinstance := B.isinstance
  have GK_Letter := A.mLt; have GK_One := A.mOn; have GK_Nothing := A.mNo; have GK_Row := A.mRo; have GK_Choice := A.mCh; have GK_Again := A.mAg; have GK_Maybe := A.mMa; have GK_Ahead := A.mAh; have GK_Unless := A.mUn
  have GC_LETTER := C.k0; have GC_ONE := C.k1; have GC_NOTHING := C.k2; have GC_ROW := C.k3; have GC_CHOICE := C.k4; have GC_AGAIN := C.k5; have GC_MAYBE := C.k6; have GC_AHEAD := C.k7; have GC_UNLESS := C.k8; have GC_CALL := C.k9
  refine h.ok sc_kind_of (fun vs H Q E h => by obtain ⟨v, w, rfl, _⟩ := h; rfl) (fun f cdv A' outer s H vs Q E hr h => ?_)
  obtain ⟨v, x, rfl, hv, k⟩ := h
  refine ⟨_, (pss_cons (ps_if (pt_val (pe_callB call_isi rfl B_isinstance (by decide +kernel) (pa_cons (pv 0) (pa_cons (pe_globC rfl GK_Letter) pa_nil)))) (pss_one (ps_ret (pe_globI rfl GC_LETTER))) pss_nil)
  (pss_cons (ps_if (pt_val (pe_callB call_isi rfl B_isinstance (by decide +kernel) (pa_cons (pv 0) (pa_cons (pe_globC rfl GK_One) pa_nil)))) (pss_one (ps_ret (pe_globI rfl GC_ONE))) pss_nil)
  (pss_cons (ps_if (pt_val (pe_callB call_isi rfl B_isinstance (by decide +kernel) (pa_cons (pv 0) (pa_cons (pe_globC rfl GK_Nothing) pa_nil)))) (pss_one (ps_ret (pe_globI rfl GC_NOTHING))) pss_nil)
  (pss_cons (ps_if (pt_val (pe_callB call_isi rfl B_isinstance (by decide +kernel) (pa_cons (pv 0) (pa_cons (pe_globC rfl GK_Row) pa_nil)))) (pss_one (ps_ret (pe_globI rfl GC_ROW))) pss_nil)
  (pss_cons (ps_if (pt_val (pe_callB call_isi rfl B_isinstance (by decide +kernel) (pa_cons (pv 0) (pa_cons (pe_globC rfl GK_Choice) pa_nil)))) (pss_one (ps_ret (pe_globI rfl GC_CHOICE))) pss_nil)
  (pss_cons (ps_if (pt_val (pe_callB call_isi rfl B_isinstance (by decide +kernel) (pa_cons (pv 0) (pa_cons (pe_globC rfl GK_Again) pa_nil)))) (pss_one (ps_ret (pe_globI rfl GC_AGAIN))) pss_nil)
  (pss_cons (ps_if (pt_val (pe_callB call_isi rfl B_isinstance (by decide +kernel) (pa_cons (pv 0) (pa_cons (pe_globC rfl GK_Maybe) pa_nil)))) (pss_one (ps_ret (pe_globI rfl GC_MAYBE))) pss_nil)
  (pss_cons (ps_if (pt_val (pe_callB call_isi rfl B_isinstance (by decide +kernel) (pa_cons (pv 0) (pa_cons (pe_globC rfl GK_Ahead) pa_nil)))) (pss_one (ps_ret (pe_globI rfl GC_AHEAD))) pss_nil)
  (pss_cons (ps_if (pt_val (pe_callB call_isi rfl B_isinstance (by decide +kernel) (pa_cons (pv 0) (pa_cons (pe_globC rfl GK_Unless) pa_nil)))) (pss_one (ps_ret (pe_globI rfl GC_UNLESS))) pss_nil)
  (pss_one (ps_ret (pe_globI rfl GC_CALL)))))))))))), ?_⟩
  refine st_isi A hv (.letter 0) (fun e => ?_) (fun e0 => ?_)
  · cases x <;> first | exact k | exact absurd e (by simp only [W.tag]; decide +kernel)
  refine st_isi A hv .one (fun e => ?_) (fun e1 => ?_)
  · cases x <;> first | exact k | exact absurd e (by simp only [W.tag]; decide +kernel)
  refine st_isi A hv .nothing (fun e => ?_) (fun e2 => ?_)
  · cases x <;> first | exact k | exact absurd e (by simp only [W.tag]; decide +kernel)
  refine st_isi A hv (.row []) (fun e => ?_) (fun e3 => ?_)
  · cases x <;> first | exact k | exact absurd e (by simp only [W.tag]; decide +kernel)
  refine st_isi A hv (.choice []) (fun e => ?_) (fun e4 => ?_)
  · cases x <;> first | exact k | exact absurd e (by simp only [W.tag]; decide +kernel)
  refine st_isi A hv (.again .one) (fun e => ?_) (fun e5 => ?_)
  · cases x <;> first | exact k | exact absurd e (by simp only [W.tag]; decide +kernel)
  refine st_isi A hv (.maybe .one) (fun e => ?_) (fun e6 => ?_)
  · cases x <;> first | exact k | exact absurd e (by simp only [W.tag]; decide +kernel)
  refine st_isi A hv (.ahead .one) (fun e => ?_) (fun e7 => ?_)
  · cases x <;> first | exact k | exact absurd e (by simp only [W.tag]; decide +kernel)
  refine st_isi A hv (.unless .one) (fun e => ?_) (fun e8 => ?_)
  · cases x <;> first | exact k | exact absurd e (by simp only [W.tag]; decide +kernel)
  cases x <;> first | exact absurd rfl e0 | exact absurd rfl e1 | exact absurd rfl e2 | exact absurd rfl e3 | exact absurd rfl e4 | exact absurd rfl e5 | exact absurd rfl e6 | exact absurd rfl e7 | exact absurd rfl e8 | exact k
abbrev s_word_of : Stmt := top 36
theorem sc_word_of : FnScope ["way"] ["way"] (defScope s_word_of) := ⟨rfl, rfl, rfl, by decide +kernel, rfl, by decide +kernel, by decide +kernel⟩
theorem d_word_of (h : Here K mg "word_of" s_word_of ["way"]) (A : AllF K mg c) (B : Bs mg) : DefOk P w K mg base 1 "word_of" ["way"] (spWord c) := by
  have B_isinstance := B.isinstance
  have GK_Letter := A.mLt; have GK_Call := A.mCa
  refine h.ok sc_word_of (fun vs H Q E h => by obtain ⟨v, w, rfl, _⟩ := h; rfl) (fun f cdv A' outer s H vs Q E hr h => ?_)
  obtain ⟨v, x, rfl, hv, k⟩ := h
  refine ⟨_, (pss_cons (ps_if (pt_val (pe_callB call_isi rfl B_isinstance (by decide +kernel) (pa_cons (pv 0) (pa_cons (pe_globC rfl GK_Letter) pa_nil)))) (pss_one (ps_ret (pe_fld (pv 0) rfl))) pss_nil)
  (pss_cons (ps_if (pt_val (pe_callB call_isi rfl B_isinstance (by decide +kernel) (pa_cons (pv 0) (pa_cons (pe_globC rfl GK_Call) pa_nil)))) (pss_one (ps_ret (pe_fld (pv 0) rfl))) pss_nil)
  (pss_one (ps_ret pe_str)))), ?_⟩
  refine st_isi A hv (.letter 0) (fun e => ?_) (fun e0 => ?_)
  · cases x <;> first | exact absurd e (by simp only [W.tag]; decide +kernel) | skip
    obtain ⟨a, d, ev, ha⟩ := id hv
    exact ⟨_, rfl, a, c.lt, d, _, _, ev, ha, (A.f (.letter 0)).cl, (A.f (.letter 0)).nl, rfl, k⟩
  refine st_isi A hv (.call (Str.ofString "")) (fun e => ?_) (fun e1 => ?_)
  · cases x <;> first | exact absurd e (by simp only [W.tag]; decide +kernel) | skip
    obtain ⟨a, d, ev, ha⟩ := id hv
    exact ⟨_, rfl, a, c.ca, d, _, _, ev, ha, (A.f (.call (Str.ofString ""))).cl, (A.f (.call (Str.ofString ""))).nn, rfl, k⟩
  cases x <;> first | exact absurd rfl e0 | exact absurd rfl e1 | exact k
abbrev s_made_of : Stmt := top 37
theorem sc_made_of : FnScope ["way"] ["way"] (defScope s_made_of) := ⟨rfl, rfl, rfl, by decide +kernel, rfl, by decide +kernel, by decide +kernel⟩
theorem d_made_of (h : Here K mg "made_of" s_made_of ["way"]) (A : AllF K mg c) (B : Bs mg) : DefOk P w K mg base 1 "made_of" ["way"] (spMadeOf c) := by
  have B_isinstance := B.isinstance
  have GK_Row := A.mRo; have GK_Choice := A.mCh; have GK_Again := A.mAg; have GK_Maybe := A.mMa; have GK_Ahead := A.mAh; have GK_Unless := A.mUn
  refine h.ok sc_made_of (fun vs H Q E h => by obtain ⟨v, w, rfl, _⟩ := h; rfl) (fun f cdv A' outer s H vs Q E hr h => ?_)
  obtain ⟨v, x, rfl, hv, k⟩ := h
  refine ⟨_, (pss_cons (ps_if (pt_val (pe_callB call_isiT rfl B_isinstance (by decide +kernel) (pa_cons (pv 0) (pa_cons (pe_tup (pa_cons (pe_globC rfl GK_Row) (pa_cons (pe_globC rfl GK_Choice) pa_nil))) pa_nil)))) (pss_one (ps_ret (pe_fld (pv 0) rfl))) pss_nil)
  (pss_cons (ps_if (pt_val (pe_callB call_isiT rfl B_isinstance (by decide +kernel) (pa_cons (pv 0) (pa_cons (pe_tup (pa_cons (pe_globC rfl GK_Again) (pa_cons (pe_globC rfl GK_Maybe) (pa_cons (pe_globC rfl GK_Ahead) (pa_cons (pe_globC rfl GK_Unless) pa_nil))))) pa_nil)))) (pss_one (ps_ret (pe_tup (pa_cons (pe_fld (pv 0) rfl) pa_nil)))) pss_nil)
  (pss_one (ps_ret (pe_tup pa_nil))))), ?_⟩
  walk_at "rd"
  refine ⟨by show 2 ≤ sizeLine; decide, fun tp htp => ?_⟩
  have s1 := Same.new htp (.tup [.ref c.ro, .ref c.ch])
  have hv1 := ObjAt.keep (stillS s1) _ _ hv
  refine ⟨v, tp, _, _, _, _, rfl, upd_same, clsv c [.row [], .choice []], hv1.ty A, kit_rc A x, _, rfl, ?_⟩
  refine ite2 (fun e => ?_) (fun e0 => ?_)
  · cases x <;> first | exact absurd e Bool.false_ne_true | skip
    all_goals
      obtain ⟨a, d, t, us, ev, ha, ht, hus⟩ := id hv1
      refine ⟨_, rfl, a, _, d, _, _, ev, ha, ?_, ?_, rfl, k t us _ s1 ht hus⟩
      · first | exact (A.f (.row [])).cl | exact (A.f (.choice [])).cl
      · first | exact (A.f (.row [])).nw | exact (A.f (.choice [])).nw
  walk_at "nx"
  walk_at "rd"
  refine ⟨by show 4 ≤ sizeLine; decide, fun tq htq => ?_⟩
  have s2 := s1.trans (Same.new htq (.tup [.ref c.ag, .ref c.ma, .ref c.ah, .ref c.un]))
  have hv2 := ObjAt.keep (stillS s2) _ _ hv
  refine ⟨v, tq, _, _, _, _, rfl, upd_same, clsv c [.again .one, .maybe .one, .ahead .one, .unless .one], hv2.ty A, kit_un A x, _, rfl, ?_⟩
  refine ite2 (fun e => ?_) (fun e1 => ?_)
  · cases x <;> first | exact absurd e Bool.false_ne_true | skip
    all_goals
      obtain ⟨a, d, u, mk, ev, ha, hu⟩ := id hv2
      refine ⟨_, rfl, a, _, d, _, _, ev, ha, ?_, ?_, rfl, by show 1 ≤ sizeLine; decide, fun p hp => ?_⟩
      · first | exact (A.f (.again .one)).cl | exact (A.f (.maybe .one)).cl | exact (A.f (.ahead .one)).cl | exact (A.f (.unless .one)).cl
      · first | exact (A.f (.again .one)).np | exact (A.f (.maybe .one)).np | exact (A.f (.ahead .one)).np | exact (A.f (.unless .one)).np
      have s3 := s2.trans (Same.new hp (.tup [u]))
      exact k p _ _ s3 upd_same ⟨u, [], rfl, ObjAt.keep (stillS (Same.new hp _)) _ _ hu, rfl⟩
  walk_at "nx"
  walk_at "rd"
  refine ⟨Nat.zero_le _, fun p hp => ?_⟩
  have s3 := s2.trans (Same.new hp (.tup []))
  cases x <;> first | exact absurd rfl e0 | exact absurd rfl e1 | exact k p _ _ s3 upd_same rfl
end
end Wv
namespace Wv
open PySem PySem.Spec PyProof.Rows L2
/-! ### the parts of a way, == and len -/
theorem while_m {c : TT} {tb : TS} {D : Ends} {σ : L2.St} {H : Hp} (Pv : Nat → L2.St → Hp → Prop) (m : Nat) (h0 : Pv m σ H)
    (hs : ∀ m σ H, Pv m σ H → c σ H fun b H1 => if b = true then tb { D with nx := fun σ' H' => ∃ m', m' < m ∧ Pv m' σ' H', ct := fun σ' H' => ∃ m', m' < m ∧ Pv m' σ' H', bk := D.nx } σ H1 else D.nx σ H1)
    (mono : ∀ σ H Q Q', (∀ b H1, Q b H1 → Q' b H1) → c σ H Q → c σ H Q') : tWhile c tb D σ H := by
  refine ⟨Pv, ⟨m, h0⟩, fun m σ H p => mono σ H _ _ (fun b H1 q => ?_) (hs m σ H p)⟩
  cases b with
  | true => exact ⟨_, fun _ _ h => h, q⟩
  | false => exact q
theorem ObjsAt.split {c : Cs} {H : Hp} : ∀ (a : List W) (w : W) (vs : List V), ObjsAt c H vs (a ++ [w]) → ∃ us u, vs = us ++ [u] ∧ ObjsAt c H us a ∧ ObjAt c H u w
  | [], w, vs, ⟨u, us, e, h, h2⟩ => ⟨[], u, by rw [e, show us = [] from h2]; rfl, rfl, h⟩
  | x :: a, w, vs, ⟨u, us, e, h, h2⟩ => by
    obtain ⟨us', u', e', h3, h4⟩ := ObjsAt.split a w us h2
    exact ⟨u :: us', u', by rw [e, e']; rfl, ⟨u, us', rfl, h, h3⟩, h4⟩
theorem W.sizes_rev : ∀ ws : List W, W.sizes ws.reverse = W.sizes ws
  | [] => rfl
  | w :: ws => by rw [List.reverse_cons, W.sizes_app, W.sizes_rev ws]; simp only [W.sizes]; omega
theorem last_get {α : Type} (us : List α) (u : α) : (us ++ [u])[(us ++ [u]).length - 1]? = some u := by
  rw [List.length_append, List.length_singleton, Nat.add_sub_cancel, List.getElem?_append_right (Nat.le_refl _), Nat.sub_self]; rfl
theorem tru_lst {K : PySem.W.Frag} {H : Hp} {t : Addr} {xs : List V} (h : H t = some (.lst xs)) : TruV K (.ref t) H (!xs.isEmpty) := .inl ⟨xs, SqL.of h, rfl⟩
theorem iteT' {b : Bool} {T F : Prop} (h : b = true) (t : T) : if b = true then T else F := by rw [h]; exact t
mutual
/-- all parts of a way, one after the other -/
def W.parts : W → List W
  | .nothing => [.nothing] | .one => [.one] | .letter x => [.letter x] | .call x => [.call x]
  | .row ws => .row ws :: W.partss ws
  | .choice ws => .choice ws :: W.partss ws
  | .again w => .again w :: (W.parts w ++ [])
  | .maybe w => .maybe w :: (W.parts w ++ [])
  | .ahead w => .ahead w :: (W.parts w ++ [])
  | .unless w => .unless w :: (W.parts w ++ [])
def W.partss : List W → List W
  | [] => []
  | w :: ws => W.parts w ++ W.partss ws
end
theorem W.parts_eq (w : W) : w.parts = w :: W.partss w.inner := by cases w <;> rfl
theorem W.partss_app : ∀ a b : List W, W.partss (a ++ b) = W.partss a ++ W.partss b
  | [], b => rfl
  | x :: a, b => by rw [List.cons_append, W.partss, W.partss_app a b, W.partss, List.append_assoc]
def spParts (c : Cs) : Sp := fun vs H Q _ => ∃ (v : V) (w : W), vs = [v] ∧ ObjAt c H v w ∧ w.size ≤ 1000 ∧ ∀ (p : Addr) (ps : List V) (H' : Hp), Same H H' → H' p = some (.lst ps) → ps.length = w.size → ObjsAt c H' ps w.parts → Q (.ref p) H'
section
variable {P : Program} {w : World} {K : PySem.W.Frag} {mg : Str → Option Value} {base : Heap} {c : Cs} {H : Hp} {v : V} {x : W} {Q : VK}
abbrev s_parts_of : Stmt := top 38
theorem sc_parts_of : FnScope ["way", "parts", "todo", "part"] ["way"] (defScope s_parts_of) := ⟨rfl, rfl, rfl, by decide +kernel, rfl, by decide +kernel, by decide +kernel⟩
theorem d_parts_of (h : Here K mg "parts_of" s_parts_of ["way"]) (G_made_of : DefOk P w K mg base 1 "made_of" ["way"] (spMadeOf c)) : DefOk P w K mg base 2 "parts_of" ["way"] (spParts c) := by
  refine h.ok sc_parts_of (fun vs H Q E h => by obtain ⟨v, w, rfl, _⟩ := h; rfl) (fun f cdv A' outer s H vs Q E hr h => ?_)
  obtain ⟨v, x, rfl, hv, hx, k⟩ := h
  refine ⟨_, (pss_cons (ps_set (i := 1) sc_parts_of.nd rfl (Or.inl rfl) (pe_lst pa_nil))
  (pss_cons (ps_set (i := 2) sc_parts_of.nd rfl (Or.inl rfl) (pe_lst (pa_cons (pv 0) pa_nil)))
  (pss_cons (ps_while PassesOwn.never (pt_truth (pv 2) (by intro _; rfl)) (pss_cons (ps_set (i := 3) sc_parts_of.nd rfl (Or.inl rfl) (pe_bm0 PySem.F.plainAttrs_list PySem.F.slot_list_pop PySem.F.type_list_pop mt_pop (pv 2)))
  (pss_cons (ps_expr (pe_bm PySem.F.plainAttrs_list PySem.F.slot_list_append PySem.F.type_list_append mt_append (pv 1) (pa_cons (pv 3) pa_nil)))
  (pss_one (ps_expr (pe_bm PySem.F.plainAttrs_list PySem.F.slot_list_extend PySem.F.type_list_extend mt_extendT (pv 2) (pa_cons (pe_revT (pe_callD G_made_of (hr.mono (by first | decide | omega)) rfl (pa_cons (pv 3) pa_nil))) pa_nil)))))))
  (pss_one (ps_ret (pv 1)))))), ?_⟩
  refine ⟨Nat.zero_le _, fun p hp => ?_⟩
  have s1 := Same.new hp (.lst [])
  walk_at "nx"
  walk_at "rd"
  refine ⟨by show 1 ≤ sizeLine; decide, fun t ht => ?_⟩
  have s2 := s1.trans (Same.new ht (.lst [v]))
  have npt : p ≠ t := ne_of_none upd_same ht
  have htH : H t = none := by rw [upd_ne npt.symm] at ht; exact ht
  walk_at "nx"
  refine while_m (fun m σ H' => ∃ (ps ts : List V) (ws : List W) (x3 : Option V), σ = [some v, some (.ref p), some (.ref t), x3] ∧ H' p = some (.lst ps) ∧ H' t = some (.lst ts) ∧ ObjsAt c H' ts ws ∧ W.sizes ws = m ∧ ps.length + m = x.size ∧ (∃ dn : List W, ObjsAt c H' ps dn ∧ dn ++ W.partss ws.reverse = x.parts) ∧ Same H H') x.size ?_ ?_
    (fun σ H Q Q' hq ⟨v, e, b, tv, h⟩ => ⟨v, e, b, tv, hq _ _ h⟩)
  · exact ⟨[], [v], [x], none, rfl, by rw [upd_ne npt]; exact upd_same, upd_same, ⟨v, [], rfl, ObjAt.keep (stillS s2) _ _ hv, rfl⟩, by simp only [W.sizes]; omega, by simp, ⟨[], rfl, by simp [W.partss]⟩, s2⟩
  · rintro m σ H1 ⟨ps, ts, ws, x3, rfl, hp1, ht1, hts, hm, hlen, ⟨dn, hdn, edn⟩, s3⟩
    refine ⟨_, rfl, _, tru_lst ht1, ?_⟩
    rcases List.eq_nil_or_concat ws with e | ⟨wa, wl, e⟩
    · subst e
      have e2 : ts = [] := hts
      subst e2
      refine iteF ?_
      walk_at "nx"
      walk_at "rd"
      have : m = 0 := hm.symm
      exact k p ps H1 s3 hp1 (by omega) (by rw [← edn]; simpa [W.partss] using hdn)
    · have e' : ws = wa ++ [wl] := by rw [e]; simp
      clear e
      subst e'
      obtain ⟨ta, tl, e2, hta, htl⟩ := ObjsAt.split _ _ _ hts
      subst e2
      have hsz : W.sizes wa + wl.size = m := by rw [← hm, W.sizes_app]; simp only [W.sizes]; omega
      have hin := wl.size_inner
      refine iteT' (by simp) ?_
      walk_at "nx"
      refine ⟨_, rfl, .inl ⟨rfl, _, SqL.of ht1⟩, t, _, _, rfl, rfl, ht1, last_get _ _, ?_⟩
      rw [List.dropLast_concat]
      walk_at "nx"
      have hp2 : upd H1 t (.lst ta) p = some (.lst ps) := by rw [upd_ne npt]; exact hp1
      refine ⟨_, rfl, .inl ⟨rfl, _, SqL.of hp2⟩, _, rfl, p, _, _, rfl, rfl, hp2, small' (by omega), ?_⟩
      walk_at "nx"
      have k1 : Still H1 (upd H1 t (.lst ta)) := Still.put ht1
      have k2 : Still (upd H1 t (.lst ta)) (upd (upd H1 t (.lst ta)) p (.lst (ps ++ [tl]))) := Still.put hp2
      have k12 := k1.trans k2
      have ht3 : upd (upd H1 t (.lst ta)) p (.lst (ps ++ [tl])) t = some (.lst ta) := by rw [upd_ne npt.symm]; exact upd_same
      have hp3 : upd (upd H1 t (.lst ta)) p (.lst (ps ++ [tl])) p = some (.lst (ps ++ [tl])) := upd_same
      have s4 : Same H (upd (upd H1 t (.lst ta)) p (.lst (ps ++ [tl]))) := Same.put hp (Same.put htH s3 _) _
      generalize upd (upd H1 t (.lst ta)) p (.lst (ps ++ [tl])) = H2 at *
      refine ⟨_, rfl, .inl ⟨rfl, _, SqL.of ht3⟩, _, rfl, tl, wl, rfl, ObjAt.keep k12 _ _ htl, fun u us H3 s5 hu hus => ?_⟩
      refine ⟨u, us, rfl, SqT.of hu, fun r hr => ?_⟩
      have s6 := Same.new hr (.tup us.reverse)
      have ll := ObjsAt.len _ _ hta
      have l2 := W.sizes_len wa
      have l3 := ObjsAt.len _ _ hus
      have l4 := W.sizes_len wl.inner
      have ht4 := s6 _ _ (s5 _ _ ht3)
      refine ⟨t, r, _, _, rfl, rfl, ht4, SqT.of upd_same, ?_, ?_⟩
      · rw [List.length_reverse]
        exact Nat.le_of_lt (small' (by omega))
      · walk_at "nx"
        have k7 : Still _ (upd (upd H3 r (.tup us.reverse)) t (.lst (ta ++ us.reverse))) := Still.put ht4
        have k36 := (stillS s6).trans k7
        refine ⟨W.sizes (wa ++ wl.inner.reverse), ?_, ps ++ [tl], _, wa ++ wl.inner.reverse, _, rfl, ?_, upd_same, ?_, rfl, ?_, ?_⟩
        · rw [W.sizes_app, W.sizes_rev]; omega
        · rw [upd_ne npt]; exact s6 _ _ (s5 _ _ hp3)
        · exact ObjsAt.app _ _ (ObjsAt.keep ((k12.trans (stillS s5)).trans k36) _ _ hta) (ObjsAt.keep k36 _ _ (ObjsAt.rev _ _ hus))
        · rw [W.sizes_app, W.sizes_rev, List.length_append, List.length_singleton]; omega
        · refine ⟨⟨dn ++ [wl], ?_, ?_⟩, Same.put htH ((s4.trans s5).trans s6) _⟩
          · exact ObjsAt.app _ _ (ObjsAt.keep ((k12.trans (stillS s5)).trans k36) _ _ hdn) ⟨tl, [], rfl, ObjAt.keep ((k12.trans (stillS s5)).trans k36) _ _ htl, rfl⟩
          · rw [← edn, List.reverse_append, List.reverse_append, List.reverse_reverse, W.partss_app, List.reverse_singleton, List.singleton_append, W.partss, W.parts_eq wl]
            simp
/-- pairs of two ways that are the same -/
def TwoAt (c : Cs) (H : Hp) : List V → List W → Prop
  | ts, [] => ts = []
  | ts, w :: ws => ∃ r a b us, ts = V.ref r :: us ∧ H r = some (.tup [a, b]) ∧ ObjAt c H a w ∧ ObjAt c H b w ∧ TwoAt c H us ws
theorem TwoAt.keep {H H' : Hp} (k : Still H H') : ∀ (ws : List W) (ts : List V), TwoAt c H ts ws → TwoAt c H' ts ws
  | [], _, h => h
  | w :: ws, ts, ⟨r, a, b, us, e, h, h1, h2, h3⟩ => ⟨r, a, b, us, e, k.tup h, ObjAt.keep k _ _ h1, ObjAt.keep k _ _ h2, TwoAt.keep k ws us h3⟩
theorem TwoAt.len : ∀ (ws : List W) (ts : List V), TwoAt c H ts ws → ts.length = ws.length
  | [], ts, h => by rw [show ts = [] from h]; rfl
  | w :: ws, ts, ⟨r, a, b, us, e, _, _, _, h3⟩ => by rw [e, List.length_cons, List.length_cons, TwoAt.len ws us h3]
theorem TwoAt.app : ∀ (ws : List W) (ts : List V) {us : List V} {xs : List W}, TwoAt c H ts ws → TwoAt c H us xs → TwoAt c H (ts ++ us) (ws ++ xs)
  | [], ts, us, xs, h, h2 => by rw [show ts = [] from h]; exact h2
  | w :: ws, ts, us, xs, ⟨r, a, b, r', e, h, h1, h3, h4⟩, h2 => by rw [e]; exact ⟨r, a, b, r' ++ us, rfl, h, h1, h3, TwoAt.app ws r' h4 h2⟩
theorem TwoAt.split : ∀ (a : List W) (w : W) (vs : List V), TwoAt c H vs (a ++ [w]) → ∃ us r x y, vs = us ++ [V.ref r] ∧ TwoAt c H us a ∧ H r = some (.tup [x, y]) ∧ ObjAt c H x w ∧ ObjAt c H y w
  | [], w, vs, ⟨r, a, b, us, e, h, h1, h2, h3⟩ => ⟨[], r, a, b, by rw [e, show us = [] from h3]; rfl, rfl, h, h1, h2⟩
  | x :: a, w, vs, ⟨r, y, z, us, e, h, h1, h2, h3⟩ => by
    obtain ⟨us', r', x', y', e', g1, g2, g3, g4⟩ := TwoAt.split a w us h3
    exact ⟨V.ref r :: us', r', x', y', by rw [e, e']; rfl, ⟨r, y, z, us', rfl, h, h1, h2, g1⟩, g2, g3, g4⟩
theorem TwoAt.of : ∀ (ws : List W) (ts : List Addr) (xs ys : List V), Wz.PairsAt H ts xs ys → ObjsAt c H xs ws → ObjsAt c H ys ws → TwoAt c H (ts.map V.ref) ws
  | [], ts, xs, ys, p, hx, hy => by
    have e : xs = [] := hx
    have l := p.len
    rw [e] at l
    rw [List.eq_nil_of_length_eq_zero l]
    rfl
  | w :: ws, ts, xs, ys, p, ⟨u, us, e, hu, hus⟩, ⟨u2, us2, e2, hu2, hus2⟩ => by
    subst e e2
    have l := p.len
    cases ts with
    | nil => cases l
    | cons t ts =>
      obtain ⟨x, y, h1, h2, h3⟩ := p.at_ 0 t rfl
      have e1 : u = x := Option.some.inj h1
      have e2 : u2 = y := Option.some.inj h2
      subst e1 e2
      exact ⟨t, u, u2, _, rfl, h3, hu, hu2, TwoAt.of ws ts us us2 ⟨by simpa using l, fun j t' hj => p.at_ (j + 1) t' (by simpa using hj)⟩ hus hus2⟩
def spSameW (c : Cs) : Sp := fun vs H Q _ => ∃ (a b : V) (w : W), vs = [a, b] ∧ ObjAt c H a w ∧ ObjAt c H b w ∧ w.size ≤ 1000 ∧ ∀ H', Same H H' → Q (.bl true) H'
abbrev s_same_ways : Stmt := top 39
theorem sc_same_ways : FnScope ["one", "other", "todo", "left", "right"] ["one", "other"] (defScope s_same_ways) := ⟨rfl, rfl, rfl, by decide +kernel, rfl, by decide +kernel, by decide +kernel⟩
theorem ok_same_ways {f : Addr} {fd : FuncData} (F : Fun K "same_ways" "same_ways" s_same_ways f fd) (B : Bs mg) (G_made_of : DefOk P w K mg base 1 "made_of" ["way"] (spMadeOf c)) (G_kind_of : DefOk P w K mg base 1 "kind_of" ["way"] (spKind c)) (G_word_of : DefOk P w K mg base 1 "word_of" ["way"] (spWord c)) :
    FnOk P w K mg base CX0 2 f fd ["one", "other"] (spSameW c) := by
  have B_len := B.len; have B_list := B.list; have B_zip := B.zip
  refine F.ok sc_same_ways (fun vs H Q E h => by obtain ⟨a, b, w, rfl, _⟩ := h; rfl) (fun cdv A' outer s H vs Q E hr h => ?_)
  obtain ⟨a, b, x, rfl, ha, hb, hx, k⟩ := h
  refine ⟨_, (pss_cons (ps_set (i := 2) sc_same_ways.nd rfl (Or.inl rfl) (pe_lst (pa_cons (pe_tup (pa_cons (pv 0) (pa_cons (pv 1) pa_nil))) pa_nil)))
  (pss_cons (ps_while PassesOwn.never (pt_truth (pv 2) (by intro _; rfl)) (pss_cons (ps_asg (pe_bm0 PySem.F.plainAttrs_list PySem.F.slot_list_pop PySem.F.type_list_pop mt_pop (pv 2)) (pg_tup rfl (pgs_cons (pg_name (i := 3) sc_same_ways.nd rfl (Or.inl rfl)) (pgs_cons (pg_name (i := 4) sc_same_ways.nd rfl (Or.inl rfl)) pgs_nil))))
  (pss_cons (ps_if (PW.pt (pw_or (pt_cmpR op_ne (pe_callD G_kind_of (hr.mono (by first | decide | omega)) rfl (pa_cons (pv 3) pa_nil)) (pe_callD G_kind_of (hr.mono (by first | decide | omega)) rfl (pa_cons (pv 4) pa_nil)) (nomark _)) (pw_or1 (pt_cmpR op_ne (pe_callD G_word_of (hr.mono (by first | decide | omega)) rfl (pa_cons (pv 3) pa_nil)) (pe_callD G_word_of (hr.mono (by first | decide | omega)) rfl (pa_cons (pv 4) pa_nil)) (nomark _))))) (pss_one (ps_ret pe_bl)) pss_nil)
  (pss_cons (ps_if (pt_cmpR op_ne (pe_callB call_len_seq rfl B_len PySem.boot_len (pa_cons (pe_callD G_made_of (hr.mono (by first | decide | omega)) rfl (pa_cons (pv 3) pa_nil)) pa_nil)) (pe_callB call_len_seq rfl B_len PySem.boot_len (pa_cons (pe_callD G_made_of (hr.mono (by first | decide | omega)) rfl (pa_cons (pv 4) pa_nil)) pa_nil)) (nomark _)) (pss_one (ps_ret pe_bl)) pss_nil)
  (pss_one (ps_expr (pe_bm PySem.F.plainAttrs_list PySem.F.slot_list_extend PySem.F.type_list_extend mt_extend (pv 2) (pa_cons (Wz.pe_listZip rfl rfl B_list rfl B_zip (pa_cons (pe_callD G_made_of (hr.mono (by first | decide | omega)) rfl (pa_cons (pv 3) pa_nil)) (pa_cons (pe_callD G_made_of (hr.mono (by first | decide | omega)) rfl (pa_cons (pv 4) pa_nil)) pa_nil))) pa_nil))))))))
  (pss_one (ps_ret pe_bl)))), ?_⟩
  walk_at "rd"
  refine ⟨by show 2 ≤ sizeLine; decide, fun r hr => ?_⟩
  have s1 := Same.new hr (.tup [a, b])
  refine ⟨by show 1 ≤ sizeLine; decide, fun t ht => ?_⟩
  have s2 := s1.trans (Same.new ht (.lst [.ref r]))
  have nrt : r ≠ t := ne_of_none upd_same ht
  have htH : H t = none := by rw [upd_ne nrt.symm] at ht; exact ht
  walk_at "nx"
  refine while_m (fun m σ H' => ∃ (ts : List V) (ws : List W) (x3 x4 : Option V), σ = [some a, some b, some (.ref t), x3, x4] ∧ H' t = some (.lst ts) ∧ TwoAt c H' ts ws ∧ W.sizes ws = m ∧ m ≤ 1000 ∧ Same H H') x.size ?_ ?_
    (fun σ H Q Q' hq ⟨v, e, b, tv, h⟩ => ⟨v, e, b, tv, hq _ _ h⟩)
  · exact ⟨_, [x], none, none, rfl, upd_same, ⟨r, a, b, [], rfl, by rw [upd_ne nrt]; exact upd_same, ObjAt.keep (stillS s2) _ _ ha, ObjAt.keep (stillS s2) _ _ hb, rfl⟩, by simp only [W.sizes]; omega, hx, s2⟩
  · rintro m σ H1 ⟨ts, ws, x3, x4, rfl, ht1, hts, hm, hmx, s3⟩
    refine ⟨_, rfl, _, tru_lst ht1, ?_⟩
    rcases List.eq_nil_or_concat ws with e | ⟨wa, wl, e⟩
    · subst e
      have e2 : ts = [] := hts
      subst e2
      refine iteF ?_
      walk_at "nx"
      walk_at "rd"
      exact k H1 s3
    · have e' : ws = wa ++ [wl] := by rw [e]; simp
      clear e
      subst e'
      obtain ⟨ta, tl, y, z, e2, hta, htl, hy, hz⟩ := TwoAt.split _ _ _ hts
      subst e2
      have hsz : W.sizes wa + wl.size = m := by rw [← hm, W.sizes_app]; simp only [W.sizes]; omega
      have hin := wl.size_inner
      refine iteT' (by simp) ?_
      walk_at "nx"
      refine ⟨_, rfl, .inl ⟨rfl, _, SqL.of ht1⟩, t, _, _, rfl, rfl, ht1, last_get _ _, ?_⟩
      rw [List.dropLast_concat]
      have k1 : Still H1 (upd H1 t (.lst ta)) := Still.put ht1
      have s4 : Same H (upd H1 t (.lst ta)) := Same.put htH s3 _
      have ht2 : upd H1 t (.lst ta) t = some (.lst ta) := upd_same
      generalize upd H1 t (.lst ta) = H2 at *
      refine ⟨tl, [y, z], rfl, SqT.of (k1.tup htl), rfl, ?_⟩
      have hy2 := ObjAt.keep k1 _ _ hy
      have hz2 := ObjAt.keep k1 _ _ hz
      refine ⟨y, [z], rfl, ?_⟩
      walk_at "nx"
      refine ⟨z, [], rfl, ?_⟩
      walk_at "nx"
      refine ⟨rfl, ?_⟩
      walk_at "nx"
      refine ⟨_, rfl, y, wl, rfl, hy2, _, rfl, z, wl, rfl, hz2, rfl, ?_⟩
      rw [decide_eq_true rfl]
      refine ⟨_, rfl, iteF ?_⟩
      refine ⟨_, rfl, y, wl, rfl, hy2, _, rfl, z, wl, rfl, hz2, rfl, ?_⟩
      rw [decide_eq_true rfl]
      refine ⟨_, rfl, iteF ?_⟩
      walk_at "nx"
      refine ⟨_, rfl, y, wl, rfl, hy2, fun u1 us1 H3 s5 hu1 hus1 => ?_⟩
      have hz3 := ObjAt.keep (stillS s5) _ _ hz2
      refine ⟨u1, us1, rfl, .inr (SqT.of hu1), ?_⟩
      refine ⟨_, rfl, z, wl, rfl, hz3, fun u2 us2 H4 s6 hu2 hus2 => ?_⟩
      refine ⟨u2, us2, rfl, .inr (SqT.of hu2), ?_⟩
      have l1 := ObjsAt.len _ _ hus1
      have l2 := ObjsAt.len _ _ hus2
      rw [l1, l2]
      refine ⟨rfl, ?_⟩
      rw [decide_eq_true rfl]
      refine ⟨_, rfl, iteF ?_⟩
      walk_at "nx"
      have s24 := s5.trans s6
      have ht4 := s24 _ _ ht2
      have hy4 := ObjAt.keep (stillS s24) _ _ hy2
      have hz4 := ObjAt.keep (stillS s24) _ _ hz2
      refine ⟨_, rfl, .inl ⟨rfl, _, SqL.of ht4⟩, ?_⟩
      refine ⟨_, rfl, y, wl, rfl, hy4, fun u3 us3 H5 s7 hu3 hus3 => ?_⟩
      have hz5 := ObjAt.keep (stillS s7) _ _ hz4
      refine ⟨_, rfl, z, wl, rfl, hz5, fun u4 us4 H6 s8 hu4 hus4 => ?_⟩
      have l3 := ObjsAt.len _ _ hus3
      have l4 := ObjsAt.len _ _ hus4
      refine ⟨u3, u4, us3, us4, rfl, SqT.of (s8 _ _ hu3), SqT.of hu4, by omega, fun H7 p ts s9 hp7 hl7 hpr => ?_⟩
      have s69 := (s7.trans s8).trans s9
      have s29 := s24.trans s69
      have ht7 := s69 _ _ ht4
      have lp := hpr.len
      have la := TwoAt.len _ _ hta
      have lb := W.sizes_len wa
      have lc := W.sizes_len wl.inner
      refine ⟨t, p, _, _, rfl, rfl, ht7, hl7, by rw [List.length_map]; exact Nat.le_of_lt (small' (by omega)), ?_⟩
      walk_at "nx"
      have k8 : Still H7 (upd H7 t (.lst (ta ++ ts.map V.ref))) := Still.put ht7
      refine ⟨W.sizes (wa ++ wl.inner), by rw [W.sizes_app]; omega, _, wa ++ wl.inner, _, _, rfl, upd_same, ?_, rfl, by rw [W.sizes_app]; omega, Same.put htH (s4.trans s29) _⟩
      have hx7 := ObjsAt.keep (stillS (s8.trans s9)) _ _ hus3
      have hy7 := ObjsAt.keep (stillS s9) _ _ hus4
      exact TwoAt.app _ _ (TwoAt.keep ((k1.trans (stillS s29)).trans k8) _ _ hta) (TwoAt.keep k8 _ _ (TwoAt.of _ _ _ _ hpr hx7 hy7))
theorem d_same_ways (h : Here K mg "same_ways" s_same_ways ["one", "other"]) (B : Bs mg) (G_made_of : DefOk P w K mg base 1 "made_of" ["way"] (spMadeOf c)) (G_kind_of : DefOk P w K mg base 1 "kind_of" ["way"] (spKind c)) (G_word_of : DefOk P w K mg base 1 "word_of" ["way"] (spWord c)) :
    DefOk P w K mg base 2 "same_ways" ["one", "other"] (spSameW c) := by
  obtain ⟨f, fd, F, m, b⟩ := h.ex
  exact ⟨f, fd, m, F.kp, b, ok_same_ways F B G_made_of G_kind_of G_word_of⟩
end
end Wv
namespace Wv
open PySem PySem.Spec PyProof.Rows L2
/-! ### Way.__len__, Way.__eq__, Way.at -/
def W.at? : W → List Int → Option W
  | w, [] => some w
  | w, i :: is => match w.inner[i.toNat]? with
    | some u => W.at? u is
    | none => none
def Told (c : Cs) (H : Hp) (r : V) : Option W → Prop
  | some u => ObjAt c H r u
  | none => r = .non
def spLenW (c : Cs) : Sp := fun vs H Q _ => ∃ (v : V) (w : W), vs = [v] ∧ ObjAt c H v w ∧ w.size ≤ 1000 ∧ ∀ H', Same H H' → Q (.int w.size) H'
def spAt (c : Cs) : Sp := fun vs H Q _ => ∃ (v : V) (w : W) (pa : Addr) (is : List Int), vs = [v, .ref pa] ∧ ObjAt c H v w ∧ H pa = some (.tup (is.map V.int)) ∧ (∀ i ∈ is, 0 ≤ i) ∧ ∀ (r : V) (H' : Hp), Same H H' → Told c H' r (w.at? is) → Q r H'
section
variable {P : Program} {w : World} {K : PySem.W.Frag} {mg : Str → Option Value} {base : Heap} {c : Cs}
abbrev s_Way_len : Stmt := inClass (top 22) 4
theorem sc_Way_len : FnScope ["self"] ["self"] (defScope s_Way_len) := ⟨rfl, rfl, rfl, by decide +kernel, rfl, by decide +kernel, by decide +kernel⟩
theorem ok_Way_len {f : Addr} {fd : FuncData} (F : Fun K "__len__" "Way.__len__" s_Way_len f fd) (B : Bs mg) (G_parts_of : DefOk P w K mg base 2 "parts_of" ["way"] (spParts c)) : FnOk P w K mg base CX0 3 f fd ["self"] (spLenW c) := by
  have B_len := B.len
  refine F.ok sc_Way_len (fun vs H Q E h => by obtain ⟨v, w, rfl, _⟩ := h; rfl) (fun cdv A outer s H vs Q E hr h => ?_)
  obtain ⟨v, x, rfl, hv, hx, k⟩ := h
  refine ⟨_, (pss_one (ps_ret (pe_callB call_len_seq rfl B_len PySem.boot_len (pa_cons (pe_callD G_parts_of (hr.mono (by first | decide | omega)) rfl (pa_cons (pv 0) pa_nil)) pa_nil)))), ?_⟩
  refine ⟨_, rfl, v, x, rfl, hv, hx, fun p ps H' s1 hp hl _ => ?_⟩
  refine ⟨p, ps, rfl, .inl (SqL.of hp), ?_⟩
  rw [hl]
  exact k H' s1
abbrev s_Way_eq : Stmt := inClass (top 22) 3
theorem sc_Way_eq : FnScope ["self", "other"] ["self", "other"] (defScope s_Way_eq) := ⟨rfl, rfl, rfl, by decide +kernel, rfl, by decide +kernel, by decide +kernel⟩
theorem ok_Way_eq {f wy : Addr} {fd : FuncData} (F : Fun K "__eq__" "Way.__eq__" s_Way_eq f fd) (A : AllF K mg c) (GK_Way : mg "Way" = some (.ref wy)) (hW : ∀ x : W, PySem.W.kitOne K (.ref (c.of x)) (.ref wy) = some true) (B : Bs mg)
    (G_same_ways : DefOk P w K mg base 2 "same_ways" ["one", "other"] (spSameW c)) : FnOk P w K mg base CX0 3 f fd ["self", "other"] (spEq fun a b H => DW c (.ref a) (.ref b) H) := by
  have B_isinstance := B.isinstance
  refine F.ok sc_Way_eq (fun vs H Q E h => by obtain ⟨a, b, rfl, _⟩ := h; rfl) (fun cdv A' outer s H vs Q E hr h => ?_)
  obtain ⟨a, b, rfl, ⟨x, hx, ha, hb⟩, k⟩ := h
  refine ⟨_, (pss_one (ps_ret (pe_and (pe_callB call_isi rfl B_isinstance (by decide +kernel) (pa_cons (pv 1) (pa_cons (pe_globC rfl GK_Way) pa_nil))) (pe_one (pe_callD G_same_ways (hr.mono (by first | decide | omega)) rfl (pa_cons (pv 0) (pa_cons (pv 1) pa_nil))))))), ?_⟩
  refine ⟨_, rfl, .ref b, .ref wy, _, _, _, rfl, .own _, hb.ty A, hW x, _, rfl, ?_⟩
  refine iteT ?_
  exact ⟨_, rfl, _, rfl, .ref a, .ref b, x, rfl, ha, hb, hx, fun H' s => k H' s⟩
abbrev s_Way_at : Stmt := inClass (top 22) 2
theorem sc_Way_at : FnScope ["self", "path", "part", "index", "inner"] ["self", "path"] (defScope s_Way_at) := ⟨rfl, rfl, rfl, by decide +kernel, rfl, by decide +kernel, by decide +kernel⟩
theorem ok_Way_at {f : Addr} {fd : FuncData} (F : Fun K "at" "Way.at" s_Way_at f fd) (B : Bs mg) (G_made_of : DefOk P w K mg base 1 "made_of" ["way"] (spMadeOf c)) : FnOk P w K mg base CX0 2 f fd ["self", "path"] (spAt c) := by
  have B_len := B.len
  refine F.ok sc_Way_at (fun vs H Q E h => by obtain ⟨v, w, pa, is, rfl, _⟩ := h; rfl) (fun cdv A' outer s H vs Q E hr h => ?_)
  obtain ⟨v, x, pa, is, rfl, hv, hp, hn, k⟩ := h
  refine ⟨_, (pss_cons (ps_set (i := 2) sc_Way_at.nd rfl (Or.inl rfl) (pv 0))
  (pss_cons (ps_for PassesOwn.never rfl (pi_tup (pv 1)) (pg_name (i := 3) sc_Way_at.nd rfl (Or.inl rfl))
   (pss_cons (ps_set (i := 4) sc_Way_at.nd rfl (Or.inl rfl) (pe_callD G_made_of (hr.mono (by first | decide | omega)) rfl (pa_cons (pv 2) pa_nil)))
  (pss_cons (ps_if (pt_cmpR op_ge (pv 3) (pe_callB call_len_seq rfl B_len PySem.boot_len (pa_cons (pv 4) pa_nil)) (nomark _)) (pss_one (ps_ret pe_non)) pss_nil)
  (pss_one (ps_set (i := 2) sc_Way_at.nd rfl (Or.inl rfl) (pe_ix ix_tup (pv 4) (pv 3) (fun _ _ => rfl)))))))
  (pss_one (ps_ret (pv 2))))), ?_⟩
  walk_at "rd"
  walk_at "nx"
  refine ⟨⟨_, SqT.of hp⟩, ?_⟩
  refine for_tup (K := K) (a := pa) (xs := is.map V.int) (fun i σ H' => ∃ (part : V) (u : W) (x3 x4 : Option V), σ = [some v, some (.ref pa), some part, x3, x4] ∧ ObjAt c H' part u ∧ u.at? (is.drop i) = x.at? is ∧ Same H H') ?_ ?_ ?_ ?_
  · exact ⟨v, x, none, none, rfl, hv, rfl, fun _ _ h => h⟩
  · rintro i σ H' _ ⟨part, u, x3, x4, rfl, _, _, s1⟩
    exact SqT.of (s1 _ _ hp)
  · rintro i y σ H1 hy ⟨part, u, x3, x4, rfl, hu, ha, s1⟩
    obtain ⟨j, hj, rfl⟩ : ∃ j, is[i]? = some j ∧ V.int j = y := by simpa using hy
    have hj0 : 0 ≤ j := hn j (List.mem_of_getElem? hj)
    have hd : is.drop i = j :: is.drop (i + 1) := by
      obtain ⟨hi, e⟩ := List.getElem?_eq_some_iff.mp hj
      rw [List.drop_eq_getElem_cons hi, e]
    rw [hd] at ha
    walk_at "nx"
    refine ⟨_, rfl, part, u, rfl, hu, fun t us H2 s2 ht hus => ?_⟩
    have hl := ObjsAt.len _ _ hus
    have s12 := s1.trans s2
    walk_at "nx"
    refine ⟨_, rfl, _, rfl, t, us, rfl, .inr (SqT.of ht), _, _, rfl, rfl, _, rfl, ?_⟩
    refine ite2 (fun e => ?_) (fun e => ?_)
    · have e : ((us.length : Nat) : Int) ≤ j := of_decide_eq_true e
      walk_at "nx"
      walk_at "rd"
      refine k _ H2 s12 ?_
      rw [← ha]
      have q : u.inner[j.toNat]? = none := List.getElem?_eq_none (by omega)
      show Told c H2 .non (match u.inner[j.toNat]? with | some u => W.at? u (is.drop (i + 1)) | none => none)
      rw [q]
      rfl
    · have e : j < (us.length : Nat) := by
        by_cases h : j < (us.length : Nat)
        · exact h
        · exact absurd (decide_eq_true (show ((us.length : Nat) : Int) ≤ j by omega)) e
      walk_at "nx"
      have hjn : j.toNat < u.inner.length := by omega
      have q : u.inner[j.toNat]? = some (u.inner[j.toNat]) := List.getElem?_eq_getElem hjn
      obtain ⟨z, hz, hzw⟩ := ObjsAt.at_ _ _ _ _ hus q
      obtain ⟨z', hz', hat⟩ := atI_of (xs := us) hj0 e
      have ez : z = z' := Option.some.inj (hz.symm.trans hz')
      subst ez
      refine ⟨_, rfl, _, rfl, t, _, _, z, rfl, rfl, SqT.of ht, hat, ?_⟩
      refine ⟨z, _, _, _, rfl, hzw, ?_, s12⟩
      rw [← ha]
      show _ = (match u.inner[j.toNat]? with | some u => W.at? u (is.drop (i + 1)) | none => none)
      rw [q]
  · rintro σ H' ⟨part, u, x3, x4, rfl, hu, ha, s1⟩
    rw [List.length_map, List.drop_length] at ha
    walk_at "nx"
    walk_at "rd"
    refine k part H' s1 ?_
    rw [← ha]
    exact hu
end
end Wv
namespace Wv
open PySem PySem.Spec PyProof.Rows L2
/-! ### all paths of a way -/
mutual
def W.paths : W → List (List Int × W)
  | .nothing => [([], .nothing)] | .one => [([], .one)] | .letter x => [([], .letter x)] | .call x => [([], .call x)]
  | .row ws => ([], .row ws) :: W.lower 0 ws
  | .choice ws => ([], .choice ws) :: W.lower 0 ws
  | .again w => ([], .again w) :: ((W.paths w).map (fun p => (0 :: p.1, p.2)) ++ [])
  | .maybe w => ([], .maybe w) :: ((W.paths w).map (fun p => (0 :: p.1, p.2)) ++ [])
  | .ahead w => ([], .ahead w) :: ((W.paths w).map (fun p => (0 :: p.1, p.2)) ++ [])
  | .unless w => ([], .unless w) :: ((W.paths w).map (fun p => (0 :: p.1, p.2)) ++ [])
def W.lower : Nat → List W → List (List Int × W)
  | _, [] => []
  | k, w :: ws => (W.paths w).map (fun p => ((k : Int) :: p.1, p.2)) ++ W.lower (k + 1) ws
end
theorem W.paths_eq (w : W) : w.paths = ([], w) :: W.lower 0 w.inner := by
  cases w <;> simp [W.paths, W.lower, W.inner]
theorem W.lower_app : ∀ (a : List W) (k : Nat) (u : W), W.lower k (a ++ [u]) = W.lower k a ++ u.paths.map (fun p => (((k + a.length : Nat) : Int) :: p.1, p.2))
  | [], k, u => by simp [W.lower]
  | x :: a, k, u => by
    simp only [List.cons_append, W.lower, W.lower_app a (k + 1) u, List.append_assoc, List.length_cons]
    congr 4
    funext p
    congr 2
    omega
theorem W.mem_lower : ∀ (ws : List W) (k : Nat) (p : List Int × W), p ∈ W.lower k ws ↔ ∃ i u q, ws[i]? = some u ∧ q ∈ u.paths ∧ p = (((k + i : Nat) : Int) :: q.1, q.2)
  | [], k, p => by simp [W.lower]
  | w :: ws, k, p => by
    simp only [W.lower, List.mem_append, List.mem_map, W.mem_lower ws (k + 1) p]
    constructor
    · rintro (⟨q, hq, rfl⟩ | ⟨i, u, q, hu, hq, rfl⟩)
      · exact ⟨0, w, q, rfl, hq, rfl⟩
      · exact ⟨i + 1, u, q, by simpa using hu, hq, by rw [show k + 1 + i = k + (i + 1) by omega]⟩
    · rintro ⟨i, u, q, hu, hq, rfl⟩
      cases i with
      | zero => 
        have e : w = u := by simpa using hu
        subst e
        exact .inl ⟨q, hq, rfl⟩
      | succ i => exact .inr ⟨i, u, q, by simpa using hu, hq, by rw [show k + 1 + i = k + (i + 1) by omega]⟩
/-- what a path tells -/
theorem W.path_at : ∀ (n : Nat) (w : W), w.size ≤ n → ∀ p ∈ w.paths, w.at? p.1 = some p.2 ∧ (∀ i ∈ p.1, 0 ≤ i) ∧ p.1.length + p.2.size ≤ w.size
  | 0, w, h, _, _ => by have := w.size_pos; omega
  | n + 1, w, h, p, hp => by
    rw [W.paths_eq] at hp
    rcases List.mem_cons.mp hp with rfl | hp
    · exact ⟨rfl, fun i hi => by simp at hi, by simp⟩
    · obtain ⟨i, u, q, hu, hq, rfl⟩ := (W.mem_lower _ _ _).mp hp
      have h1 := W.size_mem hu
      have h2 := w.size_inner
      obtain ⟨e1, e2, e3⟩ := W.path_at n u (by omega) q hq
      rw [Nat.zero_add]
      refine ⟨?_, ?_, ?_⟩
      · show (match w.inner[((i : Nat) : Int).toNat]? with | some u => W.at? u q.1 | none => none) = _
        rw [Int.toNat_natCast, hu]
        exact e1
      · intro j hj
        rcases List.mem_cons.mp hj with rfl | hj
        · omega
        · exact e2 j hj
      · simp only [List.length_cons]; omega
/-- each part has its path -/
theorem W.at_path : ∀ (is : List Int) (w u : W), (∀ i ∈ is, 0 ≤ i) → w.at? is = some u → (is, u) ∈ w.paths
  | [], w, u, _, h => by
    have e : w = u := Option.some.inj h
    subst e
    rw [W.paths_eq]
    exact List.mem_cons_self
  | i :: is, w, u, hn, h => by
    have h' : (match w.inner[i.toNat]? with | some u => W.at? u is | none => none) = some u := h
    cases q : w.inner[i.toNat]? with
    | none => rw [q] at h'; cases h'
    | some x =>
      rw [q] at h'
      have ih := W.at_path is x u (fun j hj => hn j (List.mem_cons_of_mem _ hj)) h'
      have hi := hn i List.mem_cons_self
      rw [W.paths_eq]
      refine List.mem_cons_of_mem _ ((W.mem_lower _ _ _).mpr ⟨i.toNat, x, _, q, ih, ?_⟩)
      rw [Nat.zero_add, Int.toNat_of_nonneg hi]
mutual
theorem W.paths_len : ∀ w : W, w.paths.length = w.size
  | .nothing => rfl | .one => rfl | .letter _ => rfl | .call _ => rfl
  | .row ws => by simp only [W.paths, W.size, List.length_cons, W.lower_len ws]; omega
  | .choice ws => by simp only [W.paths, W.size, List.length_cons, W.lower_len ws]; omega
  | .again w => by simp only [W.paths, W.size, List.length_cons, List.length_append, List.length_map, List.length_nil, W.paths_len w]; omega
  | .maybe w => by simp only [W.paths, W.size, List.length_cons, List.length_append, List.length_map, List.length_nil, W.paths_len w]; omega
  | .ahead w => by simp only [W.paths, W.size, List.length_cons, List.length_append, List.length_map, List.length_nil, W.paths_len w]; omega
  | .unless w => by simp only [W.paths, W.size, List.length_cons, List.length_append, List.length_map, List.length_nil, W.paths_len w]; omega
theorem W.lower_len : ∀ {k : Nat} (ws : List W), (W.lower k ws).length = W.sizes ws
  | _, [] => rfl
  | _, w :: ws => by simp only [W.lower, W.sizes, List.length_append, List.length_map, W.paths_len w, W.lower_len ws]
end
/-- paths and parts as pairs; the parts stand in the heap B -/
def PathsAt (B H : Hp) : List V → List (List Int × W) → Prop
  | vs, [] => vs = []
  | vs, p :: ps => ∃ r t u us, vs = V.ref r :: us ∧ H r = some (.tup [.ref t, u]) ∧ H t = some (.tup (p.1.map V.int)) ∧ WayAt B u p.2 ∧ PathsAt B H us ps
theorem PathsAt.keep {B B' H H' : Hp} (kb : Keep B B') (k : Still H H') : ∀ (ps : List (List Int × W)) (vs : List V), PathsAt B H vs ps → PathsAt B' H' vs ps
  | [], _, h => h
  | p :: ps, vs, ⟨r, t, u, us, e, h, h1, h2, h3⟩ => ⟨r, t, u, us, e, k.tup h, k.tup h1, WayAt.keep kb _ _ h2, PathsAt.keep kb k ps us h3⟩
theorem PathsAt.len {B H : Hp} : ∀ (ps : List (List Int × W)) (vs : List V), PathsAt B H vs ps → vs.length = ps.length
  | [], vs, h => by rw [show vs = [] from h]; rfl
  | p :: ps, vs, ⟨r, t, u, us, e, _, _, _, h⟩ => by rw [e, List.length_cons, List.length_cons, PathsAt.len ps us h]
theorem PathsAt.app {B H : Hp} : ∀ (ps : List (List Int × W)) (vs : List V) {us : List V} {qs : List (List Int × W)}, PathsAt B H vs ps → PathsAt B H us qs → PathsAt B H (vs ++ us) (ps ++ qs)
  | [], vs, us, qs, h, h2 => by rw [show vs = [] from h]; exact h2
  | p :: ps, vs, us, qs, ⟨r, t, u, vs', e, h, h1, h3, h4⟩, h2 => by rw [e]; exact ⟨r, t, u, vs' ++ us, rfl, h, h1, h3, PathsAt.app ps vs' h4 h2⟩
theorem PathsAt.at_ {B H : Hp} : ∀ (ps : List (List Int × W)) (vs : List V) (i : Nat) (v : V), PathsAt B H vs ps → vs[i]? = some v → ∃ r t u p, v = .ref r ∧ ps[i]? = some p ∧ H r = some (.tup [.ref t, u]) ∧ H t = some (.tup (p.1.map V.int)) ∧ WayAt B u p.2
  | [], vs, i, v, h, e => by rw [show vs = [] from h] at e; simp at e
  | p :: ps, vs, 0, v, ⟨r, t, u, us, e, h, h1, h2, h3⟩, ev => by
    rw [e] at ev
    have q : V.ref r = v := by simpa using ev
    subst q
    exact ⟨r, t, u, p, rfl, rfl, h, h1, h2⟩
  | p :: ps, vs, i + 1, v, ⟨r, t, u, us, e, h, h1, h2, h3⟩, ev => by
    rw [e] at ev
    obtain ⟨r', t', u', p', a1, a2, a3, a4, a5⟩ := PathsAt.at_ ps us i v h3 (by simpa using ev)
    exact ⟨r', t', u', p', a1, by simpa using a2, a3, a4, a5⟩
theorem yesI {σ : L2.St} {H : Hp} {Q : Bool → Hp → Prop} (h : Q true H) : tYes σ H Q := h
def spPaths (s : Nat) : Sp := fun vs H Q _ => ∃ (v : V) (w : W), vs = [v] ∧ WayAt H v w ∧ w.size ≤ s ∧ w.size ≤ 1000 ∧ ∀ (q : Addr) (us : List V) (H' : Hp), Same H H' → H' q = some (.lst us) → PathsAt H' H' us w.paths → Q (.ref q) H'
section
variable {P : Program} {w : World} {K : PySem.W.Frag} {mg : Str → Option Value} {base : Heap}
end
end Wv
/-! == and != of lists and tuples whose items are compared by an own ==: True or False -/
namespace Oq
open PySem PySem.Spec PyProof.Rows PySem.SeqAt
open AutoSeq1 (wpAny_loadPart')
open MeetsSeq MeetsSeq2 MeetsSeq3 SeqRoads2
section
variable {prog : Program} {w : World} {A : Around} {R : Result → Shared → Prop}
/-- what a comparison gives, by what == gives -/
def opB (op : CmpOp) (b : Bool) : Bool := match op with
  | .Eq => b
  | _ => !b
def opN (op : CmpOp) : Nat := match op with
  | .Eq => 2
  | _ => 3
abbrev IsEN (op : CmpOp) : Prop := op = .Eq ∨ op = .NotEq
/-- at each turn the two lists are read anew: the i-th two are equal and it goes on, or they are not and the answer is no -/
def ListB (prog : Program) (w : World) (A : Around) (E : Value → Shared → Prop) (l b : Addr) (N : Nat) (I : Nat → Shared → Prop) (J : Shared → Prop) : Prop :=
  ∀ i s, I i s → ∃ (items items2 : Array Value) (n n2 : Nat), s.heap.get? l = some { cls := .type "list", data := .seq items n } ∧ s.heap.get? b = some { cls := .type "list", data := .seq items2 n2 } ∧ items.size = N ∧ items2.size = N ∧
    ∀ (h1 : i < items.size) (h2 : i < items2.size), wpAny (model prog w) A.in1 (eqBool items[i] items2[i]) (fun r s' => (r = true ∧ I (i + 1) s') ∨ (r = false ∧ J s' ∧ ∃ (its its2 : Array Value) (m m2 : Nat), s'.heap.get? l = some { cls := .type "list", data := .seq its m } ∧ s'.heap.get? b = some { cls := .type "list", data := .seq its2 m2 } ∧ its.size = N ∧ its2.size = N)) E s
theorem eq_loopB (op : CmpOp) (hop : IsEN op) (l b : Addr) (N : Nat) (I : Nat → Shared → Prop) (J : Shared → Prop) (hl : ListB prog w A (fun e s' => R (.error e) s') l b N I J)
    (fin : ∀ s, I N s → R (.ok (.ret (.bool (opB op true)))) s) (no : ∀ s, J s → R (.ok (.ret (.bool (opB op false)))) s) (k : Nat) :
    ∀ i : Nat, N - i = k → i ≤ N → ∀ s, I i s →
      wpAny (model prog w) A.in1 (Builtin.«list.__eq__.loop» ⟨[.ref l, .ref b, rawInt i, rawInt (opN op)], []⟩) (GQ.FinOf prog w A R) (fun e s' => R (.error e) s') s := by
  induction k with
  | zero =>
    intro i hk hi s h
    obtain ⟨items, items2, n, n2, hl1, hb1, hs1, hs2, _⟩ := hl _ _ h
    have hi' : i = N := by omega
    have hR : R (.ok (.ret (.bool (opB op true)))) s := fin s (hi' ▸ h)
    obtain ⟨hp, g, d, tk, os⟩ := s
    have hi1 : items[((i : Nat) : Int).toNat]? = none := by simp; omega
    have hi2 : items2[((i : Nat) : Int).toNat]? = none := by simp; omega
    rcases hop with rfl | rfl
    · wp_walk using wpAny_loadPart' hl1, wpAny_loadPart' hb1
      rw [hi1, hi2]
      wp_walk using wpAny_loadPart' hl1, wpAny_loadPart' hb1
      show R (.ok (.ret (.bool (items.size == items2.size)))) _
      rw [hs1, hs2]
      simpa [opB] using hR
    · wp_walk using wpAny_loadPart' hl1, wpAny_loadPart' hb1
      rw [hi1, hi2]
      wp_walk using wpAny_loadPart' hl1, wpAny_loadPart' hb1
      show R (.ok (.ret (.bool (items.size != items2.size)))) _
      rw [hs1, hs2]
      simpa [opB] using hR
  | succ k ih =>
    intro i hk hi s h
    obtain ⟨items, items2, n, n2, hl1, hb1, hs1, hs2, turn⟩ := hl _ _ h
    have hlt : i < items.size := by omega
    have hlt2 : i < items2.size := by omega
    have ht := turn hlt hlt2
    obtain ⟨hp, g, d, tk, os⟩ := s
    have hi1 : items[((i : Nat) : Int).toNat]? = some items[i] := by simp [hlt]
    have hi2 : items2[((i : Nat) : Int).toNat]? = some items2[i] := by simp [hlt2]
    have hc : ((i : Int) + 1) = ((i + 1 : Nat) : Int) := by omega
    rcases hop with rfl | rfl
    · wp_walk using wpAny_loadPart' hl1, wpAny_loadPart' hb1
      rw [hi1, hi2]
      refine wpAny_bind (wpAny_mono ht (fun r s2 h2 => ?_) fun _ _ x => x)
      rcases h2 with ⟨hr, h2⟩ | ⟨hr, h2, its, its2, m, m2, e1, e2, z1, z2⟩
      · subst hr
        have hrec := ih (i + 1) (by omega) (by omega) s2 h2
        obtain ⟨hp2, g2, d2, tk2, os2⟩ := s2
        wp_walk
        rw [hc]
        exact ⟨plainId_quiet plain_eq_loop _, codeAny_builtin entry_eq_loop (by
          rw [Around.under_plainId plain_eq_loop _]
          exact hrec)⟩
      · subst hr
        have hR := no s2 h2
        obtain ⟨hp2, g2, d2, tk2, os2⟩ := s2
        have hi3 : its[((i : Nat) : Int).toNat]? = some (its[i]'(by omega)) := by simp
        have hi4 : its2[((i : Nat) : Int).toNat]? = some (its2[i]'(by omega)) := by simp
        wp_walk using wpAny_loadPart' e1, wpAny_loadPart' e2
        rw [hi3, hi4]
        wp_walk using wpAny_loadPart' e1, wpAny_loadPart' e2
        exact hR
    · wp_walk using wpAny_loadPart' hl1, wpAny_loadPart' hb1
      rw [hi1, hi2]
      refine wpAny_bind (wpAny_mono ht (fun r s2 h2 => ?_) fun _ _ x => x)
      rcases h2 with ⟨hr, h2⟩ | ⟨hr, h2, its, its2, m, m2, e1, e2, z1, z2⟩
      · subst hr
        have hrec := ih (i + 1) (by omega) (by omega) s2 h2
        obtain ⟨hp2, g2, d2, tk2, os2⟩ := s2
        wp_walk
        rw [hc]
        exact ⟨plainId_quiet plain_eq_loop _, codeAny_builtin entry_eq_loop (by
          rw [Around.under_plainId plain_eq_loop _]
          exact hrec)⟩
      · subst hr
        have hR := no s2 h2
        obtain ⟨hp2, g2, d2, tk2, os2⟩ := s2
        have hi3 : its[((i : Nat) : Int).toNat]? = some (its[i]'(by omega)) := by simp
        have hi4 : its2[((i : Nat) : Int).toNat]? = some (its2[i]'(by omega)) := by simp
        wp_walk using wpAny_loadPart' e1, wpAny_loadPart' e2
        rw [hi3, hi4]
        wp_walk using wpAny_loadPart' e1, wpAny_loadPart' e2
        exact hR

theorem list_cmpB (op : CmpOp) (hop : IsEN op) (l b : Addr) (N : Nat) (I : Nat → Shared → Prop) (J : Shared → Prop) (hl : ListB prog w A (fun e s' => R (.error e) s') l b N I J)
    (fin : ∀ s, I N s → R (.ok (.ret (.bool (opB op true)))) s) (no : ∀ s, J s → R (.ok (.ret (.bool (opB op false)))) s) {s : Shared} (h : I 0 s) :
    wpAny (model prog w) A.in1 ((match op with | .Eq => Builtin.«list.__eq__» | _ => Builtin.«list.__ne__») ⟨[.ref l, .ref b], []⟩) (GQ.FinOf prog w A R) (fun e s' => R (.error e) s') s := by
  obtain ⟨items, items2, n, n2, hl1, hb1, hs1, hs2, _⟩ := hl _ _ h
  have hrec := eq_loopB (A := A) (R := R) op hop l b N I J hl fin no _ 0 rfl (Nat.zero_le _) s h
  obtain ⟨hp, g, d, tk, os⟩ := s
  have f3 := AutoSeq1.sub_list_list
  have hne : ¬ (items.size != items2.size) = true := by simp [hs1, hs2]
  rcases hop with rfl | rfl
  · wp_walk using wpAny_loadPart' hl1, wpAny_loadPart' hb1
    exact ⟨plainId_quiet plain_eq_loop _, codeAny_builtin entry_eq_loop (by
      rw [Around.under_plainId plain_eq_loop _]
      exact hrec)⟩
  · wp_walk using wpAny_loadPart' hl1, wpAny_loadPart' hb1
    exact ⟨plainId_quiet plain_eq_loop _, codeAny_builtin entry_eq_loop (by
      rw [Around.under_plainId plain_eq_loop _]
      exact hrec)⟩
/-- lists of different lengths -/
theorem list_cmpL (op : CmpOp) (hop : IsEN op) (l b : Addr) (items items2 : Array Value) (n n2 : Nat) (hsz : items.size ≠ items2.size) {s : Shared}
    (hl1 : s.heap.get? l = some { cls := .type "list", data := .seq items n }) (hb1 : s.heap.get? b = some { cls := .type "list", data := .seq items2 n2 }) (h : R (.ok (.ret (.bool (opB op false)))) s) :
    wpAny (model prog w) A.in1 ((match op with | .Eq => Builtin.«list.__eq__» | _ => Builtin.«list.__ne__») ⟨[.ref l, .ref b], []⟩) (GQ.FinOf prog w A R) (fun e s' => R (.error e) s') s := by
  obtain ⟨hp, g, d, tk, os⟩ := s
  have f3 := AutoSeq1.sub_list_list
  have hne : (items.size != items2.size) = true := by simp [hsz]
  rcases hop with rfl | rfl
  · wp_walk using wpAny_loadPart' hl1, wpAny_loadPart' hb1
    exact h
  · wp_walk using wpAny_loadPart' hl1, wpAny_loadPart' hb1
    exact h
theorem tuple_cmpB (op : CmpOp) (hop : IsEN op) (l b : Addr) (items items2 : Array Value) (n n2 : Nat) (dd dd2 : Option Addr) (sl sl2 : Array (Option Value)) (I : Nat → Shared → Prop) (J : Shared → Prop)
    (turn : ∀ i (h1 : i < items.size) (h2 : i < items2.size) s, I i s → wpAny (model prog w) A.in1 (eqBool items[i] items2[i]) (fun r s' => (r = true ∧ I (i + 1) s') ∨ (r = false ∧ J s')) (fun e s' => R (.error e) s') s)
    (fin : ∀ s, I (min items.size items2.size) s → R (.ok (.ret (.bool (opB op (items.size == items2.size))))) s) (no : ∀ s, J s → R (.ok (.ret (.bool (opB op false)))) s)
    {s : Shared} (hl1 : s.heap.get? l = some { cls := .type "tuple", dict := dd, data := .seq items n, slots := sl }) (hb1 : s.heap.get? b = some { cls := .type "tuple", dict := dd2, data := .seq items2 n2, slots := sl2 }) (h : I 0 s) :
    wpAny (model prog w) A.in1 ((match op with | .Eq => Builtin.«tuple.__eq__» | _ => Builtin.«tuple.__ne__») ⟨[.ref l, .ref b], []⟩) (GQ.FinOf prog w A R) (fun e s' => R (.error e) s') s := by
  have f2 := AutoSeq1.sub_tuple_tuple
  have hZ : (items.toList.zip items2.toList).length = min items.size items2.size := by simp
  have h0 := h
  obtain ⟨hp, g, d, tk, os⟩ := s
  rcases hop with rfl | rfl
  · wp_walk using wpAny_loadPart' hl1, wpAny_loadPart' hb1, wpAny_forIn_list _ (fun rest b s' => b.1 = none ∧ ∃ i, rest = (items.toList.zip items2.toList).drop i ∧ i ≤ min items.size items2.size ∧ I i s') _
    case turn =>
      rintro ⟨y, x⟩ rest b s' ⟨hb', i, hz, hi, hI⟩
      have hlt : i < (items.toList.zip items2.toList).length := by
        rcases Nat.lt_or_ge i (items.toList.zip items2.toList).length with h' | h'
        · exact h'
        · rw [List.drop_of_length_le h'] at hz; cases hz
      have h1 : i < items.size := by omega
      have h2 : i < items2.size := by omega
      rw [List.drop_eq_getElem_cons hlt] at hz
      injection hz with hyx hrest
      have hy : y = items[i] := by have := congrArg Prod.fst hyx; simpa using this
      have hx : x = items2[i] := by have := congrArg Prod.snd hyx; simpa using this
      subst hy hx
      refine wpAny_bind (wpAny_mono (turn i h1 h2 s' hI) (fun r s2 q2 => ?_) fun _ _ x => x)
      rcases q2 with ⟨hr, q2⟩ | ⟨hr, q2⟩
      · subst hr
        wp_walk
        exact ⟨rfl, i + 1, hrest, by omega, q2⟩
      · subst hr
        have hR := no s2 q2
        wp_walk
        exact hR
    case fin =>
      rintro ⟨b1, b2⟩ s' ⟨hb', i, hz, hi, hI⟩
      simp only at hb'
      subst hb'
      have hge : min items.size items2.size ≤ i := by
        rcases Nat.lt_or_ge i (items.toList.zip items2.toList).length with h' | h'
        · rw [List.drop_eq_getElem_cons h'] at hz; cases hz
        · omega
      have hi' : i = min items.size items2.size := by omega
      have hR : R (.ok (.ret (.bool (opB .Eq (items.size == items2.size))))) s' := fin s' (hi' ▸ hI)
      wp_walk
      exact hR
    case h =>
      exact ⟨rfl, 0, rfl, Nat.zero_le _, h0⟩
  · wp_walk using wpAny_loadPart' hl1, wpAny_loadPart' hb1, wpAny_forIn_list _ (fun rest b s' => b.1 = none ∧ ∃ i, rest = (items.toList.zip items2.toList).drop i ∧ i ≤ min items.size items2.size ∧ I i s') _
    case turn =>
      rintro ⟨y, x⟩ rest b s' ⟨hb', i, hz, hi, hI⟩
      have hlt : i < (items.toList.zip items2.toList).length := by
        rcases Nat.lt_or_ge i (items.toList.zip items2.toList).length with h' | h'
        · exact h'
        · rw [List.drop_of_length_le h'] at hz; cases hz
      have h1 : i < items.size := by omega
      have h2 : i < items2.size := by omega
      rw [List.drop_eq_getElem_cons hlt] at hz
      injection hz with hyx hrest
      have hy : y = items[i] := by have := congrArg Prod.fst hyx; simpa using this
      have hx : x = items2[i] := by have := congrArg Prod.snd hyx; simpa using this
      subst hy hx
      refine wpAny_bind (wpAny_mono (turn i h1 h2 s' hI) (fun r s2 q2 => ?_) fun _ _ x => x)
      rcases q2 with ⟨hr, q2⟩ | ⟨hr, q2⟩
      · subst hr
        wp_walk
        exact ⟨rfl, i + 1, hrest, by omega, q2⟩
      · subst hr
        have hR := no s2 q2
        wp_walk
        exact hR
    case fin =>
      rintro ⟨b1, b2⟩ s' ⟨hb', i, hz, hi, hI⟩
      simp only at hb'
      subst hb'
      have hge : min items.size items2.size ≤ i := by
        rcases Nat.lt_or_ge i (items.toList.zip items2.toList).length with h' | h'
        · rw [List.drop_eq_getElem_cons h'] at hz; cases hz
        · omega
      have hi' : i = min items.size items2.size := by omega
      have hR : R (.ok (.ret (.bool (opB .NotEq (items.size == items2.size))))) s' := fin s' (hi' ▸ hI)
      wp_walk
      exact hR
    case h =>
      exact ⟨rfl, 0, rfl, Nat.zero_le _, h0⟩
end
end Oq
/-! == and != over the layer: True or False, by an own == within lists and tuples -/
namespace Oq
open PySem PySem.Spec PyProof.Rows L2
abbrev Eqb := V → V → Bool → Hp → Prop
def MonB (D : Eqb) : Prop := ∀ x y b H H', L2.Ext H H' → D x y b H → D x y b H'
def EqB (X : Cx) (n : Nat) (D : Eqb) : Prop :=
  ∀ (A : Around) (pins : List (Addr × Obj)) (s : Shared) (σ : L2.St) (H : Hp) (x y : V) (b : Bool) (u v : Value), L2.Sub X n A → Inv X pins σ H s → RelV x u → RelV y v → D x y b H →
    wpAny (model X.prog X.w) A (eqBool u v) (fun r s' => r = b ∧ ∃ H', Inv X pins σ H' s' ∧ L2.Ext H H') X.xe s
def RcB (X : Cx) (n : Nat) (op : CmpOp) (D : Eqb) : Prop :=
  ∀ (A : Around) (pins : List (Addr × Obj)) (s : Shared) (σ : L2.St) (H : Hp) (x y : V) (b : Bool) (u v : Value), L2.Sub X n A → Inv X pins σ H s → RelV x u → RelV y v → D x y b H →
    wpAny (model X.prog X.w) A (richCompare op u v) (fun r s' => r = .bool (opB op b) ∧ ∃ H', Inv X pins σ H' s' ∧ L2.Ext H H') X.xe s
section
variable {X : Cx} {n m : Nat} {D D' : Eqb} {op : CmpOp}
theorem EqB.mono (h : EqB X n D) (hn : n ≤ m) : EqB X m D := fun A pins s σ H x y b u v sb => h A pins s σ H x y b u v (sb.mono hn)
theorem RcB.mono (h : RcB X n op D) (hn : n ≤ m) : RcB X m op D := fun A pins s σ H x y b u v sb => h A pins s σ H x y b u v (sb.mono hn)
theorem EqB.or (h : EqB X n D) (h' : EqB X n D') : EqB X n (fun x y b H => D x y b H ∨ D' x y b H) := fun A pins s σ H x y b u v sb I rx ry d => by
  rcases d with d | d
  · exact h A pins s σ H x y b u v sb I rx ry d
  · exact h' A pins s σ H x y b u v sb I rx ry d
theorem MonB.or (h : MonB D) (h' : MonB D') : MonB (fun x y b H => D x y b H ∨ D' x y b H) := fun x y b H H' e d => d.elim (fun d => .inl (h x y b H H' e d)) fun d => .inr (h' x y b H H' e d)
/-- flat values -/
def DFlat : Eqb := fun x y b _ => flatV x = true ∧ flatV y = true ∧ eqV x y = b
theorem monB_flat : MonB DFlat := fun _ _ _ _ _ _ d => d
theorem eqB_flat : EqB X 0 DFlat := by
  intro A pins s σ H x y b u v sb I rx ry d
  obtain ⟨fx, fy, e⟩ := d
  have q := eqAt_V (A := A) (s := s) rx ry fx fy
  rw [e] at q
  exact q X.prog X.w X.xe _ ⟨rfl, H, I, Ext.rfl'⟩
/-- item by item -/
def PrsB (D : Eqb) (H : Hp) : List V → List V → Bool → Prop
  | [], [], b => b = true
  | [], _ :: _, b => b = false
  | _ :: _, [], b => b = false
  | x :: xs, y :: ys, b => (D x y false H ∧ b = false) ∨ (D x y true H ∧ PrsB D H xs ys b)
theorem PrsB.mon (hD : MonB D) {H H' : Hp} (e : L2.Ext H H') : ∀ (xs ys : List V) (b : Bool), PrsB D H xs ys b → PrsB D H' xs ys b
  | [], [], _, p => p
  | [], _ :: _, _, p => p
  | _ :: _, [], _, p => p
  | x :: xs, y :: ys, b, p => by
    rcases p with ⟨p, h⟩ | ⟨p, h⟩
    · exact .inl ⟨hD _ _ _ _ _ e p, h⟩
    · exact .inr ⟨hD _ _ _ _ _ e p, PrsB.mon hD e xs ys b h⟩
theorem PrsB.len {H : Hp} : ∀ (xs ys : List V) (b : Bool), PrsB D H xs ys b → xs.length ≠ ys.length → b = false
  | [], [], _, p, h => absurd rfl h
  | [], _ :: _, _, p, _ => p
  | _ :: _, [], _, p, _ => p
  | x :: xs, y :: ys, b, p, h => by
    rcases p with ⟨_, h'⟩ | ⟨_, h'⟩
    · exact h'
    · exact PrsB.len xs ys b h' (fun e => h (by rw [List.length_cons, List.length_cons, e]))
def LoopJ (X : Cx) (pins : List (Addr × Obj)) (σ : L2.St) (D : Eqb) (H : Hp) (xs ys : List V) (b : Bool) (i : Nat) (s' : Shared) : Prop := PrsB D H (xs.drop i) (ys.drop i) b ∧ LoopI X pins σ H s'
theorem turnB (hD : MonB D) (h : EqB X n D) {A : Around} (sb : L2.Sub X (n + 1) A) {pins : List (Addr × Obj)} {σ : L2.St} {H : Hp} {xs ys : List V} {b : Bool} {its its2 : List Value} (r : Vals xs its) (r2 : Vals ys its2)
    (i : Nat) (h1 : i < its.toArray.size) (h2 : i < its2.toArray.size) (s' : Shared) (l : LoopJ X pins σ D H xs ys b i s') :
    wpAny (model X.prog X.w) A.in1 (eqBool its.toArray[i] its2.toArray[i]) (fun r s2 => (r = true ∧ LoopJ X pins σ D H xs ys b (i + 1) s2) ∨ (r = false ∧ b = false ∧ LoopI X pins σ H s2)) X.xe s' := by
  obtain ⟨p, H1, I1, e1⟩ := l
  have g1 : its[i]? = some its.toArray[i] := by
    have h1' : i < its.length := by simpa using h1
    rw [List.getElem?_eq_getElem h1'] <;> simp
  have g2 : its2[i]? = some its2.toArray[i] := by
    have h2' : i < its2.length := by simpa using h2
    rw [List.getElem?_eq_getElem h2'] <;> simp
  have k1 : i < xs.length := by rw [r.length]; simpa using h1
  have k2 : i < ys.length := by rw [r2.length]; simpa using h2
  obtain ⟨u, hu, ru⟩ := r.get (List.getElem?_eq_getElem k1)
  obtain ⟨v, hv, rv⟩ := r2.get (List.getElem?_eq_getElem k2)
  rw [g1] at hu
  rw [g2] at hv
  rw [Option.some.inj hu, Option.some.inj hv]
  rw [List.drop_eq_getElem_cons k1, List.drop_eq_getElem_cons k2] at p
  rcases p with ⟨p, hb⟩ | ⟨p, hp⟩
  · refine wpAny_mono (h A.in1 pins s' σ H1 _ _ _ u v sb.in1 I1 ru rv (hD _ _ _ _ _ e1 p)) (fun r s2 q => ?_) fun _ _ x => x
    obtain ⟨hr, H2, I2, e2⟩ := q
    exact .inr ⟨hr, hb, H2, I2, e1.trans e2⟩
  · refine wpAny_mono (h A.in1 pins s' σ H1 _ _ _ u v sb.in1 I1 ru rv (hD _ _ _ _ _ e1 p)) (fun r s2 q => ?_) fun _ _ x => x
    obtain ⟨hr, H2, I2, e2⟩ := q
    exact .inl ⟨hr, hp, H2, I2, e1.trans e2⟩
def DListB (D : Eqb) : Eqb := fun x y b H => ∃ a c xs ys, x = .ref a ∧ y = .ref c ∧ H a = some (.lst xs) ∧ H c = some (.lst ys) ∧ PrsB D H xs ys b ∧ (a = c → b = true)
def DTupB (K : PySem.W.Frag) (D : Eqb) : Eqb := fun x y b H => ∃ a c xs ys, x = .ref a ∧ y = .ref c ∧ SqT K H a xs ∧ SqT K H c ys ∧ PrsB D H xs ys b ∧ (a = c → b = true)
theorem monB_list (hD : MonB D) : MonB (DListB D) := fun x y b H H' e d => by
  obtain ⟨a, c, xs, ys, hx, hy, h1, h2, p, q⟩ := d
  exact ⟨a, c, xs, ys, hx, hy, e _ _ h1, e _ _ h2, p.mon hD e, q⟩
theorem monB_tup {K : PySem.W.Frag} (hD : MonB D) : MonB (DTupB K D) := fun x y b H H' e d => by
  obtain ⟨a, c, xs, ys, hx, hy, h1, h2, p, q⟩ := d
  exact ⟨a, c, xs, ys, hx, hy, h1.ext e, h2.ext e, p.mon hD e, q⟩
theorem opB_true : ∀ b, (b = true → opB op b = opB op true) := fun b h => by rw [h]
theorem rcB_list (hop : IsEN op) (hD : MonB D) (h : EqB X n D) : RcB X (n + 1) op (DListB D) := by
  intro A pins s σ H x y b u v sb I rx ry d
  obtain ⟨a, c, xs, ys, rfl, rfl, ha, hc, p, _⟩ := d
  cases rx
  cases ry
  obtain ⟨z, its, k, r, e⟩ := I.hok a _ ha
  obtain ⟨z2, its2, k2, r2, e2⟩ := I.hok c _ hc
  have fin : wpAny (model X.prog X.w) A.in1 ((match op with | .Eq => Builtin.«list.__eq__» | _ => Builtin.«list.__ne__») ⟨[.ref a, .ref c], []⟩) (GQ.FinOf X.prog X.w A (wants (fun v s' => v ≠ .notImplemented ∧ v = .bool (opB op b) ∧ ∃ H', Inv X pins σ H' s' ∧ L2.Ext H H') X.xe)) (fun e s' => wants (fun v s' => v ≠ .notImplemented ∧ v = .bool (opB op b) ∧ ∃ H', Inv X pins σ H' s' ∧ L2.Ext H H') X.xe (.error e) s') s := by
    by_cases hl : xs.length = ys.length
    · refine list_cmpB (R := wants (fun v s' => v ≠ .notImplemented ∧ v = .bool (opB op b) ∧ ∃ H', Inv X pins σ H' s' ∧ L2.Ext H H') X.xe) op hop a c xs.length (fun i s' => LoopJ X pins σ D H xs ys b i s') (fun s' => b = false ∧ LoopI X pins σ H s') (fun i s' q => ?_) (fun s' q => ?_) (fun s' q => ?_) ⟨p, H, I, Ext.rfl'⟩
      · obtain ⟨q0, H1, I1, e1⟩ := id q
        obtain ⟨z, its, k, r, e⟩ := I1.hok a _ (e1 _ _ ha)
        obtain ⟨z2, its2, k2, r2, e2⟩ := I1.hok c _ (e1 _ _ hc)
        refine ⟨its.toArray, its2.toArray, k, k2, e, e2, by rw [List.size_toArray, ← r.length], by rw [List.size_toArray, ← r2.length, hl], fun h1 h2 => ?_⟩
        refine wpAny_mono (turnB hD h sb r r2 i h1 h2 s' q) (fun t s2 q2 => ?_) fun _ _ x => x
        rcases q2 with q2 | ⟨ht, hb, q2⟩
        · exact .inl q2
        · obtain ⟨H3, I3, e3⟩ := id q2
          obtain ⟨z, its, k, r, e⟩ := I3.hok a _ (e3 _ _ ha)
          obtain ⟨z2, its2, k2, r2, e2⟩ := I3.hok c _ (e3 _ _ hc)
          exact .inr ⟨ht, ⟨hb, q2⟩, its.toArray, its2.toArray, k, k2, e, e2, by rw [List.size_toArray, ← r.length], by rw [List.size_toArray, ← r2.length, hl]⟩
      · obtain ⟨q0, q1⟩ := q
        rw [List.drop_length, hl, List.drop_length] at q0
        have hb : b = true := q0
        exact ⟨(fun x => nomatch x), by rw [hb], q1⟩
      · exact ⟨(fun x => nomatch x), by rw [q.1], q.2⟩
    · have hb := p.len _ _ _ hl
      exact list_cmpL op hop a c its.toArray its2.toArray k k2 (by rw [List.size_toArray, List.size_toArray, ← r.length, ← r2.length]; exact hl) e e2 ⟨(fun x => nomatch x), by rw [hb], H, I, Ext.rfl'⟩
  rcases hop with rfl | rfl
  · exact wpAny_richCompare_same_room (op := .Eq) ⟨_, e, rfl⟩ ⟨_, e2, rfl⟩ F.slot_list_eq (GQ.call_here F.slot_list_eq ⟨_, e, rfl⟩ F.entry_list_eq (F.args_list_eq_2 _ _) fin) sb.room.units0
  · exact wpAny_richCompare_same_room (op := .NotEq) ⟨_, e, rfl⟩ ⟨_, e2, rfl⟩ F.slot_list_ne (GQ.call_here F.slot_list_ne ⟨_, e, rfl⟩ F.entry_list_ne (F.args_list_ne_2 _ _) fin) sb.room.units0
theorem rcB_tup (hop : IsEN op) (hD : MonB D) (h : EqB X n D) : RcB X (n + 1) op (DTupB X.K D) := by
  intro A pins s σ H x y b u v sb I rx ry d
  obtain ⟨a, c, xs, ys, rfl, rfl, ha, hc, p, _⟩ := d
  cases rx
  cases ry
  obtain ⟨its, r, e, z⟩ := I.tuple ha
  obtain ⟨its2, r2, e2, z2⟩ := I.tuple hc
  obtain ⟨⟨cls, dd, data, sl⟩, ho, hcl, n1, hd⟩ := id e
  obtain ⟨⟨cls2, dd2, data2, sl2⟩, ho2, hc2, n2, hd2⟩ := id e2
  simp only at hcl hd hc2 hd2
  subst hcl hd hc2 hd2
  have fin : wpAny (model X.prog X.w) A.in1 ((match op with | .Eq => Builtin.«tuple.__eq__» | _ => Builtin.«tuple.__ne__») ⟨[.ref a, .ref c], []⟩) (GQ.FinOf X.prog X.w A (wants (fun v s' => v ≠ .notImplemented ∧ v = .bool (opB op b) ∧ ∃ H', Inv X pins σ H' s' ∧ L2.Ext H H') X.xe)) (fun e s' => wants (fun v s' => v ≠ .notImplemented ∧ v = .bool (opB op b) ∧ ∃ H', Inv X pins σ H' s' ∧ L2.Ext H H') X.xe (.error e) s') s := by
    refine tuple_cmpB (R := wants (fun v s' => v ≠ .notImplemented ∧ v = .bool (opB op b) ∧ ∃ H', Inv X pins σ H' s' ∧ L2.Ext H H') X.xe) op hop a c its.toArray its2.toArray n1 n2 dd dd2 sl sl2 (fun i s' => LoopJ X pins σ D H xs ys b i s') (fun s' => b = false ∧ LoopI X pins σ H s') (fun i h1 h2 s' q => ?_) (fun s' q => ?_) (fun s' q => ?_) ho ho2 ⟨p, H, I, Ext.rfl'⟩
    · exact wpAny_mono (turnB hD h sb r r2 i h1 h2 s' q) (fun t s2 q2 => q2) fun _ _ x => x
    · obtain ⟨q0, q1⟩ := q
      have hb : (its.toArray.size == its2.toArray.size) = b := by
        rw [List.size_toArray, List.size_toArray, ← r.length, ← r2.length] at q0 ⊢
        by_cases hl : xs.length = ys.length
        · rw [← hl, Nat.min_self, List.drop_length, hl, List.drop_length] at q0
          have hb : b = true := q0
          rw [hb, hl]; exact beq_self_eq_true _
        · rw [p.len _ _ _ hl]
          exact beq_eq_false_iff_ne.mpr hl
      exact ⟨(fun x => nomatch x), by rw [hb], q1⟩
    · exact ⟨(fun x => nomatch x), by rw [q.1], q.2⟩
  rcases hop with rfl | rfl
  · exact wpAny_richCompare_same_room (op := .Eq) ⟨_, ho, rfl⟩ ⟨_, ho2, rfl⟩ F.slot_tuple_eq (GQ.call_here F.slot_tuple_eq ⟨_, ho, rfl⟩ F.entry_tuple_eq (F.args_tuple_eq_2 _ _) fin) sb.room.units0
  · exact wpAny_richCompare_same_room (op := .NotEq) ⟨_, ho, rfl⟩ ⟨_, ho2, rfl⟩ F.slot_tuple_ne (GQ.call_here F.slot_tuple_ne ⟨_, ho, rfl⟩ F.entry_tuple_ne (F.args_tuple_ne_2 _ _) fin) sb.room.units0
/-- from a rich comparison to == inside a list or tuple -/
theorem RcB.eqB (h : RcB X n .Eq D) (hr : ∀ x y b H, D x y b H → ∃ a c, x = .ref a ∧ y = .ref c ∧ (a = c → b = true)) : EqB X n D := by
  intro A pins s σ H x y b u v sb I rx ry d
  obtain ⟨a, c, rfl, rfl, hs⟩ := hr _ _ _ _ d
  cases rx
  cases ry
  by_cases hab : a = c
  · subst hab
    rw [hs rfl]
    exact SeqAt.EqAt.same (A := A) (s := s) (.ref a) X.prog X.w X.xe _ ⟨rfl, H, I, Ext.rfl'⟩
  · refine GQ.eqBool_refG hab (wpAny_mono (h A pins s σ H (.ref a) (.ref c) _ _ _ sb I rfl rfl d) (fun r s' q => ?_) fun _ _ x => x)
    obtain ⟨hr', q⟩ := q
    exact ⟨b, hr', rfl, q⟩
theorem eqB_list (hD : MonB D) (h : EqB X n D) : EqB X (n + 1) (DListB D) := (rcB_list (.inl rfl) hD h).eqB fun _ _ _ _ d => let ⟨a, b, _, _, hx, hy, _, _, _, q⟩ := d; ⟨a, b, hx, hy, q⟩
theorem eqB_tup (hD : MonB D) (h : EqB X n D) : EqB X (n + 1) (DTupB X.K D) := (rcB_tup (.inl rfl) hD h).eqB fun _ _ _ _ d => let ⟨a, b, _, _, hx, hy, _, _, _, q⟩ := d; ⟨a, b, hx, hy, q⟩
/-- an instance at a of the class at C with the text's own ==, and something at c whose type tells no == ahead of it -/
def DInsB (C : Addr) (T : V → Value → Hp → Prop) (R : Addr → V → Bool → Hp → Prop) : Eqb := fun x y b H => ∃ a dx fs t, x = .ref a ∧ H a = some (.ins C dx fs) ∧ T y t H ∧ R a y b H
def spEqB (R : Addr → V → Bool → Hp → Prop) : Sp := fun vs H Q _ => ∃ a y b, vs = [.ref a, y] ∧ R a y b H ∧ ∀ H', L2.Ext H H' → Q (.bl b) H'
theorem rcB_ins {CX : CXT} {C f : Addr} {fd : FuncData} {ps : List Str} {T : V → Value → Hp → Prop} {R : Addr → V → Bool → Hp → Prop} {E : XK} (F : FnOk X.prog X.w X.K X.mg X.base CX n f fd ps (spEqB R))
    (hs : PySem.W.findIn X.K (.ref C) "__eq__" = some (some (.ref f))) (hf : PySem.W.isFn X.K (.ref f) = true) (hb : Binds X.K fd ps []) (hx : Passes CX X E)
    (hT : ∀ (pins : List (Addr × Obj)) (σ : L2.St) (H : Hp) (s : Shared) (y : V) (t v : Value), Inv X pins σ H s → RelV y v → T y t H → PySem.W.Looks (model X.prog X.w) s.heap (typeOf v) t ∧ PySem.W.notFirst X.K C t = true) : RcB X n .Eq (DInsB C T R) := by
  intro A pins s σ H x y b u v sb I rx ry d
  obtain ⟨a, dx, fs, t, rfl, ha, ht, hr⟩ := d
  cases rx
  obtain ⟨lk, nf⟩ := hT pins σ H s y t v I ry ht
  obtain ⟨mA, J, _⟩ := ins_get I.hok ha
  obtain ⟨od, J, _⟩ := J.look
  obtain ⟨m, hF⟩ := I.fr
  refine PySem.W.cmp_K (op := .Eq) (tb := t) sb.room.units0 hF I.ok.mod.kin J lk nf hs hf ?_
  have hsp : spEqB R [.ref a, y] H (fun v H' => v = .bl b ∧ L2.Ext H H') E := ⟨a, y, b, rfl, hr, fun H' e => ⟨rfl, e⟩⟩
  have e0 : Env0 X.prog X.w X.K X.mg X.base A X.stack s H := by
    have e := I.env0
    exact ⟨by rw [sb.fr]; exact e.frames, e.mod, e.bs, e.bsz, e.funs, e.frf, e.hok, e.bare⟩
  have hl := F.len _ _ _ _ hsp
  have r2 : Vals [V.ref a, y] [Value.ref a, v] := .cons rfl (.cons ry .nil)
  refine wpAny_call (codeAny_mono (F.run A X.stack s H ⟨[.ref a, v], []⟩ [.ref a, v] [.ref a, y] _ E sb.room e0 (by
    have := hb s [.ref a, v] I.kIn (by simpa using hl)
    simpa using this) r2 hsp) fun r s' hq => ?_)
  cases r with
  | error e => exact hx pins σ H s e s' I hq
  | ok fl =>
    cases fl with
    | ret w =>
      obtain ⟨z, H', I', rz, ez, ex⟩ := I.after hq
      subst ez
      cases rz
      exact ⟨rfl, H', I', ex⟩
    | next => exact False.elim hq
    | brk => exact False.elim hq
    | cont => exact False.elim hq
/-- x == y, x != y as an expression -/
def rCmpB (op : CmpOp) (D : Eqb) : R2 := fun x y H Q => ∃ b, D x y b H ∧ ∀ H', L2.Ext H H' → Q (.bl (opB op b)) H'
theorem op_eqB (h : RcB X n .Eq D) (hr : Room n X.A) : OpR X (compareOp .Eq) (rCmpB .Eq D) := by
  intro pins s σ H x y v u Q I rx ry hq
  obtain ⟨b, d, q⟩ := hq
  show wpAny (model X.prog X.w) X.A (richCompare .Eq v u) (EP X pins σ Q) X.xe s
  refine wpAny_mono (h X.A pins s σ H x y b v u ⟨hr, rfl⟩ I rx ry d) (fun r s' z => ?_) fun _ _ x => x
  obtain ⟨hr', H', I', e⟩ := z
  subst hr'
  exact ⟨.bl (opB .Eq b), H', I', rfl, q H' e⟩
theorem op_neB (h : RcB X n .NotEq D) (hr : Room n X.A) : OpR X (compareOp .NotEq) (rCmpB .NotEq D) := by
  intro pins s σ H x y v u Q I rx ry hq
  obtain ⟨b, d, q⟩ := hq
  show wpAny (model X.prog X.w) X.A (richCompare .NotEq v u) (EP X pins σ Q) X.xe s
  refine wpAny_mono (h X.A pins s σ H x y b v u ⟨hr, rfl⟩ I rx ry d) (fun r s' z => ?_) fun _ _ x => x
  obtain ⟨hr', H', I', e⟩ := z
  subst hr'
  exact ⟨.bl (opB .NotEq b), H', I', rfl, q H' e⟩
end
end Oq
/-! own errors with fields, methods and classes that may raise -/
namespace Bk
open PySem PySem.Spec PyProof.Rows L2 Wv
/-- an error class of the program with an __init__ of its own -/
structure ExOk (P : Program) (w : World) (K : PySem.W.Frag) (mg : Str → Option Value) (base : Heap) (k : Nat) (x : Str) (C : Addr) (ps : List Str) (sp : Sp) : Prop where
  ex : ∃ (fI : Addr) (fd : FuncData), OexC K C ∧ PySem.W.findIn K (.ref C) "__init__" = some (some (.ref fI)) ∧ PySem.W.typeIn K (.ref fI) = some (.type "function") ∧ mg x = some (.ref C) ∧ Binds K fd ps [] ∧ FnOk P w K mg base CX0 k fI fd ps sp
/-- a method of the class at C that may raise -/
structure MxOk (P : Program) (w : World) (K : PySem.W.Frag) (mg : Str → Option Value) (base : Heap) (C : Addr) (k : Nat) (m : Str) (ps : List Str) (sp : Sp) : Prop where
  cl : Cls K C
  ex : ∃ (f : Addr) (fd : FuncData), FnOk P w K mg base (L2.CX P w) k f fd ps sp ∧ Meth K C m f ∧ Binds K fd ps []
/-- a class whose __init__ may raise -/
structure CxOk (P : Program) (w : World) (K : PySem.W.Frag) (mg : Str → Option Value) (base : Heap) (k : Nat) (x : Str) (C : Addr) (ps : List Str) (sp : Sp) : Prop where
  ex : ∃ (f : Addr) (fd : FuncData), mg x = some (.ref C) ∧ Mk K C f ∧ Binds K fd ps [] ∧ FnOk P w K mg base (L2.CX P w) k f fd ps sp
section
variable {X : Cx} {k : Nat} {x m : Str} {C : Addr} {ps : List Str} {sp : Sp} {o e : Expr} {es : List Expr} {t : TA} {ta : TE} {p apos pos : Pos} {E : XK}
theorem pmk_ex (G : ExOk X.prog X.w X.K X.mg X.base k x C ps sp) (hr : Room (k + 1) X.A) (hg : Gl X x) (ha : PA X (e :: es) t) (hdb : (x == ("__debug__" : Str)) = false := by decide)
    (he : starEach (e :: es) X.env = (false, eval e X.env) :: starEach es X.env := by rfl) (hpl : (backTo pos (starEach es X.env)).any (·.1) = false := by rfl) : PMk X (.Call (.Name x p) (e :: es) [] pos) (tMkO C sp [] t) := by
  obtain ⟨fI, fd, T, iC, tI, hm, hb, F⟩ := G.ex
  exact pmk_oex T iC tI F hr hb .nil pass0 hg hm ha hdb he hpl
theorem pe_methX {pl : Sem Bool} (G : MxOk X.prog X.w X.K X.mg X.base C k m ps sp) (hr : Room k X.A) (hx : Passes (L2.CX X.prog X.w) X E) (he : PE X o ta) (ha : PA X (e :: es) t)
    (hst : starEach (e :: es) X.env = (false, eval e X.env) :: starEach es X.env := by rfl) (hpl : (backTo pos (starEach es X.env)).any (·.1) = false := by rfl)
    (ht : eval (.Call (.Attribute o m apos) (e :: es) [] pos) X.env = (do
      let ov ← eval o X.env
      standAt apos.atName
      let (f, first) ← holding [ov] (getMethod ov m pl)
      callWith pos f first (backTo pos (starEach (e :: es) X.env)) (backToKw pos (keywordEach [] X.env))) := by rfl) :
    PE X (.Call (.Attribute o m apos) (e :: es) [] pos) (tMeth C m sp [] E ta t) := by
  obtain ⟨f, fd, F, hm, hb⟩ := G.ex
  exact pe_meth he G.cl hm F hr hb .nil hx ha hst hpl ht
theorem pe_makeX (G : CxOk X.prog X.w X.K X.mg X.base k x C ps sp) (hr : Room (k + 1) X.A) (hx : Passes (L2.CX X.prog X.w) X E) (hg : Gl X x) (ha : PA X (e :: es) t) (hdb : (x == ("__debug__" : Str)) = false := by decide)
    (he : starEach (e :: es) X.env = (false, eval e X.env) :: starEach es X.env := by rfl) (hpl : (backTo pos (starEach es X.env)).any (·.1) = false := by rfl) :
    PE X (.Call (.Name x p) (e :: es) [] pos) (tMake C sp [] E t) := by
  obtain ⟨f, fd, hm, M, hb, F⟩ := G.ex
  exact pe_make M F hr hg hm hb .nil hx ha hdb he hpl
end
end Bk
namespace Bk
open PySem PySem.Spec PyProof.Rows L2 Wv
/-! ### BadName, and what a book is refused for -/
/-- the first call among these parts of a name that is not in T -/
def bad1 (T : List Str) : List W → Option Str
  | [] => none
  | .call x :: ps => if x ∈ T then bad1 T ps else some x
  | _ :: ps => bad1 T ps
def badR (T : List Str) (n : Str) (w : W) : Option Str := if n ∈ T then some n else bad1 T w.parts
def bookE : List Str → List (Str × W) → Option Str
  | _, [] => none
  | T, (n, w) :: r => match badR T n w with
    | some x => some x
    | none => bookE (T ++ [n]) r
def kS (x : Str) : Key := .inr x
def sName : Str := Str.ofString "name"
def spBad (C : Addr) : Sp := fun vs H Q _ => ∃ (a : Addr) (v : V), vs = [.ref a, v] ∧ H a = some (exo a C none) ∧ ∀ (d : Addr), H d = none → d ≠ a → Q .non (upd (upd H d (exd d [(sName, v)])) a (exo a C (some d)))
/-- what raise BadName(v) leaves -/
theorem raised {C : Addr} {v : V} {H1 : Hp} {Q : XK} {E : XK} (k : ∀ (d : Addr) (H' : Hp), Same H1 H' → H' d = some (.xd [(sName, v)]) → Q (.ref C) (some d) H') :
    ([v] : List V).length ≤ 1000 ∧ ∀ a, H1 a = none → spBad C (.ref a :: ([v] ++ [])) (upd H1 a (exo a C none))
      (fun v' H2 => v' = .non ∧ ∃ (d : Addr) (fs : List (Str × V)), H2 a = some (exo a C (some d)) ∧ H2 d = some (exd d fs) ∧ H1 d = none ∧ Q (.ref C) (some d) (upd (del H2 a) d (.xd fs))) E := by
  refine ⟨by show 1 ≤ 1000; decide, fun a ha => ⟨a, v, rfl, upd_same, fun d hd hne => ⟨rfl, d, _, upd_same, by rw [upd_ne hne]; exact upd_same, by rw [upd_ne hne] at hd; exact hd, ?_⟩⟩⟩
  have hd' : H1 d = none := by rw [upd_ne hne] at hd; exact hd
  refine k d _ (fun b o e => ?_) upd_same
  rw [upd_ne (ne_of_none e hd'), del_ne (ne_of_none e ha), upd_ne (ne_of_none e ha), upd_ne (ne_of_none e hd'), upd_ne (ne_of_none e ha)]
  exact e
/-- a book at b -/
def bkF (t tb sz : Addr) : List (Str × V) := [(Str.ofString "rules", .ref t), (Str.ofString "table", .ref tb), (Str.ofString "sizes", .ref sz)]
structure BkF (K : PySem.W.Frag) (C : Addr) : Prop where
  cl : Cls K C
  n1 : NoAttr K C "rules"
  n2 : NoAttr K C "table"
  n3 : NoAttr K C "sizes"
/-- the dicts of a book: T the names noted so far -/
structure Dcts (H : Hp) (tb sz : Addr) (T : List Str) : Prop where
  ne : tb ≠ sz
  a : ∃ kt : List (Key × V), H tb = some (.dK kt) ∧ kt.length ≤ T.length ∧ ∀ x : Str, (valV kt (kS x)).isSome = decide (x ∈ T)
  b : ∃ ks : List (Key × V), H sz = some (.dK ks) ∧ ks.length ≤ T.length ∧ ∀ x : Str, x ∈ T → ∃ i : Int, valV ks (kS x) = some (.int i)
theorem Dcts.same {H H' : Hp} {tb sz : Addr} {T : List Str} (d : Dcts H tb sz T) (s : Same H H') : Dcts H' tb sz T := by
  obtain ⟨kt, h1, h2⟩ := d.a
  obtain ⟨ks, h3, h4⟩ := d.b
  exact ⟨d.ne, ⟨kt, s _ _ h1, h2⟩, ⟨ks, s _ _ h3, h4⟩⟩
def spAdd (c : Cs) (C BN : Addr) : Sp := fun vs H Q E => ∃ (b dx t tb sz : Addr) (n : Str) (v : V) (w : W) (T : List Str) (H0 : Hp), vs = [.ref b, .str n, v] ∧ H b = some (.ins C dx (bkF t tb sz)) ∧ Dcts H tb sz T ∧ T.length ≤ 1000 ∧ ObjAt c H v w ∧ w.size ≤ 1000 ∧
  Same H0 H ∧ H0 tb = none ∧ H0 sz = none ∧ (badR T n w = none → ∀ H', H' b = some (.ins C dx (bkF t tb sz)) → Dcts H' tb sz (T ++ [n]) → Still H H' → Same H0 H' → Q .non H') ∧
  ∀ x, badR T n w = some x → ∀ (d : Addr) (H' : Hp), Same H0 H' → H' d = some (.xd [(sName, .str x)]) → E (.ref BN) (some d) H'
/-- rules as the program has them: pairs of a name and a way -/
def PairsAt (c : Cs) (H : Hp) : List V → List (Str × W) → Prop
  | vs, [] => vs = []
  | vs, (n, w) :: rs => ∃ r v us, vs = V.ref r :: us ∧ H r = some (.tup [.str n, v]) ∧ ObjAt c H v w ∧ PairsAt c H us rs
theorem PairsAt.keep {c : Cs} {H H' : Hp} (k : Still H H') : ∀ (rs : List (Str × W)) (vs : List V), PairsAt c H vs rs → PairsAt c H' vs rs
  | [], _, h => h
  | (n, w) :: rs, vs, ⟨r, v, us, e, h, hv, h2⟩ => ⟨r, v, us, e, k.tup h, ObjAt.keep k _ _ hv, PairsAt.keep k rs us h2⟩
theorem PairsAt.app {c : Cs} {H : Hp} : ∀ (rs : List (Str × W)) (vs : List V) {us : List V} {qs : List (Str × W)}, PairsAt c H vs rs → PairsAt c H us qs → PairsAt c H (vs ++ us) (rs ++ qs)
  | [], vs, us, qs, h, h2 => by rw [show vs = [] from h]; exact h2
  | (n, w) :: rs, vs, us, qs, ⟨r, v, vs', e, h, hv, h1⟩, h2 => by rw [e]; exact ⟨r, v, vs' ++ us, rfl, h, hv, PairsAt.app rs vs' h1 h2⟩
theorem PairsAt.len {c : Cs} {H : Hp} : ∀ (rs : List (Str × W)) (vs : List V), PairsAt c H vs rs → vs.length = rs.length
  | [], vs, h => by rw [show vs = [] from h]; rfl
  | (n, w) :: rs, vs, ⟨r, v, us, e, _, _, h⟩ => by rw [e, List.length_cons, List.length_cons, PairsAt.len rs us h]
theorem PairsAt.at_ {c : Cs} {H : Hp} : ∀ (rs : List (Str × W)) (vs : List V) (i : Nat) (x : V), PairsAt c H vs rs → vs[i]? = some x → ∃ r n v w, x = .ref r ∧ rs[i]? = some (n, w) ∧ H r = some (.tup [.str n, v]) ∧ ObjAt c H v w
  | [], vs, i, x, h, e => by rw [show vs = [] from h] at e; simp at e
  | (n, w) :: rs, vs, 0, x, ⟨r, v, us, e, h, hv, h1⟩, ev => by
    rw [e] at ev
    have q : V.ref r = x := by simpa using ev
    subst q
    exact ⟨r, n, v, w, rfl, rfl, h, hv⟩
  | (n, w) :: rs, vs, i + 1, x, ⟨r, v, us, e, h, hv, h1⟩, ev => by
    rw [e] at ev
    obtain ⟨r', n', v', w', a1, a2, a3, a4⟩ := PairsAt.at_ rs us i x h1 (by simpa using ev)
    exact ⟨r', n', v', w', a1, by simpa using a2, a3, a4⟩
theorem del_still {H : Hp} {b : Addr} : Still (del H b) H := ⟨fun {a} _ e => by
    by_cases h : a = b
    · subst h; rw [del_same] at e; cases e
    · rw [del_ne h] at e; exact e, fun {a} _ _ _ e => by
    by_cases h : a = b
    · subst h; rw [del_same] at e; cases e
    · rw [del_ne h] at e; exact e⟩
theorem del_upd {H : Hp} {b : Addr} {o : HO} : del (upd H b o) b = del H b := funext fun a => by
  by_cases h : a = b
  · subst h; rw [del_same, del_same]
  · rw [del_ne h, del_ne h, upd_ne h]
theorem same_del {H0 H : Hp} {b : Addr} (s : Same H0 H) (h : H0 b = none) : Same H0 (del H b) := fun a o e => by rw [del_ne (ne_of_none e h)]; exact s a o e
theorem same_dels {H H' : Hp} {b : Addr} (s : Same H H') : Same (del H b) (del H' b) := fun a o e => by
  by_cases h : a = b
  · subst h; rw [del_same] at e; cases e
  · rw [del_ne h] at e ⊢; exact s a o e
theorem none_at {H0 H : Hp} (k : Same H0 H) {a : Addr} (h : H a = none) : H0 a = none := by
  cases z : H0 a with
  | none => rfl
  | some o => rw [k _ _ z] at h; cases h
def spBook (c : Cs) (C BN : Addr) : Sp := fun vs H Q E => ∃ (b dx q : Addr) (us : List V) (rs : List (Str × W)) (H0 : Hp), vs = [.ref b, .ref q] ∧ H b = some (.ins C dx []) ∧ H0 b = none ∧ Same H0 H ∧ H0 q = some (.lst us) ∧ PairsAt c H0 us rs ∧ rs.length ≤ 900 ∧ (∀ x ∈ rs, x.2.size ≤ 1000) ∧
  (bookE [] rs = none → ∀ (t tb sz : Addr) (ts : List V) (H' : Hp), H' b = some (.ins C dx (bkF t tb sz)) → H' t = some (.tup ts) → ts.length = rs.length → Same H0 H' → Q .non H') ∧
  ∀ x, bookE [] rs = some x → ∀ (d : Addr) (H' : Hp), Same H0 H' → H' d = some (.xd [(sName, .str x)]) → E (.ref BN) (some d) H'
section
variable {P : Program} {w : World} {K : PySem.W.Frag} {mg : Str → Option Value} {base : Heap} {c : Cs} {C BN : Addr}
abbrev s_BadName_init : Stmt := inClass (top 4) 0
theorem sc_BadName_init : FnScope ["self", "name"] ["self", "name"] (defScope s_BadName_init) := ⟨rfl, rfl, rfl, by decide +kernel, rfl, by decide +kernel, by decide +kernel⟩
theorem ok_BadName {f : Addr} {fd : FuncData} (F : Fun K "__init__" "BadName.__init__" s_BadName_init f fd) (T : OexC K BN) (hn : PySem.W.findIn K (.ref BN) "name" = some none) : FnOk P w K mg base CX0 1 f fd ["self", "name"] (spBad BN) := by
  refine F.ok sc_BadName_init (fun vs H Q E h => by obtain ⟨_, _, rfl, _⟩ := h; rfl) (fun cdv A outer s H vs Q E hr h => ?_)
  obtain ⟨a, v, rfl, ha, k⟩ := h
  refine ⟨_, (pss_one (ps_ost (pv 0) (pv 1))), ?_⟩
  exact ⟨_, rfl, _, rfl, a, BN, rfl, T, hn, .inl ⟨ha, fun d h1 h2 => k d h1 h2⟩⟩
abbrev s_Book_add_rule : Stmt := inClass (top 48) 1
theorem sc_Book_add_rule : FnScope ["self", "name", "way", "size", "part"] ["self", "name", "way"] (defScope s_Book_add_rule) := ⟨rfl, rfl, rfl, by decide +kernel, rfl, by decide +kernel, by decide +kernel⟩
theorem ok_add {f : Addr} {fd : FuncData} (F : Fun K "add_rule" "Book.add_rule" s_Book_add_rule f fd) (Tb : BkF K C) (A0 : AllF K mg c) (B : Bs mg) (G_BadName : ExOk P w K mg base 1 "BadName" BN ["self", "name"] (spBad BN))
    (G_parts_of : DefOk P w K mg base 2 "parts_of" ["way"] (spParts c)) : FnOk P w K mg base (L2.CX P w) 4 f fd ["self", "name", "way"] (spAdd c C BN) := by
  have B_isinstance := B.isinstance
  have GK_Call := A0.mCa
  refine F.okX sc_Book_add_rule (fun vs H Q E h => by obtain ⟨_, _, _, _, _, _, _, _, _, _, rfl, _⟩ := h; rfl) (fun cdv A outer s H vs Q E hr h => ?_)
  obtain ⟨b, dx, t, tb, sz, n, v, w, T, H0, rfl, hb, hD, hT, hv, hw, s0, ntb, nsz, kq, ke⟩ := h
  have hu : (A.deeper (envOfC "Book.add_rule" (defScope s_Book_add_rule) s.heap.objs.size f cdv)).units + 1 < cLine := Nat.lt_of_le_of_lt (Nat.add_le_add_left (by decide) _) hr.units
  refine ⟨_, (pss_cons (ps_if (pt_cmp (pc_din hu (pv 1) (pe_fld (pv 0) rfl))) (pss_one (ps_raise rfl (takes_of rfl rfl rfl rfl) (pmk_ex G_BadName (hr.mono (by first | decide | omega)) rfl (pa_cons (pv 1) pa_nil)))) pss_nil)
  (pss_cons (ps_set (i := 3) sc_Book_add_rule.nd rfl (Or.inl rfl) pe_int)
  (pss_cons (ps_for (passes_of rfl) rfl (pi_list (pe_callD G_parts_of (hr.mono (by first | decide | omega)) rfl (pa_cons (pv 2) pa_nil))) (pg_name (i := 4) sc_Book_add_rule.nd rfl (Or.inl rfl))
   (pss_one (ps_if (pt_not (pt_val (pe_callB call_isi rfl B_isinstance (by decide +kernel) (pa_cons (pv 4) (pa_cons (pe_globC rfl GK_Call) pa_nil))))) (pss_one (ps_aug (i := 3) sc_Book_add_rule.nd rfl (Or.inl rfl) pe_int iop_add)) (pss_one (ps_if (pt_cmp (pc_din hu (pe_fld (pv 4) rfl) (pe_fld (pv 0) rfl))) (pss_one (ps_aug (i := 3) sc_Book_add_rule.nd rfl (Or.inl rfl) (pe_dget hu (pe_fld (pv 0) rfl) (pe_fld (pv 4) rfl) (fun _ _ => rfl)) iop_add)) (pss_one (ps_raise rfl (takes_of rfl rfl rfl rfl) (pmk_ex G_BadName (hr.mono (by first | decide | omega)) rfl (pa_cons (pe_fld (pv 4) rfl) pa_nil)))))))))
  (pss_cons (ps_dput hu (pe_fld (pv 0) rfl) (pv 1) (pv 2) rfl)
  (pss_one (ps_dput hu (pe_fld (pv 0) rfl) (pv 1) (pv 3) rfl)))))), ?_⟩
  obtain ⟨kt, ht, hkl, hkv⟩ := hD.a
  refine ⟨_, rfl, _, rfl, b, C, dx, _, _, rfl, hb, Tb.cl, Tb.n2, rfl, tb, _, rfl, DGet.k (k := kS n) ht, _, rfl, ?_⟩
  rw [hkv n]
  by_cases hn : n ∈ T
  · rw [decide_eq_true hn]
    refine iteT ⟨_, rfl, raised fun d H' s1 hd => ?_⟩
    exact ke n (by unfold badR; rw [if_pos hn]) d H' (s0.trans s1) hd
  rw [decide_eq_false hn]
  refine iteF ?_
  have hR : badR T n w = bad1 T w.parts := by unfold badR; rw [if_neg hn]
  walk_at "nx"
  refine ⟨_, rfl, v, w, rfl, hv, hw, fun p ps H1 s1 hp hpl hps => ?_⟩
  refine ⟨p, rfl, ⟨ps, SqL.of hp⟩, ?_⟩
  have elen := ObjsAt.len _ _ hps
  refine for_list (K := K) (a := p) (xs := ps) (fun i σ H' => ∃ (z : Int) (x4 : Option V), σ = [some (.ref b), some (.str n), some v, some (.int z), x4] ∧ bad1 T (w.parts.drop i) = bad1 T w.parts ∧ Same H1 H') ?_ ?_ ?_ ?_
  · exact ⟨0, none, rfl, rfl, fun _ _ h => h⟩
  · rintro i σ H' _ ⟨_, _, rfl, _, s2⟩
    exact SqL.of (s2 _ _ hp)
  · rintro i e σ H2 he ⟨z, x4, rfl, hbi, s2⟩
    have hi : i < ps.length := (List.getElem?_eq_some_iff.mp he).1
    obtain ⟨wi, hwi⟩ : ∃ wi, w.parts[i]? = some wi := ⟨w.parts[i]'(by omega), List.getElem?_eq_getElem (by omega)⟩
    obtain ⟨e', he', hxw⟩ := ObjsAt.at_ _ _ _ _ hps hwi
    have ex : e = e' := Option.some.inj (he.symm.trans he')
    subst ex
    have hdr : w.parts.drop i = wi :: w.parts.drop (i + 1) := by
      obtain ⟨hi, e⟩ := List.getElem?_eq_some_iff.mp hwi
      rw [List.drop_eq_getElem_cons hi, e]
    rw [hdr] at hbi
    have hv2 := ObjAt.keep (stillS s2) _ _ hxw
    have s12 := s1.trans s2
    have hb2 := s12 _ _ hb
    refine ⟨e, rfl, e, .ref c.ca, _, _, _, rfl, .own _, hv2.ty A0, A0.kit wi (.call (Str.ofString "")), _, rfl, ?_⟩
    by_cases ht2 : wi.tag = (W.call (Str.ofString "")).tag
    · rw [decide_eq_true ht2]
      refine iteF ?_
      cases wi <;> first | exact absurd ht2 (by simp only [W.tag]; decide +kernel) | skip
      rename_i x
      obtain ⟨a, d, ev, ha⟩ := id hv2
      subst ev
      refine ⟨_, rfl, a, c.ca, d, _, _, rfl, ha, (A0.f (.call (Str.ofString ""))).cl, (A0.f (.call (Str.ofString ""))).nn, rfl, _, rfl, b, C, dx, _, _, rfl, hb2, Tb.cl, Tb.n2, rfl, tb, _, rfl, DGet.k (k := kS x) (s12 _ _ ht), _, rfl, ?_⟩
      rw [hkv x]
      by_cases hx : x ∈ T
      · rw [decide_eq_true hx]
        have hb' : bad1 T (w.parts.drop (i + 1)) = bad1 T w.parts := by
          rw [← hbi, bad1, if_pos hx]
        obtain ⟨ks, hs, hsl, hsv⟩ := hD.b
        obtain ⟨j, hj⟩ := hsv x hx
        have hg := DGet.k (k := kS x) (s12 _ _ hs)
        rw [hj] at hg
        refine iteT ⟨_, rfl, _, rfl, b, C, dx, _, _, rfl, hb2, Tb.cl, Tb.n3, rfl, _, rfl, a, c.ca, d, _, _, rfl, ha, (A0.f (.call (Str.ofString ""))).cl, (A0.f (.call (Str.ofString ""))).nn, rfl, sz, _, rfl, hg, _, _, rfl, rfl, ?_⟩
        exact ⟨_, _, rfl, hb', s2⟩
      · rw [decide_eq_false hx]
        refine iteF ⟨_, rfl, a, c.ca, d, _, _, rfl, ha, (A0.f (.call (Str.ofString ""))).cl, (A0.f (.call (Str.ofString ""))).nn, rfl, raised fun dd H' s3 hd => ?_⟩
        refine ke x ?_ dd H' (s0.trans (s12.trans s3)) hd
        rw [hR, ← hbi, bad1, if_neg hx]
    · rw [decide_eq_false ht2]
      refine iteT ?_
      have hb' : bad1 T (w.parts.drop (i + 1)) = bad1 T w.parts := by
        rw [← hbi]
        cases wi <;> first | rfl | exact absurd rfl ht2
      exact ⟨_, rfl, _, _, rfl, rfl, _, _, rfl, hb', s2⟩
  · rintro σ H2 ⟨z, x4, rfl, hbi, s2⟩
    rw [elen, List.drop_length] at hbi
    have s12 := s1.trans s2
    have hb2 := s12 _ _ hb
    walk_at "nx"
    obtain ⟨ks, hs, hsl, hsv⟩ := hD.b
    have hlt : kt.length < sizeLine := small' (by omega)
    have hls : ks.length < sizeLine := small' (by omega)
    refine ⟨_, rfl, _, rfl, b, C, dx, _, _, rfl, hb2, Tb.cl, Tb.n2, rfl, _, rfl, tb, _, rfl, DPut.k (k := kS n) (s12 _ _ ht) hlt, ?_⟩
    have nbt : b ≠ tb := ne_of hb2 (s12 _ _ ht) (by intro z; cases z)
    have nbs : b ≠ sz := ne_of hb2 (s12 _ _ hs) (by intro z; cases z)
    have k3 : Still H2 (upd H2 tb (.dK (putK kt (kS n) v))) := ⟨fun {a} _ e => by rw [upd_ne (ne_of e (s12 _ _ ht) (by intro z; cases z))]; exact e, fun {a} _ _ _ e => by rw [upd_ne (ne_of e (s12 _ _ ht) (by intro z; cases z))]; exact e⟩
    have hb3 := k3.ins hb2
    have ht3 : upd H2 tb (.dK (putK kt (kS n) v)) tb = some (.dK (putK kt (kS n) v)) := upd_same
    have hs3 : upd H2 tb (.dK (putK kt (kS n) v)) sz = some (.dK ks) := by rw [upd_ne hD.ne.symm]; exact s12 _ _ hs
    have s3 : Same H0 (upd H2 tb (.dK (putK kt (kS n) v))) := Same.put ntb (s0.trans s12) _
    generalize upd H2 tb (.dK (putK kt (kS n) v)) = H3 at *
    refine ⟨_, rfl, _, rfl, b, C, dx, _, _, rfl, hb3, Tb.cl, Tb.n3, rfl, _, rfl, sz, _, rfl, DPut.k (k := kS n) hs3 hls, ?_⟩
    have k4 : Still H3 (upd H3 sz (.dK (putK ks (kS n) (.int z)))) := ⟨fun {a} _ e => by rw [upd_ne (ne_of e hs3 (by intro z; cases z))]; exact e, fun {a} _ _ _ e => by rw [upd_ne (ne_of e hs3 (by intro z; cases z))]; exact e⟩
    have l1 := length_putK kt (kS n) v
    have l2 := length_putK ks (kS n) (.int z)
    have kin : ∀ x : Str, (kS x = kS n) = (x = n) := fun x => by
      refine propext ⟨fun e => ?_, fun e => by rw [e]⟩
      injection e
    refine kq (by rw [hR, ← hbi]; rfl) _ (k4.ins hb3) ⟨hD.ne, ⟨_, by rw [upd_ne hD.ne]; exact ht3, by rw [List.length_append, List.length_singleton]; omega, fun x => ?_⟩, ⟨_, upd_same, by rw [List.length_append, List.length_singleton]; omega, fun x hx => ?_⟩⟩ (((stillS s12).trans k3).trans k4) (Same.put nsz s3 _)
    · rw [valV_put]
      by_cases e : x = n
      · rw [if_pos (by rw [e]), decide_eq_true (by simp [e])]; rfl
      · rw [if_neg (by rw [kin]; exact e), hkv x]
        simp [e]
    · rw [valV_put]
      by_cases e : x = n
      · exact ⟨z, by rw [if_pos (by rw [e])]⟩
      · rw [if_neg (by rw [kin]; exact e)]
        exact hsv x (by simpa [e] using hx)
abbrev s_Book_init : Stmt := inClass (top 48) 0
theorem sc_Book_init : FnScope ["self", "rules", "name", "way"] ["self", "rules"] (defScope s_Book_init) := ⟨rfl, rfl, rfl, by decide +kernel, rfl, by decide +kernel, by decide +kernel⟩
theorem ok_Book {f : Addr} {fd : FuncData} (F : Fun K "__init__" "Book.__init__" s_Book_init f fd) (Tb : BkF K C) (B : Bs mg) (G_add_rule : MxOk P w K mg base C 4 "add_rule" ["self", "name", "way"] (spAdd c C BN)) : FnOk P w K mg base (L2.CX P w) 5 f fd ["self", "rules"] (spBook c C BN) := by
  have B_tuple := B.tuple
  refine F.okX sc_Book_init (fun vs H Q E h => by obtain ⟨_, _, _, _, _, _, rfl, _⟩ := h; rfl) (fun cdv A outer s H vs Q E hr h => ?_)
  obtain ⟨b, dx, q, us, rs, H0, rfl, hb, hb0, s0, hq, hus, hl, hz, kq, ke⟩ := h
  refine ⟨_, (pss_cons (ps_fld (pv 0) (pe_callTy call_tuple_of rfl B_tuple (by decide +kernel) (pa_cons (pe_lc (own := [("name", 2), ("way", 3)]) (tt := tYes) rfl sc_Book_init.nd (pi_list (pv 1)) (blkOk_by (own := [("name", 2), ("way", 3)]) (N := ["self", "rules", "name", "way"]) (sc := defScope s_Book_init) (by decide +kernel)) (fun _ _ _ _ _ => (pg_tupK (K := K) (n := 2) rfl rfl (pgs_cons (pg_name (i := 2) sc_Book_init.nd rfl (Or.inl rfl)) (pgs_cons (pg_name (i := 3) sc_Book_init.nd rfl (Or.inl rfl)) pgs_nil)))) (fun _ _ _ _ _ => pts_nil) (fun _ _ _ _ _ => (pe_tup (pa_cons (pv 2) (pa_cons (pv 3) pa_nil))))) pa_nil)) rfl)
  (pss_cons (ps_fld (pv 0) pe_dnewK rfl)
  (pss_cons (ps_fld (pv 0) pe_dnewK rfl)
  (pss_one (ps_for (passes_of rfl) rfl (pi_tup (pe_fld (pv 0) rfl)) (pg_tup rfl (pgs_cons (pg_name (i := 2) sc_Book_init.nd rfl (Or.inl rfl)) (pgs_cons (pg_name (i := 3) sc_Book_init.nd rfl (Or.inl rfl)) pgs_nil)))
   (pss_one (ps_expr (pe_methX (E := E) G_add_rule (hr.mono (by first | decide | omega)) (passes_call (takes_of rfl rfl rfl rfl) (fun _ _ _ _ h => h)) (pv 0) (pa_cons (pv 2) (pa_cons (pv 3) pa_nil)))))))))), ?_⟩
  have elen := PairsAt.len _ _ hus
  -- the pairs anew
  refine ⟨_, rfl, q, rfl, ⟨us, SqL.of (s0 _ _ hq)⟩, fun D hD => ?_⟩
  refine lc_list (K := K) (a := q) (xs := us) (fun i H' => ∃ os, H' D = some (.lst os) ∧ PairsAt c (del H' b) os (rs.take i) ∧ Same H H') ?_ ?_ ?_ ?_
  · exact ⟨[], upd_same, rfl, Same.new hD _⟩
  · rintro i H' _ ⟨os, _, _, s1⟩
    exact SqL.of (s1 _ _ (s0 _ _ hq))
  · rintro i e H' he ⟨os, hD', hos, s1⟩
    obtain ⟨r, n, v, w, rfl, hri, hr', hv⟩ := PairsAt.at_ _ _ _ _ hus he
    have s01 := s0.trans s1
    have hi : i < rs.length := (List.getElem?_eq_some_iff.mp hri).1
    refine ⟨r, _, rfl, SqT.of (s01 _ _ hr'), rfl, _, _, rfl, _, _, rfl, rfl, rfl, ?_⟩
    refine yesI ?_
    rw [if_pos rfl]
    refine ⟨_, rfl, _, rfl, by show 2 ≤ sizeLine; decide, fun r2 hr2 => ?_⟩
    have s2 := Same.new hr2 (.tup [.str n, v])
    have hlo := PairsAt.len _ _ hos
    refine ⟨os, s2 _ _ hD', small' (by rw [hlo, List.length_take]; omega), os ++ [.ref r2], upd_same, ?_, Same.put hD (s1.trans s2) _⟩
    rw [take_more' hri]
    have nrb : r2 ≠ b := (ne_of_none (s1 _ _ hb) hr2).symm
    have nDb : D ≠ b := (ne_of_none hb hD).symm
    have hD2 : del (upd H' r2 (.tup [.str n, v])) b D = some (.lst os) := by rw [del_ne nDb]; exact s2 _ _ hD'
    have ed : del (upd (upd H' r2 (.tup [.str n, v])) D (.lst (os ++ [.ref r2]))) b = upd (del (upd H' r2 (.tup [.str n, v])) b) D (.lst (os ++ [.ref r2])) := funext fun a => by
      by_cases h : a = b
      · subst h; rw [del_same, upd_ne nDb.symm, del_same]
      · rw [del_ne h]
        by_cases h2 : a = D
        · subst h2; rw [upd_same, upd_same]
        · rw [upd_ne h2, upd_ne h2, del_ne h]
    rw [ed]
    have st : Still (del (upd H' r2 (.tup [.str n, v])) b) (upd (del (upd H' r2 (.tup [.str n, v])) b) D (.lst (os ++ [.ref r2]))) := Still.put hD2
    have hr3 : del (upd H' r2 (.tup [.str n, v])) b r2 = some (.tup [.str n, v]) := by rw [del_ne nrb]; exact upd_same
    exact PairsAt.app _ _ (PairsAt.keep ((stillS (same_dels s2)).trans st) _ _ hos) ⟨r2, v, [], rfl, st.tup hr3, ObjAt.keep ((stillS (same_del (s01.trans s2) hb0)).trans st) _ _ hv, rfl⟩
  rintro H1 ⟨ts, hD1, hts, s1⟩
  rw [elen, List.take_length] at hts
  have hb1 := s1 _ _ hb
  refine ⟨D, ts, rfl, .inl ⟨SqL.of hD1, fun t ht => ?_⟩⟩
  have s2 := s1.trans (Same.new ht (.tup ts))
  have ht1 : upd H1 t (.tup ts) t = some (.tup ts) := upd_same
  have hts1 := PairsAt.keep (stillS (same_dels (b := b) (Same.new ht (.tup ts)))) _ _ hts
  have npt : t ≠ b := (ne_of_none hb1 ht).symm
  have hb2 : upd H1 t (.tup ts) b = some (.ins C dx []) := s2 _ _ hb
  generalize upd H1 t (.tup ts) = H2 at *
  have hltT := PairsAt.len _ _ hts1
  have s02 := s0.trans s2
  refine ⟨_, rfl, b, C, dx, [], rfl, hb2, Tb.cl, Tb.n1, (by show 0 < 1000; decide), ?_⟩
  -- table
  have hb3 : upd H2 b (.ins C dx (putF (Str.ofString "rules") (.ref t) [])) b = some (.ins C dx (putF (Str.ofString "rules") (.ref t) [])) := upd_same
  have ht3 : upd H2 b (.ins C dx (putF (Str.ofString "rules") (.ref t) [])) t = some (.tup ts) := by rw [upd_ne npt]; exact ht1
  have s03 := Same.put hb0 s02 (.ins C dx (putF (Str.ofString "rules") (.ref t) []))
  have hts3 : PairsAt c (del (upd H2 b (.ins C dx (putF (Str.ofString "rules") (.ref t) []))) b) ts rs := by rw [del_upd]; exact hts1
  generalize upd H2 b (.ins C dx (putF (Str.ofString "rules") (.ref t) [])) = H3 at *
  walk_at "nx"
  intro tb htb
  have s4 := Same.new htb (.dK [])
  have tb4 : upd H3 tb (.dK []) tb = some (.dK []) := upd_same
  have b4 := s4 _ _ hb3
  have t4 := s4 _ _ ht3
  have p4 := PairsAt.keep (stillS (same_dels (b := b) s4)) _ _ hts3
  have s04 := s03.trans s4
  have ntb := none_at s03 htb
  have nb4 : tb ≠ b := (ne_of_none hb3 htb).symm
  generalize upd H3 tb (.dK []) = H4 at *
  refine ⟨_, rfl, b, C, dx, _, rfl, b4, Tb.cl, Tb.n2, (by show 1 < 1000; decide), ?_⟩
  generalize e5 : putF (Str.ofString "table") (.ref tb) (putF (Str.ofString "rules") (.ref t) []) = f5
  have b5 : upd H4 b (.ins C dx f5) b = some (.ins C dx f5) := upd_same
  have t5 : upd H4 b (.ins C dx f5) t = some (.tup ts) := by rw [upd_ne npt]; exact t4
  have tb5 : upd H4 b (.ins C dx f5) tb = some (.dK []) := by rw [upd_ne nb4]; exact tb4
  have s05 := Same.put hb0 s04 (.ins C dx f5)
  have p5 : PairsAt c (del (upd H4 b (.ins C dx f5)) b) ts rs := by rw [del_upd]; exact p4
  generalize upd H4 b (.ins C dx f5) = H5 at *
  walk_at "nx"
  -- sizes
  intro sz hsz
  have s6 := Same.new hsz (.dK [])
  have sz6 : upd H5 sz (.dK []) sz = some (.dK []) := upd_same
  have b6 := s6 _ _ b5
  have t6 := s6 _ _ t5
  have tb6 := s6 _ _ tb5
  have p6 := PairsAt.keep (stillS (same_dels (b := b) s6)) _ _ p5
  have s06 := s05.trans s6
  have nsz := none_at s05 hsz
  have nb6 : sz ≠ b := (ne_of_none b5 hsz).symm
  have ntz : tb ≠ sz := ne_of_none tb5 hsz
  generalize upd H5 sz (.dK []) = H6 at *
  refine ⟨_, rfl, b, C, dx, _, rfl, b6, Tb.cl, Tb.n3, (by rw [← e5]; show 2 < 1000; decide), ?_⟩
  have e7 : putF (Str.ofString "sizes") (.ref sz) f5 = bkF t tb sz := by rw [← e5]; rfl
  rw [e7]
  have b7 : upd H6 b (.ins C dx (bkF t tb sz)) b = some (.ins C dx (bkF t tb sz)) := upd_same
  have t7 : upd H6 b (.ins C dx (bkF t tb sz)) t = some (.tup ts) := by rw [upd_ne npt]; exact t6
  have tb7 : upd H6 b (.ins C dx (bkF t tb sz)) tb = some (.dK []) := by rw [upd_ne nb4]; exact tb6
  have sz7 : upd H6 b (.ins C dx (bkF t tb sz)) sz = some (.dK []) := by rw [upd_ne nb6]; exact sz6
  have s07 := Same.put hb0 s06 (.ins C dx (bkF t tb sz))
  have p7 : PairsAt c (upd H6 b (.ins C dx (bkF t tb sz))) ts rs := by
    have q : PairsAt c (del (upd H6 b (.ins C dx (bkF t tb sz))) b) ts rs := by rw [del_upd]; exact p6
    exact PairsAt.keep del_still _ _ q
  generalize upd H6 b (.ins C dx (bkF t tb sz)) = H7 at *
  have hd7 : Dcts H7 tb sz [] := ⟨ntz, ⟨[], tb7, Nat.le_refl _, fun x => rfl⟩, ⟨[], sz7, Nat.le_refl _, fun x hx => absurd hx (by simp)⟩⟩
  walk_at "nx"
  refine ⟨_, rfl, b, C, dx, _, _, rfl, b7, Tb.cl, Tb.n1, rfl, t, rfl, ⟨ts, SqT.of t7⟩, ?_⟩
  refine for_tup (K := K) (a := t) (xs := ts) (fun i σ H' => ∃ x2 x3 : Option V, σ = [some (.ref b), some (.ref q), x2, x3] ∧ H' b = some (.ins C dx (bkF t tb sz)) ∧ Dcts H' tb sz ((rs.take i).map (·.1)) ∧ bookE ((rs.take i).map (·.1)) (rs.drop i) = bookE [] rs ∧ Still H7 H' ∧ Same H0 H') ?_ ?_ ?_ ?_
  · exact ⟨none, none, rfl, b7, hd7, rfl, Still.refl _, s07⟩
  · rintro i σ H' _ ⟨_, _, rfl, _, _, _, k8, _⟩
    exact SqT.of (k8.tup t7)
  · rintro i e σ H8 he ⟨x2, x3, rfl, b8, hd8, hbk, k8, s08⟩
    obtain ⟨r, n, v, w, rfl, hri, hr', hv⟩ := PairsAt.at_ _ _ _ _ p7 he
    have hi : i < rs.length := (List.getElem?_eq_some_iff.mp hri).1
    have hdr : rs.drop i = (n, w) :: rs.drop (i + 1) := by
      obtain ⟨hi, e⟩ := List.getElem?_eq_some_iff.mp hri
      rw [List.drop_eq_getElem_cons hi, e]
    rw [hdr] at hbk
    refine ⟨r, _, rfl, SqT.of (k8.tup hr'), rfl, _, _, rfl, _, _, rfl, rfl, ?_⟩
    walk_at "nx"
    refine ⟨_, rfl, b, dx, _, rfl, b8, rfl, _, rfl, _, rfl, b, dx, t, tb, sz, n, v, w, (rs.take i).map (·.1), H0, rfl, b8, hd8, by rw [List.length_map, List.length_take]; omega, ObjAt.keep k8 _ _ hv, hz _ (List.mem_of_getElem? hri), s08, ntb, nsz, fun hok H9 b9 hd9 k9 s09 => ?_, fun x hx d H9 s09 hd => ?_⟩
    · refine ⟨_, _, rfl, b9, ?_, ?_, k8.trans k9, s09⟩
      · rw [take_more' hri, List.map_append]; exact hd9
      · rw [← hbk, bookE, hok, take_more' hri, List.map_append]
        rfl
    · exact ke x (by rw [← hbk, bookE, hx]) d H9 s09 hd
  · rintro σ H8 ⟨x2, x3, rfl, b8, hd8, hbk, k8, s08⟩
    rw [hltT, List.drop_length] at hbk
    exact kq (by rw [← hbk]; rfl) t tb sz ts H8 b8 (k8.tup t7) hltT s08
abbrev s_Book_len : Stmt := inClass (top 48) 6
theorem sc_Book_len : FnScope ["self"] ["self"] (defScope s_Book_len) := ⟨rfl, rfl, rfl, by decide +kernel, rfl, by decide +kernel, by decide +kernel⟩
def spBkLen (C : Addr) : Sp := fun vs H Q _ => ∃ (b dx t tb sz : Addr) (ts : List V), vs = [.ref b] ∧ H b = some (.ins C dx (bkF t tb sz)) ∧ H t = some (.tup ts) ∧ Q (.int (ts.length : Nat)) H
theorem ok_len {f : Addr} {fd : FuncData} (F : Fun K "__len__" "Book.__len__" s_Book_len f fd) (Tb : BkF K C) (B : Bs mg) : FnOk P w K mg base CX0 1 f fd ["self"] (spBkLen C) := by
  have B_len := B.len
  refine F.ok sc_Book_len (fun vs H Q E h => by obtain ⟨_, _, _, _, _, _, rfl, _⟩ := h; rfl) (fun cdv A outer s H vs Q E hr h => ?_)
  obtain ⟨b, dx, t, tb, sz, ts, rfl, hb, ht, k⟩ := h
  refine ⟨_, (pss_one (ps_ret (pe_callB call_len_seq rfl B_len PySem.boot_len (pa_cons (pe_fld (pv 0) rfl) pa_nil)))), ?_⟩
  exact ⟨_, rfl, b, C, dx, _, _, rfl, hb, Tb.cl, Tb.n1, rfl, t, ts, rfl, .inr (SqT.of ht), k⟩
end
end Bk
/-! a class called in a try; isinstance of a caught error with fields; len of own instances -/
namespace Bk
open PySem PySem.Spec PyProof.Rows L2 Wv
def tMakeS (C : Addr) (sp : Sp) (E : L2.St → XK) (t : TA) : TE := fun σ H Q => t σ H fun vs H1 => ∀ x dx, H1 x = none → H1 dx = none → dx ≠ x → sp (.ref x :: (vs ++ [])) (upd (upd H1 dx (.own x)) x (.ins C dx [])) (fun v H2 => v = .non ∧ Q (.ref x) H2) (E σ)
section
variable {X : Cx} {k : Nat} {x : Str} {C : Addr} {ps : List Str} {sp : Sp} {e : Expr} {es : List Expr} {t : TA} {p pos : Pos} {E : L2.St → XK}
theorem run_makeS {CX : CXT} {f : Addr} {fd : FuncData} {E : XK} {pins : List (Addr × Obj)} {σ : L2.St} {H : Hp} {s : Shared} {Q : VK} {us : List Value} {vs : List V} (M : Mk X.K C f) (F : FnOk X.prog X.w X.K X.mg X.base CX k f fd ps sp) (hr : Room (k + 1) X.A) (hb : Binds X.K fd ps [])
    (hx : PassesAt CX X σ E) (I : Inv X pins σ H s) (r : Vals vs us)
    (h : ∀ x dx, H x = none → H dx = none → dx ≠ x → sp (.ref x :: (vs ++ [])) (upd (upd H dx (.own x)) x (.ins C dx [])) (fun v H2 => v = .non ∧ Q (.ref x) H2) E) :
    wpAny (model X.prog X.w) X.A (call (.ref C) us) (EP X pins σ Q) X.xe s := by
  have hq := h (s.heap.objs.size + 1) s.heap.objs.size (I.hok.fresh (Nat.le_succ _)) (I.hok.fresh (Nat.le_refl _)) (Nat.ne_of_lt (Nat.lt_succ_self _))
  have I2 := Inv.made (C := C) I
  have r2 : Vals (V.ref (s.heap.objs.size + 1) :: (vs ++ [])) (Value.ref (s.heap.objs.size + 1) :: (us ++ [])) := .cons rfl (r.append .nil)
  have hl : (Value.ref (s.heap.objs.size + 1) :: us ++ []).length = ps.length := by
    have e := r2.length
    rw [F.len _ _ _ _ hq] at e
    exact e.symm
  refine wpAny_call (make_map (f := f) I.kIn M.makes M.init (beq_iff_eq.mp M.fn) (codeAny_mono (F.run _ X.stack _ _ ⟨Value.ref (s.heap.objs.size + 1) :: us, []⟩ (Value.ref (s.heap.objs.size + 1) :: (us ++ [])) _ _ E (hr.make C us [])
    (I2.env0.make C us []) (by have z := hb _ (Value.ref (s.heap.objs.size + 1) :: us) I2.kIn hl; simpa using z) r2 hq) fun r s' hq' => ?_))
  cases r with
  | error e => exact hx pins _ _ e s' I2 hq'
  | ok fl =>
    cases fl with
    | ret u =>
      obtain ⟨v, H', I3, rv, ev, q3⟩ := I2.after hq'
      subst ev
      exact ⟨rv, ⟨V.ref (s.heap.objs.size + 1), H', I3, rfl, q3⟩⟩
    | next => exact False.elim hq'
    | brk => exact False.elim hq'
    | cont => exact False.elim hq'
theorem pe_makeS (G : CxOk X.prog X.w X.K X.mg X.base k x C ps sp) (hr : Room (k + 1) X.A) (hx : ∀ σ, PassesAt (L2.CX X.prog X.w) X σ (E σ)) (hg : Gl X x) (ha : PA X (e :: es) t) (hdb : (x == ("__debug__" : Str)) = false := by decide)
    (he : starEach (e :: es) X.env = (false, eval e X.env) :: starEach es X.env := by rfl) (hpl : (backTo pos (starEach es X.env)).any (·.1) = false := by rfl) : PE X (.Call (.Name x p) (e :: es) [] pos) (tMakeS C sp E t) := by
  obtain ⟨f, fd, hm, M, hb, F⟩ := G.ex
  refine ⟨fun pins s σ H Q I h => ?_⟩
  refine wpAny_Call_Name_kw (ld_glob I hg hm ?_ hdb)
  refine PySem.W.callWith_K (h₀ := X.base) I.ok.mod.kin M.kp (thn (ha.run pos pins s σ H _ I h) fun us s1 ⟨vs, H1, I1, r, q⟩ => ⟨I1.kIn, ?_⟩) he hpl
  exact run_makeS M F hr hb (hx σ) I1 r q
end
/-- isinstance(e, c), e the exception that the suite holds, of the class at D, with fields -/
def rIsED (K : PySem.W.Frag) (D a : Addr) (cls : Value) (d : Option Addr) : List V → Hp → VK → Prop := fun xs H Q => ∃ (c : V) (cv : Value) (b : Bool) (dd : Addr) (fs : List (Str × V)), xs = [.ref a, c] ∧ (∀ u, RelV c u → u = cv) ∧ cls = .ref D ∧ d = some dd ∧ H dd = some (.xd fs) ∧ PySem.W.kitOne K (.ref D) cv = some b ∧ Q (.bl b) H
theorem call_isED {X : Cx} {a D : Addr} {oe : Obj} {cls : Value} {d : Option Addr} {pn : List (Addr × Obj)} (C : ExcC X.K D) (hc : (PySem.W.clsIn X.K D).isSome = true) (hz : Zc cls d oe) (hf : ∃ vs, oe.data = .fields vs) : CallR (X.suite a ((a, oe) :: pn)) (.builtin "isinstance") (rIsED X.K D a cls d) := by
  intro pins s σ H xs us Q I r h
  obtain ⟨c, cv, b, dd, fs, rfl, hcv, ec, ed, ea, e, q⟩ := h
  subst ec ed
  cases r with
  | cons rx rr =>
    cases rr with
    | cons rt rr =>
      cases rr
      cases rx
      have ec := hcv _ rt
      subst ec
      obtain ⟨hget, _⟩ := I.pin (a, oe) (List.mem_append.mpr (.inl List.mem_cons_self))
      obtain ⟨vs, hd⟩ := hf
      have hx : ObjOk X.prog X.w H s.heap dd (.xd fs) := I.hok dd _ ea
      obtain ⟨mA, hns, hr⟩ := hx
      obtain ⟨od, ho, hl⟩ := lookIn_ns hns
      have J : PySem.W.InstAt s.heap a oe D (some od) := ⟨hget, hz.1, by unfold PySem.W.notCls; rw [hd] <;> rfl, by rw [hz.2]; exact ho⟩
      exact PySem.W.kia_one (PySem.W.kitx_exc hc C.hg C.hk C.hs C.ha C.hn C.ht C.hm) I.kIn J e (fun z => nomatch z) fun tk => ⟨.bl b, H, I.kept (t' := tk) fun _ _ z => z, rfl, q⟩
theorem pi_listK {X : Cx} {K : PySem.W.Frag} {tg l : Expr} {tl : TE} (q : X.K = K) (hl : PE X l tl) : PI X tg l (iList K tl) := q ▸ pi_list hl
theorem call_isEDK {X : Cx} {K : PySem.W.Frag} {a D : Addr} {oe : Obj} {cls : Value} {d : Option Addr} {pn : List (Addr × Obj)} (q : X.K = K) (C : ExcC K D) (hc : (PySem.W.clsIn K D).isSome = true) (hz : Zc cls d oe) (hf : ∃ vs, oe.data = .fields vs) : CallR (X.suite a ((a, oe) :: pn)) (.builtin "isinstance") (rIsED K D a cls d) := by
  subst q
  exact call_isED C hc hz hf
theorem pe_xfK {X : Cx} {K : PySem.W.Frag} {a C : Addr} {oe : Obj} {cls : Value} {d : Option Addr} {pn : List (Addr × Obj)} {e : Expr} {te : TE} {pos : Pos} {n : Str} (q : X.K = K) (T : XfC K C) (hno : PySem.W.findIn K (.ref C) n = some none)
    (hz : Zc cls d oe) (hf : ∃ vs, oe.data = .fields vs) (he : PE (X.suite a ((a, oe) :: pn)) e te) (hb : attributeBase e n X.env (eval e X.env) = eval e X.env := by rfl) : PE (X.suite a ((a, oe) :: pn)) (.Attribute e n pos) (tXf a cls d C n te) := by
  subst q
  exact pe_xf T hno hz hf he hb
/-- len(x) of an instance of the class at C -/
structure LenC (P : Program) (w : World) (K : PySem.W.Frag) (mg : Str → Option Value) (base : Heap) (C : Addr) (n : Nat) (sp : Sp) : Prop where
  ex : ∃ (f : Addr) (fd : FuncData) (ps : List Str), FnOk P w K mg base CX0 n f fd ps sp ∧ PySem.W.findIn K (.ref C) "__len__" = some (some (.ref f)) ∧ PySem.W.isFn K (.ref f) = true ∧ Binds K fd ps []
def rLenC (C : Addr) (sp : Sp) : List V → Hp → VK → Prop := fun xs H Q => ∃ (a d : Addr) (fs : List (Str × V)), xs = [.ref a] ∧ H a = some (.ins C d fs) ∧ sp [.ref a] H (fun z H' => ∃ i : Int, z = .int i ∧ 0 ≤ i ∧ i < 2 ^ 63 ∧ Q (.int i) H') E0
theorem call_lenC {X : Cx} {C : Addr} {n : Nat} {sp : Sp} (G : LenC X.prog X.w X.K X.mg X.base C n sp) (hr : Room (n + 1) X.A) : CallR X (.builtin "len") (rLenC C sp) := by
  obtain ⟨f, fd, ps, F, hs, hf, hb⟩ := G.ex
  intro pins s σ H xs us Q I r h
  obtain ⟨a, d, fs, rfl, ha, hsp⟩ := h
  obtain ⟨u, rfl, ru⟩ := r.one
  cases ru
  obtain ⟨mA, J, _⟩ := ins_get I.hok ha
  obtain ⟨od, J, _⟩ := J.look
  obtain ⟨m, hF⟩ := I.fr
  have hl := F.len _ _ _ _ hsp
  have r2 : Vals [V.ref a] [Value.ref a] := .cons rfl .nil
  refine PySem.W.len_K hF I.ok.mod.kin J hs hf (wpAny_call (codeAny_mono (F.run X.A.in1 X.stack s H ⟨[.ref a], []⟩ [.ref a] [.ref a] _ E0 hr.in1 (I.env0.in1) (by
    have q := hb s [.ref a] I.kIn (by simpa using hl)
    simpa using q) r2 hsp) fun r s' hq => ?_))
  cases r with
  | error e => exact (pass0 (X := X) pins σ H s e s' I hq)
  | ok fl =>
    cases fl with
    | ret x =>
      obtain ⟨z, H', I', rz, i, ez, h0, h1, q⟩ := I.after hq
      subst ez
      obtain ⟨t, ex⟩ := rz
      subst ex
      exact ⟨⟨h0, h1⟩, ⟨.int i, H', I'.tok _, ⟨_, rfl⟩, q⟩⟩
    | next => exact False.elim hq
    | brk => exact False.elim hq
    | cont => exact False.elim hq
end Bk
/-! iter(t) of a tuple; the loop of list(it) over a tuple's iterator -/
namespace Bo
open PySem PySem.Spec PyProof.Rows L2 Wv Bk
/-- at it an iterator over the tuple at l, the next place is i -/
def ItT (l it : Addr) (i : Nat) : HO := .ext fun h => h.IsTupleIter it l i
theorem itT_ok {P : Program} {w : World} {H : Hp} {h : Heap} {l it : Addr} {i : Nat} (e : h.IsTupleIter it l i) : ObjOk P w H h it (ItT l it i) := ⟨e, let ⟨o, ho, _⟩ := e; ⟨o, ho⟩, fun _ _ q k => q.at k⟩
theorem iter_tup {prog : Program} {w : World} {A : Around} {E : Value → Shared → Prop} {s : Shared} {l : Addr} {items : Array Value} {Q : Value → Shared → Prop} (hl : s.heap.IsTuple l items)
    (h : Q (.ref s.heap.objs.size) { s with heap := s.heap.push { cls := .type "tuple_iterator", data := .fields #[.ref l, .int 0 0] } }) : wpAny (model prog w) A (call (.builtin "iter") [.ref l]) Q E s := by
  refine Calls.call_function_entry (by decide +kernel) (by decide +kernel) PySem.W.kdk_entry_iter (PySem.W.kdk_args_iter _) ?_
  unfold Builtin.«iter»
  refine wpAny_bind (m := someArgs "iter" 1 2 _) (wpAny_of_eq (a := [Value.ref l]) (by first | rfl | kernel_rfl!) ?_)
  show wpAny _ _ (pyIter (.ref l) >>= _) _ _ _
  refine wpAny_bind (wpAny_pyIter_tuple hl ?_)
  exact wpAny_pure ⟨_, rfl, h⟩
/-- iter(t): the iterator lies behind all that is known -/
def rIterT (K : PySem.W.Frag) : List V → Hp → VK → Prop := fun xs H Q => ∃ (l : Addr) (zs : List V), xs = [.ref l] ∧ SqT K H l zs ∧ ∀ it, H it = none → (∀ z o, H z = some o → z < it) → Q (.ref it) (upd H it (ItT l it 0))
section
variable {X : Cx}
theorem call_iterT : CallR X (.builtin "iter") (rIterT X.K) := by
  intro pins s σ H xs us Q I r h
  obtain ⟨l, zs, rfl, hq, q⟩ := h
  obtain ⟨u, rfl, ru⟩ := vals1 r
  cases ru
  obtain ⟨its, rv, pl, hz⟩ := I.tuple hq
  refine iter_tup pl ?_
  refine ⟨.ref s.heap.objs.size, _, I.laid (t' := s.toks) (fun b u e => Heap.get?_push_of_some _ e) (Nat.le_refl _) (itT_ok ⟨_, Heap.get?_push_size _ rfl, rfl, rfl⟩), rfl, q _ (I.hok.fresh (Nat.le_refl _)) fun z o e => ?_⟩
  rcases Nat.lt_or_ge z s.heap.objs.size with h | h
  · exact h
  · rw [I.hok.fresh h] at e; cases e
/-- the loop that fills the list at q from an iterator of the tuple at t -/
theorem t_loop {A1 : Around} {pins : List (Addr × Obj)} {σ : L2.St} {H : Hp} {it t q : Addr} {xs : List V} {Rs : Result → Shared → Prop} (hh : A1.handled = none) (hlen : xs.length < sizeLine) (hq : H q = some (.lst [])) (ht : H t = some (.tup xs)) (ntq : t ≠ q) (nti : t ≠ it) (nqi : q ≠ it)
    (hf : FpOk X pins H it) (hdone : ∀ s, Inv X pins σ (upd H q (.lst xs)) s → Rs (.ok (.ret .none)) s) :
    ∀ (k i : Nat) (s : Shared), xs.length - i = k → i ≤ xs.length → Inv X pins σ (upd H q (.lst (xs.take i))) s → s.heap.IsTupleIter it t i → codeAny (model X.prog X.w) A1 (.builtin "list.extend.loop" ⟨[.ref q, .ref it, .none], []⟩) Rs s := by
  have fp : ∀ ys, ∀ b ∈ [it], FpOk X pins (upd H q (.lst ys)) b := fun ys b hb => by
    rw [List.mem_singleton.mp hb]
    exact ⟨by rw [upd_ne nqi.symm]; exact hf.1, hf.2⟩
  have ht' : ∀ ys, SqT X.K (upd H q (.lst ys)) t xs := fun ys => SqT.of (by rw [upd_ne ntq]; exact ht)
  intro k
  induction k with
  | zero =>
    intro i s hk hi I st
    have hin : i = xs.length := by omega
    subst hin
    obtain ⟨its, rv, pl, hz⟩ := I.tuple (ht' _)
    refine codeAny_builtin PySem.F.entry_extend_loop ?_
    rw [Around.under_plainId PySem.F.plain_extend_loop _]; show wpAny _ A1.in1 (pyNext (.ref it) >>= _) _ _ _
    refine wpAny_bind (wpAny_pyNext_tuple_end (A := A1.in1) hh st pl (by have := rv.length; simp; omega) fun h' he => ?_)
    have I2 := I.turnedL (h' := h') (t' := s.toks) (ch := [it]) (fun b o hb e => he b o (fun z => hb (by rw [z]; exact List.mem_singleton.mpr rfl)) e) (fp _)
    rw [List.take_length] at I2
    exact wpAny_pure (hdone _ I2)
  | succ k ih =>
    intro i s hk hi I st
    have hlt : i < xs.length := by omega
    obtain ⟨its, rv, pl, hz⟩ := I.tuple (ht' _)
    have hx : xs[i]? = some xs[i] := List.getElem?_eq_getElem hlt
    obtain ⟨v, hv, rv1⟩ := rv.get hx
    refine codeAny_builtin PySem.F.entry_extend_loop ?_
    rw [Around.under_plainId PySem.F.plain_extend_loop _]; show wpAny _ A1.in1 (pyNext (.ref it) >>= _) _ _ _
    refine wpAny_bind (wpAny_pyNext_tuple_item (x := v) st pl (by simpa using hv) fun h' st' he => ?_)
    have I2 := I.turnedL (h' := h') (t' := s.toks) (ch := [it]) (fun b o hb e => (he.extBut) b o (fun z => hb (by rw [z]; exact List.mem_singleton.mpr rfl)) e) (fp _)
    obtain ⟨z3, its3, n3, r3, hl3, e3⟩ := I2.lstM (l := q) upd_same
    have hl4 : its3.length = i := by rw [← hl3, List.length_take]; omega
    show wpAny _ A1.in1 (updateSeq q (·.push v) >>= _) _ _ _
    have I3 := I2.lset (l := q) (f := (·.push v)) (its := its3) (its' := its3 ++ [v]) (ys := xs.take i ++ [xs[i]]) (t' := s.toks) upd_same e3 (by simp) (r3.append (.cons rv1 .nil)) (by rw [List.length_append, List.length_take]; show min i xs.length + 1 ≤ sizeLine; omega)
    rw [upd_upd] at I3
    have et : xs.take i ++ [xs[i]] = xs.take (i + 1) := by rw [List.take_add_one, hx]; rfl
    rw [et] at I3
    refine wpAny_bind (wpAny_updateSeq e3 rfl (wpAny_pure ⟨plainId_quiet PySem.F.plain_extend_loop _, ih (i + 1) _ (by omega) hlt I3 (st'.at fun o e => ?_)⟩) (by rw [List.size_toArray]; omega) (by show (its3.toArray.push v).size ≤ sizeLine + 1; rw [Array.size_push, List.size_toArray]; omega))
    exact (Heap.get?_update_other _ _ nqi).trans e
/-- what an own __iter__ promises that returns iter(a tuple) -/
def spIterT (C : Addr) (t : Addr → Hp → Addr → List V → Prop) : Sp := fun vs H Q _ => ∃ (a tp : Addr) (xs : List V), vs = [.ref a] ∧ t a H tp xs ∧ H tp = some (.tup xs) ∧ ∀ it, H it = none → (∀ z o, H z = some o → z < it) → Q (.ref it) (upd H it (ItT tp it 0))
structure IterC (P : Program) (w : World) (K : PySem.W.Frag) (mg : Str → Option Value) (base : Heap) (C : Addr) (n : Nat) (t : Addr → Hp → Addr → List V → Prop) : Prop where
  ex : ∃ (f : Addr) (fd : FuncData) (ps : List Str), FnOk P w K mg base CX0 n f fd ps (spIterT C t) ∧ PySem.W.findIn K (.ref C) "__iter__" = some (some (.ref f)) ∧ PySem.W.isFn K (.ref f) = true ∧ Binds K fd ps []
theorem t_extend {A1 : Around} {n : Nat} {C a q tp dx : Addr} {spL : Sp} {fs : List (Str × V)} {t : Addr → Hp → Addr → List V → Prop} {pins : List (Addr × Obj)} {σ : L2.St} {H : Hp} {s : Shared} {xs : List V} {Rs : Result → Shared → Prop} (G : IterC X.prog X.w X.K X.mg X.base C n t) (GL : LenC X.prog X.w X.K X.mg X.base C n spL) (hh : A1.handled = none) (sb : L2.Sub X (n + 1) A1.in1)
    (hL : ∀ it, H it = none → spL [.ref a] (upd H it (ItT tp it 0)) (fun z H' => ∃ i : Nat, z = .int (i : Int) ∧ i ≤ 1000 ∧ H' = upd H it (ItT tp it 0)) E0)
    (hlen : xs.length < sizeLine) (hdone : ∀ s, Inv X pins σ (upd H q (.lst xs)) s → Rs (.ok (.ret .none)) s) (herr : ∀ e s, X.xe e s → Rs (.error e) s) (hn : X.s_0.heap.objs.size ≤ q)
    (I : Inv X pins σ H s) (ha : H a = some (.ins C dx fs)) (hq : H q = some (.lst [])) (hta : t a H tp xs) (ht : H tp = some (.tup xs)) :
    wpAny (model X.prog X.w) A1.in1 (Builtin.List.listExtendWith (.ref q) (.ref a) .none)
      (fun fin s' => match fin with | .done f => Rs (.ok f) s' | .again c' => c'.quiet = true ∧ codeAny (model X.prog X.w) A1 c' Rs s') (fun e s' => Rs (.error e) s') s := by
  obtain ⟨f, fd, ps, F, hf1, hf2, hb⟩ := G.ex
  have hne : q ≠ a := ne_of hq ha (fun z => nomatch z)
  obtain ⟨mA, J, _⟩ := ins_get I.hok ha
  obtain ⟨od, J, _⟩ := J.look
  obtain ⟨m0, hF⟩ := I.fr
  unfold Builtin.List.listExtendWith
  refine wpAny_bind (J.type.here ?_)
  have h1 : Builtin.List.listSameRef (.ref q) (.ref a) = false := by simp [Builtin.List.listSameRef, hne]
  have h2 : (Value.ref C == Value.type "list") = false := rfl
  have h3 : (Value.ref C == Value.type "tuple") = false := rfl
  simp only [h1, h2, h3, Bool.or_false, Bool.false_eq_true, if_false]
  refine wpAny_bind (PySem.W.owit_iter hF I.ok.mod.kin J hf1 hf2 ?_)
  have e0 : Env0 X.prog X.w X.K X.mg X.base A1.in1 X.stack s H := by
    have e := I.env0
    exact ⟨by rw [sb.fr]; exact e.frames, e.mod, e.bs, e.bsz, e.funs, e.frf, e.hok, e.bare⟩
  have hspI : spIterT C t [.ref a] H (fun v H' => ∃ it, v = .ref it ∧ H it = none ∧ (∀ z o, H z = some o → z < it) ∧ H' = upd H it (ItT tp it 0)) E0 := ⟨a, tp, xs, rfl, hta, ht, fun it h1 h2 => ⟨it, rfl, h1, h2, rfl⟩⟩
  have hl := F.len _ _ _ _ hspI
  have r2 : Vals [V.ref a] [Value.ref a] := .cons rfl .nil
  refine wpAny_call (codeAny_mono (F.run A1.in1 X.stack s H ⟨[.ref a], []⟩ [.ref a] [.ref a] _ E0 (sb.room.mono (Nat.le_succ _)) e0 (by
    have := hb s [.ref a] I.kIn (by simpa using hl)
    simpa using this) r2 hspI) fun r s' hq' => ?_)
  cases r with
  | error e => exact herr e s' (pass0 (X := X) pins σ H s e s' I hq')
  | ok fl =>
    cases fl with
    | next => exact False.elim hq'
    | brk => exact False.elim hq'
    | cont => exact False.elim hq'
    | ret u =>
      obtain ⟨v, H', I', rv, it, ev, hit, hz, eH⟩ := I.after hq'
      subst ev
      rw [eH] at I'
      cases rv
      have st : s'.heap.IsTupleIter it tp 0 := (I'.hok it _ upd_same).1
      have ty := st.typeIs
      unfold PySem.W.OwitIt
      refine wpAny_specialOf ty PySem.F.slot_tuple_iterator_next.lookup ?_
      have nqi : q ≠ it := Nat.ne_of_lt (hz q _ hq)
      have nti : tp ≠ it := Nat.ne_of_lt (hz tp _ ht)
      have nai : a ≠ it := Nat.ne_of_lt (hz a _ ha)
      have hH : upd H q (.lst (xs.take 0)) = H := by
        funext b
        by_cases hb : b = q
        · rw [hb, upd_same, hq]; rfl
        · rw [upd_ne hb]
      -- the length that __len__ tells
      obtain ⟨f2, fd2, ps2, F2, hs2, hf2', hb2⟩ := GL.ex
      have ha' : upd H it (ItT tp it 0) a = some (.ins C dx fs) := by rw [upd_ne nai]; exact ha
      obtain ⟨mA', J', _⟩ := ins_get I'.hok ha'
      obtain ⟨od', J', _⟩ := J'.look
      obtain ⟨m1, hF'⟩ := I'.fr
      have e1 : Env0 X.prog X.w X.K X.mg X.base A1.in1 X.stack s' (upd H it (ItT tp it 0)) := by
        have e := I'.env0
        exact ⟨by rw [sb.fr]; exact e.frames, e.mod, e.bs, e.bsz, e.funs, e.frf, e.hok, e.bare⟩
      have hspL := hL it hit
      have hl2 := F2.len _ _ _ _ hspL
      have callLen : wpAny (model X.prog X.w) A1.in1 (call (.builtin "len") [.ref a]) (fun r s2 => ∃ (i : Nat) (tk : Tok), r = .int (i : Int) tk ∧ i ≤ 1000 ∧ Inv X pins σ (upd H it (ItT tp it 0)) s2) (fun _ _ => False) s' := by
        refine PySem.W.len_K hF' I'.ok.mod.kin J' hs2 hf2' (wpAny_call (codeAny_mono (F2.run A1.in1.in1 X.stack s' _ ⟨[.ref a], []⟩ [.ref a] [.ref a] _ E0 sb.room.in1 (e1.in1) (by
          have := hb2 s' [.ref a] I'.kIn (by simpa using hl2)
          simpa using this) r2 hspL) fun r s2 hq2 => ?_))
        cases r with
        | error e => exact (show False from hq2).elim
        | ok fl =>
          cases fl with
          | next => exact False.elim hq2
          | brk => exact False.elim hq2
          | cont => exact False.elim hq2
          | ret x =>
            obtain ⟨z, H2, I2, rz, i, ez, hi, eH2⟩ := I'.after hq2
            subst ez
            subst eH2
            obtain ⟨tk, ex⟩ := rz
            subst ex
            exact ⟨⟨by omega, by omega⟩, ⟨i, _, rfl, hi, I2.tok _⟩⟩
      refine wpAny_bind (wpAny_holding ?_)
      unfold Builtin.List.listLengthHint
      have hK' := I'.kIn
      refine wpAny_bind (wpAny_bind (J'.type.here ((PySem.W.looks_findIn hK' hs2).here ?_)))
      refine PySem.W.KFB.if_not rfl ?_
      refine wpAny_ite_split (fun _ => ?_) (fun h => absurd rfl h)
      refine wpAny_bind (wpAny_rule (wpAny_bind (wpAny_attempt (wpAny_mono callLen (fun r s2 hr => ?_) (fun e s2 he => he.elim)))))
      obtain ⟨i, tk, er, hi, I2⟩ := hr
      subst er
      refine wpAny_bind (m := asInt? (.int (i : Int) tk)) (wpAny_pure ?_)
      dsimp only
      rw [if_neg (by rw [notLongL (by have : (1000 : Nat) ≤ sizeLine := small' (by omega); omega)]; decide)]
      refine wpAny_pure ?_
      have st2 : s2.heap.IsTupleIter it tp 0 := (I2.hok it _ upd_same).1
      have hfp := ItX.inv_fp I2 upd_same (Nat.le_trans hn (Nat.le_of_lt (hz q _ hq)))
      have I3 := ItX.inv_drop I2 upd_same
      rw [ItX.dropH_upd hit] at I3 hfp
      have ntq : tp ≠ q := ne_of ht hq (by intro z; cases z)
      have loop := t_loop (Rs := Rs) hh hlen hq ht ntq nti nqi hfp hdone xs.length 0
      refine wpAny_ite_split (fun _ => ?_) (fun _ => wpAny_pure ⟨plainId_quiet PySem.F.plain_extend_loop _, loop s2 (Nat.sub_zero _) (Nat.zero_le _) (by rw [hH]; exact I3) st2⟩)
      obtain ⟨z3, its, k3, r3, hl3, e3⟩ := I3.lstM hq
      cases r3
      refine wpAny_bind (wpAny_rule ?_)
      refine wpAny_bind ?_
      show wpAny _ _ (updateSeq q (·.push .none) >>= fun _ => updateSeq q (·.pop)) _ _ _
      refine wpAny_bind (wpAny_updateSeq e3 rfl ?_)
      have I4 := I3.lset (f := (·.push Value.none)) (its' := [Value.none]) (ys := [.non]) (t' := s2.toks) hq e3 (by simp) (.cons rfl .nil) (by rw [List.length_singleton, sizeLine_eq]; decide)
      obtain ⟨z4, its4, k4, r4, hl4, e4⟩ := I4.lstM upd_same
      obtain ⟨u4, rfl, ru4⟩ := r4.one
      refine wpAny_updateSeq e4 rfl ?_ (by show 1 ≤ sizeLine; rw [sizeLine_eq]; decide) (by show 0 ≤ sizeLine + 1; exact Nat.zero_le _)
      have I5 := I4.lset (f := (·.pop)) (its := [u4]) (its' := []) (ys := []) (t' := s2.toks) upd_same e4 (by rfl) .nil (Nat.zero_le _)
      rw [upd_upd] at I5
      exact wpAny_pure ⟨plainId_quiet PySem.F.plain_extend_loop _, loop _ (Nat.sub_zero _) (Nat.zero_le _) I5 ((st2.at fun o e => (Heap.get?_update_other _ _ nqi).trans e).at fun o e => (Heap.get?_update_other _ _ nqi).trans e)⟩
/-- list(o), o's __iter__ returns iter(a tuple), its __len__ tells a number -/
def rListI (C : Addr) (t : Addr → Hp → Addr → List V → Prop) (spL : Sp) : List V → Hp → VK → Prop := fun xs H Q => ∃ (a dx : Addr) (fs : List (Str × V)) (tp : Addr) (ys : List V), xs = [.ref a] ∧ H a = some (.ins C dx fs) ∧ H tp = some (.tup ys) ∧ ys.length < sizeLine ∧
  ∀ q, H q = none → t a (upd H q (.lst [])) tp ys ∧ (∀ it, upd H q (.lst []) it = none → spL [.ref a] (upd (upd H q (.lst [])) it (ItT tp it 0)) (fun z H' => ∃ i : Nat, z = .int (i : Int) ∧ i ≤ 1000 ∧ H' = upd (upd H q (.lst [])) it (ItT tp it 0)) E0) ∧ Q (.ref q) (upd H q (.lst ys))
theorem call_listI {C : Addr} {n : Nat} {t : Addr → Hp → Addr → List V → Prop} {spL : Sp} (hc : X.calm = true) (G : IterC X.prog X.w X.K X.mg X.base C n t) (GL : LenC X.prog X.w X.K X.mg X.base C n spL) (hr : Room (n + 3) X.A) : CallR X (.type "list") (rListI C t spL) := by
  intro pins s σ H xs us Q I rv h
  obtain ⟨a, dx, fs, tp, ys, rfl, ha, ht, hlen, hk⟩ := h
  obtain ⟨u, rfl, ru⟩ := rv.one
  cases ru
  have sb : L2.Sub X (n + 1) X.A.in1.in1 := (L2.Sub.in1 (L2.Sub.in1 (⟨hr, rfl⟩ : L2.Sub X (n + 3) X.A)))
  refine callType_codes (Q₁ := fun obj s₁ => obj = .ref s.heap.objs.size ∧ s₁ = { s with heap := s.heap.push { cls := .type "list", data := .seq #[] } }) PySem.F.called_list (PySem.F.typeCall_list_1 _) PySem.F.entry_list_init
    (code_list_new _ ⟨rfl, rfl⟩) fun obj s₁ h₁ => ?_
  obtain ⟨rfl, rfl⟩ := h₁
  have hS : (s.heap.push { cls := .type "list", data := .seq #[] }).get? s.heap.objs.size = some { cls := .type "list", data := .seq #[] } := Heap.get?_push_size _ rfl
  refine ⟨⟨_, hS, rfl⟩, PySem.F.args_list_init_2 _ _, ?_⟩
  have fr : H s.heap.objs.size = none := I.hok.fresh (Nat.le_refl _)
  obtain ⟨hta, hL, hQ⟩ := hk _ fr
  have I1 : L2.Inv X pins σ (upd H s.heap.objs.size (.lst [])) { s with heap := s.heap.push { cls := .type "list", data := .seq #[] } } := I.lnew (its := []) (t' := s.toks) .nil (Nat.zero_le _)
  show wpAny _ _ (do let old ← Builtin.List.listItems (.ref s.heap.objs.size); Builtin.List.listUpdate (.ref s.heap.objs.size) (fun _ => #[]); letGo old.toList.reverse; Builtin.List.listExtendWith (.ref s.heap.objs.size) (.ref a) .none) _ _ _
  refine wpAny_bind ?_
  unfold Builtin.List.listItems
  refine wpAny_bind (wpAny_seqItems hS rfl (wpAny_pure ?_))
  show wpAny _ _ (updateSeq s.heap.objs.size (fun _ => #[]) >>= fun _ => letGo (#[] : Array Value).toList.reverse >>= fun _ => Builtin.List.listExtendWith (.ref s.heap.objs.size) (.ref a) .none) _ _ _
  refine wpAny_bind (wpAny_updateSeq hS rfl ?_)
  have I2 := I1.lset (f := fun _ => #[]) (its := []) (its' := []) (ys := []) (t' := s.toks) upd_same hS rfl .nil (Nat.zero_le _)
  rw [upd_upd] at I2
  refine wpAny_bind (wpAny_letGo ?_)
  have ha2 : upd H s.heap.objs.size (.lst []) a = some (.ins C dx fs) := by rw [upd_ne (ne_of_none ha fr)]; exact ha
  have ht2 : upd H s.heap.objs.size (.lst []) tp = some (.tup ys) := by rw [upd_ne (ne_of_none ht fr)]; exact ht
  exact t_extend (A1 := X.A.in1) (Rs := wants (fun r s₂ => r = .none ∧ EP X pins σ Q (.ref s.heap.objs.size) s₂) X.xe) G GL (I.ok.hd hc) sb hL hlen
    (fun s' I' => ⟨rfl, .ref s.heap.objs.size, _, by rw [upd_upd] at I'; exact I', rfl, hQ⟩) (fun e s' he => he) I.sz I2 ha2 upd_same hta ht2
end
end Bo
namespace Bk
open PySem PySem.Spec PyProof.Rows L2 Wv
/-! ### rules as the law has them; lists of names -/
/-- rules as the law has them -/
def RulesAt (H : Hp) : List V → List (Str × W) → Prop
  | vs, [] => vs = []
  | vs, (n, w) :: rs => ∃ r v us, vs = V.ref r :: us ∧ H r = some (.tup [.str n, v]) ∧ WayAt H v w ∧ RulesAt H us rs
theorem RulesAt.keep {H H' : Hp} (k : Keep H H') : ∀ (rs : List (Str × W)) (vs : List V), RulesAt H vs rs → RulesAt H' vs rs
  | [], _, h => h
  | (n, w) :: rs, vs, ⟨r, v, us, e, h, hv, h2⟩ => ⟨r, v, us, e, k.tup h, WayAt.keep k _ _ hv, RulesAt.keep k rs us h2⟩
theorem RulesAt.app {H : Hp} : ∀ (rs : List (Str × W)) (vs : List V) {us : List V} {qs : List (Str × W)}, RulesAt H vs rs → RulesAt H us qs → RulesAt H (vs ++ us) (rs ++ qs)
  | [], vs, us, qs, h, h2 => by rw [show vs = [] from h]; exact h2
  | (n, w) :: rs, vs, us, qs, ⟨r, v, vs', e, h, hv, h1⟩, h2 => by rw [e]; exact ⟨r, v, vs' ++ us, rfl, h, hv, RulesAt.app rs vs' h1 h2⟩
theorem RulesAt.len {H : Hp} : ∀ (rs : List (Str × W)) (vs : List V), RulesAt H vs rs → vs.length = rs.length
  | [], vs, h => by rw [show vs = [] from h]; rfl
  | (n, w) :: rs, vs, ⟨r, v, us, e, _, _, h⟩ => by rw [e, List.length_cons, List.length_cons, RulesAt.len rs us h]
theorem RulesAt.at_ {H : Hp} : ∀ (rs : List (Str × W)) (vs : List V) (i : Nat) (x : V), RulesAt H vs rs → vs[i]? = some x → ∃ r n v w, x = .ref r ∧ rs[i]? = some (n, w) ∧ H r = some (.tup [.str n, v]) ∧ WayAt H v w
  | [], vs, i, x, h, e => by rw [show vs = [] from h] at e; simp at e
  | (n, w) :: rs, vs, 0, x, ⟨r, v, us, e, h, hv, h1⟩, ev => by
    rw [e] at ev
    have q : V.ref r = x := by simpa using ev
    subst q
    exact ⟨r, n, v, w, rfl, rfl, h, hv⟩
  | (n, w) :: rs, vs, i + 1, x, ⟨r, v, us, e, h, hv, h1⟩, ev => by
    rw [e] at ev
    obtain ⟨r', n', v', w', a1, a2, a3, a4⟩ := RulesAt.at_ rs us i x h1 (by simpa using ev)
    exact ⟨r', n', v', w', a1, by simpa using a2, a3, a4⟩
theorem inV_names (x : Str) : ∀ T : List Str, inV (.str x) (T.map V.str) = decide (x ∈ T)
  | [] => rfl
  | y :: T => by
    have ih := inV_names x T
    have e : inV (.str x) ((y :: T).map V.str) = (eqV (.str y) (.str x) || inV (.str x) (T.map V.str)) := rfl
    rw [e, ih]
    by_cases h : x = y
    · subst h; simp [eqV]
    · have h' : ¬ y = x := fun q => h q.symm
      simp [eqV, h, h']
theorem flat_names (T : List Str) : (T.map V.str).all flatV = true := by
  rw [List.all_eq_true]
  intro v hv
  obtain ⟨x, _, rfl⟩ := List.mem_map.mp hv
  rfl
end Bk
namespace Ws
open PySem PySem.Spec PyProof.Rows L2 Wv
/-! ### a way built from its kind, its word and its parts -/
inductive Builds : Nat → Str → List W → W → Prop where
  | letter (c : Nat) : Builds 0 (sg c) [] (.letter c)
  | one : Builds 1 eS [] .one
  | nothing : Builds 2 eS [] .nothing
  | row (ws : List W) : Builds 3 eS ws (.row ws)
  | choice (ws : List W) : Builds 4 eS ws (.choice ws)
  | again (w : W) : Builds 5 eS [w] (.again w)
  | maybe (w : W) : Builds 6 eS [w] (.maybe w)
  | ahead (w : W) : Builds 7 eS [w] (.ahead w)
  | unless (w : W) : Builds 8 eS [w] (.unless w)
  | call (x : Str) : Builds 9 x [] (.call x)
def spBuilt (c : Cs) : Sp := fun vs H Q _ => ∃ (k : Nat) (x : Str) (q : Addr) (us : List V) (ws : List W) (w : W), vs = [.int (k : Nat), .str x, .ref q] ∧ H q = some (.lst us) ∧ ObjsAt c H us ws ∧ Builds k x ws w ∧ ws.length ≤ 1000000 ∧ ∀ (u : V) (H' : Hp), Same H H' → ObjAt c H' u w → Q u H'
section
variable {P : Program} {w : World} {K : PySem.W.Frag} {mg : Str → Option Value} {base : Heap} {c : Cs}
theorem iteN {b : Bool} {T F : Prop} (h : b = false) (f : F) : if b = true then T else F := by rw [h]; exact f
theorem decI {a b : Nat} : decide (V.int (a : Nat) = V.int ((b : Nat) : Int)) = decide (a = b) := by
  by_cases h : a = b
  · subst h; rw [decide_eq_true rfl, decide_eq_true rfl]
  · rw [decide_eq_false (fun q => h (by have := V.int.inj q; omega)), decide_eq_false h]
abbrev s_built : Stmt := top 45
theorem sc_built : FnScope ["kind", "word", "inner"] ["kind", "word", "inner"] (defScope s_built) := ⟨rfl, rfl, rfl, by decide +kernel, rfl, by decide +kernel, by decide +kernel⟩
theorem d_built (h : Here K mg "built" s_built ["kind", "word", "inner"]) (g : Gs P w K mg base c) (CN : Kc mg) : DefOk P w K mg base 4 "built" ["kind", "word", "inner"] (spBuilt c) := by
  have G_Letter := g.lt; have G_Call := g.ca; have G_Row := g.ro; have G_Choice := g.ch; have G_Again := g.ag; have G_Maybe := g.ma; have G_Ahead := g.ah; have G_Unless := g.un
  have G_One := g.on; have G_Nothing := g.no
  have GC_LETTER := CN.k0; have GC_ONE := CN.k1; have GC_NOTHING := CN.k2; have GC_ROW := CN.k3; have GC_CHOICE := CN.k4; have GC_AGAIN := CN.k5; have GC_MAYBE := CN.k6; have GC_AHEAD := CN.k7; have GC_UNLESS := CN.k8; have GC_CALL := CN.k9
  refine h.ok sc_built (fun vs H Q E h => by obtain ⟨_, _, _, _, _, _, rfl, _⟩ := h; rfl) (fun f cdv A outer s' H vs Q E hr h => ?_)
  obtain ⟨k0, x, q, us, ws, w, rfl, hq, hus, hb, hwl, k⟩ := h
  refine ⟨_, (pss_cons (ps_if (pt_cmpR op_eq (pv 0) (pe_globI rfl GC_LETTER) (nomark _)) (pss_one (ps_ret (pe_makeD G_Letter (hr.mono (by first | decide | omega)) rfl (pa_cons (pv 1) pa_nil)))) pss_nil)
  (pss_cons (ps_if (pt_cmpR op_eq (pv 0) (pe_globI rfl GC_ONE) (nomark _)) (pss_one (ps_ret (pe_makeD0 G_One (hr.mono (by first | decide | omega)) rfl))) pss_nil)
  (pss_cons (ps_if (pt_cmpR op_eq (pv 0) (pe_globI rfl GC_NOTHING) (nomark _)) (pss_one (ps_ret (pe_makeD0 G_Nothing (hr.mono (by first | decide | omega)) rfl))) pss_nil)
  (pss_cons (ps_if (pt_cmpR op_eq (pv 0) (pe_globI rfl GC_ROW) (nomark _)) (pss_one (ps_ret (pe_makeD G_Row (hr.mono (by first | decide | omega)) rfl (pa_cons (pv 2) pa_nil)))) pss_nil)
  (pss_cons (ps_if (pt_cmpR op_eq (pv 0) (pe_globI rfl GC_CHOICE) (nomark _)) (pss_one (ps_ret (pe_makeD G_Choice (hr.mono (by first | decide | omega)) rfl (pa_cons (pv 2) pa_nil)))) pss_nil)
  (pss_cons (ps_if (pt_cmpR op_eq (pv 0) (pe_globI rfl GC_AGAIN) (nomark _)) (pss_one (ps_ret (pe_makeD G_Again (hr.mono (by first | decide | omega)) rfl (pa_cons (pe_ix ix_list (pv 2) pe_int (fun _ _ => rfl)) pa_nil)))) pss_nil)
  (pss_cons (ps_if (pt_cmpR op_eq (pv 0) (pe_globI rfl GC_MAYBE) (nomark _)) (pss_one (ps_ret (pe_makeD G_Maybe (hr.mono (by first | decide | omega)) rfl (pa_cons (pe_ix ix_list (pv 2) pe_int (fun _ _ => rfl)) pa_nil)))) pss_nil)
  (pss_cons (ps_if (pt_cmpR op_eq (pv 0) (pe_globI rfl GC_AHEAD) (nomark _)) (pss_one (ps_ret (pe_makeD G_Ahead (hr.mono (by first | decide | omega)) rfl (pa_cons (pe_ix ix_list (pv 2) pe_int (fun _ _ => rfl)) pa_nil)))) pss_nil)
  (pss_cons (ps_if (pt_cmpR op_eq (pv 0) (pe_globI rfl GC_UNLESS) (nomark _)) (pss_one (ps_ret (pe_makeD G_Unless (hr.mono (by first | decide | omega)) rfl (pa_cons (pe_ix ix_list (pv 2) pe_int (fun _ _ => rfl)) pa_nil)))) pss_nil)
  (pss_one (ps_ret (pe_makeD G_Call (hr.mono (by first | decide | omega)) rfl (pa_cons (pv 1) pa_nil))))))))))))), ?_⟩
  cases hb
  case letter =>
    refine ⟨_, rfl, rfl, _, rfl, iteT' (by decide) ?_⟩
    exact ⟨_, rfl, makeL fun x dx H' s2 h => k _ H' s2 ⟨x, dx, rfl, h⟩⟩
  case one =>
    repeat (refine ⟨_, rfl, rfl, _, rfl, iteN (by decide) ?_⟩; walk_at "nx")
    refine ⟨_, rfl, rfl, _, rfl, iteT' (by decide) ?_⟩
    exact make0 fun x dx H' s3 h => k _ H' s3 ⟨x, dx, rfl, h⟩
  case nothing =>
    repeat (refine ⟨_, rfl, rfl, _, rfl, iteN (by decide) ?_⟩; walk_at "nx")
    refine ⟨_, rfl, rfl, _, rfl, iteT' (by decide) ?_⟩
    exact make0 fun x dx H' s3 h => k _ H' s3 ⟨x, dx, rfl, h⟩
  case row =>
    repeat (refine ⟨_, rfl, rfl, _, rfl, iteN (by decide) ?_⟩; walk_at "nx")
    refine ⟨_, rfl, rfl, _, rfl, iteT' (by decide) ?_⟩
    exact ⟨_, rfl, makeT (.inl hq) hus hwl fun x dx t H' s7 ht h => k _ H' s7 ⟨x, dx, t, us, rfl, h, ht, ObjsAt.keep (stillS s7) _ _ hus⟩⟩
  case choice =>
    repeat (refine ⟨_, rfl, rfl, _, rfl, iteN (by decide) ?_⟩; walk_at "nx")
    refine ⟨_, rfl, rfl, _, rfl, iteT' (by decide) ?_⟩
    exact ⟨_, rfl, makeT (.inl hq) hus hwl fun x dx t H' s7 ht h => k _ H' s7 ⟨x, dx, t, us, rfl, h, ht, ObjsAt.keep (stillS s7) _ _ hus⟩⟩
  case call =>
    repeat (refine ⟨_, rfl, rfl, _, rfl, iteN (by decide) ?_⟩; walk_at "nx")
    exact ⟨_, rfl, makeC fun x dx H' s2 h => k _ H' s2 ⟨x, dx, rfl, h⟩⟩
  case again =>
    obtain ⟨u, us', rfl, hu, hn⟩ := hus
    repeat (refine ⟨_, rfl, rfl, _, rfl, iteN (by decide) ?_⟩; walk_at "nx")
    refine ⟨_, rfl, rfl, _, rfl, iteT' (by decide) ?_⟩
    exact ⟨_, rfl, q, _, _, _, rfl, rfl, SqL.of hq, atI0, makeA hu fun x dx mk H' s8 h => k _ H' s8 ⟨x, dx, u, mk, rfl, h, ObjAt.keep (stillS s8) _ _ hu⟩⟩
  all_goals
    obtain ⟨u, us', rfl, hu, hn⟩ := hus
    repeat (refine ⟨_, rfl, rfl, _, rfl, iteN (by decide) ?_⟩; walk_at "nx")
    refine ⟨_, rfl, rfl, _, rfl, iteT' (by decide) ?_⟩
    exact ⟨_, rfl, q, _, _, _, rfl, rfl, SqL.of hq, atI0, makeP hu fun x dx H' s8 h => k _ H' s8 ⟨x, dx, u, .non, rfl, h, ObjAt.keep (stillS s8) _ _ hu⟩⟩
end
end Ws
namespace Ws
open PySem PySem.Spec PyProof.Rows L2 Wv
/-! ### what is new over a part of the heap; pure facts of signs -/
def over (G N : Hp) : Hp := fun a => match G a with
  | some o => some o
  | none => N a
theorem over_new {G N : Hp} {a : Addr} (h : G a = none) : over G N a = N a := by unfold over; rw [h]
theorem over_old {G N : Hp} {a : Addr} {o : HO} (h : G a = some o) : over G N a = some o := by unfold over; rw [h]
theorem over_keep {G N N' : Hp} (k : ∀ a o, G a = none → N a = some o → N' a = some o ∨ Moves o (N' a)) : Keep (over G N) (over G N') := fun a o h => by
  cases e : G a with
  | some o' =>
    rw [over_old e] at h
    rw [over_old e]
    exact .inl h
  | none =>
    rw [over_new e] at h
    rw [over_new e]
    exact k a o e h
theorem over_in {G N : Hp} : Keep G (over G N) := fun a o h => .inl (over_old h)
theorem over_to {G H H' : Hp} (g : Keep G H) (k : Keep H H') : Keep (over G (newer H H')) H' := fun a o h => by
  cases e : G a with
  | some o' =>
    rw [over_old e] at h
    injection h with h
    subst h
    exact (g.trans k) a _ e
  | none =>
    rw [over_new e] at h
    exact .inl (newer_of h).2
/-- a part made later stays, but for the list D -/
theorem over_up {G H H4 H5 H6 : Hp} {D : Addr} {o : HO} (k : Keep H H4) (hD : H4 D = some o) (k5 : ∀ a o, a ≠ D → H5 a = some o → H6 a = some o ∨ Moves o (H6 a)) : Keep (over G (newer H4 H5)) (over G (newer H H6)) := over_keep fun a o' _ h => by
  obtain ⟨h1, h2⟩ := newer_of h
  have nD : a ≠ D := fun q => by rw [q, hD] at h1; cases h1
  rw [newer_at (k.free h1)]
  exact k5 a o' nD h2
def nD (D : Addr) (N : Hp) : Hp := fun a => if a = D then none else N a
theorem nD_of {D a : Addr} {N : Hp} {o : HO} (h : nD D N a = some o) : a ≠ D ∧ N a = some o := by
  unfold nD at h
  split at h
  · cases h
  · exact ⟨‹_›, h⟩
theorem nD_at {D a : Addr} {N : Hp} (h : a ≠ D) : nD D N a = N a := if_neg h
theorem wfs_get {z : List Nat} : ∀ {ws : List W} {i : Nat} {w : W}, W.wfs z ws → ws[i]? = some w → w.wf z
  | [], i, w, _, h => by simp at h
  | x :: ws, 0, w, ok, h => by
    have e : x = w := by simpa using h
    subst e
    exact ok.1
  | x :: ws, i + 1, w, ok, h => wfs_get ok.2 (by simpa using h)
theorem join_sg' : ∀ cs : List Nat, PySem.Str.join (Str.ofString "") (cs.map sg) = tx cs
  | [] => rfl
  | [c] => rfl
  | c :: c2 :: r => by
    show sg c ++ Str.ofString "" ++ PySem.Str.join (Str.ofString "") ((c2 :: r).map sg) = _
    rw [join_sg' (c2 :: r), empty_tx, show sg c = tx [c] from rfl, tx_app, tx_app]
    rfl
theorem join_sg (cs : List Nat) : Txt.join (Str.ofString "") (cs.map sg) = tx cs := (TL.join_eq _ _).trans (join_sg' cs)
theorem W.sizes_take : ∀ (ws : List W) (i : Nat), W.sizes (ws.take i) ≤ W.sizes ws
  | [], i => by simp
  | w :: ws, 0 => Nat.zero_le _
  | w :: ws, i + 1 => by
    have := W.sizes_take ws i
    show w.size + W.sizes (ws.take i) ≤ w.size + W.sizes ws
    omega
theorem sg_sum : ∀ cs : List Nat, (((cs.map sg).map (fun x : Str => x.length)).sum) = cs.length
  | [] => rfl
  | c :: cs => by
    have := sg_sum cs
    rw [List.map_cons, List.map_cons, List.sum_cons, List.length_cons, this]
    show 1 + _ = _
    omega
end Ws
namespace Bk
open PySem PySem.Spec PyProof.Rows L2 Wv Ws
/-! ### the law's names -/
/-- of these six letters alone -/
def Six (cs : List Nat) : Prop := ∀ c ∈ cs, c ∈ [97, 98, 99, 120, 121, 122]
def NmOk (x : Str) : Prop := (PyData.strOk x = true ∧ x.length ≤ 12) ∧ ∃ cs, x = tx cs ∧ Six cs
theorem nmOk_tx {cs : List Nat} (h : Six cs) (hl : cs.length ≤ 12) : NmOk (tx cs) := by
  refine ⟨⟨?_, by rw [tx_len]; exact hl⟩, cs, rfl, h⟩
  show (cs.toArray).all (fun x => decide (x < 0x110000)) = true
  simp
  intro c hc
  have := h c hc
  simp only [List.mem_cons, List.not_mem_nil, or_false] at this
  omega
theorem six_tx : Str.ofString "abcxyz" = tx [97, 98, 99, 120, 121, 122] := by decide +kernel
theorem dpAll_names {K : PySem.W.Frag} {H : Hp} : ∀ T : List Str, DpAll K H (T.map V.str) (T.map PyData.str)
  | [] => .nil
  | x :: T => .cons (.str x) (dpAll_names T)
theorem canLay_names : ∀ T : List Str, (∀ x ∈ T, NmOk x) → PyData.canLayAll0 (T.map PyData.str) = true
  | [], _ => rfl
  | x :: T, h => by
    show (PyData.strOk x && PyData.canLayAll0 (T.map PyData.str)) = true
    rw [canLay_names T fun y hy => h y (List.mem_cons_of_mem _ hy), show PyData.strOk x = true from (h x List.mem_cons_self).1.1]; rfl
theorem depth_names : ∀ T : List Str, PyData.depthAll (T.map PyData.str) = 0
  | [] => rfl
  | x :: T => by rw [List.map_cons, PyData.depthAll, depth_names T]; rfl
theorem shaped_names {T : List Str} (h : ∀ x ∈ T, NmOk x) : SeqAt.shaped (.list (T.map PyData.str)) = true := by
  unfold SeqAt.shaped
  rw [Bool.and_eq_true]
  refine ⟨canLay_names T h, decide_eq_true ?_⟩
  simp only [PyData.depth, depth_names]
  omega
def spNm (K : PySem.W.Frag) : Sp := fun vs H Q _ => ∃ (p : Pen) (n : Nat), vs = [.ref p.d] ∧ PenAt K H p n ∧ n + 20 < LIM ∧ ∀ (x : Str) (H' : Hp), NmOk x → Keep H H' → PenAt K H' p (n + 20) → Q (.str x) H'
section
variable {P : Program} {w : World} {K : PySem.W.Frag} {mg : Str → Option Value} {base : Heap}
abbrev s_l_name : Stmt := top 62
theorem sc_l_name : FnScope ["_law_pen_here", "_law_k"] ["_law_pen_here"] (defScope s_l_name) := ⟨rfl, rfl, rfl, by decide +kernel, rfl, by decide +kernel, by decide +kernel⟩
theorem d_l_name (h : Here K mg "_law_name" s_l_name ["_law_pen_here"]) (B : Bs mg) (G_l_draw : DefOk P w K mg base 1 "_law_draw" ["_law_pen_here", "_law_many"] (spDraw K)) (G_l_pick : DefOk P w K mg base 2 "_law_pick" ["_law_pen_here", "_law_items"] (spPick K)) : DefOk P w K mg base 3 "_law_name" ["_law_pen_here"] (spNm K) := by
  have B_range := B.range
  refine h.ok sc_l_name (fun vs H Q E h => by obtain ⟨_, _, rfl, _⟩ := h; rfl) (fun f cdv A outer s' H vs Q E hr h => ?_)
  obtain ⟨p, n, rfl, hP, hn, k⟩ := h
  refine ⟨_, (pss_one (ps_ret (pe_join pe_str (pe_lc (own := [("_law_k", 1)]) (g := (gName 1)) (tt := tYes) rfl sc_l_name.nd (pi_range1 rfl B_range (pa_cons (pe_op op_add pe_int (pe_callD G_l_draw (hr.mono (by first | decide | omega)) rfl (pa_cons (pv 0) (pa_cons (pe_callD G_l_pick (hr.mono (by first | decide | omega)) rfl (pa_cons (pv 0) (pa_cons (pe_lst (pa_cons pe_int (pa_cons pe_int pa_nil))) pa_nil))) pa_nil)))) pa_nil)) (blkOk_by (own := [("_law_k", 1)]) (N := ["_law_pen_here", "_law_k"]) (sc := defScope s_l_name) (by decide +kernel)) (fun _ _ _ _ _ => pg_name (i := 1) sc_l_name.nd rfl (Or.inl rfl)) (fun _ _ _ _ _ => pts_nil) (fun _ _ _ _ _ => (pe_callD G_l_pick (hr.mono (by first | decide | omega)) rfl (pa_cons (pv 0) (pa_cons pe_str pa_nil)))))))), ?_⟩
  refine ⟨⟨_, rfl⟩, ?_⟩
  walk_at "rd"
  refine ⟨by show 2 ≤ sizeLine; decide, fun l hl => ?_⟩
  have s1 := Same.new hl (.lst [.int 2, .int 12])
  refine ⟨p, _, n, rfl, hP.same s1, by omega, .inl ⟨l, _, rfl, SqL.of upd_same, by decide, by decide, fun v H1 hv k1 hP1 => ?_⟩⟩
  obtain ⟨m, hm0, hm, rfl⟩ : ∃ m : Int, 0 < m ∧ m ≤ 12 ∧ v = .int m := by
    simp only [List.mem_cons, List.not_mem_nil, or_false] at hv
    rcases hv with rfl | rfl
    · exact ⟨2, by decide, by decide, rfl⟩
    · exact ⟨12, by decide, by decide, rfl⟩
  refine ⟨p, m, n + 1, rfl, hP1, by omega, hm0, by omega, fun d2 H2 d20 d21 k2 hP2 => ?_⟩
  walk_at "rd"
  refine ⟨by omega, by omega, fun D hD => ?_⟩
  refine lc_range (lo := 0) (n := (1 + d2).toNat) (fun i H' => ∃ cs : List Nat, H' D = some (.lst ((cs.map sg).map V.str)) ∧ cs.length = i ∧ Six cs ∧ Keep H2 H' ∧ PenAt K H' p (n + 2 + i)) ?_ ?_ ?_
  · exact ⟨[], upd_same, rfl, (fun _ h => absurd h List.not_mem_nil), .of (Same.new hD _), hP2.same (Same.new hD _)⟩
  · rintro i H' hi ⟨cs, hD', hl', haz, k', hP'⟩
    refine ⟨rfl, _, rfl, p, _, n + 2 + i, rfl, hP', by omega, .inr ⟨[97, 98, 99, 120, 121, 122], six_tx ▸ rfl, by decide, by decide, fun c' H5 hc k5 hP5 => ?_⟩⟩
    have hD5 := k5.lst hD'
    refine ⟨_, hD5, small' (by rw [List.length_map, List.length_map]; omega), cs ++ [c'], ?_, by rw [List.length_append, hl']; rfl, ?_, Keep.put hD (k'.trans k5) _, PenAt.put hP2 hD hP5 (k'.trans k5) hD5⟩
    · rw [upd_same, List.map_append, List.map_append]
      rfl
    · intro q hq
      rcases List.mem_append.mp hq with h | h
      · exact haz q h
      · have e : q = c' := by simpa using h
        subst e
        exact hc
  · rintro H5 ⟨cs, hD', hl', haz, k', hP'⟩
    walk_at "rd"
    refine ⟨_, D, cs.map sg, rfl, rfl, .inl (SqL.of hD'), ?_, ?_⟩
    · rw [sg_sum, List.length_map, empty_tx, tx_len]
      show cs.length + cs.length * 0 ≤ _
      omega
    · rw [join_sg]
      exact k _ _ (nmOk_tx haz (by omega)) (((Keep.of s1).trans (k1.trans k2)).trans k') (hP'.mono (by omega))
end
end Bk
namespace Bk
open PySem PySem.Spec PyProof.Rows L2 Wv Ws
/-! ### ways with calls of these names -/
mutual
/-- all calls are of names in T -/
def W.cin (T : List Str) : W → Prop
  | .call x => x ∈ T
  | .row ws => W.cins T ws | .choice ws => W.cins T ws
  | .again w => W.cin T w | .maybe w => W.cin T w | .ahead w => W.cin T w | .unless w => W.cin T w
  | _ => True
def W.cins (T : List Str) : List W → Prop
  | [] => True
  | w :: ws => W.cin T w ∧ W.cins T ws
end
theorem cins_app {T : List Str} : ∀ (xs ys : List W), W.cins T xs → W.cins T ys → W.cins T (xs ++ ys)
  | [], ys, _, h => h
  | x :: xs, ys, h, h2 => ⟨h.1, cins_app xs ys h.2 h2⟩
theorem bad1_app {T : List Str} : ∀ (a b : List W), bad1 T a = none → bad1 T b = none → bad1 T (a ++ b) = none
  | [], b, _, h => h
  | x :: a, b, h, h2 => by
    cases x with
    | call y =>
      rw [List.cons_append, bad1]
      rw [bad1] at h
      split at h
      · rw [if_pos ‹_›]; exact bad1_app a b h h2
      · cases h
    | _ => exact bad1_app a b h h2
mutual
theorem cin_bad {T : List Str} : ∀ w : W, W.cin T w → bad1 T w.parts = none
  | .nothing, _ => rfl | .one, _ => rfl | .letter _, _ => rfl
  | .call x, h => by
    show (if x ∈ T then none else some x) = none
    rw [if_pos (show x ∈ T from h)]
  | .row ws, h => cins_bad ws h
  | .choice ws, h => cins_bad ws h
  | .again w, h => bad1_app _ _ (cin_bad w h) rfl
  | .maybe w, h => bad1_app _ _ (cin_bad w h) rfl
  | .ahead w, h => bad1_app _ _ (cin_bad w h) rfl
  | .unless w, h => bad1_app _ _ (cin_bad w h) rfl
theorem cins_bad {T : List Str} : ∀ ws : List W, W.cins T ws → bad1 T (W.partss ws) = none
  | [], _ => rfl
  | w :: ws, h => bad1_app _ _ (cin_bad w h.1) (cins_bad ws h.2)
end
def spCallsN (K : PySem.W.Frag) (s : Nat) : Sp := fun vs H Q _ => ∃ (p : Pen) (v : V) (w : W) (n : Nat) (z : List Nat) (G : Hp) (N : Addr) (T : List Str), vs = [.ref p.d, v, .ref N] ∧ PenAt K H p n ∧ n + 20 * w.size < LIM ∧ Keep G H ∧ WayAt G v w ∧ w.wf z ∧ SqL K H N (T.map V.str) ∧ (∀ x ∈ T, NmOk x) ∧ T.length ≤ 1000 ∧ w.size ≤ s ∧ w.size ≤ 30 ∧
  ∀ (u : V) (w' : W) (H' : Hp), w'.size = w.size → W.cin T w' → WayAt (over G (newer H H')) u w' → Keep H H' → PenAt K H' p (n + 20 * w.size) → Q u H'
section
variable {P : Program} {w : World} {K : PySem.W.Frag} {mg : Str → Option Value} {base : Heap}
abbrev s_l_with_calls : Stmt := top 63
theorem sc_l_with_calls : FnScope ["_law_pen_here", "_law_way_here", "_law_names", "_law_one"] ["_law_pen_here", "_law_way_here", "_law_names"] (defScope s_l_with_calls) := ⟨rfl, rfl, rfl, by decide +kernel, rfl, by decide +kernel, by decide +kernel⟩
theorem none_calls {f : Addr} {fd : FuncData} : FnOk P w K mg base CX0 3 f fd ["_law_pen_here", "_law_way_here", "_law_names"] (spCallsN K 0) := by
  have no : ∀ vs H Q E, ¬ spCallsN K 0 vs H Q E := fun vs H Q E h => by
    obtain ⟨p, v, w, n, z, G, _, _, _, _, _, _, _, h1, _⟩ := h
    have := w.size_pos
    omega
  exact ⟨fun vs H Q E h => absurd h (no vs H Q E), fun A outer s H args us vs Q E _ _ _ _ h => absurd h (no vs H Q E)⟩
theorem step_l_with_calls (s : Nat) (h : Here K mg "_law_with_calls" s_l_with_calls ["_law_pen_here", "_law_way_here", "_law_names"]) (B : Bs mg) (G_l_draw : DefOk P w K mg base 1 "_law_draw" ["_law_pen_here", "_law_many"] (spDraw K)) (G_l_pick : DefOk P w K mg base 2 "_law_pick" ["_law_pen_here", "_law_items"] (spPick K)) (G_l_with_calls : DefOk P w K mg base (3 + s) "_law_with_calls" ["_law_pen_here", "_law_way_here", "_law_names"] (spCallsN K s)) :
    DefOk P w K mg base (3 + s + 1) "_law_with_calls" ["_law_pen_here", "_law_way_here", "_law_names"] (spCallsN K (s + 1)) := by
  refine h.ok sc_l_with_calls (fun vs H Q E h => by obtain ⟨_, _, _, _, _, _, _, _, rfl, _⟩ := h; rfl) (fun f cdv A outer s' H vs Q E hr h => ?_)
  obtain ⟨p, v, x, n, z, G, N, T, rfl, hP, hn, hg, hv, hwf, hN, hTn, hTl, hs, hs2, k⟩ := h
  refine ⟨_, (pss_cons (ps_if (pt_cmpR op_eq (pe_ix ix_tup (pv 1) pe_int (fun _ _ => rfl)) pe_str (nomark _)) (pss_one (ps_ret (pe_ifExp (PW.pt (pw_and (pt_cmpR (op_neD hr.units) (pv 2) (pe_lst pa_nil) (nomark _)) (pw_and1 (pt_cmpR op_eq (pe_callD G_l_draw (hr.mono (by first | decide | omega)) rfl (pa_cons (pv 0) (pa_cons pe_int pa_nil))) pe_int (nomark _))))) (pe_tup (pa_cons pe_str (pa_cons (pe_callD G_l_pick (hr.mono (by first | decide | omega)) rfl (pa_cons (pv 0) (pa_cons (pv 2) pa_nil))) pa_nil))) (pv 1)))) pss_nil)
  (pss_cons (ps_if (pt_cmpR op_in_seq (pe_ix ix_tup (pv 1) pe_int (fun _ _ => rfl)) (pe_lst (pa_cons pe_str (pa_cons pe_str pa_nil))) (by rfl)) (pss_one (ps_ret (pe_tup (pa_cons (pe_ix ix_tup (pv 1) pe_int (fun _ _ => rfl)) (pa_cons (pe_lc (own := [("_law_one", 3)]) (g := (gName 3)) (tt := tYes) rfl sc_l_with_calls.nd (pi_list (pe_ix ix_tup (pv 1) pe_int (fun _ _ => rfl))) (blkOk_by (own := [("_law_one", 3)]) (N := ["_law_pen_here", "_law_way_here", "_law_names", "_law_one"]) (sc := defScope s_l_with_calls) (by decide +kernel)) (fun _ _ _ _ _ => pg_name (i := 3) sc_l_with_calls.nd rfl (Or.inl rfl)) (fun _ _ _ _ _ => pts_nil) (fun _ _ _ _ _ => (pe_callD G_l_with_calls (hr.mono (by first | decide | omega)) rfl (pa_cons (pv 0) (pa_cons (pv 3) (pa_cons (pv 2) pa_nil)))))) pa_nil))))) pss_nil)
  (pss_cons (ps_if (pt_cmpR op_in_seq (pe_ix ix_tup (pv 1) pe_int (fun _ _ => rfl)) (pe_lst (pa_cons pe_str (pa_cons pe_str (pa_cons pe_str (pa_cons pe_str pa_nil))))) (by rfl)) (pss_one (ps_ret (pe_tup (pa_cons (pe_ix ix_tup (pv 1) pe_int (fun _ _ => rfl)) (pa_cons (pe_callD G_l_with_calls (hr.mono (by first | decide | omega)) rfl (pa_cons (pv 0) (pa_cons (pe_ix ix_tup (pv 1) pe_int (fun _ _ => rfl)) (pa_cons (pv 2) pa_nil)))) pa_nil))))) pss_nil)
  (pss_one (ps_ret (pv 1)))))), ?_⟩
  obtain ⟨a, rest, rfl, ha⟩ := hv.head
  have ha0 := hg.tup ha
  have sz1 := x.size_pos
  walk_at "rd"
  refine ⟨a, _, _, _, rfl, rfl, SqT.of ha0, atI0, rfl, _, rfl, ?_⟩
  rw [eq_letter]
  refine ite2 (fun e => ?_) (fun e => ?_)
  · cases x <;> first | exact absurd e Bool.false_ne_true | skip
    rename_i c
    refine ⟨_, rfl, Nat.zero_le _, fun l hl => ?_⟩
    have s1 := Same.new hl (.lst [])
    have k1 := Keep.of s1
    have hN1 := k1.seq hN
    refine ⟨.list (T.map PyData.str), .list [], Dp.lst hN1 (dpAll_names T), Dp.lst (SqL.of upd_same) .nil, shaped_names hTn, rfl, _, rfl, ?_⟩
    rw [eqv_nil]
    have hP1 := hP.same s1
    have same : ∀ {Hz : Hp}, Keep H Hz → PenAt K Hz p (n + 20) → Q (.ref a) Hz := fun {Hz} kz hz => k _ (.letter c) Hz rfl trivial (WayAt.keep over_in _ _ hv) kz hz
    cases T with
    | nil =>
      refine iteF (iteF ⟨_, rfl, ?_⟩)
      exact same k1 (hP1.mono (by omega))
    | cons t0 T' =>
      refine iteT ?_
      refine ⟨_, rfl, p, 3, n, rfl, hP1, by omega, by decide, by decide, fun d H2 d0 d1 k2 hP2 => ⟨rfl, _, rfl, ?_⟩⟩
      have k12 := k1.trans k2
      refine ite2 (fun e2 => ?_) (fun e2 => ?_)
      · refine ⟨_, rfl, _, rfl, p, _, n + 1, rfl, hP2, by omega, .inl ⟨N, _, rfl, k12.seq hN, by simp, by rw [List.length_map]; exact hTl, fun v H3 hv3 k3 hP3 => ?_⟩⟩
        obtain ⟨x, hx, rfl⟩ := List.mem_map.mp hv3
        refine ⟨by show 2 ≤ sizeLine; decide, fun t ht => ?_⟩
        have s6 := Same.new ht (.tup [.str (Str.ofString "call"), .str x])
        have kF := k12.trans k3
        refine k _ (.call x) _ rfl hx ⟨t, rfl, ?_⟩ (kF.trans (.of s6)) ((hP3.same s6).mono (by show n + 1 + 1 ≤ n + 20 * 1; omega))
        rw [over_new ((hg.trans kF).free ht), newer_at (kF.free ht)]
        exact upd_same
      · refine ⟨_, rfl, ?_⟩
        exact same k12 (hP2.mono (by omega))
  clear e
  have k1 : Keep H H := .refl _
  have hP1 : PenAt K H p (n + 1) := hP.mono (by omega)
  have ha1 := k1.tup ha0
  walk_at "nx"
  walk_at "rd"
  refine ⟨a, _, _, _, rfl, rfl, SqT.of ha1, atI0, ?_⟩
  refine ⟨by show 2 ≤ sizeLine; decide, fun p1 hp1 => ?_⟩
  have s2 := Same.new hp1 (.lst [.str (Str.ofString "row"), .str (Str.ofString "choice")])
  refine ⟨p1, _, rfl, .inl (SqL.of upd_same), rfl, by decide +kernel, ?_⟩
  rw [if_neg Bool.false_ne_true, in_rc]
  have ha2 := s2 _ _ ha1
  have hP2 := hP1.same s2
  have k2 := k1.trans (.of s2)
  generalize upd H p1 (.lst [.str (Str.ofString "row"), .str (Str.ofString "choice")]) = H2 at *
  walk_at "rd"
  refine ite2 (fun e => ?_) (fun e => ?_)
  · cases x <;> first | exact absurd e Bool.false_ne_true | skip
    · obtain ⟨a', l, vs, e', h1, h2, h3⟩ := hv
      rename_i ws
      cases e'
      have h1' := k2.tup (hg.tup h1)
      have h2' := k2.lst (hg.lst h2)
      have elen := WaysAt.len _ _ h3
      have hsy : (W.row ws).size = 1 + W.sizes ws := rfl
      have hll := W.sizes_len ws
      walk_at "rd"
      refine ⟨a, _, _, _, rfl, rfl, SqT.of h1', atI0, ?_⟩
      walk_at "rd"
      refine ⟨a, _, _, _, rfl, rfl, SqT.of h1', atI1, ?_⟩
      refine ⟨l, rfl, ⟨vs, SqL.of h2'⟩, fun D hD => ?_⟩
      have gD : G D = none := (hg.trans k2).free hD
      have hDH : H D = none := k2.free hD
      refine lc_list (K := K) (a := l) (xs := vs) (fun i H' => ∃ us ws', H' D = some (.lst us) ∧ us.length = i ∧ ws'.length = i ∧ W.sizes ws' = W.sizes (ws.take i) ∧ W.cins T ws' ∧ WaysAt (over G (nD D (newer H H'))) us ws' ∧ Keep H2 H' ∧ PenAt K H' p (n + 1 + 20 * W.sizes (ws.take i))) ?_ ?_ ?_ ?_
      · exact ⟨[], [], upd_same, rfl, rfl, rfl, trivial, rfl, .of (Same.new hD _), (hP2.same (Same.new hD _)).mono (by omega)⟩
      · rintro i H' _ ⟨us, ws', _, _, _, _, _, _, k', _⟩
        exact SqL.of (k'.lst h2')
      · rintro i y H' hy ⟨us, ws', hD', hl1, hl2, hsz, hok', hus, k', hP'⟩
        have hi : i < vs.length := (List.getElem?_eq_some_iff.mp hy).1
        obtain ⟨wi, hwi⟩ : ∃ wi, ws[i]? = some wi := ⟨ws[i]'(by omega), List.getElem?_eq_getElem (by omega)⟩
        obtain ⟨y', hy', hyw⟩ := WaysAt.at_ _ _ _ _ h3 hwi
        have ey : y = y' := Option.some.inj (hy.symm.trans hy')
        subst ey
        have hsi := W.size_mem hwi
        have ht1 := W.sizes_take ws (i + 1)
        have et : W.sizes (ws.take (i + 1)) = W.sizes (ws.take i) + wi.size := by rw [take_more' hwi, W.sizes_app]; simp only [W.sizes]; omega
        refine ⟨rfl, _, rfl, _, rfl, _, rfl, p, y, wi, n + 1 + 20 * W.sizes (ws.take i), z, G, N, T, rfl, hP', by omega, hg.trans (k2.trans k'), hyw, wfs_get hwf.2 hwi, (k2.trans k').seq hN, hTn, hTl, by omega, by omega, fun u w' H5 hs5 ok5 hv5 k5 hP5 => ?_⟩
        have hD5 := k5.lst hD'
        have up : ∀ b o, b ≠ D → H5 b = some o → (upd H5 D (.lst (us ++ [u]))) b = some o := fun b o nb q => by rw [upd_ne nb]; exact q
        have kA : Keep (over G (nD D (newer H H'))) (over G (nD D (newer H (upd H5 D (.lst (us ++ [u])))))) := over_keep fun b o _ q => by
          obtain ⟨nb, q1⟩ := nD_of q
          obtain ⟨q2, q3⟩ := newer_of q1
          rw [nD_at nb, newer_at q2, upd_ne nb]
          exact k5 b o q3
        have kB : Keep (over G (newer H' H5)) (over G (nD D (newer H (upd H5 D (.lst (us ++ [u])))))) := over_keep fun b o _ q => by
          obtain ⟨q2, q3⟩ := newer_of q
          have nb : b ≠ D := fun q4 => by rw [q4, hD'] at q2; cases q2
          rw [nD_at nb, newer_at ((k2.trans k').free q2), upd_ne nb]
          exact .inl q3
        refine ⟨us, hD5, small' (by omega), us ++ [u], ws' ++ [w'], upd_same, by rw [List.length_append, hl1]; rfl, by rw [List.length_append, hl2]; rfl, ?_, cins_app _ _ hok' ⟨ok5, trivial⟩, ?_, Keep.put hD (k'.trans k5) _, ?_⟩
        · rw [W.sizes_app, et, hsz]; simp only [W.sizes]; omega
        · exact WaysAt.app _ _ (WaysAt.keep kA _ _ hus) ⟨u, [], rfl, WayAt.keep kB _ _ hv5, rfl⟩
        · rw [et]
          exact (PenAt.put hP2 hD hP5 (k'.trans k5) hD5).mono (by omega)
      · rintro H5 ⟨us, ws', hD', hl1, hl2, hsz, hok', hus, k', hP'⟩
        rw [elen, List.take_length] at hsz hP'
        have h15 := k'.tup h1'
        refine ⟨by show 2 ≤ sizeLine; decide, fun t ht => ?_⟩
        have s6 := Same.new ht (.tup [.str (W.row ws).tag, .ref D])
        have kF := k2.trans k'
        have kk : Keep (over G (nD D (newer H H5))) (over G (newer H (upd H5 t (.tup [.str (W.row ws).tag, .ref D])))) := over_keep fun b o _ q => by
          obtain ⟨nb, q1⟩ := nD_of q
          obtain ⟨q2, q3⟩ := newer_of q1
          rw [newer_at q2]
          exact .inl (s6 _ _ q3)
        refine k _ (.row ws') _ (by show 1 + W.sizes ws' = 1 + W.sizes ws; omega) hok' ⟨t, D, us, rfl, ?_, ?_, WaysAt.keep kk _ _ hus⟩ (kF.trans (.of s6)) ((hP'.same s6).mono (by omega))
        · rw [over_new ((hg.trans kF).free ht), newer_at (kF.free ht)]; exact upd_same
        · rw [over_new gD, newer_at hDH]; exact s6 _ _ hD'
    · obtain ⟨a', l, vs, e', h1, h2, h3⟩ := hv
      rename_i ws
      cases e'
      have h1' := k2.tup (hg.tup h1)
      have h2' := k2.lst (hg.lst h2)
      have elen := WaysAt.len _ _ h3
      have hsy : (W.choice ws).size = 1 + W.sizes ws := rfl
      have hll := W.sizes_len ws
      walk_at "rd"
      refine ⟨a, _, _, _, rfl, rfl, SqT.of h1', atI0, ?_⟩
      walk_at "rd"
      refine ⟨a, _, _, _, rfl, rfl, SqT.of h1', atI1, ?_⟩
      refine ⟨l, rfl, ⟨vs, SqL.of h2'⟩, fun D hD => ?_⟩
      have gD : G D = none := (hg.trans k2).free hD
      have hDH : H D = none := k2.free hD
      refine lc_list (K := K) (a := l) (xs := vs) (fun i H' => ∃ us ws', H' D = some (.lst us) ∧ us.length = i ∧ ws'.length = i ∧ W.sizes ws' = W.sizes (ws.take i) ∧ W.cins T ws' ∧ WaysAt (over G (nD D (newer H H'))) us ws' ∧ Keep H2 H' ∧ PenAt K H' p (n + 1 + 20 * W.sizes (ws.take i))) ?_ ?_ ?_ ?_
      · exact ⟨[], [], upd_same, rfl, rfl, rfl, trivial, rfl, .of (Same.new hD _), (hP2.same (Same.new hD _)).mono (by omega)⟩
      · rintro i H' _ ⟨us, ws', _, _, _, _, _, _, k', _⟩
        exact SqL.of (k'.lst h2')
      · rintro i y H' hy ⟨us, ws', hD', hl1, hl2, hsz, hok', hus, k', hP'⟩
        have hi : i < vs.length := (List.getElem?_eq_some_iff.mp hy).1
        obtain ⟨wi, hwi⟩ : ∃ wi, ws[i]? = some wi := ⟨ws[i]'(by omega), List.getElem?_eq_getElem (by omega)⟩
        obtain ⟨y', hy', hyw⟩ := WaysAt.at_ _ _ _ _ h3 hwi
        have ey : y = y' := Option.some.inj (hy.symm.trans hy')
        subst ey
        have hsi := W.size_mem hwi
        have ht1 := W.sizes_take ws (i + 1)
        have et : W.sizes (ws.take (i + 1)) = W.sizes (ws.take i) + wi.size := by rw [take_more' hwi, W.sizes_app]; simp only [W.sizes]; omega
        refine ⟨rfl, _, rfl, _, rfl, _, rfl, p, y, wi, n + 1 + 20 * W.sizes (ws.take i), z, G, N, T, rfl, hP', by omega, hg.trans (k2.trans k'), hyw, wfs_get hwf.2 hwi, (k2.trans k').seq hN, hTn, hTl, by omega, by omega, fun u w' H5 hs5 ok5 hv5 k5 hP5 => ?_⟩
        have hD5 := k5.lst hD'
        have up : ∀ b o, b ≠ D → H5 b = some o → (upd H5 D (.lst (us ++ [u]))) b = some o := fun b o nb q => by rw [upd_ne nb]; exact q
        have kA : Keep (over G (nD D (newer H H'))) (over G (nD D (newer H (upd H5 D (.lst (us ++ [u])))))) := over_keep fun b o _ q => by
          obtain ⟨nb, q1⟩ := nD_of q
          obtain ⟨q2, q3⟩ := newer_of q1
          rw [nD_at nb, newer_at q2, upd_ne nb]
          exact k5 b o q3
        have kB : Keep (over G (newer H' H5)) (over G (nD D (newer H (upd H5 D (.lst (us ++ [u])))))) := over_keep fun b o _ q => by
          obtain ⟨q2, q3⟩ := newer_of q
          have nb : b ≠ D := fun q4 => by rw [q4, hD'] at q2; cases q2
          rw [nD_at nb, newer_at ((k2.trans k').free q2), upd_ne nb]
          exact .inl q3
        refine ⟨us, hD5, small' (by omega), us ++ [u], ws' ++ [w'], upd_same, by rw [List.length_append, hl1]; rfl, by rw [List.length_append, hl2]; rfl, ?_, cins_app _ _ hok' ⟨ok5, trivial⟩, ?_, Keep.put hD (k'.trans k5) _, ?_⟩
        · rw [W.sizes_app, et, hsz]; simp only [W.sizes]; omega
        · exact WaysAt.app _ _ (WaysAt.keep kA _ _ hus) ⟨u, [], rfl, WayAt.keep kB _ _ hv5, rfl⟩
        · rw [et]
          exact (PenAt.put hP2 hD hP5 (k'.trans k5) hD5).mono (by omega)
      · rintro H5 ⟨us, ws', hD', hl1, hl2, hsz, hok', hus, k', hP'⟩
        rw [elen, List.take_length] at hsz hP'
        have h15 := k'.tup h1'
        refine ⟨by show 2 ≤ sizeLine; decide, fun t ht => ?_⟩
        have s6 := Same.new ht (.tup [.str (W.choice ws).tag, .ref D])
        have kF := k2.trans k'
        have kk : Keep (over G (nD D (newer H H5))) (over G (newer H (upd H5 t (.tup [.str (W.choice ws).tag, .ref D])))) := over_keep fun b o _ q => by
          obtain ⟨nb, q1⟩ := nD_of q
          obtain ⟨q2, q3⟩ := newer_of q1
          rw [newer_at q2]
          exact .inl (s6 _ _ q3)
        refine k _ (.choice ws') _ (by show 1 + W.sizes ws' = 1 + W.sizes ws; omega) hok' ⟨t, D, us, rfl, ?_, ?_, WaysAt.keep kk _ _ hus⟩ (kF.trans (.of s6)) ((hP'.same s6).mono (by omega))
        · rw [over_new ((hg.trans kF).free ht), newer_at (kF.free ht)]; exact upd_same
        · rw [over_new gD, newer_at hDH]; exact s6 _ _ hD'
  · walk_at "nx"
    walk_at "rd"
    refine ⟨a, _, _, _, rfl, rfl, SqT.of ha2, atI0, ?_⟩
    refine ⟨by show 4 ≤ sizeLine; decide, fun p3 hp3 => ?_⟩
    have s3 := Same.new hp3 (.lst [.str (Str.ofString "again"), .str (Str.ofString "maybe"), .str (Str.ofString "ahead"), .str (Str.ofString "unless")])
    refine ⟨p3, _, rfl, .inl (SqL.of upd_same), rfl, by decide +kernel, ?_⟩
    rw [if_neg Bool.false_ne_true, in_un]
    have ha3 := s3 _ _ ha2
    have hP3 := hP2.same s3
    have k3 := k2.trans (.of s3)
    generalize upd H2 p3 (.lst [.str (Str.ofString "again"), .str (Str.ofString "maybe"), .str (Str.ofString "ahead"), .str (Str.ofString "unless")]) = H3 at *
    walk_at "rd"
    refine ite2 (fun e2 => ?_) (fun e2 => ?_)
    · cases x <;> first | exact absurd e2 Bool.false_ne_true | skip
      · obtain ⟨a', u, e', h1, hu⟩ := hv
        rename_i y
        cases e'
        have h3 := k3.tup (hg.tup h1)
        have hsy : (W.again y).size = 1 + y.size := rfl
        walk_at "rd"
        refine ⟨a, _, _, _, rfl, rfl, SqT.of h3, atI0, ?_⟩
        walk_at "rd"
        refine ⟨a, _, _, _, rfl, rfl, SqT.of h3, atI1, ?_⟩
        refine ⟨_, rfl, p, u, y, n + 1, z, G, N, T, rfl, hP3, by omega, hg.trans k3, hu, hwf, k3.seq hN, hTn, hTl, by omega, by omega, fun u' y' H4 hs4 ok4 hv4 k4 hP4 => ?_⟩
        refine ⟨by show 2 ≤ sizeLine; decide, fun t ht => ?_⟩
        have s5 := Same.new ht (.tup [.str (W.again y).tag, u'])
        have k5 := k3.trans (k4.trans (.of s5))
        have gt : G t = none := (hg.trans (k3.trans k4)).free ht
        have kk : Keep (over G (newer H3 H4)) (over G (newer H (upd H4 t (.tup [.str (W.again y).tag, u'])))) := over_keep fun b o _ q => by
          obtain ⟨q1, q2⟩ := newer_of q
          rw [newer_at (k3.free q1)]
          exact .inl (s5 _ _ q2)
        exact k _ (.again y') _ (by show 1 + y'.size = 1 + y.size; omega) ok4 ⟨t, u', rfl, by rw [over_new gt, newer_at ((k3.trans k4).free ht)]; exact upd_same, WayAt.keep kk _ _ hv4⟩ k5 ((hP4.same s5).mono (by omega))
      · obtain ⟨a', u, e', h1, hu⟩ := hv
        rename_i y
        cases e'
        have h3 := k3.tup (hg.tup h1)
        have hsy : (W.maybe y).size = 1 + y.size := rfl
        walk_at "rd"
        refine ⟨a, _, _, _, rfl, rfl, SqT.of h3, atI0, ?_⟩
        walk_at "rd"
        refine ⟨a, _, _, _, rfl, rfl, SqT.of h3, atI1, ?_⟩
        refine ⟨_, rfl, p, u, y, n + 1, z, G, N, T, rfl, hP3, by omega, hg.trans k3, hu, hwf, k3.seq hN, hTn, hTl, by omega, by omega, fun u' y' H4 hs4 ok4 hv4 k4 hP4 => ?_⟩
        refine ⟨by show 2 ≤ sizeLine; decide, fun t ht => ?_⟩
        have s5 := Same.new ht (.tup [.str (W.maybe y).tag, u'])
        have k5 := k3.trans (k4.trans (.of s5))
        have gt : G t = none := (hg.trans (k3.trans k4)).free ht
        have kk : Keep (over G (newer H3 H4)) (over G (newer H (upd H4 t (.tup [.str (W.maybe y).tag, u'])))) := over_keep fun b o _ q => by
          obtain ⟨q1, q2⟩ := newer_of q
          rw [newer_at (k3.free q1)]
          exact .inl (s5 _ _ q2)
        exact k _ (.maybe y') _ (by show 1 + y'.size = 1 + y.size; omega) ok4 ⟨t, u', rfl, by rw [over_new gt, newer_at ((k3.trans k4).free ht)]; exact upd_same, WayAt.keep kk _ _ hv4⟩ k5 ((hP4.same s5).mono (by omega))
      · obtain ⟨a', u, e', h1, hu⟩ := hv
        rename_i y
        cases e'
        have h3 := k3.tup (hg.tup h1)
        have hsy : (W.ahead y).size = 1 + y.size := rfl
        walk_at "rd"
        refine ⟨a, _, _, _, rfl, rfl, SqT.of h3, atI0, ?_⟩
        walk_at "rd"
        refine ⟨a, _, _, _, rfl, rfl, SqT.of h3, atI1, ?_⟩
        refine ⟨_, rfl, p, u, y, n + 1, z, G, N, T, rfl, hP3, by omega, hg.trans k3, hu, hwf, k3.seq hN, hTn, hTl, by omega, by omega, fun u' y' H4 hs4 ok4 hv4 k4 hP4 => ?_⟩
        refine ⟨by show 2 ≤ sizeLine; decide, fun t ht => ?_⟩
        have s5 := Same.new ht (.tup [.str (W.ahead y).tag, u'])
        have k5 := k3.trans (k4.trans (.of s5))
        have gt : G t = none := (hg.trans (k3.trans k4)).free ht
        have kk : Keep (over G (newer H3 H4)) (over G (newer H (upd H4 t (.tup [.str (W.ahead y).tag, u'])))) := over_keep fun b o _ q => by
          obtain ⟨q1, q2⟩ := newer_of q
          rw [newer_at (k3.free q1)]
          exact .inl (s5 _ _ q2)
        exact k _ (.ahead y') _ (by show 1 + y'.size = 1 + y.size; omega) ok4 ⟨t, u', rfl, by rw [over_new gt, newer_at ((k3.trans k4).free ht)]; exact upd_same, WayAt.keep kk _ _ hv4⟩ k5 ((hP4.same s5).mono (by omega))
      · obtain ⟨a', u, e', h1, hu⟩ := hv
        rename_i y
        cases e'
        have h3 := k3.tup (hg.tup h1)
        have hsy : (W.unless y).size = 1 + y.size := rfl
        walk_at "rd"
        refine ⟨a, _, _, _, rfl, rfl, SqT.of h3, atI0, ?_⟩
        walk_at "rd"
        refine ⟨a, _, _, _, rfl, rfl, SqT.of h3, atI1, ?_⟩
        refine ⟨_, rfl, p, u, y, n + 1, z, G, N, T, rfl, hP3, by omega, hg.trans k3, hu, hwf, k3.seq hN, hTn, hTl, by omega, by omega, fun u' y' H4 hs4 ok4 hv4 k4 hP4 => ?_⟩
        refine ⟨by show 2 ≤ sizeLine; decide, fun t ht => ?_⟩
        have s5 := Same.new ht (.tup [.str (W.unless y).tag, u'])
        have k5 := k3.trans (k4.trans (.of s5))
        have gt : G t = none := (hg.trans (k3.trans k4)).free ht
        have kk : Keep (over G (newer H3 H4)) (over G (newer H (upd H4 t (.tup [.str (W.unless y).tag, u'])))) := over_keep fun b o _ q => by
          obtain ⟨q1, q2⟩ := newer_of q
          rw [newer_at (k3.free q1)]
          exact .inl (s5 _ _ q2)
        exact k _ (.unless y') _ (by show 1 + y'.size = 1 + y.size; omega) ok4 ⟨t, u', rfl, by rw [over_new gt, newer_at ((k3.trans k4).free ht)]; exact upd_same, WayAt.keep kk _ _ hv4⟩ k5 ((hP4.same s5).mono (by omega))
    · refine ⟨_, rfl, ?_⟩
      refine k _ x _ rfl ?_ (WayAt.keep over_in _ _ hv) k3 (hP3.mono (by omega))
      cases x <;> first | exact absurd rfl e | exact absurd rfl e2 | trivial | exact hwf.elim
theorem d_l_with_calls (h : Here K mg "_law_with_calls" s_l_with_calls ["_law_pen_here", "_law_way_here", "_law_names"]) (B : Bs mg) (G_l_draw : DefOk P w K mg base 1 "_law_draw" ["_law_pen_here", "_law_many"] (spDraw K)) (G_l_pick : DefOk P w K mg base 2 "_law_pick" ["_law_pen_here", "_law_items"] (spPick K)) : ∀ s, DefOk P w K mg base (3 + s) "_law_with_calls" ["_law_pen_here", "_law_way_here", "_law_names"] (spCallsN K s)
  | 0 => by
    obtain ⟨f, fd, F, m, b⟩ := h.ex
    exact ⟨f, fd, m, F.kp, b, none_calls⟩
  | s + 1 => step_l_with_calls s h B G_l_draw G_l_pick (d_l_with_calls h B G_l_draw G_l_pick s)
end
end Bk
namespace Bk
open PySem PySem.Spec PyProof.Rows L2 Wv Ws
/-! ### the law's rules -/
/-- a heap without two places -/
def cut2 (H : Hp) (F N : Addr) : Hp := fun a => if a = F ∨ a = N then none else H a
theorem cut2_at {H : Hp} {F N a : Addr} (h1 : a ≠ F) (h2 : a ≠ N) : cut2 H F N a = H a := if_neg fun h => h.elim h1 h2
theorem cut2_of {H : Hp} {F N a : Addr} {o : HO} (h : cut2 H F N a = some o) : a ≠ F ∧ a ≠ N ∧ H a = some o := by
  unfold cut2 at h
  split at h
  · cases h
  · rename_i n
    exact ⟨fun e => n (.inl e), fun e => n (.inr e), h⟩
theorem cut2_le {H : Hp} {F N : Addr} : Keep (cut2 H F N) H := fun a o h => .inl (cut2_of h).2.2
theorem cut2_keep {H H' : Hp} {F N : Addr} (k : ∀ a o, a ≠ F → a ≠ N → H a = some o → H' a = some o ∨ Moves o (H' a)) : Keep (cut2 H F N) (cut2 H' F N) := fun a o h => by
  obtain ⟨h1, h2, h3⟩ := cut2_of h
  rw [cut2_at h1 h2]
  exact k a o h1 h2 h3
theorem badR_ok {T : List Str} {n : Str} {w : W} (h : n ∉ T) (c : W.cin T w) : badR T n w = none := by
  unfold badR
  rw [if_neg h]
  exact cin_bad w c
theorem bookE_snoc : ∀ (rs : List (Str × W)) (T : List Str) (n : Str) (w : W), bookE T rs = none → badR (T ++ rs.map (·.1)) n w = none → bookE T (rs ++ [(n, w)]) = none
  | [], T, n, w, _, h => by
    rw [List.map_nil, List.append_nil] at h
    rw [List.nil_append, bookE, h]; rfl
  | (m, u) :: rs, T, n, w, h, h2 => by
    rw [bookE] at h
    cases hb : badR T m u with
    | some x => rw [hb] at h; cases h
    | none =>
      rw [hb] at h
      rw [List.cons_append, bookE, hb]
      exact bookE_snoc rs (T ++ [m]) n w h (by rw [List.append_assoc]; exact h2)
def spRules (K : PySem.W.Frag) : Sp := fun vs H Q _ => ∃ (p : Pen) (z : List Nat) (m n : Nat), vs = [.ref p.d, .str (tx z), .int (m : Int)] ∧ PenAt K H p n ∧ n + 1000 * m + 1000 < LIM ∧ 0 < z.length ∧ z.length ≤ 100 ∧ Az z ∧ m ≤ 30 ∧
  ∀ (q : Addr) (us : List V) (rs : List (Str × W)) (H' : Hp), Keep H H' → PenAt K H' p (n + 1000 * m) → H' q = some (.lst us) → RulesAt H' us rs → rs.length ≤ m → (∀ x ∈ rs, x.2.size ≤ 30 ∧ NmOk x.1) → bookE [] rs = none → Q (.ref q) H'
section
variable {P : Program} {w : World} {K : PySem.W.Frag} {mg : Str → Option Value} {base : Heap}
abbrev s_l_rules : Stmt := top 64
theorem sc_l_rules : FnScope ["_law_pen_here", "_law_signs_here", "_law_many", "_law_found", "_law_names", "_law_turn", "_law_name_here"] ["_law_pen_here", "_law_signs_here", "_law_many"] (defScope s_l_rules) := ⟨rfl, rfl, rfl, by decide +kernel, rfl, by decide +kernel, by decide +kernel⟩
theorem d_l_rules (h : Here K mg "_law_rules" s_l_rules ["_law_pen_here", "_law_signs_here", "_law_many"]) (B : Bs mg) (G_l_name : DefOk P w K mg base 3 "_law_name" ["_law_pen_here"] (spNm K)) (G_l_way : DefOk P w K mg base 34 "_law_way" ["_law_pen_here", "_law_signs_here", "_law_most"] (Wv.spWay K)) (G_l_with_calls : DefOk P w K mg base 33 "_law_with_calls" ["_law_pen_here", "_law_way_here", "_law_names"] (spCallsN K 30)) :
    DefOk P w K mg base 35 "_law_rules" ["_law_pen_here", "_law_signs_here", "_law_many"] (spRules K) := by
  have B_range := B.range
  refine h.ok sc_l_rules (fun vs H Q E h => by obtain ⟨_, _, _, _, rfl, _⟩ := h; rfl) (fun f cdv A outer s' H vs Q E hr h => ?_)
  obtain ⟨p, z, m, n, rfl, hP, hn, hz0, hz1, hza, hm, k⟩ := h
  refine ⟨_, (pss_cons (ps_par (i := 3) (j := 4) rfl sc_l_rules.nd rfl rfl (by decide) rfl rfl (pa_cons (pe_lst pa_nil) (pa_cons (pe_lst pa_nil) pa_nil)) (by rfl))
  (pss_cons (ps_for PassesOwn.never rfl (pi_range1 rfl B_range (pa_cons (pv 2) pa_nil)) (pg_name (i := 5) sc_l_rules.nd rfl (Or.inl rfl))
   (pss_cons (ps_set (i := 6) sc_l_rules.nd rfl (Or.inl rfl) (pe_callD G_l_name (hr.mono (by first | decide | omega)) rfl (pa_cons (pv 0) pa_nil)))
  (pss_one (ps_if (pt_cmpR op_notIn_seq (pv 6) (pv 4) (by rfl)) (pss_cons (ps_expr (pe_bm PySem.F.plainAttrs_list PySem.F.slot_list_append PySem.F.type_list_append mt_append (pv 3) (pa_cons (pe_tup (pa_cons (pv 6) (pa_cons (pe_callD G_l_with_calls (hr.mono (by first | decide | omega)) rfl (pa_cons (pv 0) (pa_cons (pe_callD G_l_way (hr.mono (by first | decide | omega)) rfl (pa_cons (pv 0) (pa_cons (pv 1) (pa_cons pe_int pa_nil)))) (pa_cons (pv 4) pa_nil)))) pa_nil))) pa_nil)))
  (pss_one (ps_expr (pe_bm PySem.F.plainAttrs_list PySem.F.slot_list_append PySem.F.type_list_append mt_append (pv 4) (pa_cons (pv 6) pa_nil))))) pss_nil))))
  (pss_one (ps_ret (pv 3))))), ?_⟩
  refine ⟨Nat.zero_le _, fun F hF => ⟨Nat.zero_le _, fun N hN => ?_⟩⟩
  have s1 := (Same.new hF (.lst [])).trans (Same.new hN (.lst []))
  have nFN : F ≠ N := ne_of_none upd_same hN
  have hNH : H N = none := by rw [upd_ne nFN.symm] at hN; exact hN
  have hF1 : upd (upd H F (.lst [])) N (.lst []) F = some (.lst []) := by rw [upd_ne nFN]; exact upd_same
  have hN1 : upd (upd H F (.lst [])) N (.lst []) N = some (.lst []) := upd_same
  generalize upd (upd H F (.lst [])) N (.lst []) = H1 at *
  refine ⟨_, _, rfl, ?_⟩
  walk_at "nx"
  refine ⟨_, rfl, (m : Int), rfl, by omega, by omega, ?_⟩
  refine for_range (lo := 0) (n := (m : Int).toNat) (fun i σ H' => ∃ (us : List V) (rs : List (Str × W)) (x5 x6 : Option V), σ = [some (.ref p.d), some (.str (tx z)), some (.int (m : Int)), some (.ref F), some (.ref N), x5, x6] ∧ H' F = some (.lst us) ∧ H' N = some (.lst ((rs.map (·.1)).map V.str)) ∧
    RulesAt (cut2 H' F N) us rs ∧ Keep H H' ∧ PenAt K H' p (n + 1000 * i) ∧ rs.length ≤ i ∧ (∀ x ∈ rs, x.2.size ≤ 30 ∧ NmOk x.1) ∧ bookE [] rs = none) ?_ ?_ ?_
  · exact ⟨[], [], none, none, rfl, hF1, hN1, rfl, .of s1, hP.same s1, Nat.le_refl _, (fun _ h => absurd h List.not_mem_nil), rfl⟩
  · rintro i σ H2 hi ⟨us, rs, x5, x6, rfl, hF2, hN2, hus, k2, hP2, hri, hok, hbe⟩
    have hi' : i < m := by omega
    have hTl : (rs.map (·.1)).length ≤ 1000 := by rw [List.length_map]; omega
    have hTn : ∀ x ∈ rs.map (·.1), NmOk x := fun x hx => by
      obtain ⟨y, hy, rfl⟩ := List.mem_map.mp hx
      exact (hok y hy).2
    walk_at "nx"
    refine ⟨_, rfl, p, n + 1000 * i, rfl, hP2, by omega, fun nm H3 hnm k3 hP3 => ?_⟩
    walk_at "nx"
    have hN3 := k3.lst hN2
    have hF3 := k3.lst hF2
    refine ⟨_, rfl, _, rfl, N, _, rfl, .inl (SqL.of hN3), rfl, flat_names _, _, rfl, ?_⟩
    rw [if_pos rfl, inV_names]
    by_cases hin : nm ∈ rs.map (·.1)
    · rw [decide_eq_true hin]
      refine iteF ?_
      walk_at "nx"
      exact ⟨us, rs, _, _, rfl, hF3, hN3, RulesAt.keep (cut2_keep fun a o _ _ e => k3 a o e) _ _ hus, k2.trans k3, hP3.mono (by omega), by omega, hok, hbe⟩
    rw [decide_eq_false hin]
    refine iteT ?_
    walk_at "nx"
    refine ⟨_, rfl, .inl ⟨rfl, _, SqL.of hF3⟩, _, rfl, _, rfl, _, rfl, _, rfl, p, z, 8, _, rfl, hP3, by omega, hz0, hz1, hza, by decide, by decide, fun v y H4 hy hwf hv k4 hP4 => ?_⟩
    have k34 := k3.trans k4
    refine ⟨_, rfl, p, v, y, _, z, newer H3 H4, N, rs.map (·.1), rfl, hP4, by omega, newer_le, hv, hwf, k4.seq (SqL.of hN3), hTn, hTl, by omega, by omega, fun u w' H5 hs5 hc5 hv5 k5 hP5 => ?_⟩
    refine ⟨by show 2 ≤ sizeLine; decide, fun r hr => ?_⟩
    have k35 := k4.trans k5
    have hF5 := k35.lst hF3
    have hN5 := k35.lst hN3
    have nrF : r ≠ F := (ne_of_none hF5 hr).symm
    have nrN : r ≠ N := (ne_of_none hN5 hr).symm
    have s6 := Same.new hr (.tup [.str nm, u])
    have hr6 : upd H5 r (.tup [.str nm, u]) r = some (.tup [.str nm, u]) := upd_same
    have hF6 := s6 _ _ hF5
    have hN6 := s6 _ _ hN5
    have hP6 := hP5.same s6
    have k36 := k35.trans (.of s6)
    -- the new way lies beside both lists
    have kv : Keep (over (newer H3 H4) (newer H4 H5)) (cut2 (upd H5 r (.tup [.str nm, u])) F N) := fun a o e => by
      by_cases q : newer H3 H4 a = none
      · rw [over_new q] at e
        obtain ⟨e1, e2⟩ := newer_of e
        have nF : a ≠ F := fun q2 => by rw [q2, k4.lst hF3] at e1; cases e1
        have nN : a ≠ N := fun q2 => by rw [q2, k4.lst hN3] at e1; cases e1
        rw [cut2_at nF nN]
        exact .inl (s6 _ _ e2)
      · cases q1 : newer H3 H4 a with
        | none => exact absurd q1 q
        | some o' =>
          have e' : o' = o := Option.some.inj ((over_old q1).symm.trans e)
          subst e'
          obtain ⟨e1, e2⟩ := newer_of q1
          have nF : a ≠ F := fun q2 => by rw [q2, hF3] at e1; cases e1
          have nN : a ≠ N := fun q2 => by rw [q2, hN3] at e1; cases e1
          rw [cut2_at nF nN]
          rcases k5 a _ e2 with z1 | ⟨kvs, kvs', ⟨z1, z2⟩, z3⟩
          · exact .inl (s6 _ _ z1)
          · exact .inr ⟨kvs, kvs', ⟨z1, s6 _ _ z2⟩, z3⟩
    have hv6 := WayAt.keep kv _ _ hv5
    have hus6 := RulesAt.keep (cut2_keep (H := H2) (H' := upd H5 r (.tup [.str nm, u])) (F := F) (N := N) fun a o _ _ e => (k3.trans k36) a o e) _ _ hus
    have hrc : cut2 (upd H5 r (.tup [.str nm, u])) F N r = some (.tup [.str nm, u]) := by rw [cut2_at nrF nrN]; exact hr6
    generalize upd H5 r (.tup [.str nm, u]) = H6 at *
    have hlu := RulesAt.len _ _ hus
    refine ⟨F, _, _, rfl, rfl, hF6, small' (by omega), ?_⟩
    walk_at "nx"
    have e7 : cut2 (upd H6 F (.lst (us ++ [.ref r]))) F N = cut2 H6 F N := funext fun a => by
      unfold cut2
      by_cases q : a = F ∨ a = N
      · rw [if_pos q, if_pos q]
      · rw [if_neg q, if_neg q, upd_ne fun e => q (.inl e)]
    have hF7 : upd H6 F (.lst (us ++ [.ref r])) F = some (.lst (us ++ [.ref r])) := upd_same
    have hN7 : upd H6 F (.lst (us ++ [.ref r])) N = some (.lst ((rs.map (·.1)).map V.str)) := by rw [upd_ne nFN.symm]; exact hN6
    have kH6 := (k2.trans k3).trans k36
    have hP7 : PenAt K (upd H6 F (.lst (us ++ [.ref r]))) p _ := PenAt.put hP hF hP6 kH6 hF6
    have kH7 : Keep H (upd H6 F (.lst (us ++ [.ref r]))) := Keep.put hF kH6 _
    generalize upd H6 F (.lst (us ++ [.ref r])) = H7 at *
    refine ⟨_, rfl, .inl ⟨rfl, _, SqL.of hN7⟩, _, rfl, N, _, _, rfl, rfl, hN7, small' (by rw [List.length_map]; omega), ?_⟩
    walk_at "nx"
    have e8 : cut2 (upd H7 N (.lst ((rs.map (·.1)).map V.str ++ [.str nm]))) F N = cut2 H6 F N := (funext fun a => by
      unfold cut2
      by_cases q : a = F ∨ a = N
      · rw [if_pos q, if_pos q]
      · rw [if_neg q, if_neg q, upd_ne fun e => q (.inr e)]).trans e7
    refine ⟨us ++ [.ref r], rs ++ [(nm, w')], _, _, rfl, by rw [upd_ne nFN]; exact hF7, ?_, ?_, Keep.put hNH kH7 _, (PenAt.put hP hNH hP7 kH7 hN7).mono (by omega), by rw [List.length_append, List.length_singleton]; omega, fun x hx => ?_, bookE_snoc _ _ _ _ hbe (badR_ok (by simpa using hin) (by simpa using hc5))⟩
    · rw [upd_same, List.map_append, List.map_append]
      rfl
    · rw [e8]
      exact RulesAt.app _ _ hus6 ⟨r, u, [], rfl, hrc, hv6, rfl⟩
    · rcases List.mem_append.mp hx with q | q
      · exact hok x q
      · have e : x = (nm, w') := by simpa using q
        subst e
        exact ⟨by show w'.size ≤ 30; omega, hnm⟩
  · rintro σ H2 ⟨us, rs, x5, x6, rfl, hF2, hN2, hus, k2, hP2, hri, hok, hbe⟩
    walk_at "nx"
    refine ⟨_, rfl, ?_⟩
    exact k F us rs H2 k2 (hP2.mono (by omega)) hF2 (RulesAt.keep cut2_le _ _ hus) (by omega) hok hbe
end
end Bk
/-! `x in o`, `x not in o`, `o[x]` by the text's own methods -/
namespace Bo
open PySem PySem.Spec PyProof.Rows L2 Wv Bk
/-- a method of the class at C under the special name m -/
structure SpC (CXx : CXT) (P : Program) (w : World) (K : PySem.W.Frag) (mg : Str → Option Value) (base : Heap) (C : Addr) (m : Str) (n : Nat) (sp : Sp) : Prop where
  ex : ∃ (f : Addr) (fd : FuncData) (ps : List Str), FnOk P w K mg base CXx n f fd ps sp ∧ PySem.W.findIn K (.ref C) m = some (some (.ref f)) ∧ PySem.W.isFn K (.ref f) = true ∧ PySem.W.fnIn K f = true ∧ Binds K fd ps []
section
variable {X : Cx} {C : Addr} {n : Nat} {sp : Sp} {CXx : CXT}
/-- what stands behind a call of it in the frames around -/
theorem SpC.run {A : Around} {f : Addr} {fd : FuncData} {ps : List Str} (F : FnOk X.prog X.w X.K X.mg X.base CXx n f fd ps sp) (hb : Binds X.K fd ps []) {E : XK} (hx : Passes CXx X E) {pins : List (Addr × Obj)} {s : Shared} {σ : L2.St} {H : Hp} {us : List Value} {vs : List V} {Q : VK}
    (I : Inv X pins σ H s) (hr : Room n A) (e0 : Env0 X.prog X.w X.K X.mg X.base A X.stack s H) (r : Vals vs us) (h : sp vs H Q E) : wpAny (model X.prog X.w) A (call (.ref f) us) (EP X pins σ Q) X.xe s := by
  have hl : us.length = ps.length := by rw [← r.length]; exact F.len _ _ _ _ h
  refine wpAny_call (codeAny_mono (F.run A X.stack s H ⟨us, []⟩ us vs Q E hr e0 (by
    have q := hb s us I.kIn (by simpa using hl)
    simpa using q) r h) fun r s' hq => ?_)
  cases r with
  | error e => exact hx pins σ H s e s' I hq
  | ok fl =>
    cases fl with
    | ret u => exact I.after hq
    | next => exact False.elim hq
    | brk => exact False.elim hq
    | cont => exact False.elim hq
/-- o[x] -/
def tGetC (C : Addr) (sp : Sp) (E : XK) (ta tb : TE) : TE := tOp (fun x y H Q => ∃ (a d : Addr) (fs : List (Str × V)), x = .ref a ∧ H a = some (.ins C d fs) ∧ sp [.ref a, y] H Q E) ta tb
theorem pe_getC {a b : Expr} {ta tb : TE} {pos : Pos} {E : XK} (G : SpC CXx X.prog X.w X.K X.mg X.base C "__getitem__" n sp) (hr : Room (n + 1) X.A) (hx : Passes CXx X E) (ha : PE X a ta) (hb : PE X b tb)
    (hs : ∀ o i, subscripted b true o i = runValue (.builtin "lifetime.subscript" ⟨[o, i], []⟩) := by intros; with_unfolding_all rfl) : PE X (.Subscript a b pos) (tGetC C sp E ta tb) := by
  obtain ⟨f, fd, ps, F, hf1, hf2, hf3, hbd⟩ := G.ex
  refine ⟨fun pins s σ H Q I h => ?_⟩
  refine Subscript_ (binT ha hb I h fun v u s2 x y H2 I2 rx ry q => ?_)
  obtain ⟨o, d, fs, rfl, ho, hsp⟩ := q
  cases rx
  obtain ⟨mA, J, _⟩ := ins_get I2.hok ho
  obtain ⟨od, J, _⟩ := J.look
  obtain ⟨m, hF⟩ := I2.fr
  exact PySem.W.sub_K hF I2.ok.mod.kin J hf1 hf3 hf2 (SpC.run F hbd hx I2 hr.in1 (I2.env0.in1) (show Vals [V.ref o, y] [Value.ref o, u] from .cons rfl (.cons ry .nil)) hsp) (hs _ _)
/-- x in o, x not in o -/
def rHasC (C : Addr) (sp : Sp) (g : Bool → Bool) : R2 := fun x y H Q => ∃ (a d : Addr) (fs : List (Str × V)), y = .ref a ∧ H a = some (.ins C d fs) ∧ sp [.ref a, x] H (fun z H' => ∃ k, z = .bl k ∧ Q (.bl (g k)) H') E0
theorem has_call (G : SpC CX0 X.prog X.w X.K X.mg X.base C "__contains__" n sp) (hr : Room n X.A) {g : Bool → Bool} {pins : List (Addr × Obj)} {s : Shared} {σ : L2.St} {H : Hp} {x y : V} {v u : Value} {Q : VK}
    (I : Inv X pins σ H s) (rx : RelV x v) (ry : RelV y u) (h : rHasC C sp g x y H Q) : ∃ (a f : Addr) (ox : Obj) (od : Option Obj) (m : Str → Option Value), u = .ref a ∧ Fr X.base X.env.locals s.heap m ∧ PySem.W.InstAt s.heap a ox C od ∧
      PySem.W.findIn X.K (.ref C) "__contains__" = some (some (.ref f)) ∧ PySem.W.isFn X.K (.ref f) = true ∧
      wpAny (model X.prog X.w) X.A (call (.ref f) [.ref a, v]) (fun r s' => wpAny (model X.prog X.w) X.A (truthy r) (fun b s' => EP X pins σ Q (.bool (g b)) s') X.xe s') X.xe s := by
  obtain ⟨f, fd, ps, F, hf1, hf2, hf3, hbd⟩ := G.ex
  obtain ⟨a, d, fs, rfl, ha, hsp⟩ := h
  cases ry
  obtain ⟨mA, J, _⟩ := ins_get I.hok ha
  obtain ⟨od, J, _⟩ := J.look
  obtain ⟨m, hF⟩ := I.fr
  refine ⟨a, f, _, _, m, rfl, hF, J, hf1, hf2, wpAny_mono (SpC.run F hbd pass0 I hr I.env0 (show Vals [V.ref a, x] [Value.ref a, v] from .cons rfl (.cons rx .nil)) hsp) (fun r s' hq => ?_) fun _ _ x => x⟩
  obtain ⟨z, H', I', rz, k, rfl, q⟩ := hq
  cases rz
  exact wpAny_truthy_bool ⟨.bl (g k), H', I', rfl, q⟩
theorem op_inC (G : SpC CX0 X.prog X.w X.K X.mg X.base C "__contains__" n sp) (hr : Room n X.A) : OpR X (compareOp .In) (rHasC C sp fun b => b) := by
  intro pins s σ H x y v u Q I rx ry hq
  obtain ⟨a, f, ox, od, m, rfl, hF, J, hf1, hf2, h⟩ := has_call G hr I rx ry hq
  exact PySem.W.in_K hF I.ok.mod.kin J hf1 hf2 h
theorem op_notInC (G : SpC CX0 X.prog X.w X.K X.mg X.base C "__contains__" n sp) (hr : Room n X.A) : OpR X (compareOp .NotIn) (rHasC C sp fun b => !b) := by
  intro pins s σ H x y v u Q I rx ry hq
  obtain ⟨a, f, ox, od, m, rfl, hF, J, hf1, hf2, h⟩ := has_call G hr I rx ry hq
  exact PySem.W.notIn_K hF I.ok.mod.kin J hf1 hf2 h
end
end Bo
namespace Bo
open PySem PySem.Spec PyProof.Rows L2 Wv Bk
/-! ### what a book holds -/
def szOf (T : List (Str × Nat)) (x : Str) : Option Nat := (T.find? fun p => decide (p.1 = x)).map (·.2)
def partZ (T : List (Str × Nat)) : W → Nat
  | .call x => (szOf T x).getD 0
  | _ => 1
def sz1 (T : List (Str × Nat)) (w : W) : Nat := (w.parts.map (partZ T)).sum
def sizesOf (rs : List (Str × W)) : List (Str × Nat) := rs.foldl (fun T r => T ++ [(r.1, sz1 T r.2)]) []
def wayOf (rs : List (Str × W)) (x : Str) : Option W := (rs.find? fun r => decide (r.1 = x)).map (·.2)
theorem sizes_snoc (rs : List (Str × W)) (n : Str) (w : W) : sizesOf (rs ++ [(n, w)]) = sizesOf rs ++ [(n, sz1 (sizesOf rs) w)] := by
  unfold sizesOf
  rw [List.foldl_append]
  rfl
theorem sizes_names : ∀ (rs : List (Str × W)) (T : List (Str × Nat)), (rs.foldl (fun T r => T ++ [(r.1, sz1 T r.2)]) T).map (·.1) = T.map (·.1) ++ rs.map (·.1)
  | [], T => by simp
  | r :: rs, T => by
    rw [List.foldl_cons, sizes_names rs, List.map_append, List.map_cons, List.append_assoc]
    rfl
theorem sizesOf_names (rs : List (Str × W)) : (sizesOf rs).map (·.1) = rs.map (·.1) := by
  unfold sizesOf
  rw [sizes_names]
  rfl
def szK (T : List (Str × Nat)) : List (Key × V) := T.map fun p => (kS p.1, .int (p.2 : Nat))
theorem kS_inj (x n : Str) : (kS x = kS n) ↔ (x = n) := ⟨fun e => by injection e, fun e => by rw [e]⟩
theorem valV_sz (x : Str) : ∀ T : List (Str × Nat), valV (szK T) (kS x) = (szOf T x).map fun z => V.int (z : Nat)
  | [] => rfl
  | p :: T => by
    unfold szK szOf
    rw [List.map_cons, List.find?_cons]
    by_cases e : p.1 = x
    · rw [valV_pos (by show kS p.1 = kS x; rw [e]), decide_eq_true e]
      rfl
    · rw [valV_neg (by show ¬ kS p.1 = kS x; rw [kS_inj]; exact e), decide_eq_false e]
      exact valV_sz x T
theorem szOf_some {T : List (Str × Nat)} {x : Str} (h : x ∈ T.map (·.1)) : ∃ z, szOf T x = some z := by
  unfold szOf
  obtain ⟨p, hp, rfl⟩ := List.mem_map.mp h
  cases e : T.find? fun q => decide (q.1 = p.1) with
  | none => exact absurd (List.find?_eq_none.mp e p hp) (by simp)
  | some q => exact ⟨_, rfl⟩
/-- the table of a book -/
def TabAt (c : Cs) (H : Hp) : List (Key × V) → List (Str × W) → Prop
  | kt, [] => kt = []
  | kt, (n, w) :: rs => ∃ v r, kt = (kS n, v) :: r ∧ ObjAt c H v w ∧ TabAt c H r rs
theorem TabAt.keep {c : Cs} {H H' : Hp} (k : Still H H') : ∀ (rs : List (Str × W)) (kt : List (Key × V)), TabAt c H kt rs → TabAt c H' kt rs
  | [], _, h => h
  | (n, w) :: rs, kt, ⟨v, r, e, hv, h⟩ => ⟨v, r, e, ObjAt.keep k _ _ hv, TabAt.keep k rs r h⟩
theorem TabAt.app {c : Cs} {H : Hp} {n : Str} {w : W} {v : V} (hv : ObjAt c H v w) : ∀ (rs : List (Str × W)) (kt : List (Key × V)), TabAt c H kt rs → TabAt c H (kt ++ [(kS n, v)]) (rs ++ [(n, w)])
  | [], kt, h => by rw [show kt = [] from h]; exact ⟨v, [], rfl, hv, rfl⟩
  | (m, u) :: rs, kt, ⟨v', r, e, hv', h⟩ => by rw [e]; exact ⟨v', r ++ [(kS n, v)], rfl, hv', TabAt.app hv rs r h⟩
theorem TabAt.len {c : Cs} {H : Hp} : ∀ (rs : List (Str × W)) (kt : List (Key × V)), TabAt c H kt rs → kt.length = rs.length
  | [], kt, h => by rw [show kt = [] from h]; rfl
  | (n, w) :: rs, kt, ⟨v, r, e, _, h⟩ => by rw [e, List.length_cons, List.length_cons, TabAt.len rs r h]
theorem TabAt.get {c : Cs} {H : Hp} (x : Str) : ∀ (rs : List (Str × W)) (kt : List (Key × V)), TabAt c H kt rs → (valV kt (kS x) = none ∧ wayOf rs x = none) ∨ ∃ v w, valV kt (kS x) = some v ∧ wayOf rs x = some w ∧ ObjAt c H v w
  | [], kt, h => by rw [show kt = [] from h]; exact .inl ⟨rfl, rfl⟩
  | (n, w) :: rs, kt, ⟨v, r, e, hv, h⟩ => by
    subst e
    unfold wayOf
    rw [List.find?_cons]
    by_cases q : n = x
    · rw [valV_pos (by show kS n = kS x; rw [q]), decide_eq_true q]
      exact .inr ⟨v, w, rfl, rfl, hv⟩
    · rw [valV_neg (by show ¬ kS n = kS x; rw [kS_inj]; exact q), decide_eq_false q]
      exact TabAt.get x rs r h
theorem wayOf_some {rs : List (Str × W)} {x : Str} : (wayOf rs x).isSome = decide (x ∈ rs.map (·.1)) := by
  unfold wayOf
  rw [Option.isSome_map, Bool.eq_iff_iff, List.find?_isSome, decide_eq_true_iff, List.mem_map]
  constructor
  · rintro ⟨r, hr, e⟩; exact ⟨r, hr, of_decide_eq_true e⟩
  · rintro ⟨r, hr, e⟩; exact ⟨r, hr, decide_eq_true e⟩
theorem TabAt.has {c : Cs} {H : Hp} {rs : List (Str × W)} {kt : List (Key × V)} (h : TabAt c H kt rs) (x : Str) : (valV kt (kS x)).isSome = decide (x ∈ rs.map (·.1)) := by
  rw [← wayOf_some]
  rcases TabAt.get x rs kt h with ⟨e1, e2⟩ | ⟨v, w, e1, e2, _⟩
  · rw [e1, e2]; rfl
  · rw [e1, e2]; rfl
/-- the dicts of a book with these rules -/
structure DcR (c : Cs) (H : Hp) (tb sz : Addr) (rs : List (Str × W)) : Prop where
  ne : tb ≠ sz
  a : ∃ kt, H tb = some (.dK kt) ∧ TabAt c H kt rs
  b : H sz = some (.dK (szK (sizesOf rs)))
theorem DcR.same {c : Cs} {H H' : Hp} {tb sz : Addr} {rs : List (Str × W)} (d : DcR c H tb sz rs) (s : Same H H') : DcR c H' tb sz rs := by
  obtain ⟨kt, h1, h2⟩ := d.a
  exact ⟨d.ne, ⟨kt, s _ _ h1, TabAt.keep (stillS s) _ _ h2⟩, s _ _ d.b⟩
/-- no name is that of a pen's first cell -/
def Plain (rs : List (Str × W)) : Prop := ∀ r ∈ rs, r.1 ≠ Str.ofString "cells"
theorem DcR.keep {c : Cs} {H H' : Hp} {tb sz : Addr} {rs : List (Str × W)} (d : DcR c H tb sz rs) (p : Plain rs) (k : Keep H H') : DcR c H' tb sz rs := by
  obtain ⟨kt, h1, h2⟩ := d.a
  refine ⟨d.ne, ⟨kt, k.dict h1 fun ⟨v, r, e⟩ => ?_, TabAt.keep k.still _ _ h2⟩, k.dict d.b fun ⟨v, r, e⟩ => ?_⟩
  · cases rs with
    | nil => rw [show kt = [] from h2] at e; cases e
    | cons x rs =>
      obtain ⟨v', r', e', _⟩ := h2
      rw [e'] at e
      injection e with e _
      injection e with e _
      injection e with e
      exact p x List.mem_cons_self e
  · have q := sizesOf_names rs
    cases hT : sizesOf rs with
    | nil => rw [hT] at e; cases e
    | cons y T =>
      rw [hT] at e q
      cases rs with
      | nil => cases q
      | cons x rs =>
        have e1 : y.1 = x.1 := by injection q
        have e2 : kS y.1 = (.inr (Str.ofString "cells") : Key) := by
          have : (kS y.1, V.int (y.2 : Nat)) :: szK T = (.inr (Str.ofString "cells"), v) :: r := e
          injection this with this _
          injection this
        injection e2 with e2
        exact p x List.mem_cons_self (e1.symm.trans e2)
/-- a book -/
def BookAt (c : Cs) (C : Addr) (H : Hp) (b : Addr) (rs : List (Str × W)) : Prop := ∃ (dx t tb sz : Addr) (ts : List V), H b = some (.ins C dx (bkF t tb sz)) ∧ H t = some (.tup ts) ∧ PairsAt c H ts rs ∧ DcR c H tb sz rs
theorem BookAt.same {c : Cs} {C : Addr} {H H' : Hp} {b : Addr} {rs : List (Str × W)} (h : BookAt c C H b rs) (s : Same H H') : BookAt c C H' b rs := by
  obtain ⟨dx, t, tb, sz, ts, h1, h2, h3, h4⟩ := h
  exact ⟨dx, t, tb, sz, ts, s _ _ h1, s _ _ h2, PairsAt.keep (stillS s) _ _ h3, h4.same s⟩
theorem BookAt.keep {c : Cs} {C : Addr} {H H' : Hp} {b : Addr} {rs : List (Str × W)} (h : BookAt c C H b rs) (p : Plain rs) (k : Keep H H') : BookAt c C H' b rs := by
  obtain ⟨dx, t, tb, sz, ts, h1, h2, h3, h4⟩ := h
  exact ⟨dx, t, tb, sz, ts, k.ins h1, k.tup h2, PairsAt.keep k.still _ _ h3, h4.keep p k⟩
end Bo
namespace Bo
open PySem PySem.Spec PyProof.Rows L2 Wv Bk
/-! ### a rule noted, a book made: with what it holds -/
def spAdd2 (c : Cs) (C BN : Addr) : Sp := fun vs H Q E => ∃ (b dx t tb sz : Addr) (n : Str) (v : V) (w : W) (rs : List (Str × W)) (H0 : Hp), vs = [.ref b, .str n, v] ∧ H b = some (.ins C dx (bkF t tb sz)) ∧ DcR c H tb sz rs ∧ rs.length ≤ 1000 ∧ ObjAt c H v w ∧ w.size ≤ 1000 ∧
  Same H0 H ∧ H0 tb = none ∧ H0 sz = none ∧ (badR (rs.map (·.1)) n w = none → ∀ H', H' b = some (.ins C dx (bkF t tb sz)) → DcR c H' tb sz (rs ++ [(n, w)]) → Still H H' → Same H0 H' → Q .non H') ∧
  ∀ x, badR (rs.map (·.1)) n w = some x → ∀ (d : Addr) (H' : Hp), Same H0 H' → H' d = some (.xd [(sName, .str x)]) → E (.ref BN) (some d) H'
section
variable {P : Program} {w : World} {K : PySem.W.Frag} {mg : Str → Option Value} {base : Heap} {c : Cs} {C BN : Addr}
abbrev s_Book_add_rule : Stmt := inClass (top 48) 1
theorem sc_Book_add_rule : FnScope ["self", "name", "way", "size", "part"] ["self", "name", "way"] (defScope s_Book_add_rule) := ⟨rfl, rfl, rfl, by decide +kernel, rfl, by decide +kernel, by decide +kernel⟩
theorem ok_add {f : Addr} {fd : FuncData} (F : Fun K "add_rule" "Book.add_rule" s_Book_add_rule f fd) (Tb : BkF K C) (A0 : AllF K mg c) (B : Bs mg) (G_BadName : ExOk P w K mg base 1 "BadName" BN ["self", "name"] (spBad BN))
    (G_parts_of : DefOk P w K mg base 2 "parts_of" ["way"] (spParts c)) : FnOk P w K mg base (L2.CX P w) 4 f fd ["self", "name", "way"] (spAdd2 c C BN) := by
  have B_isinstance := B.isinstance
  have GK_Call := A0.mCa
  refine F.okX sc_Book_add_rule (fun vs H Q E h => by obtain ⟨_, _, _, _, _, _, _, _, _, _, rfl, _⟩ := h; rfl) (fun cdv A outer s H vs Q E hr h => ?_)
  obtain ⟨b, dx, t, tb, sz, n, v, w, rs, H0, rfl, hb, hD, hT, hv, hw, s0, ntb, nsz, kq, ke⟩ := h
  have eT : (rs.map (·.1)) = rs.map (·.1) := rfl
  generalize hTd : rs.map (·.1) = T at kq ke eT
  have hu : (A.deeper (envOfC "Book.add_rule" (defScope s_Book_add_rule) s.heap.objs.size f cdv)).units + 1 < cLine := Nat.lt_of_le_of_lt (Nat.add_le_add_left (by decide) _) hr.units
  refine ⟨_, (pss_cons (ps_if (pt_cmp (pc_din hu (pv 1) (pe_fld (pv 0) rfl))) (pss_one (ps_raise rfl (takes_of rfl rfl rfl rfl) (pmk_ex G_BadName (hr.mono (by first | decide | omega)) rfl (pa_cons (pv 1) pa_nil)))) pss_nil)
  (pss_cons (ps_set (i := 3) sc_Book_add_rule.nd rfl (Or.inl rfl) pe_int)
  (pss_cons (ps_for (passes_of rfl) rfl (pi_list (pe_callD G_parts_of (hr.mono (by first | decide | omega)) rfl (pa_cons (pv 2) pa_nil))) (pg_name (i := 4) sc_Book_add_rule.nd rfl (Or.inl rfl))
   (pss_one (ps_if (pt_not (pt_val (pe_callB call_isi rfl B_isinstance (by decide +kernel) (pa_cons (pv 4) (pa_cons (pe_globC rfl GK_Call) pa_nil))))) (pss_one (ps_aug (i := 3) sc_Book_add_rule.nd rfl (Or.inl rfl) pe_int iop_add)) (pss_one (ps_if (pt_cmp (pc_din hu (pe_fld (pv 4) rfl) (pe_fld (pv 0) rfl))) (pss_one (ps_aug (i := 3) sc_Book_add_rule.nd rfl (Or.inl rfl) (pe_dget hu (pe_fld (pv 0) rfl) (pe_fld (pv 4) rfl) (fun _ _ => rfl)) iop_add)) (pss_one (ps_raise rfl (takes_of rfl rfl rfl rfl) (pmk_ex G_BadName (hr.mono (by first | decide | omega)) rfl (pa_cons (pe_fld (pv 4) rfl) pa_nil)))))))))
  (pss_cons (ps_dput hu (pe_fld (pv 0) rfl) (pv 1) (pv 2) rfl)
  (pss_one (ps_dput hu (pe_fld (pv 0) rfl) (pv 1) (pv 3) rfl)))))), ?_⟩
  obtain ⟨kt, ht, htab⟩ := hD.a
  have hkv : ∀ x : Str, (valV kt (kS x)).isSome = decide (x ∈ T) := fun x => by rw [← hTd]; exact htab.has x
  have hs := hD.b
  have hkl := TabAt.len _ _ htab
  have hsl : (szK (sizesOf rs)).length = rs.length := by have := congrArg List.length (sizesOf_names rs); simp only [List.length_map] at this; unfold szK; rw [List.length_map]; exact this
  refine ⟨_, rfl, _, rfl, b, C, dx, _, _, rfl, hb, Tb.cl, Tb.n2, rfl, tb, _, rfl, DGet.k (k := kS n) ht, _, rfl, ?_⟩
  rw [hkv n]
  by_cases hn : n ∈ T
  · rw [decide_eq_true hn]
    refine iteT ⟨_, rfl, raised fun d H' s1 hd => ?_⟩
    exact ke n (by unfold badR; rw [if_pos hn]) d H' (s0.trans s1) hd
  rw [decide_eq_false hn]
  refine iteF ?_
  have hR : badR T n w = bad1 T w.parts := by unfold badR; rw [if_neg hn]
  walk_at "nx"
  refine ⟨_, rfl, v, w, rfl, hv, hw, fun p ps H1 s1 hp hpl hps => ?_⟩
  refine ⟨p, rfl, ⟨ps, SqL.of hp⟩, ?_⟩
  have elen := ObjsAt.len _ _ hps
  refine for_list (K := K) (a := p) (xs := ps) (fun i σ H' => ∃ (x4 : Option V), σ = [some (.ref b), some (.str n), some v, some (.int (((w.parts.take i).map (partZ (sizesOf rs))).sum : Nat)), x4] ∧ bad1 T (w.parts.drop i) = bad1 T w.parts ∧ Same H1 H') ?_ ?_ ?_ ?_
  · exact ⟨none, rfl, rfl, fun _ _ h => h⟩
  · rintro i σ H' _ ⟨_, rfl, _, s2⟩
    exact SqL.of (s2 _ _ hp)
  · rintro i e σ H2 he ⟨x4, rfl, hbi, s2⟩
    have hi : i < ps.length := (List.getElem?_eq_some_iff.mp he).1
    obtain ⟨wi, hwi⟩ : ∃ wi, w.parts[i]? = some wi := ⟨w.parts[i]'(by omega), List.getElem?_eq_getElem (by omega)⟩
    obtain ⟨e', he', hxw⟩ := ObjsAt.at_ _ _ _ _ hps hwi
    have ex : e = e' := Option.some.inj (he.symm.trans he')
    subst ex
    have hdr : w.parts.drop i = wi :: w.parts.drop (i + 1) := by
      obtain ⟨hi, e⟩ := List.getElem?_eq_some_iff.mp hwi
      rw [List.drop_eq_getElem_cons hi, e]
    rw [hdr] at hbi
    have hsum : ((w.parts.take (i + 1)).map (partZ (sizesOf rs))).sum = ((w.parts.take i).map (partZ (sizesOf rs))).sum + partZ (sizesOf rs) wi := by
      rw [List.take_add_one, hwi, List.map_append, List.sum_append]
      simp
    have hv2 := ObjAt.keep (stillS s2) _ _ hxw
    have s12 := s1.trans s2
    have hb2 := s12 _ _ hb
    refine ⟨e, rfl, e, .ref c.ca, _, _, _, rfl, .own _, hv2.ty A0, A0.kit wi (.call (Str.ofString "")), _, rfl, ?_⟩
    by_cases ht2 : wi.tag = (W.call (Str.ofString "")).tag
    · rw [decide_eq_true ht2]
      refine iteF ?_
      cases wi <;> first | exact absurd ht2 (by simp only [W.tag]; decide +kernel) | skip
      rename_i x
      obtain ⟨a, d, ev, ha⟩ := id hv2
      subst ev
      refine ⟨_, rfl, a, c.ca, d, _, _, rfl, ha, (A0.f (.call (Str.ofString ""))).cl, (A0.f (.call (Str.ofString ""))).nn, rfl, _, rfl, b, C, dx, _, _, rfl, hb2, Tb.cl, Tb.n2, rfl, tb, _, rfl, DGet.k (k := kS x) (s12 _ _ ht), _, rfl, ?_⟩
      rw [hkv x]
      by_cases hx : x ∈ T
      · rw [decide_eq_true hx]
        have hb' : bad1 T (w.parts.drop (i + 1)) = bad1 T w.parts := by
          rw [← hbi, bad1, if_pos hx]
        obtain ⟨j, hj⟩ := szOf_some (T := sizesOf rs) (x := x) (by rw [sizesOf_names, hTd]; exact hx)
        have hg := DGet.k (k := kS x) (s12 _ _ hs)
        rw [valV_sz, hj] at hg
        have hpz : partZ (sizesOf rs) (.call x) = j := by show (szOf (sizesOf rs) x).getD 0 = j; rw [hj]; rfl
        refine iteT ⟨_, rfl, _, rfl, b, C, dx, _, _, rfl, hb2, Tb.cl, Tb.n3, rfl, _, rfl, a, c.ca, d, _, _, rfl, ha, (A0.f (.call (Str.ofString ""))).cl, (A0.f (.call (Str.ofString ""))).nn, rfl, sz, _, rfl, hg, _, _, rfl, rfl, ?_⟩
        refine ⟨some (.ref a), ?_, hb', s2⟩
        rw [hsum, hpz, Int.natCast_add]
        rfl
      · rw [decide_eq_false hx]
        refine iteF ⟨_, rfl, a, c.ca, d, _, _, rfl, ha, (A0.f (.call (Str.ofString ""))).cl, (A0.f (.call (Str.ofString ""))).nn, rfl, raised fun dd H' s3 hd => ?_⟩
        refine ke x ?_ dd H' (s0.trans (s12.trans s3)) hd
        rw [hR, ← hbi, bad1, if_neg hx]
    · rw [decide_eq_false ht2]
      refine iteT ?_
      have hb' : bad1 T (w.parts.drop (i + 1)) = bad1 T w.parts := by
        rw [← hbi]
        cases wi <;> first | rfl | exact absurd rfl ht2
      have hpz : partZ (sizesOf rs) wi = 1 := by cases wi <;> first | rfl | exact absurd rfl ht2
      refine ⟨_, rfl, _, _, rfl, rfl, some e, ?_, hb', s2⟩
      rw [hsum, hpz, Int.natCast_add]
      rfl
  · rintro σ H2 ⟨x4, rfl, hbi, s2⟩
    rw [elen, List.drop_length] at hbi
    have hz1 : ((w.parts.take ps.length).map (partZ (sizesOf rs))).sum = sz1 (sizesOf rs) w := by rw [elen, List.take_length]; rfl
    rw [hz1]
    have s12 := s1.trans s2
    have hb2 := s12 _ _ hb
    walk_at "nx"
    have hlt : kt.length < sizeLine := small' (by omega)
    have hls : (szK (sizesOf rs)).length < sizeLine := small' (by omega)
    refine ⟨_, rfl, _, rfl, b, C, dx, _, _, rfl, hb2, Tb.cl, Tb.n2, rfl, _, rfl, tb, _, rfl, DPut.k (k := kS n) (s12 _ _ ht) hlt, ?_⟩
    have nbt : b ≠ tb := ne_of hb2 (s12 _ _ ht) (by intro z; cases z)
    have nbs : b ≠ sz := ne_of hb2 (s12 _ _ hs) (by intro z; cases z)
    have k3 : Still H2 (upd H2 tb (.dK (putK kt (kS n) v))) := ⟨fun {a} _ e => by rw [upd_ne (ne_of e (s12 _ _ ht) (by intro z; cases z))]; exact e, fun {a} _ _ _ e => by rw [upd_ne (ne_of e (s12 _ _ ht) (by intro z; cases z))]; exact e⟩
    have hb3 := k3.ins hb2
    have ht3 : upd H2 tb (.dK (putK kt (kS n) v)) tb = some (.dK (putK kt (kS n) v)) := upd_same
    have hs3 : upd H2 tb (.dK (putK kt (kS n) v)) sz = some (.dK (szK (sizesOf rs))) := by rw [upd_ne hD.ne.symm]; exact s12 _ _ hs
    have s3 : Same H0 (upd H2 tb (.dK (putK kt (kS n) v))) := Same.put ntb (s0.trans s12) _
    generalize upd H2 tb (.dK (putK kt (kS n) v)) = H3 at *
    refine ⟨_, rfl, _, rfl, b, C, dx, _, _, rfl, hb3, Tb.cl, Tb.n3, rfl, _, rfl, sz, _, rfl, DPut.k (k := kS n) hs3 hls, ?_⟩
    generalize hz' : sz1 (sizesOf rs) w = z1
    have k4 : Still H3 (upd H3 sz (.dK (putK (szK (sizesOf rs)) (kS n) (.int (z1 : Nat))))) := ⟨fun {a} _ e => by rw [upd_ne (ne_of e hs3 (by intro z; cases z))]; exact e, fun {a} _ _ _ e => by rw [upd_ne (ne_of e hs3 (by intro z; cases z))]; exact e⟩
    have nk : valV kt (kS n) = none := by
      have := hkv n
      rw [decide_eq_false hn] at this
      exact Option.isNone_iff_eq_none.mp (by simpa using this)
    have ns : valV (szK (sizesOf rs)) (kS n) = none := by
      rw [valV_sz]
      cases e : szOf (sizesOf rs) n with
      | none => rfl
      | some z =>
        exfalso
        unfold szOf at e
        rw [Option.map_eq_some_iff] at e
        obtain ⟨p, hp, _⟩ := e
        have h1 := List.find?_some hp
        have h2 := List.mem_map.mpr ⟨p, List.mem_of_find?_eq_some hp, of_decide_eq_true h1⟩
        rw [sizesOf_names, hTd] at h2
        exact hn h2
    refine kq (by rw [hR, ← hbi]; rfl) _ (k4.ins hb3) ⟨hD.ne, ⟨_, by rw [upd_ne hD.ne]; exact ht3, ?_⟩, ?_⟩ (((stillS s12).trans k3).trans k4) (Same.put nsz s3 _)
    · rw [putK_new v nk]
      exact TabAt.app (ObjAt.keep (((stillS s12).trans k3).trans k4) _ _ hv) _ _ (TabAt.keep (((stillS s12).trans k3).trans k4) _ _ htab)
    · rw [upd_same, putK_new _ ns, sizes_snoc, hz']
      unfold szK
      rw [List.map_append]
      rfl
end
end Bo
namespace Bo
open PySem PySem.Spec PyProof.Rows L2 Wv Bk
/-! ### a book made, from a list or from a tuple: with what it holds -/
def spBookL (c : Cs) (C BN : Addr) : Sp := fun vs H Q E => ∃ (b dx q : Addr) (us : List V) (rs : List (Str × W)) (H0 : Hp), vs = [.ref b, .ref q] ∧ H b = some (.ins C dx []) ∧ H0 b = none ∧ Same H0 H ∧ H0 q = some (.lst us) ∧ PairsAt c H0 us rs ∧ rs.length ≤ 900 ∧ (∀ x ∈ rs, x.2.size ≤ 1000) ∧
  (bookE [] rs = none → ∀ (t tb sz : Addr) (ts : List V) (H' : Hp), H' b = some (.ins C dx (bkF t tb sz)) → H' t = some (.tup ts) → PairsAt c H' ts rs → DcR c H' tb sz rs → Same H0 H' → Q .non H') ∧
  ∀ x, bookE [] rs = some x → ∀ (d : Addr) (H' : Hp), Same H0 H' → H' d = some (.xd [(sName, .str x)]) → E (.ref BN) (some d) H'
def spBookT (c : Cs) (C BN : Addr) : Sp := fun vs H Q E => ∃ (b dx q : Addr) (us : List V) (rs : List (Str × W)) (H0 : Hp), vs = [.ref b, .ref q] ∧ H b = some (.ins C dx []) ∧ H0 b = none ∧ Same H0 H ∧ H0 q = some (.tup us) ∧ PairsAt c H0 us rs ∧ rs.length ≤ 900 ∧ (∀ x ∈ rs, x.2.size ≤ 1000) ∧
  (bookE [] rs = none → ∀ (t tb sz : Addr) (ts : List V) (H' : Hp), H' b = some (.ins C dx (bkF t tb sz)) → H' t = some (.tup ts) → PairsAt c H' ts rs → DcR c H' tb sz rs → Same H0 H' → Q .non H') ∧
  ∀ x, bookE [] rs = some x → ∀ (d : Addr) (H' : Hp), Same H0 H' → H' d = some (.xd [(sName, .str x)]) → E (.ref BN) (some d) H'
def spBook2 (c : Cs) (C BN : Addr) : Sp := fun vs H Q E => spBookL c C BN vs H Q E ∨ spBookT c C BN vs H Q E
section
variable {P : Program} {w : World} {K : PySem.W.Frag} {mg : Str → Option Value} {base : Heap} {c : Cs} {C BN : Addr}
abbrev s_Book_init : Stmt := inClass (top 48) 0
theorem sc_Book_init : FnScope ["self", "rules", "name", "way"] ["self", "rules"] (defScope s_Book_init) := ⟨rfl, rfl, rfl, by decide +kernel, rfl, by decide +kernel, by decide +kernel⟩
theorem ok_BookL {f : Addr} {fd : FuncData} (F : Fun K "__init__" "Book.__init__" s_Book_init f fd) (Tb : BkF K C) (B : Bs mg) (G_add_rule : MxOk P w K mg base C 4 "add_rule" ["self", "name", "way"] (spAdd2 c C BN)) : FnOk P w K mg base (L2.CX P w) 5 f fd ["self", "rules"] (spBookL c C BN) := by
  have B_tuple := B.tuple
  refine F.okX sc_Book_init (fun vs H Q E h => by obtain ⟨_, _, _, _, _, _, rfl, _⟩ := h; rfl) (fun cdv A outer s H vs Q E hr h => ?_)
  obtain ⟨b, dx, q, us, rs, H0, rfl, hb, hb0, s0, hq, hus, hl, hz, kq, ke⟩ := h
  refine ⟨_, (pss_cons (ps_fld (pv 0) (pe_callTy call_tuple_of rfl B_tuple (by decide +kernel) (pa_cons (pe_lc (own := [("name", 2), ("way", 3)]) (tt := tYes) rfl sc_Book_init.nd (pi_list (pv 1)) (blkOk_by (own := [("name", 2), ("way", 3)]) (N := ["self", "rules", "name", "way"]) (sc := defScope s_Book_init) (by decide +kernel)) (fun _ _ _ _ _ => (pg_tupK (K := K) (n := 2) rfl rfl (pgs_cons (pg_name (i := 2) sc_Book_init.nd rfl (Or.inl rfl)) (pgs_cons (pg_name (i := 3) sc_Book_init.nd rfl (Or.inl rfl)) pgs_nil)))) (fun _ _ _ _ _ => pts_nil) (fun _ _ _ _ _ => (pe_tup (pa_cons (pv 2) (pa_cons (pv 3) pa_nil))))) pa_nil)) rfl)
  (pss_cons (ps_fld (pv 0) pe_dnewK rfl)
  (pss_cons (ps_fld (pv 0) pe_dnewK rfl)
  (pss_one (ps_for (passes_of rfl) rfl (pi_tup (pe_fld (pv 0) rfl)) (pg_tup rfl (pgs_cons (pg_name (i := 2) sc_Book_init.nd rfl (Or.inl rfl)) (pgs_cons (pg_name (i := 3) sc_Book_init.nd rfl (Or.inl rfl)) pgs_nil)))
   (pss_one (ps_expr (pe_methX (E := E) G_add_rule (hr.mono (by first | decide | omega)) (passes_call (takes_of rfl rfl rfl rfl) (fun _ _ _ _ h => h)) (pv 0) (pa_cons (pv 2) (pa_cons (pv 3) pa_nil)))))))))), ?_⟩
  have elen := PairsAt.len _ _ hus
  -- the pairs anew
  refine ⟨_, rfl, q, rfl, ⟨us, SqL.of (s0 _ _ hq)⟩, fun D hD => ?_⟩
  refine lc_list (K := K) (a := q) (xs := us) (fun i H' => ∃ os, H' D = some (.lst os) ∧ PairsAt c (del H' b) os (rs.take i) ∧ Same H H') ?_ ?_ ?_ ?_
  · exact ⟨[], upd_same, rfl, Same.new hD _⟩
  · rintro i H' _ ⟨os, _, _, s1⟩
    exact SqL.of (s1 _ _ (s0 _ _ hq))
  · rintro i e H' he ⟨os, hD', hos, s1⟩
    obtain ⟨r, n, v, w, rfl, hri, hr', hv⟩ := PairsAt.at_ _ _ _ _ hus he
    have s01 := s0.trans s1
    have hi : i < rs.length := (List.getElem?_eq_some_iff.mp hri).1
    refine ⟨r, _, rfl, SqT.of (s01 _ _ hr'), rfl, _, _, rfl, _, _, rfl, rfl, rfl, ?_⟩
    refine yesI ?_
    rw [if_pos rfl]
    refine ⟨_, rfl, _, rfl, by show 2 ≤ sizeLine; decide, fun r2 hr2 => ?_⟩
    have s2 := Same.new hr2 (.tup [.str n, v])
    have hlo := PairsAt.len _ _ hos
    refine ⟨os, s2 _ _ hD', small' (by rw [hlo, List.length_take]; omega), os ++ [.ref r2], upd_same, ?_, Same.put hD (s1.trans s2) _⟩
    rw [take_more' hri]
    have nrb : r2 ≠ b := (ne_of_none (s1 _ _ hb) hr2).symm
    have nDb : D ≠ b := (ne_of_none hb hD).symm
    have hD2 : del (upd H' r2 (.tup [.str n, v])) b D = some (.lst os) := by rw [del_ne nDb]; exact s2 _ _ hD'
    have ed : del (upd (upd H' r2 (.tup [.str n, v])) D (.lst (os ++ [.ref r2]))) b = upd (del (upd H' r2 (.tup [.str n, v])) b) D (.lst (os ++ [.ref r2])) := funext fun a => by
      by_cases h : a = b
      · subst h; rw [del_same, upd_ne nDb.symm, del_same]
      · rw [del_ne h]
        by_cases h2 : a = D
        · subst h2; rw [upd_same, upd_same]
        · rw [upd_ne h2, upd_ne h2, del_ne h]
    rw [ed]
    have st : Still (del (upd H' r2 (.tup [.str n, v])) b) (upd (del (upd H' r2 (.tup [.str n, v])) b) D (.lst (os ++ [.ref r2]))) := Still.put hD2
    have hr3 : del (upd H' r2 (.tup [.str n, v])) b r2 = some (.tup [.str n, v]) := by rw [del_ne nrb]; exact upd_same
    exact PairsAt.app _ _ (PairsAt.keep ((stillS (same_dels s2)).trans st) _ _ hos) ⟨r2, v, [], rfl, st.tup hr3, ObjAt.keep ((stillS (same_del (s01.trans s2) hb0)).trans st) _ _ hv, rfl⟩
  rintro H1 ⟨ts, hD1, hts, s1⟩
  rw [elen, List.take_length] at hts
  have hb1 := s1 _ _ hb
  refine ⟨D, ts, rfl, .inl ⟨SqL.of hD1, fun t ht => ?_⟩⟩
  have s2 := s1.trans (Same.new ht (.tup ts))
  have ht1 : upd H1 t (.tup ts) t = some (.tup ts) := upd_same
  have hts1 := PairsAt.keep (stillS (same_dels (b := b) (Same.new ht (.tup ts)))) _ _ hts
  have npt : t ≠ b := (ne_of_none hb1 ht).symm
  have hb2 : upd H1 t (.tup ts) b = some (.ins C dx []) := s2 _ _ hb
  generalize upd H1 t (.tup ts) = H2 at *
  have hltT := PairsAt.len _ _ hts1
  have s02 := s0.trans s2
  refine ⟨_, rfl, b, C, dx, [], rfl, hb2, Tb.cl, Tb.n1, (by show 0 < 1000; decide), ?_⟩
  -- table
  have hb3 : upd H2 b (.ins C dx (putF (Str.ofString "rules") (.ref t) [])) b = some (.ins C dx (putF (Str.ofString "rules") (.ref t) [])) := upd_same
  have ht3 : upd H2 b (.ins C dx (putF (Str.ofString "rules") (.ref t) [])) t = some (.tup ts) := by rw [upd_ne npt]; exact ht1
  have s03 := Same.put hb0 s02 (.ins C dx (putF (Str.ofString "rules") (.ref t) []))
  have hts3 : PairsAt c (del (upd H2 b (.ins C dx (putF (Str.ofString "rules") (.ref t) []))) b) ts rs := by rw [del_upd]; exact hts1
  generalize upd H2 b (.ins C dx (putF (Str.ofString "rules") (.ref t) [])) = H3 at *
  walk_at "nx"
  intro tb htb
  have s4 := Same.new htb (.dK [])
  have tb4 : upd H3 tb (.dK []) tb = some (.dK []) := upd_same
  have b4 := s4 _ _ hb3
  have t4 := s4 _ _ ht3
  have p4 := PairsAt.keep (stillS (same_dels (b := b) s4)) _ _ hts3
  have s04 := s03.trans s4
  have ntb := none_at s03 htb
  have nb4 : tb ≠ b := (ne_of_none hb3 htb).symm
  generalize upd H3 tb (.dK []) = H4 at *
  refine ⟨_, rfl, b, C, dx, _, rfl, b4, Tb.cl, Tb.n2, (by show 1 < 1000; decide), ?_⟩
  generalize e5 : putF (Str.ofString "table") (.ref tb) (putF (Str.ofString "rules") (.ref t) []) = f5
  have b5 : upd H4 b (.ins C dx f5) b = some (.ins C dx f5) := upd_same
  have t5 : upd H4 b (.ins C dx f5) t = some (.tup ts) := by rw [upd_ne npt]; exact t4
  have tb5 : upd H4 b (.ins C dx f5) tb = some (.dK []) := by rw [upd_ne nb4]; exact tb4
  have s05 := Same.put hb0 s04 (.ins C dx f5)
  have p5 : PairsAt c (del (upd H4 b (.ins C dx f5)) b) ts rs := by rw [del_upd]; exact p4
  generalize upd H4 b (.ins C dx f5) = H5 at *
  walk_at "nx"
  -- sizes
  intro sz hsz
  have s6 := Same.new hsz (.dK [])
  have sz6 : upd H5 sz (.dK []) sz = some (.dK []) := upd_same
  have b6 := s6 _ _ b5
  have t6 := s6 _ _ t5
  have tb6 := s6 _ _ tb5
  have p6 := PairsAt.keep (stillS (same_dels (b := b) s6)) _ _ p5
  have s06 := s05.trans s6
  have nsz := none_at s05 hsz
  have nb6 : sz ≠ b := (ne_of_none b5 hsz).symm
  have ntz : tb ≠ sz := ne_of_none tb5 hsz
  generalize upd H5 sz (.dK []) = H6 at *
  refine ⟨_, rfl, b, C, dx, _, rfl, b6, Tb.cl, Tb.n3, (by rw [← e5]; show 2 < 1000; decide), ?_⟩
  have e7 : putF (Str.ofString "sizes") (.ref sz) f5 = bkF t tb sz := by rw [← e5]; rfl
  rw [e7]
  have b7 : upd H6 b (.ins C dx (bkF t tb sz)) b = some (.ins C dx (bkF t tb sz)) := upd_same
  have t7 : upd H6 b (.ins C dx (bkF t tb sz)) t = some (.tup ts) := by rw [upd_ne npt]; exact t6
  have tb7 : upd H6 b (.ins C dx (bkF t tb sz)) tb = some (.dK []) := by rw [upd_ne nb4]; exact tb6
  have sz7 : upd H6 b (.ins C dx (bkF t tb sz)) sz = some (.dK []) := by rw [upd_ne nb6]; exact sz6
  have s07 := Same.put hb0 s06 (.ins C dx (bkF t tb sz))
  have p7 : PairsAt c (upd H6 b (.ins C dx (bkF t tb sz))) ts rs := by
    have q : PairsAt c (del (upd H6 b (.ins C dx (bkF t tb sz))) b) ts rs := by rw [del_upd]; exact p6
    exact PairsAt.keep del_still _ _ q
  generalize upd H6 b (.ins C dx (bkF t tb sz)) = H7 at *
  have hd7 : DcR c H7 tb sz [] := ⟨ntz, ⟨[], tb7, rfl⟩, sz7⟩
  walk_at "nx"
  refine ⟨_, rfl, b, C, dx, _, _, rfl, b7, Tb.cl, Tb.n1, rfl, t, rfl, ⟨ts, SqT.of t7⟩, ?_⟩
  refine for_tup (K := K) (a := t) (xs := ts) (fun i σ H' => ∃ x2 x3 : Option V, σ = [some (.ref b), some (.ref q), x2, x3] ∧ H' b = some (.ins C dx (bkF t tb sz)) ∧ DcR c H' tb sz (rs.take i) ∧ bookE ((rs.take i).map (·.1)) (rs.drop i) = bookE [] rs ∧ Still H7 H' ∧ Same H0 H') ?_ ?_ ?_ ?_
  · exact ⟨none, none, rfl, b7, hd7, rfl, Still.refl _, s07⟩
  · rintro i σ H' _ ⟨_, _, rfl, _, _, _, k8, _⟩
    exact SqT.of (k8.tup t7)
  · rintro i e σ H8 he ⟨x2, x3, rfl, b8, hd8, hbk, k8, s08⟩
    obtain ⟨r, n, v, w, rfl, hri, hr', hv⟩ := PairsAt.at_ _ _ _ _ p7 he
    have hi : i < rs.length := (List.getElem?_eq_some_iff.mp hri).1
    have hdr : rs.drop i = (n, w) :: rs.drop (i + 1) := by
      obtain ⟨hi, e⟩ := List.getElem?_eq_some_iff.mp hri
      rw [List.drop_eq_getElem_cons hi, e]
    rw [hdr] at hbk
    refine ⟨r, _, rfl, SqT.of (k8.tup hr'), rfl, _, _, rfl, _, _, rfl, rfl, ?_⟩
    walk_at "nx"
    refine ⟨_, rfl, b, dx, _, rfl, b8, rfl, _, rfl, _, rfl, b, dx, t, tb, sz, n, v, w, rs.take i, H0, rfl, b8, hd8, by rw [List.length_take]; omega, ObjAt.keep k8 _ _ hv, hz _ (List.mem_of_getElem? hri), s08, ntb, nsz, fun hok H9 b9 hd9 k9 s09 => ?_, fun x hx d H9 s09 hd => ?_⟩
    · refine ⟨_, _, rfl, b9, ?_, ?_, k8.trans k9, s09⟩
      · rw [take_more' hri]; exact hd9
      · rw [← hbk, bookE, hok, take_more' hri, List.map_append]
        rfl
    · exact ke x (by rw [← hbk, bookE, hx]) d H9 s09 hd
  · rintro σ H8 ⟨x2, x3, rfl, b8, hd8, hbk, k8, s08⟩
    rw [hltT, List.drop_length] at hbk
    rw [hltT, List.take_length] at hd8
    exact kq (by rw [← hbk]; rfl) t tb sz ts H8 b8 (k8.tup t7) (PairsAt.keep k8 _ _ p7) hd8 s08
theorem ok_BookT {f : Addr} {fd : FuncData} (F : Fun K "__init__" "Book.__init__" s_Book_init f fd) (Tb : BkF K C) (B : Bs mg) (G_add_rule : MxOk P w K mg base C 4 "add_rule" ["self", "name", "way"] (spAdd2 c C BN)) : FnOk P w K mg base (L2.CX P w) 5 f fd ["self", "rules"] (spBookT c C BN) := by
  have B_tuple := B.tuple
  refine F.okX sc_Book_init (fun vs H Q E h => by obtain ⟨_, _, _, _, _, _, rfl, _⟩ := h; rfl) (fun cdv A outer s H vs Q E hr h => ?_)
  obtain ⟨b, dx, q, us, rs, H0, rfl, hb, hb0, s0, hq, hus, hl, hz, kq, ke⟩ := h
  refine ⟨_, (pss_cons (ps_fld (pv 0) (pe_callTy call_tuple_of rfl B_tuple (by decide +kernel) (pa_cons (pe_lc (own := [("name", 2), ("way", 3)]) (tt := tYes) rfl sc_Book_init.nd (pi_tup (pv 1)) (blkOk_by (own := [("name", 2), ("way", 3)]) (N := ["self", "rules", "name", "way"]) (sc := defScope s_Book_init) (by decide +kernel)) (fun _ _ _ _ _ => (pg_tupK (K := K) (n := 2) rfl rfl (pgs_cons (pg_name (i := 2) sc_Book_init.nd rfl (Or.inl rfl)) (pgs_cons (pg_name (i := 3) sc_Book_init.nd rfl (Or.inl rfl)) pgs_nil)))) (fun _ _ _ _ _ => pts_nil) (fun _ _ _ _ _ => (pe_tup (pa_cons (pv 2) (pa_cons (pv 3) pa_nil))))) pa_nil)) rfl)
  (pss_cons (ps_fld (pv 0) pe_dnewK rfl)
  (pss_cons (ps_fld (pv 0) pe_dnewK rfl)
  (pss_one (ps_for (passes_of rfl) rfl (pi_tup (pe_fld (pv 0) rfl)) (pg_tup rfl (pgs_cons (pg_name (i := 2) sc_Book_init.nd rfl (Or.inl rfl)) (pgs_cons (pg_name (i := 3) sc_Book_init.nd rfl (Or.inl rfl)) pgs_nil)))
   (pss_one (ps_expr (pe_methX (E := E) G_add_rule (hr.mono (by first | decide | omega)) (passes_call (takes_of rfl rfl rfl rfl) (fun _ _ _ _ h => h)) (pv 0) (pa_cons (pv 2) (pa_cons (pv 3) pa_nil)))))))))), ?_⟩
  have elen := PairsAt.len _ _ hus
  -- the pairs anew
  refine ⟨_, rfl, q, rfl, ⟨us, SqT.of (s0 _ _ hq)⟩, fun D hD => ?_⟩
  refine lc_tup (K := K) (a := q) (xs := us) (fun i H' => ∃ os, H' D = some (.lst os) ∧ PairsAt c (del H' b) os (rs.take i) ∧ Same H H') ?_ ?_ ?_ ?_
  · exact ⟨[], upd_same, rfl, Same.new hD _⟩
  · rintro i H' _ ⟨os, _, _, s1⟩
    exact SqT.of (s1 _ _ (s0 _ _ hq))
  · rintro i e H' he ⟨os, hD', hos, s1⟩
    obtain ⟨r, n, v, w, rfl, hri, hr', hv⟩ := PairsAt.at_ _ _ _ _ hus he
    have s01 := s0.trans s1
    have hi : i < rs.length := (List.getElem?_eq_some_iff.mp hri).1
    refine ⟨r, _, rfl, SqT.of (s01 _ _ hr'), rfl, _, _, rfl, _, _, rfl, rfl, rfl, ?_⟩
    refine yesI ?_
    rw [if_pos rfl]
    refine ⟨_, rfl, _, rfl, by show 2 ≤ sizeLine; decide, fun r2 hr2 => ?_⟩
    have s2 := Same.new hr2 (.tup [.str n, v])
    have hlo := PairsAt.len _ _ hos
    refine ⟨os, s2 _ _ hD', small' (by rw [hlo, List.length_take]; omega), os ++ [.ref r2], upd_same, ?_, Same.put hD (s1.trans s2) _⟩
    rw [take_more' hri]
    have nrb : r2 ≠ b := (ne_of_none (s1 _ _ hb) hr2).symm
    have nDb : D ≠ b := (ne_of_none hb hD).symm
    have hD2 : del (upd H' r2 (.tup [.str n, v])) b D = some (.lst os) := by rw [del_ne nDb]; exact s2 _ _ hD'
    have ed : del (upd (upd H' r2 (.tup [.str n, v])) D (.lst (os ++ [.ref r2]))) b = upd (del (upd H' r2 (.tup [.str n, v])) b) D (.lst (os ++ [.ref r2])) := funext fun a => by
      by_cases h : a = b
      · subst h; rw [del_same, upd_ne nDb.symm, del_same]
      · rw [del_ne h]
        by_cases h2 : a = D
        · subst h2; rw [upd_same, upd_same]
        · rw [upd_ne h2, upd_ne h2, del_ne h]
    rw [ed]
    have st : Still (del (upd H' r2 (.tup [.str n, v])) b) (upd (del (upd H' r2 (.tup [.str n, v])) b) D (.lst (os ++ [.ref r2]))) := Still.put hD2
    have hr3 : del (upd H' r2 (.tup [.str n, v])) b r2 = some (.tup [.str n, v]) := by rw [del_ne nrb]; exact upd_same
    exact PairsAt.app _ _ (PairsAt.keep ((stillS (same_dels s2)).trans st) _ _ hos) ⟨r2, v, [], rfl, st.tup hr3, ObjAt.keep ((stillS (same_del (s01.trans s2) hb0)).trans st) _ _ hv, rfl⟩
  rintro H1 ⟨ts, hD1, hts, s1⟩
  rw [elen, List.take_length] at hts
  have hb1 := s1 _ _ hb
  refine ⟨D, ts, rfl, .inl ⟨SqL.of hD1, fun t ht => ?_⟩⟩
  have s2 := s1.trans (Same.new ht (.tup ts))
  have ht1 : upd H1 t (.tup ts) t = some (.tup ts) := upd_same
  have hts1 := PairsAt.keep (stillS (same_dels (b := b) (Same.new ht (.tup ts)))) _ _ hts
  have npt : t ≠ b := (ne_of_none hb1 ht).symm
  have hb2 : upd H1 t (.tup ts) b = some (.ins C dx []) := s2 _ _ hb
  generalize upd H1 t (.tup ts) = H2 at *
  have hltT := PairsAt.len _ _ hts1
  have s02 := s0.trans s2
  refine ⟨_, rfl, b, C, dx, [], rfl, hb2, Tb.cl, Tb.n1, (by show 0 < 1000; decide), ?_⟩
  -- table
  have hb3 : upd H2 b (.ins C dx (putF (Str.ofString "rules") (.ref t) [])) b = some (.ins C dx (putF (Str.ofString "rules") (.ref t) [])) := upd_same
  have ht3 : upd H2 b (.ins C dx (putF (Str.ofString "rules") (.ref t) [])) t = some (.tup ts) := by rw [upd_ne npt]; exact ht1
  have s03 := Same.put hb0 s02 (.ins C dx (putF (Str.ofString "rules") (.ref t) []))
  have hts3 : PairsAt c (del (upd H2 b (.ins C dx (putF (Str.ofString "rules") (.ref t) []))) b) ts rs := by rw [del_upd]; exact hts1
  generalize upd H2 b (.ins C dx (putF (Str.ofString "rules") (.ref t) [])) = H3 at *
  walk_at "nx"
  intro tb htb
  have s4 := Same.new htb (.dK [])
  have tb4 : upd H3 tb (.dK []) tb = some (.dK []) := upd_same
  have b4 := s4 _ _ hb3
  have t4 := s4 _ _ ht3
  have p4 := PairsAt.keep (stillS (same_dels (b := b) s4)) _ _ hts3
  have s04 := s03.trans s4
  have ntb := none_at s03 htb
  have nb4 : tb ≠ b := (ne_of_none hb3 htb).symm
  generalize upd H3 tb (.dK []) = H4 at *
  refine ⟨_, rfl, b, C, dx, _, rfl, b4, Tb.cl, Tb.n2, (by show 1 < 1000; decide), ?_⟩
  generalize e5 : putF (Str.ofString "table") (.ref tb) (putF (Str.ofString "rules") (.ref t) []) = f5
  have b5 : upd H4 b (.ins C dx f5) b = some (.ins C dx f5) := upd_same
  have t5 : upd H4 b (.ins C dx f5) t = some (.tup ts) := by rw [upd_ne npt]; exact t4
  have tb5 : upd H4 b (.ins C dx f5) tb = some (.dK []) := by rw [upd_ne nb4]; exact tb4
  have s05 := Same.put hb0 s04 (.ins C dx f5)
  have p5 : PairsAt c (del (upd H4 b (.ins C dx f5)) b) ts rs := by rw [del_upd]; exact p4
  generalize upd H4 b (.ins C dx f5) = H5 at *
  walk_at "nx"
  -- sizes
  intro sz hsz
  have s6 := Same.new hsz (.dK [])
  have sz6 : upd H5 sz (.dK []) sz = some (.dK []) := upd_same
  have b6 := s6 _ _ b5
  have t6 := s6 _ _ t5
  have tb6 := s6 _ _ tb5
  have p6 := PairsAt.keep (stillS (same_dels (b := b) s6)) _ _ p5
  have s06 := s05.trans s6
  have nsz := none_at s05 hsz
  have nb6 : sz ≠ b := (ne_of_none b5 hsz).symm
  have ntz : tb ≠ sz := ne_of_none tb5 hsz
  generalize upd H5 sz (.dK []) = H6 at *
  refine ⟨_, rfl, b, C, dx, _, rfl, b6, Tb.cl, Tb.n3, (by rw [← e5]; show 2 < 1000; decide), ?_⟩
  have e7 : putF (Str.ofString "sizes") (.ref sz) f5 = bkF t tb sz := by rw [← e5]; rfl
  rw [e7]
  have b7 : upd H6 b (.ins C dx (bkF t tb sz)) b = some (.ins C dx (bkF t tb sz)) := upd_same
  have t7 : upd H6 b (.ins C dx (bkF t tb sz)) t = some (.tup ts) := by rw [upd_ne npt]; exact t6
  have tb7 : upd H6 b (.ins C dx (bkF t tb sz)) tb = some (.dK []) := by rw [upd_ne nb4]; exact tb6
  have sz7 : upd H6 b (.ins C dx (bkF t tb sz)) sz = some (.dK []) := by rw [upd_ne nb6]; exact sz6
  have s07 := Same.put hb0 s06 (.ins C dx (bkF t tb sz))
  have p7 : PairsAt c (upd H6 b (.ins C dx (bkF t tb sz))) ts rs := by
    have q : PairsAt c (del (upd H6 b (.ins C dx (bkF t tb sz))) b) ts rs := by rw [del_upd]; exact p6
    exact PairsAt.keep del_still _ _ q
  generalize upd H6 b (.ins C dx (bkF t tb sz)) = H7 at *
  have hd7 : DcR c H7 tb sz [] := ⟨ntz, ⟨[], tb7, rfl⟩, sz7⟩
  walk_at "nx"
  refine ⟨_, rfl, b, C, dx, _, _, rfl, b7, Tb.cl, Tb.n1, rfl, t, rfl, ⟨ts, SqT.of t7⟩, ?_⟩
  refine for_tup (K := K) (a := t) (xs := ts) (fun i σ H' => ∃ x2 x3 : Option V, σ = [some (.ref b), some (.ref q), x2, x3] ∧ H' b = some (.ins C dx (bkF t tb sz)) ∧ DcR c H' tb sz (rs.take i) ∧ bookE ((rs.take i).map (·.1)) (rs.drop i) = bookE [] rs ∧ Still H7 H' ∧ Same H0 H') ?_ ?_ ?_ ?_
  · exact ⟨none, none, rfl, b7, hd7, rfl, Still.refl _, s07⟩
  · rintro i σ H' _ ⟨_, _, rfl, _, _, _, k8, _⟩
    exact SqT.of (k8.tup t7)
  · rintro i e σ H8 he ⟨x2, x3, rfl, b8, hd8, hbk, k8, s08⟩
    obtain ⟨r, n, v, w, rfl, hri, hr', hv⟩ := PairsAt.at_ _ _ _ _ p7 he
    have hi : i < rs.length := (List.getElem?_eq_some_iff.mp hri).1
    have hdr : rs.drop i = (n, w) :: rs.drop (i + 1) := by
      obtain ⟨hi, e⟩ := List.getElem?_eq_some_iff.mp hri
      rw [List.drop_eq_getElem_cons hi, e]
    rw [hdr] at hbk
    refine ⟨r, _, rfl, SqT.of (k8.tup hr'), rfl, _, _, rfl, _, _, rfl, rfl, ?_⟩
    walk_at "nx"
    refine ⟨_, rfl, b, dx, _, rfl, b8, rfl, _, rfl, _, rfl, b, dx, t, tb, sz, n, v, w, rs.take i, H0, rfl, b8, hd8, by rw [List.length_take]; omega, ObjAt.keep k8 _ _ hv, hz _ (List.mem_of_getElem? hri), s08, ntb, nsz, fun hok H9 b9 hd9 k9 s09 => ?_, fun x hx d H9 s09 hd => ?_⟩
    · refine ⟨_, _, rfl, b9, ?_, ?_, k8.trans k9, s09⟩
      · rw [take_more' hri]; exact hd9
      · rw [← hbk, bookE, hok, take_more' hri, List.map_append]
        rfl
    · exact ke x (by rw [← hbk, bookE, hx]) d H9 s09 hd
  · rintro σ H8 ⟨x2, x3, rfl, b8, hd8, hbk, k8, s08⟩
    rw [hltT, List.drop_length] at hbk
    rw [hltT, List.take_length] at hd8
    exact kq (by rw [← hbk]; rfl) t tb sz ts H8 b8 (k8.tup t7) (PairsAt.keep k8 _ _ p7) hd8 s08
end
end Bo
namespace Bo
open PySem PySem.Spec PyProof.Rows L2 Wv Bk
/-! ### Book.__getitem__, Book.__contains__ -/
def spGet (c : Cs) (C BN : Addr) : Sp := fun vs H Q E => ∃ (b : Addr) (n : Str) (rs : List (Str × W)), vs = [.ref b, .str n] ∧ BookAt c C H b rs ∧ (∀ v u, wayOf rs n = some u → ObjAt c H v u → Q v H) ∧
  (wayOf rs n = none → ∀ (d : Addr) (H' : Hp), Same H H' → H' d = some (.xd [(sName, .str n)]) → E (.ref BN) (some d) H')
def spHas (c : Cs) (C : Addr) : Sp := fun vs H Q _ => ∃ (b : Addr) (n : Str) (rs : List (Str × W)), vs = [.ref b, .str n] ∧ BookAt c C H b rs ∧ Q (.bl (decide (n ∈ rs.map (·.1)))) H
section
variable {P : Program} {w : World} {K : PySem.W.Frag} {mg : Str → Option Value} {base : Heap} {c : Cs} {C BN : Addr}
abbrev s_Book_getitem : Stmt := inClass (top 48) 4
theorem sc_Book_getitem : FnScope ["self", "name"] ["self", "name"] (defScope s_Book_getitem) := ⟨rfl, rfl, rfl, by decide +kernel, rfl, by decide +kernel, by decide +kernel⟩
theorem ok_getitem {f : Addr} {fd : FuncData} (F : Fun K "__getitem__" "Book.__getitem__" s_Book_getitem f fd) (Tb : BkF K C) (G_BadName : ExOk P w K mg base 1 "BadName" BN ["self", "name"] (spBad BN)) :
    FnOk P w K mg base (L2.CX P w) 3 f fd ["self", "name"] (spGet c C BN) := by
  refine F.okX sc_Book_getitem (fun vs H Q E h => by obtain ⟨_, _, _, rfl, _⟩ := h; rfl) (fun cdv A outer s H vs Q E hr h => ?_)
  obtain ⟨b, n, rs, rfl, ⟨dx, t, tb, sz, ts, hb, ht, hts, hD⟩, kq, ke⟩ := h
  have hu : (A.deeper (envOfC "Book.__getitem__" (defScope s_Book_getitem) s.heap.objs.size f cdv)).units + 1 < cLine := Nat.lt_of_le_of_lt (Nat.add_le_add_left (by decide) _) hr.units
  refine ⟨_, (pss_cons (ps_if (pt_cmp (pc_dnotin hu (pv 1) (pe_fld (pv 0) rfl))) (pss_one (ps_raise rfl (takes_of rfl rfl rfl rfl) (pmk_ex G_BadName (hr.mono (by first | decide | omega)) rfl (pa_cons (pv 1) pa_nil)))) pss_nil)
  (pss_one (ps_ret (pe_dget hu (pe_fld (pv 0) rfl) (pv 1) (fun _ _ => rfl))))), ?_⟩
  obtain ⟨kt, hk, htab⟩ := hD.a
  refine ⟨_, rfl, _, rfl, b, C, dx, _, _, rfl, hb, Tb.cl, Tb.n2, rfl, tb, _, rfl, DGet.k (k := kS n) hk, _, rfl, ?_⟩
  rcases TabAt.get n rs kt htab with ⟨e1, e2⟩ | ⟨v, u, e1, e2, hv⟩
  · rw [e1]
    refine iteT ⟨_, rfl, raised fun d H' s1 hd => ?_⟩
    exact ke e2 d H' s1 hd
  · rw [e1]
    refine iteF ?_
    have hg := DGet.k (k := kS n) hk
    rw [e1] at hg
    exact ⟨_, rfl, b, C, dx, _, _, rfl, hb, Tb.cl, Tb.n2, rfl, _, rfl, tb, _, rfl, hg, kq v u e2 hv⟩
abbrev s_Book_contains : Stmt := inClass (top 48) 5
theorem sc_Book_contains : FnScope ["self", "name"] ["self", "name"] (defScope s_Book_contains) := ⟨rfl, rfl, rfl, by decide +kernel, rfl, by decide +kernel, by decide +kernel⟩
theorem ok_contains {f : Addr} {fd : FuncData} (F : Fun K "__contains__" "Book.__contains__" s_Book_contains f fd) (Tb : BkF K C) :
    FnOk P w K mg base CX0 3 f fd ["self", "name"] (spHas c C) := by
  refine F.ok sc_Book_contains (fun vs H Q E h => by obtain ⟨_, _, _, rfl, _⟩ := h; rfl) (fun cdv A outer s H vs Q E hr h => ?_)
  obtain ⟨b, n, rs, rfl, ⟨dx, t, tb, sz, ts, hb, ht, hts, hD⟩, kq⟩ := h
  have hu : (A.deeper (envOfC "Book.__contains__" (defScope s_Book_contains) s.heap.objs.size f cdv)).units + 1 < cLine := Nat.lt_of_le_of_lt (Nat.add_le_add_left (by decide) _) hr.units
  refine ⟨_, (pss_one (ps_ret (pe_cmp (pc_din hu (pv 1) (pe_fld (pv 0) rfl))))), ?_⟩
  obtain ⟨kt, hk, htab⟩ := hD.a
  refine ⟨_, rfl, _, rfl, b, C, dx, _, _, rfl, hb, Tb.cl, Tb.n2, rfl, tb, _, rfl, DGet.k (k := kS n) hk, ?_⟩
  rw [htab.has n]
  exact kq
end
end Bo
namespace Bo
open PySem PySem.Spec PyProof.Rows L2 Wv Ws Bk
/-! ### calls replaced -/
mutual
def W.rep (T : List (Str × W)) : W → W
  | .nothing => .nothing | .one => .one | .letter x => .letter x
  | .call x => (wayOf T x).getD (.call x)
  | .row ws => .row (W.reps T ws) | .choice ws => .choice (W.reps T ws)
  | .again w => .again (W.rep T w) | .maybe w => .maybe (W.rep T w) | .ahead w => .ahead (W.rep T w) | .unless w => .unless (W.rep T w)
def W.reps (T : List (Str × W)) : List W → List W
  | [] => []
  | w :: ws => W.rep T w :: W.reps T ws
end
theorem reps_map (T : List (Str × W)) : ∀ ws : List W, W.reps T ws = ws.map (W.rep T)
  | [] => rfl
  | w :: ws => by rw [W.reps, List.map_cons, reps_map T ws]
def repT (rs : List (Str × W)) : List (Str × W) := rs.foldl (fun T r => T ++ [(r.1, W.rep T r.2)]) []
theorem repT_snoc (rs : List (Str × W)) (r : Str × W) : repT (rs ++ [r]) = repT rs ++ [(r.1, W.rep (repT rs) r.2)] := by
  unfold repT
  rw [List.foldl_append]
  rfl
/-- a book's rules: names once, calls of those ahead -/
inductive Gd : List (Str × W) → Prop where
  | nil : Gd []
  | snoc {rs : List (Str × W)} {n : Str} {w : W} (h : Gd rs) (hn : n ∉ rs.map (·.1)) (hc : W.cin (rs.map (·.1)) w) : Gd (rs ++ [(n, w)])
theorem wayOf_nil (x : Str) : wayOf [] x = none := rfl
theorem wayOf_app (T U : List (Str × W)) (x : Str) : wayOf (T ++ U) x = (wayOf T x).or (wayOf U x) := by
  unfold wayOf
  rw [List.find?_append]
  cases T.find? fun r => decide (r.1 = x) <;> rfl
theorem wayOf_one (n : Str) (w : W) (x : Str) : wayOf [(n, w)] x = if n = x then some w else none := by
  unfold wayOf
  rw [List.find?_cons]
  by_cases h : n = x
  · rw [if_pos h, decide_eq_true h]; rfl
  · rw [if_neg h, decide_eq_false h]; rfl
theorem wayOf_in {T : List (Str × W)} {x : Str} (h : x ∈ T.map (·.1)) : ∃ w, wayOf T x = some w := Option.isSome_iff_exists.mp (by rw [wayOf_some, decide_eq_true h])
theorem wayOf_out {T : List (Str × W)} {x : Str} (h : x ∉ T.map (·.1)) : wayOf T x = none := by
  have := wayOf_some (rs := T) (x := x)
  rw [decide_eq_false h] at this
  exact Option.isNone_iff_eq_none.mp (by simpa using this)
theorem repT_names {rs : List (Str × W)} (g : Gd rs) : (repT rs).map (·.1) = rs.map (·.1) := by
  induction g with
  | nil => rfl
  | snoc h hn hc ih => rw [repT_snoc, List.map_append, ih, List.map_append]; rfl
mutual
theorem rep_app {T U : List (Str × W)} : ∀ w : W, W.cin (T.map (·.1)) w → W.rep (T ++ U) w = W.rep T w
  | .nothing, _ => rfl | .one, _ => rfl | .letter _, _ => rfl
  | .call x, h => by
    obtain ⟨u, e⟩ := wayOf_in (show x ∈ T.map (·.1) from h)
    rw [W.rep, W.rep, wayOf_app, e]
    rfl
  | .row ws, h => by rw [W.rep, W.rep, reps_app ws h]
  | .choice ws, h => by rw [W.rep, W.rep, reps_app ws h]
  | .again w, h => by rw [W.rep, W.rep, rep_app w h]
  | .maybe w, h => by rw [W.rep, W.rep, rep_app w h]
  | .ahead w, h => by rw [W.rep, W.rep, rep_app w h]
  | .unless w, h => by rw [W.rep, W.rep, rep_app w h]
theorem reps_app {T U : List (Str × W)} : ∀ ws : List W, W.cins (T.map (·.1)) ws → W.reps (T ++ U) ws = W.reps T ws
  | [], _ => rfl
  | w :: ws, h => by rw [W.reps, W.reps, rep_app w h.1, reps_app ws h.2]
end
mutual
theorem rep_none {T : List (Str × W)} : ∀ w : W, w.called = none → W.rep T w = w
  | .nothing, _ => rfl | .one, _ => rfl | .letter _, _ => rfl
  | .call x, h => by cases h
  | .row ws, h => by rw [W.rep, reps_none ws h]
  | .choice ws, h => by rw [W.rep, reps_none ws h]
  | .again w, h => by rw [W.rep, rep_none w h]
  | .maybe w, h => by rw [W.rep, rep_none w h]
  | .ahead w, h => by rw [W.rep, rep_none w h]
  | .unless w, h => by rw [W.rep, rep_none w h]
theorem reps_none {T : List (Str × W)} : ∀ ws : List W, W.calleds ws = none → W.reps T ws = ws
  | [], _ => rfl
  | w :: ws, h => by
    rw [W.calleds] at h
    cases hw : w.called with
    | some x => rw [hw] at h; cases h
    | none =>
      rw [hw] at h
      rw [W.reps, rep_none w hw, reps_none ws h]
end
mutual
theorem cin_app {T U : List Str} : ∀ w : W, W.cin T w → W.cin (T ++ U) w
  | .nothing, _ => trivial | .one, _ => trivial | .letter _, _ => trivial
  | .call x, h => List.mem_append_left _ h
  | .row ws, h => cins_more ws h
  | .choice ws, h => cins_more ws h
  | .again w, h => cin_app w h | .maybe w, h => cin_app w h | .ahead w, h => cin_app w h | .unless w, h => cin_app w h
theorem cins_more {T U : List Str} : ∀ ws : List W, W.cins T ws → W.cins (T ++ U) ws
  | [], _ => trivial
  | w :: ws, h => ⟨cin_app w h.1, cins_more ws h.2⟩
end
/-- what a rule's way becomes -/
theorem way_rep {rs : List (Str × W)} (g : Gd rs) : ∀ {n : Str} {w : W}, wayOf rs n = some w → ∃ i, i < rs.length ∧ W.cin ((rs.take i).map (·.1)) w ∧ wayOf (repT rs) n = some (W.rep (repT rs) w) := by
  induction g with
  | nil => intro n w h; cases h
  | @snoc rs m u h hn hc ih =>
    intro n w hw
    rw [wayOf_app] at hw
    cases e : wayOf rs n with
    | some w' =>
      rw [e] at hw
      obtain rfl : w' = w := by simpa using hw
      obtain ⟨i, hi, hci, hr⟩ := ih e
      refine ⟨i, by rw [List.length_append]; omega, by rw [List.take_append_of_le_length (by omega)]; exact hci, ?_⟩
      have hc2 : W.cin ((repT rs).map (·.1)) w' := by
        rw [repT_names h]
        have := cin_app (U := (rs.drop i).map (·.1)) w' hci
        rwa [← List.map_append, List.take_append_drop] at this
      rw [repT_snoc, wayOf_app, hr, rep_app w' hc2]
      rfl
    | none =>
      rw [e, Option.none_or, wayOf_one] at hw
      split at hw
      · rename_i em
        obtain rfl : u = w := by simpa using hw
        subst em
        refine ⟨rs.length, by rw [List.length_append]; show rs.length < rs.length + 1; omega, by rw [List.take_left]; exact hc, ?_⟩
        rw [repT_snoc, wayOf_app, wayOf_out (by rw [repT_names h]; exact hn), Option.none_or, wayOf_one, if_pos rfl, rep_app u (by rw [repT_names h]; exact hc)]
      · cases hw
mutual
theorem rep_size {S : List (Str × Nat)} {T : List (Str × W)} (hS : ∀ x, szOf S x = (wayOf T x).map W.size) : ∀ w : W, W.cin (T.map (·.1)) w → (w.parts.map (partZ S)).sum = (W.rep T w).size
  | .nothing, _ => rfl | .one, _ => rfl | .letter _, _ => rfl
  | .call x, h => by
    obtain ⟨u, e⟩ := wayOf_in (show x ∈ T.map (·.1) from h)
    rw [W.rep, e]
    show partZ S (.call x) + 0 = u.size
    show (szOf S x).getD 0 + 0 = u.size
    rw [hS, e]
    rfl
  | .row ws, h => by
    rw [W.rep, W.parts, List.map_cons, List.sum_cons, reps_size hS ws h]
    rfl
  | .choice ws, h => by
    rw [W.rep, W.parts, List.map_cons, List.sum_cons, reps_size hS ws h]
    rfl
  | .again w, h => by
    rw [W.rep, W.parts, List.map_cons, List.sum_cons, List.append_nil, rep_size hS w h]
    rfl
  | .maybe w, h => by
    rw [W.rep, W.parts, List.map_cons, List.sum_cons, List.append_nil, rep_size hS w h]
    rfl
  | .ahead w, h => by
    rw [W.rep, W.parts, List.map_cons, List.sum_cons, List.append_nil, rep_size hS w h]
    rfl
  | .unless w, h => by
    rw [W.rep, W.parts, List.map_cons, List.sum_cons, List.append_nil, rep_size hS w h]
    rfl
theorem reps_size {S : List (Str × Nat)} {T : List (Str × W)} (hS : ∀ x, szOf S x = (wayOf T x).map W.size) : ∀ ws : List W, W.cins (T.map (·.1)) ws → ((W.partss ws).map (partZ S)).sum = W.sizes (W.reps T ws)
  | [], _ => rfl
  | w :: ws, h => by
    rw [W.partss, List.map_append, List.sum_append, rep_size hS w h.1, reps_size hS ws h.2]
    rfl
end
theorem szOf_app (S U : List (Str × Nat)) (x : Str) : szOf (S ++ U) x = (szOf S x).or (szOf U x) := by
  unfold szOf
  rw [List.find?_append]
  cases S.find? fun r => decide (r.1 = x) <;> rfl
theorem szOf_one (n : Str) (z : Nat) (x : Str) : szOf [(n, z)] x = if n = x then some z else none := by
  unfold szOf
  rw [List.find?_cons]
  by_cases h : n = x
  · rw [if_pos h, decide_eq_true h]; rfl
  · rw [if_neg h, decide_eq_false h]; rfl
/-- the sizes that a book keeps are those of the replaced ways -/
theorem sizes_rep {rs : List (Str × W)} (g : Gd rs) : ∀ x, szOf (sizesOf rs) x = (wayOf (repT rs) x).map W.size := by
  induction g with
  | nil => intro x; rfl
  | @snoc rs m u h hn hc ih =>
    intro x
    rw [sizes_snoc, repT_snoc, szOf_app, wayOf_app, ih x, szOf_one, wayOf_one]
    have e : sz1 (sizesOf rs) u = (W.rep (repT rs) u).size := rep_size ih u (by rw [repT_names h]; exact hc)
    rw [e]
    cases wayOf (repT rs) x with
    | some v => rfl
    | none =>
      rw [Option.none_or]
      split <;> rfl
end Bo
namespace Bo
open PySem PySem.Spec PyProof.Rows L2 Wv Ws Bk
/-! ### a book that is made has its rules in order -/
theorem bad1_two {T : List Str} : ∀ (a b : List W), bad1 T (a ++ b) = none → bad1 T a = none ∧ bad1 T b = none
  | [], b, h => ⟨rfl, h⟩
  | x :: a, b, h => by
    cases x with
    | call y =>
      rw [List.cons_append, bad1] at h
      rw [bad1]
      split at h
      · rw [if_pos ‹_›]; exact bad1_two a b h
      · cases h
    | _ => exact bad1_two a b h
mutual
theorem bad_cin {T : List Str} : ∀ w : W, bad1 T w.parts = none → W.cin T w
  | .nothing, _ => trivial | .one, _ => trivial | .letter _, _ => trivial
  | .call x, h => by
    have h : (if x ∈ T then bad1 T [] else some x) = none := h
    split at h
    · assumption
    · cases h
  | .row ws, h => bad_cins ws h
  | .choice ws, h => bad_cins ws h
  | .again w, h => bad_cin w (bad1_two _ _ (show bad1 T (w.parts ++ []) = none from h)).1
  | .maybe w, h => bad_cin w (bad1_two _ _ (show bad1 T (w.parts ++ []) = none from h)).1
  | .ahead w, h => bad_cin w (bad1_two _ _ (show bad1 T (w.parts ++ []) = none from h)).1
  | .unless w, h => bad_cin w (bad1_two _ _ (show bad1 T (w.parts ++ []) = none from h)).1
theorem bad_cins {T : List Str} : ∀ ws : List W, bad1 T (W.partss ws) = none → W.cins T ws
  | [], _ => trivial
  | w :: ws, h => ⟨bad_cin w (bad1_two _ _ h).1, bad_cins ws (bad1_two _ _ h).2⟩
end
theorem gd_book : ∀ (rs ps : List (Str × W)), Gd ps → bookE (ps.map (·.1)) rs = none → Gd (ps ++ rs)
  | [], ps, g, _ => by rw [List.append_nil]; exact g
  | (n, w) :: rs, ps, g, h => by
    rw [bookE] at h
    cases hb : badR (ps.map (·.1)) n w with
    | some x => rw [hb] at h; cases h
    | none =>
      rw [hb] at h
      unfold badR at hb
      split at hb
      · cases hb
      rename_i hn
      have g2 := Gd.snoc g hn (bad_cin w hb)
      have := gd_book rs (ps ++ [(n, w)]) g2 (by rw [List.map_append]; exact h)
      rwa [List.append_assoc] at this
theorem gd_of {rs : List (Str × W)} (h : bookE [] rs = none) : Gd rs := gd_book rs [] .nil h
/-- the law's names are none of a pen's -/
theorem six_cells {x : Str} (h : NmOk x) : x ≠ Str.ofString "cells" := fun e => by
  obtain ⟨_, cs, rfl, hc⟩ := h
  have e2 : tx cs = tx [99, 101, 108, 108, 115] := e.trans (by decide +kernel)
  have e3 : cs = [99, 101, 108, 108, 115] := by
    have := congrArg (fun z : Str => z.cps.toList) e2
    simpa [tx] using this
  have := hc 101 (by rw [e3]; decide)
  revert this
  decide
theorem plain_names {rs : List (Str × W)} (h : ∀ x ∈ rs, x.2.size ≤ 30 ∧ NmOk x.1) : Plain rs := fun r hr => six_cells (h r hr).2
end Bo
namespace Bo
open PySem PySem.Spec PyProof.Rows L2 Wv Ws Bk
/-! ### replaced: a way with its calls replaced -/
theorem Gd.front {rs : List (Str × W)} (g : Gd rs) : ∀ i, Gd (rs.take i) := by
  induction g with
  | nil => intro i; rw [List.take_nil]; exact .nil
  | @snoc rs m u h hn hc ih =>
    intro i
    by_cases hi : i ≤ rs.length
    · rw [List.take_append_of_le_length hi]; exact ih i
    · rw [List.take_of_length_le (by rw [List.length_append]; show rs.length + 1 ≤ i; omega)]; exact .snoc h hn hc
theorem size_mem : ∀ {ws : List W} {u : W}, u ∈ ws → u.size ≤ W.sizes ws
  | w :: ws, u, h => by
    rw [W.sizes]
    rcases List.mem_cons.mp h with rfl | h
    · omega
    · have := size_mem h
      omega
theorem cins_mem {T : List Str} : ∀ {ws : List W} {u : W}, W.cins T ws → u ∈ ws → W.cin T u
  | w :: ws, u, h, hu => by
    rcases List.mem_cons.mp hu with rfl | hu
    · exact h.1
    · exact cins_mem h.2 hu
theorem cin_inner {T : List Str} {w u : W} (h : W.cin T w) (hu : u ∈ w.inner) : W.cin T u := by
  cases w <;> first
    | exact (List.not_mem_nil (show u ∈ ([] : List W) from hu)).elim
    | exact cins_mem h hu
    | (obtain rfl := List.mem_singleton.mp hu; exact h)
theorem rep_inner {T : List (Str × W)} {w u : W} (hu : u ∈ w.inner) : (W.rep T u).size + 1 ≤ (W.rep T w).size := by
  cases w <;> first
    | exact (List.not_mem_nil (show u ∈ ([] : List W) from hu)).elim
    | (rename_i ws
       have h := size_mem (List.mem_map.mpr ⟨u, (show u ∈ ws from hu), rfl⟩ : W.rep T u ∈ List.map (W.rep T) ws)
       rw [W.rep, reps_map, W.size]
       omega)
    | (obtain rfl := List.mem_singleton.mp hu
       rw [W.rep, W.size]
       omega)
theorem rep_builds {T : List (Str × W)} {w : W} (h : w.tag ≠ (W.call (Str.ofString "")).tag) : Builds w.kind w.word (w.inner.map (W.rep T)) (W.rep T w) := by
  cases w <;> first
    | exact absurd rfl h
    | exact .letter _ | exact .one | exact .nothing
    | (rw [W.rep, reps_map]; exact .row _) | (rw [W.rep, reps_map]; exact .choice _)
    | exact .again _ | exact .maybe _ | exact .ahead _ | exact .unless _
def spRepl (c : Cs) (s : Nat) : Sp := fun vs H Q _ => ∃ (v : V) (x : W) (tb : Addr) (kt : List (Key × V)) (rs : List (Str × W)) (i : Nat), vs = [v, .ref tb] ∧ ObjAt c H v x ∧ H tb = some (.dK kt) ∧ TabAt c H kt rs ∧ Gd rs ∧ i ≤ rs.length ∧ W.cin ((rs.take i).map (·.1)) x ∧
  (W.rep (repT rs) x).size + i ≤ s ∧ s ≤ 1000 ∧ ∀ (u : V) (H' : Hp), Same H H' → ObjAt c H' u (W.rep (repT rs) x) → Q u H'
section
variable {P : Program} {w : World} {K : PySem.W.Frag} {mg : Str → Option Value} {base : Heap} {c : Cs}
abbrev s_replaced : Stmt := top 50
theorem sc_replaced : FnScope ["way", "table", "part"] ["way", "table"] (defScope s_replaced) := ⟨rfl, rfl, rfl, by decide +kernel, rfl, by decide +kernel, by decide +kernel⟩
theorem none_replaced {f : Addr} {fd : FuncData} : FnOk P w K mg base CX0 4 f fd ["way", "table"] (spRepl c 0) := by
  have no : ∀ vs H Q E, ¬ spRepl c 0 vs H Q E := fun vs H Q E h => by
    obtain ⟨v, x, tb, kt, rs, i, _, _, _, _, _, _, _, h1, _⟩ := h
    have := (W.rep (repT rs) x).size_pos
    omega
  exact ⟨fun vs H Q E h => absurd h (no vs H Q E), fun A outer s H args us vs Q E _ _ _ _ h => absurd h (no vs H Q E)⟩
theorem step_replaced (s : Nat) (h : Here K mg "replaced" s_replaced ["way", "table"]) (A0 : AllF K mg c) (B : Bs mg) (G_built : DefOk P w K mg base 4 "built" ["kind", "word", "inner"] (spBuilt c)) (G_kind_of : DefOk P w K mg base 1 "kind_of" ["way"] (spKind c))
    (G_word_of : DefOk P w K mg base 1 "word_of" ["way"] (spWord c)) (G_made_of : DefOk P w K mg base 1 "made_of" ["way"] (spMadeOf c)) (G_replaced : DefOk P w K mg base (4 + s) "replaced" ["way", "table"] (spRepl c s)) :
    DefOk P w K mg base (4 + s + 1) "replaced" ["way", "table"] (spRepl c (s + 1)) := by
  have B_isinstance := B.isinstance
  have GK_Call := A0.mCa
  refine h.ok sc_replaced (fun vs H Q E h => by obtain ⟨_, _, _, _, _, _, rfl, _⟩ := h; rfl) (fun f cdv A outer s' H vs Q E hr h => ?_)
  obtain ⟨v, x, tb, kt, rs, i, rfl, hv, htb, hT, g, hi, hc, hs, hs2, k⟩ := h
  have hu : (A.deeper (envOfC "replaced" (defScope s_replaced) s'.heap.objs.size f cdv)).units + 1 < cLine := Nat.lt_of_le_of_lt (Nat.add_le_add_left (by omega) _) hr.units
  refine ⟨_, (pss_cons (ps_if (pt_cmpR op_isN (pe_fld (pv 0) rfl) pe_non (nomark _)) (pss_one (ps_ret (pv 0))) pss_nil)
  (pss_cons (ps_if (pt_val (pe_callB call_isi rfl B_isinstance (by decide +kernel) (pa_cons (pv 0) (pa_cons (pe_globC rfl GK_Call) pa_nil)))) (pss_one (ps_ret (pe_callD G_replaced (hr.mono (by first | decide | omega)) rfl (pa_cons (pe_dget hu (pv 1) (pe_fld (pv 0) rfl) (fun _ _ => rfl)) (pa_cons (pv 1) pa_nil))))) pss_nil)
  (pss_one (ps_ret (pe_callD G_built (hr.mono (by first | decide | omega)) rfl (pa_cons (pe_callD G_kind_of (hr.mono (by first | decide | omega)) rfl (pa_cons (pv 0) pa_nil)) (pa_cons (pe_callD G_word_of (hr.mono (by first | decide | omega)) rfl (pa_cons (pv 0) pa_nil)) (pa_cons (pe_lc (own := [("part", 2)]) (g := (gName 2)) (tt := tYes) rfl sc_replaced.nd (pi_tup (pe_callD G_made_of (hr.mono (by first | decide | omega)) rfl (pa_cons (pv 0) pa_nil))) (blkOk_by (own := [("part", 2)]) (N := ["way", "table", "part"]) (sc := defScope s_replaced) (by decide +kernel)) (fun _ _ _ _ _ => pg_name (i := 2) sc_replaced.nd rfl (Or.inl rfl)) (fun _ _ _ _ _ => pts_nil) (fun _ _ _ _ _ => (pe_callD G_replaced (hr.mono (by first | decide | omega)) rfl (pa_cons (pv 2) (pa_cons (pv 1) pa_nil))))) pa_nil)))))))), ?_⟩
  obtain ⟨a, d, fs, rfl, ha, l1, l2⟩ := hv.notes
  walk_at "rd"
  refine ⟨a, _, d, fs, _, rfl, ha, (A0.f x).cl, (A0.f x).nc, l1, ?_⟩
  cases hcd : x.called with
  | none =>
    refine ⟨rfl, _, rfl, iteT' (by decide) ⟨_, rfl, ?_⟩⟩
    exact k _ H (fun _ _ e => e) (by rw [rep_none x hcd]; exact hv)
  | some y =>
    refine ⟨rfl, _, rfl, iteN (decide_eq_false (fun z => by cases z)) ?_⟩
    walk_at "nx"
    refine ⟨_, rfl, .ref a, .ref c.ca, _, _, _, rfl, .own _, hv.ty A0, A0.kit x (.call (Str.ofString "")), _, rfl, ?_⟩
    by_cases ht2 : x.tag = (W.call (Str.ofString "")).tag
    · rw [decide_eq_true ht2]
      refine iteT ?_
      cases x <;> first | exact absurd ht2 (by simp only [W.tag]; decide +kernel) | skip
      rename_i z
      obtain ⟨a', d', ev, ha'⟩ := id hv
      cases ev
      have hz : z ∈ (rs.take i).map (·.1) := hc
      obtain ⟨w', hw'⟩ := wayOf_in hz
      have hwr : wayOf rs z = some w' := by
        have e := wayOf_app (rs.take i) (rs.drop i) z
        rw [List.take_append_drop, hw'] at e
        rw [e]
        rfl
      obtain ⟨j, hj, hcj, _⟩ := way_rep (g.front i) hw'
      obtain ⟨_, _, _, hrep⟩ := way_rep g hwr
      have hji : j < i := by rw [List.length_take] at hj; omega
      have er : W.rep (repT rs) (.call z) = W.rep (repT rs) w' := by rw [W.rep, hrep]; rfl
      rw [er] at hs k
      have hg := DGet.k (k := kS z) htb
      rcases TabAt.get z rs kt hT with ⟨e1, e2⟩ | ⟨v', u', e1, e2, hv'⟩
      · rw [e2] at hwr; cases hwr
      rw [e2] at hwr
      obtain rfl : u' = w' := by simpa using hwr
      rw [e1] at hg
      rw [List.take_take, Nat.min_eq_left (Nat.le_of_lt hji)] at hcj
      refine ⟨_, rfl, _, rfl, a, c.ca, d', _, _, rfl, ha', (A0.f (.call (Str.ofString ""))).cl, (A0.f (.call (Str.ofString ""))).nn, rfl, tb, _, rfl, hg, _, rfl, ?_⟩
      exact ⟨v', u', tb, kt, rs, j, rfl, hv', htb, hT, g, by omega, hcj, by omega, by omega, k⟩
    · rw [decide_eq_false ht2]
      refine iteF ?_
      walk_at "nx"
      refine ⟨_, rfl, .ref a, x, rfl, hv, _, rfl, .ref a, x, rfl, hv, _, rfl, .ref a, x, rfl, hv, fun t us H1 s1 ht hus => ⟨t, rfl, ⟨us, SqT.of ht⟩, fun D hD => ?_⟩⟩
      have hlen := ObjsAt.len _ _ hus
      have hin : x.inner.length ≤ 1000 := by
        cases hx : x.inner with
        | nil => exact Nat.zero_le _
        | cons u0 r0 =>
          have b := rep_builds (T := repT rs) ht2
          have : x.inner.length ≤ (W.rep (repT rs) x).size := by
            cases x <;> first
              | exact (List.cons_ne_nil _ _ (show ([] : List W) = _ from hx).symm).elim
              | (rename_i ws
                 rw [W.rep, reps_map, W.size]
                 have := W.sizes_len (ws.map (W.rep (repT rs)))
                 rw [List.length_map] at this
                 show ws.length ≤ _
                 omega)
              | (show 1 ≤ _; exact W.size_pos _)
          rw [← hx]
          omega
      refine lc_tup (K := K) (a := t) (xs := us) (fun j H' => ∃ os, H' D = some (.lst os) ∧ ObjsAt c H' os ((x.inner.take j).map (W.rep (repT rs))) ∧ Same H1 H') ?_ ?_ ?_ ?_
      · exact ⟨[], upd_same, rfl, Same.new hD _⟩
      · rintro j H' _ ⟨os, _, _, s2⟩
        exact SqT.of (s2 _ _ ht)
      · rintro j e H' he ⟨os, hD', hos, s2⟩
        have hjl : j < us.length := (List.getElem?_eq_some_iff.mp he).1
        obtain ⟨wi, hwi⟩ : ∃ wi, x.inner[j]? = some wi := ⟨x.inner[j]'(by omega), List.getElem?_eq_getElem (by omega)⟩
        obtain ⟨e', he', hxw⟩ := ObjsAt.at_ _ _ _ _ hus hwi
        have ex : e = e' := Option.some.inj (he.symm.trans he')
        subst ex
        have hmem : wi ∈ x.inner := List.mem_of_getElem? hwi
        have hsz := rep_inner (T := repT rs) hmem
        have s12 := s1.trans s2
        refine ⟨rfl, ?_⟩
        refine yesI ?_
        rw [if_pos rfl]
        refine ⟨_, rfl, _, rfl, e, wi, tb, kt, rs, i, rfl, ObjAt.keep (stillS s2) _ _ hxw, s12 _ _ htb, TabAt.keep (stillS s12) _ _ hT, g, hi, cin_inner hc hmem, by omega, by omega, fun u H2 s3 hu2 => ?_⟩
        have hlo := ObjsAt.len _ _ hos
        refine ⟨os, s3 _ _ hD', small' (by rw [hlo, List.length_map, List.length_take]; omega), os ++ [u], upd_same, ?_, Same.put hD (s2.trans s3) _⟩
        rw [List.take_add_one, hwi, List.map_append]
        have st : Still H2 (upd H2 D (.lst (os ++ [u]))) := Still.put (s3 _ _ hD')
        exact ObjsAt.app _ _ (ObjsAt.keep ((stillS s3).trans st) _ _ hos) ⟨u, [], rfl, ObjAt.keep st _ _ hu2, rfl⟩
      rintro H2 ⟨os, hD2, hos, s2⟩
      have s12 := s1.trans s2
      rw [hlen, List.take_length] at hos
      exact ⟨x.kind, x.word, D, os, _, _, rfl, hD2, hos, rep_builds ht2, by rw [List.length_map]; omega, fun u H3 s3 hu3 => k u H3 (s12.trans s3) hu3⟩
theorem d_replaced (h : Here K mg "replaced" s_replaced ["way", "table"]) (A0 : AllF K mg c) (B : Bs mg) (G_built : DefOk P w K mg base 4 "built" ["kind", "word", "inner"] (spBuilt c)) (G_kind_of : DefOk P w K mg base 1 "kind_of" ["way"] (spKind c))
    (G_word_of : DefOk P w K mg base 1 "word_of" ["way"] (spWord c)) (G_made_of : DefOk P w K mg base 1 "made_of" ["way"] (spMadeOf c)) : ∀ s, DefOk P w K mg base (4 + s) "replaced" ["way", "table"] (spRepl c s)
  | 0 => by
    obtain ⟨f, fd, F, m, b⟩ := h.ex
    exact ⟨f, fd, m, F.kp, b, none_replaced⟩
  | s + 1 => step_replaced s h A0 B G_built G_kind_of G_word_of G_made_of (d_replaced h A0 B G_built G_kind_of G_word_of G_made_of s)
end
end Bo
namespace Bo
open PySem PySem.Spec PyProof.Rows L2 Wv Ws Bk
/-! ### Book.way -/
def sWhat : Str := Str.ofString "what"
def spMany (C : Addr) : Sp := fun vs H Q _ => ∃ (a : Addr) (v : V), vs = [.ref a, v] ∧ H a = some (exo a C none) ∧ ∀ (d : Addr), H d = none → d ≠ a → Q .non (upd (upd H d (exd d [(sWhat, v)])) a (exo a C (some d)))
/-- what raise TooMany(v) leaves -/
theorem raisedM {C : Addr} {v : V} {H1 : Hp} {Q : XK} {E : XK} (k : ∀ (d : Addr) (H' : Hp), Same H1 H' → H' d = some (.xd [(sWhat, v)]) → Q (.ref C) (some d) H') :
    ([v] : List V).length ≤ 1000 ∧ ∀ a, H1 a = none → spMany C (.ref a :: ([v] ++ [])) (upd H1 a (exo a C none))
      (fun v' H2 => v' = .non ∧ ∃ (d : Addr) (fs : List (Str × V)), H2 a = some (exo a C (some d)) ∧ H2 d = some (exd d fs) ∧ H1 d = none ∧ Q (.ref C) (some d) (upd (del H2 a) d (.xd fs))) E := by
  refine ⟨by show 1 ≤ 1000; decide, fun a ha => ⟨a, v, rfl, upd_same, fun d hd hne => ⟨rfl, d, _, upd_same, by rw [upd_ne hne]; exact upd_same, by rw [upd_ne hne] at hd; exact hd, ?_⟩⟩⟩
  have hd' : H1 d = none := by rw [upd_ne hne] at hd; exact hd
  refine k d _ (fun b o e => ?_) upd_same
  rw [upd_ne (ne_of_none e hd'), del_ne (ne_of_none e ha), upd_ne (ne_of_none e ha), upd_ne (ne_of_none e hd'), upd_ne (ne_of_none e ha)]
  exact e
def spWayB (c : Cs) (C BN TM : Addr) : Sp := fun vs H Q E => ∃ (b : Addr) (n : Str) (rs : List (Str × W)), vs = [.ref b, .str n] ∧ BookAt c C H b rs ∧ Gd rs ∧ rs.length ≤ 16 ∧
  (wayOf rs n = none → ∀ (d : Addr) (H' : Hp), Same H H' → H' d = some (.xd [(sName, .str n)]) → E (.ref BN) (some d) H') ∧
  (∀ u, wayOf (repT rs) n = some u → 64 < u.size → ∀ (d : Addr) (H' : Hp), Same H H' → H' d = some (.xd [(sWhat, .str (Str.ofString "parts"))]) → E (.ref TM) (some d) H') ∧
  ∀ u, wayOf (repT rs) n = some u → u.size ≤ 64 → ∀ (v : V) (H' : Hp), Same H H' → ObjAt c H' v u → Q v H'
section
variable {P : Program} {w : World} {K : PySem.W.Frag} {mg : Str → Option Value} {base : Heap} {c : Cs} {C BN TM : Addr}
abbrev s_TooMany_init : Stmt := inClass (top 5) 0
theorem sc_TooMany_init : FnScope ["self", "what"] ["self", "what"] (defScope s_TooMany_init) := ⟨rfl, rfl, rfl, by decide +kernel, rfl, by decide +kernel, by decide +kernel⟩
theorem ok_Many {f : Addr} {fd : FuncData} (F : Fun K "__init__" "TooMany.__init__" s_TooMany_init f fd) (T : OexC K TM) (hn : PySem.W.findIn K (.ref TM) "what" = some none) : FnOk P w K mg base CX0 1 f fd ["self", "what"] (spMany TM) := by
  refine F.ok sc_TooMany_init (fun vs H Q E h => by obtain ⟨_, _, rfl, _⟩ := h; rfl) (fun cdv A outer s H vs Q E hr h => ?_)
  obtain ⟨a, v, rfl, ha, k⟩ := h
  refine ⟨_, (pss_one (ps_ost (pv 0) (pv 1))), ?_⟩
  exact ⟨_, rfl, _, rfl, a, TM, rfl, T, hn, .inl ⟨ha, fun d h1 h2 => k d h1 h2⟩⟩
abbrev s_Book_way : Stmt := inClass (top 48) 3
theorem sc_Book_way : FnScope ["self", "name", "told"] ["self", "name"] (defScope s_Book_way) := ⟨rfl, rfl, rfl, by decide +kernel, rfl, by decide +kernel, by decide +kernel⟩
theorem ok_way {f : Addr} {fd : FuncData} (F : Fun K "way" "Book.way" s_Book_way f fd) (Tb : BkF K C) (GC_MOST_BOOK_PARTS : ∃ t, mg "MOST_BOOK_PARTS" = some (.int 64 t)) (G_TooMany : ExOk P w K mg base 1 "TooMany" TM ["self", "what"] (spMany TM))
    (G_getitem_Book : SpC (L2.CX P w) P w K mg base C "__getitem__" 3 (spGet c C BN)) (G_replaced : DefOk P w K mg base (4 + 80) "replaced" ["way", "table"] (spRepl c 80)) :
    FnOk P w K mg base (L2.CX P w) 85 f fd ["self", "name"] (spWayB c C BN TM) := by
  refine F.okX sc_Book_way (fun vs H Q E h => by obtain ⟨_, _, _, rfl, _⟩ := h; rfl) (fun cdv A outer s H vs Q E hr h => ?_)
  obtain ⟨b, n, rs, rfl, hB, g, hl, kb, km, kq⟩ := h
  have hu : (A.deeper (envOfC "Book.way" (defScope s_Book_way) s.heap.objs.size f cdv)).units + 1 < cLine := Nat.lt_of_le_of_lt (Nat.add_le_add_left (by decide) _) hr.units
  refine ⟨_, (pss_cons (ps_set (i := 2) sc_Book_way.nd rfl (Or.inl rfl) (pe_getC (E := E) G_getitem_Book (hr.mono (by first | decide | omega)) (passes_call (takes_of rfl rfl rfl rfl) (fun _ _ _ _ h => h)) (pv 0) (pv 1)))
  (pss_cons (ps_if (pt_cmpR op_gt (pe_dget hu (pe_fld (pv 0) rfl) (pv 1) (fun _ _ => rfl)) (pe_globI rfl GC_MOST_BOOK_PARTS) (nomark _)) (pss_one (ps_raise rfl (takes_of rfl rfl rfl rfl) (pmk_ex G_TooMany (hr.mono (by first | decide | omega)) rfl (pa_cons pe_str pa_nil)))) pss_nil)
  (pss_one (ps_ret (pe_callD G_replaced (hr.mono (by first | decide | omega)) rfl (pa_cons (pv 2) (pa_cons (pe_fld (pv 0) rfl) pa_nil))))))), ?_⟩
  obtain ⟨dx, t, tb, sz, ts, hb, ht, hts, hD⟩ := id hB
  obtain ⟨kt, hk, htab⟩ := hD.a
  refine ⟨_, rfl, _, rfl, b, dx, _, rfl, hb, b, n, rs, rfl, hB, fun v u e hv => ?_, fun e d H' s1 hd => kb e d H' s1 hd⟩
  obtain ⟨i, hi, hci, hr2⟩ := way_rep g e
  walk_at "nx"
  have hg := DGet.k (k := kS n) hD.b
  rw [valV_sz, sizes_rep g n, hr2] at hg
  refine ⟨_, rfl, b, C, dx, _, _, rfl, hb, Tb.cl, Tb.n3, rfl, _, rfl, sz, _, rfl, hg, _, _, rfl, rfl, _, rfl, ?_⟩
  refine ite2 (fun q => ?_) (fun q => ?_)
  · have q := of_decide_eq_true q
    refine raisedM fun d H' s1 hd => km _ hr2 ?_ d H' s1 hd
    have : (64 : Int) < ((W.rep (repT rs) u).size : Nat) := q
    omega
  · have q : ¬ (64 : Int) < ((W.rep (repT rs) u).size : Nat) := fun z => q (decide_eq_true z)
    walk_at "nx"
    refine ⟨_, rfl, _, rfl, b, C, dx, _, _, rfl, hb, Tb.cl, Tb.n2, rfl, ?_⟩
    exact ⟨v, u, tb, kt, rs, i, rfl, hv, hk, htab, g, Nat.le_of_lt hi, hci, by omega, by omega, fun v' H' s1 hv' => kq _ hr2 (by omega) v' H' s1 hv'⟩
end
end Bo
namespace Bo
open PySem PySem.Spec PyProof.Rows L2 Wv Ws Bk
/-! ### the law's sizes -/
theorem sizes_sum : ∀ ws : List W, W.sizes ws = (ws.map W.size).sum
  | [] => rfl
  | w :: ws => by rw [W.sizes, List.map_cons, List.sum_cons, sizes_sum ws]
theorem rep_sum {T : List (Str × W)} {w : W} (h : w.is_call' = false) : (W.rep T w).size = 1 + ((w.inner.map (W.rep T)).map W.size).sum := by
  cases w <;> first
    | exact absurd (show true = false from h) (by decide)
    | rfl
    | (rw [W.rep, reps_map, W.size, sizes_sum]; rfl)
def spSzIn (s : Nat) : Sp := fun vs H Q _ => ∃ (v : V) (x : W) (D : Addr) (S : List (Str × Nat)) (T : List (Str × W)), vs = [v, .ref D] ∧ WayAt H v x ∧ H D = some (.dK (szK S)) ∧ (∀ y, szOf S y = (wayOf T y).map W.size) ∧ W.cin (T.map (·.1)) x ∧
  x.size ≤ s ∧ s ≤ 1000 ∧ ∀ H', Same H H' → Q (.int ((W.rep T x).size : Nat)) H'
section
variable {P : Program} {w : World} {K : PySem.W.Frag} {mg : Str → Option Value} {base : Heap} {c : Cs}
abbrev s_l_size_in : Stmt := top 67
theorem sc_l_size_in : FnScope ["_law_way_here", "_law_sizes_here", "_law_one"] ["_law_way_here", "_law_sizes_here"] (defScope s_l_size_in) := ⟨rfl, rfl, rfl, by decide +kernel, rfl, by decide +kernel, by decide +kernel⟩
theorem none_size {f : Addr} {fd : FuncData} : FnOk P w K mg base CX0 2 f fd ["_law_way_here", "_law_sizes_here"] (spSzIn 0) := by
  have no : ∀ vs H Q E, ¬ spSzIn 0 vs H Q E := fun vs H Q E h => by
    obtain ⟨v, x, D, S, T, _, _, _, _, _, h1, _⟩ := h
    have := x.size_pos
    omega
  exact ⟨fun vs H Q E h => absurd h (no vs H Q E), fun A outer s H args us vs Q E _ _ _ _ h => absurd h (no vs H Q E)⟩
theorem step_size (s : Nat) (h : Here K mg "_law_size_in" s_l_size_in ["_law_way_here", "_law_sizes_here"]) (B : Bs mg) (G_l_inner : DefOk P w K mg base 1 "_law_inner" ["_law_way_here"] spInner) (G_l_size_in : DefOk P w K mg base (2 + s) "_law_size_in" ["_law_way_here", "_law_sizes_here"] (spSzIn s)) :
    DefOk P w K mg base (2 + s + 1) "_law_size_in" ["_law_way_here", "_law_sizes_here"] (spSzIn (s + 1)) := by
  have B_sum := B.sum
  refine h.ok sc_l_size_in (fun vs H Q E h => by obtain ⟨_, _, _, _, _, rfl, _⟩ := h; rfl) (fun f cdv A outer s' H vs Q E hr h => ?_)
  obtain ⟨v, x, D, S, T, rfl, hv, hD, hS, hc, hs, hs2, k⟩ := h
  have hu : (A.deeper (envOfC "_law_size_in" (defScope s_l_size_in) s'.heap.objs.size f cdv)).units + 1 < cLine := Nat.lt_of_le_of_lt (Nat.add_le_add_left (by omega) _) hr.units
  refine ⟨_, (pss_cons (ps_if (pt_cmpR op_eq (pe_ix ix_tup (pv 0) pe_int (fun _ _ => rfl)) pe_str (nomark _)) (pss_one (ps_ret (pe_dget hu (pv 1) (pe_ix ix_tup (pv 0) pe_int (fun _ _ => rfl)) (fun _ _ => rfl)))) pss_nil)
  (pss_one (ps_ret (pe_op op_add pe_int (pe_callB (cr_sum rfl) rfl B_sum (by decide +kernel) (pa_cons (pe_lc (own := [("_law_one", 2)]) (g := (gName 2)) (tt := tYes) rfl sc_l_size_in.nd (pi_list (pe_callD G_l_inner (hr.mono (by first | decide | omega)) rfl (pa_cons (pv 0) pa_nil))) (blkOk_by (own := [("_law_one", 2)]) (N := ["_law_way_here", "_law_sizes_here", "_law_one"]) (sc := defScope s_l_size_in) (by decide +kernel)) (fun _ _ _ _ _ => pg_name (i := 2) sc_l_size_in.nd rfl (Or.inl rfl)) (fun _ _ _ _ _ => pts_nil) (fun _ _ _ _ _ => (pe_callD G_l_size_in (hr.mono (by first | decide | omega)) rfl (pa_cons (pv 2) (pa_cons (pv 1) pa_nil))))) pa_nil)))))), ?_⟩
  obtain ⟨a, rest, rfl, ha⟩ := hv.head
  walk_at "rd"
  refine ⟨a, _, _, _, rfl, rfl, SqT.of ha, atI0, rfl, _, rfl, ?_⟩
  rw [eq_call]
  refine ite2 (fun e => ?_) (fun e => ?_)
  · cases x <;> first | exact absurd e Bool.false_ne_true | skip
    rename_i y
    obtain ⟨a', e', h1⟩ := hv
    cases e'
    obtain ⟨u, hu2⟩ := wayOf_in (show y ∈ T.map (·.1) from hc)
    have hg := DGet.k (k := kS y) hD
    rw [valV_sz, hS, hu2] at hg
    have er : (W.rep T (.call y)) = u := by rw [W.rep, hu2]; rfl
    rw [er] at k
    walk_at "rd"
    exact ⟨a, _, _, _, rfl, rfl, SqT.of h1, atI1, D, _, rfl, hg, k H fun _ _ e => e⟩
  · have e : x.is_call' = false := by cases h : x.is_call' <;> first | rfl | exact absurd h e
    walk_at "nx"
    walk_at "rd"
    refine ⟨.ref a, x, rfl, hv, fun q us H1 s1 hq hus => ⟨q, rfl, ⟨us, SqL.of hq⟩, fun L hL => ?_⟩⟩
    have hlen := WaysAt.len _ _ hus
    have hil : x.inner.length ≤ 1000 := by
      have := x.size_inner
      have := W.sizes_len x.inner
      omega
    refine lc_list (K := K) (a := q) (xs := us) (fun j H' => H' L = some (.lst (((x.inner.take j).map fun u => ((W.rep T u).size : Int)).map V.int)) ∧ Same H1 H') ?_ ?_ ?_ ?_
    · exact ⟨upd_same, Same.new hL _⟩
    · rintro j H' _ ⟨_, s2⟩
      exact SqL.of (s2 _ _ hq)
    · rintro j e1 H' he ⟨hL', s2⟩
      have hjl : j < us.length := (List.getElem?_eq_some_iff.mp he).1
      obtain ⟨wi, hwi⟩ : ∃ wi, x.inner[j]? = some wi := ⟨x.inner[j]'(by omega), List.getElem?_eq_getElem (by omega)⟩
      obtain ⟨e', he', hxw⟩ := WaysAt.at_ _ _ _ _ hus hwi
      have ex : e1 = e' := Option.some.inj (he.symm.trans he')
      subst ex
      have hmem : wi ∈ x.inner := List.mem_of_getElem? hwi
      have hsz := size_mem hmem
      have hsi := x.size_inner
      have s12 := s1.trans s2
      refine ⟨rfl, ?_⟩
      refine yesI ?_
      rw [if_pos rfl]
      refine ⟨_, rfl, _, rfl, e1, wi, D, S, T, rfl, WayAt.keep (Keep.of s2) _ _ hxw, s12 _ _ hD, hS, cin_inner hc hmem, by omega, by omega, fun H2 s3 => ?_⟩
      refine ⟨_, s3 _ _ hL', small' (by rw [List.length_map, List.length_map, List.length_take]; omega), ?_, Same.put hL (s2.trans s3) _⟩
      rw [upd_same, List.take_add_one, hwi, List.map_append, List.map_append]
      rfl
    rintro H2 ⟨hL2, s2⟩
    rw [hlen, List.take_length] at hL2
    refine ⟨L, _, rfl, SqL.of hL2, _, _, rfl, rfl, ?_⟩
    have es : (1 : Int) + (x.inner.map fun u => ((W.rep T u).size : Int)).sum = ((W.rep T x).size : Nat) := by
      rw [rep_sum e]
      have go : ∀ ws : List W, (ws.map fun u => ((W.rep T u).size : Int)).sum = (((ws.map (W.rep T)).map W.size).sum : Nat) := by
        intro ws
        induction ws with
        | nil => rfl
        | cons u us ih => rw [List.map_cons, List.sum_cons, ih, List.map_cons, List.map_cons, List.sum_cons]; exact (Int.natCast_add _ _).symm
      rw [go]
      exact (Int.natCast_add _ _).symm
    show Q (V.int ((1 : Int) + (x.inner.map fun u => ((W.rep T u).size : Int)).sum)) H2
    rw [es]
    exact k H2 (s1.trans s2)
theorem d_size_in (h : Here K mg "_law_size_in" s_l_size_in ["_law_way_here", "_law_sizes_here"]) (B : Bs mg) (G_l_inner : DefOk P w K mg base 1 "_law_inner" ["_law_way_here"] spInner) : ∀ s, DefOk P w K mg base (2 + s) "_law_size_in" ["_law_way_here", "_law_sizes_here"] (spSzIn s)
  | 0 => by
    obtain ⟨f, fd, F, m, b⟩ := h.ex
    exact ⟨f, fd, m, F.kp, b, none_size⟩
  | s + 1 => step_size s h B G_l_inner (d_size_in h B G_l_inner s)
/-- what the law's sizes are: those of the replaced ways -/
def spSizes : Sp := fun vs H Q _ => ∃ (q : Addr) (us : List V) (rs : List (Str × W)), vs = [.ref q] ∧ H q = some (.lst us) ∧ RulesAt H us rs ∧ Gd rs ∧ rs.length ≤ 100 ∧ (∀ r ∈ rs, r.2.size ≤ 30) ∧
  ∀ (D : Addr) (H' : Hp), Same H H' → H' D = some (.dK (szK (sizesOf rs))) → Q (.ref D) H'
theorem Gd.at_ {rs : List (Str × W)} (g : Gd rs) : ∀ {i : Nat} {n : Str} {x : W}, rs[i]? = some (n, x) → n ∉ (rs.take i).map (·.1) ∧ W.cin ((rs.take i).map (·.1)) x := by
  induction g with
  | nil => intro i n x h; simp at h
  | @snoc rs m u h hn hc ih =>
    intro i n x e
    by_cases hi : i < rs.length
    · rw [List.getElem?_append_left hi] at e
      rw [List.take_append_of_le_length (Nat.le_of_lt hi)]
      exact ih e
    · have hl : i = rs.length := by
        have := (List.getElem?_eq_some_iff.mp e).1
        rw [List.length_append] at this
        have : i < rs.length + 1 := this
        omega
      subst hl
      rw [List.getElem?_append_right (Nat.le_refl _), Nat.sub_self] at e
      cases e
      rw [List.take_left]
      exact ⟨hn, hc⟩
theorem szOf_out {rs : List (Str × W)} {n : Str} (h : n ∉ rs.map (·.1)) : szOf (sizesOf rs) n = none := by
  cases e : szOf (sizesOf rs) n with
  | none => rfl
  | some z =>
    exfalso
    unfold szOf at e
    rw [Option.map_eq_some_iff] at e
    obtain ⟨p, hp, _⟩ := e
    have h1 := List.find?_some hp
    have h2 := List.mem_map.mpr ⟨p, List.mem_of_find?_eq_some hp, of_decide_eq_true h1⟩
    rw [sizesOf_names] at h2
    exact h h2
abbrev s_l_sizes : Stmt := top 66
theorem sc_l_sizes : FnScope ["_law_rules_here", "_law_found", "_law_name_here", "_law_way_here"] ["_law_rules_here"] (defScope s_l_sizes) := ⟨rfl, rfl, rfl, by decide +kernel, rfl, by decide +kernel, by decide +kernel⟩
theorem d_sizes (h : Here K mg "_law_sizes" s_l_sizes ["_law_rules_here"]) (G_l_size_in : DefOk P w K mg base (2 + 30) "_law_size_in" ["_law_way_here", "_law_sizes_here"] (spSzIn 30)) : DefOk P w K mg base 33 "_law_sizes" ["_law_rules_here"] spSizes := by
  refine h.ok sc_l_sizes (fun vs H Q E h => by obtain ⟨_, _, _, rfl, _⟩ := h; rfl) (fun f cdv A outer s' H vs Q E hr h => ?_)
  obtain ⟨q, us, rs, rfl, hq, hus, g, hl, hz, k⟩ := h
  have hu : (A.deeper (envOfC "_law_sizes" (defScope s_l_sizes) s'.heap.objs.size f cdv)).units + 1 < cLine := Nat.lt_of_le_of_lt (Nat.add_le_add_left (by decide) _) hr.units
  refine ⟨_, (pss_cons (ps_set (i := 1) sc_l_sizes.nd rfl (Or.inl rfl) pe_dnewK)
  (pss_cons (ps_for PassesOwn.never rfl (pi_list (pv 0)) (pg_tup rfl (pgs_cons (pg_name (i := 2) sc_l_sizes.nd rfl (Or.inl rfl)) (pgs_cons (pg_name (i := 3) sc_l_sizes.nd rfl (Or.inl rfl)) pgs_nil)))
   (pss_one (ps_dput hu (pv 1) (pv 2) (pe_callD G_l_size_in (hr.mono (by first | decide | omega)) rfl (pa_cons (pv 3) (pa_cons (pv 1) pa_nil))) rfl)))
  (pss_one (ps_ret (pv 1))))), ?_⟩
  intro D hD0
  have s1 := Same.new hD0 (.dK [])
  have hlen := RulesAt.len _ _ hus
  walk_at "nx"
  walk_at "rd"
  refine ⟨⟨_, SqL.of (s1 _ _ hq)⟩, ?_⟩
  refine for_list (K := K) (a := q) (xs := us) (fun i σ H' => ∃ x2 x3 : Option V, σ = [some (.ref q), some (.ref D), x2, x3] ∧ H' D = some (.dK (szK (sizesOf (rs.take i)))) ∧ Same H H') ?_ ?_ ?_ ?_
  · exact ⟨none, none, rfl, upd_same, s1⟩
  · rintro i σ H' _ ⟨_, _, rfl, _, s2⟩
    exact SqL.of (s2 _ _ hq)
  · rintro i e σ H1 he ⟨x2, x3, rfl, hD, s2⟩
    obtain ⟨r, n, v, x, rfl, hri, hr', hv⟩ := RulesAt.at_ _ _ _ _ hus he
    have hi : i < rs.length := (List.getElem?_eq_some_iff.mp hri).1
    obtain ⟨hn, hc⟩ := g.at_ hri
    have gi := g.front i
    refine ⟨r, _, rfl, SqT.of (s2 _ _ hr'), rfl, _, _, rfl, _, _, rfl, rfl, ?_⟩
    refine ⟨_, rfl, _, rfl, v, x, D, sizesOf (rs.take i), repT (rs.take i), rfl, WayAt.keep (Keep.of s2) _ _ hv, hD, sizes_rep gi, by rw [repT_names gi]; exact hc, hz _ (List.mem_of_getElem? hri), by decide, fun H2 s3 => ?_⟩
    have hlt : (szK (sizesOf (rs.take i))).length < sizeLine := small' (by
      have := congrArg List.length (sizesOf_names (rs.take i))
      simp only [List.length_map, List.length_take] at this
      unfold szK
      rw [List.length_map]
      omega)
    refine ⟨_, rfl, _, rfl, D, _, rfl, DPut.k (k := kS n) (s3 _ _ hD) hlt, _, _, rfl, ?_, Same.put hD0 (s2.trans s3) _⟩
    have ns : valV (szK (sizesOf (rs.take i))) (kS n) = none := by rw [valV_sz, szOf_out hn]; rfl
    have ez : (W.rep (repT (rs.take i)) x).size = sz1 (sizesOf (rs.take i)) x := (rep_size (sizes_rep gi) x (by rw [repT_names gi]; exact hc)).symm
    rw [upd_same, putK_new _ ns, take_more' hri, sizes_snoc, ez]
    unfold szK
    rw [List.map_append]
    rfl
  · rintro σ H1 ⟨x2, x3, rfl, hD, s2⟩
    rw [hlen, List.take_length] at hD
    walk_at "nx"
    exact ⟨_, rfl, k D H1 s2 hD⟩
end
end Bo
namespace Bo
open PySem PySem.Spec PyProof.Rows L2 Wv Ws Bk
/-! ### the law's replacing -/
/-- the law's rules as a dict -/
def KvAt (H : Hp) : List (Key × V) → List (Str × W) → Prop
  | kt, [] => kt = []
  | kt, (n, x) :: rs => ∃ v r, kt = (kS n, v) :: r ∧ WayAt H v x ∧ KvAt H r rs
theorem KvAt.get {H : Hp} (y : Str) : ∀ (rs : List (Str × W)) (kt : List (Key × V)), KvAt H kt rs → (valV kt (kS y) = none ∧ wayOf rs y = none) ∨ ∃ v x, valV kt (kS y) = some v ∧ wayOf rs y = some x ∧ WayAt H v x
  | [], kt, h => by rw [show kt = [] from h]; exact .inl ⟨rfl, rfl⟩
  | (n, x) :: rs, kt, ⟨v, r, e, hv, h⟩ => by
    subst e
    unfold wayOf
    rw [List.find?_cons]
    by_cases q : n = y
    · rw [valV_pos (by show kS n = kS y; rw [q]), decide_eq_true q]
      exact .inr ⟨v, x, rfl, rfl, hv⟩
    · rw [valV_neg (by show ¬ kS n = kS y; rw [kS_inj]; exact q), decide_eq_false q]
      exact KvAt.get y rs r h
theorem RulesAt.kv {K : PySem.W.Frag} {G H : Hp} (s : Same G H) : ∀ (rs : List (Str × W)) (us : List V), RulesAt G us rs → ∃ (ps : List Addr) (kvs : List (Key × V)), us = ps.map V.ref ∧ Paired (fun p kv => SqT K H p [kV kv.1, kv.2]) ps kvs ∧ KvAt G kvs rs ∧ kvs.map (·.1) = rs.map fun r => kS r.1
  | [], us, h => ⟨[], [], h, .nil, rfl, rfl⟩
  | (n, x) :: rs, us, ⟨r, v, us', e, h1, hv, h⟩ => by
    obtain ⟨ps, kvs, e1, e2, e3, e4⟩ := RulesAt.kv (K := K) s rs us' h
    exact ⟨r :: ps, (kS n, v) :: kvs, by rw [e, e1]; rfl, (.cons (SqT.of (s _ _ h1)) e2), ⟨v, kvs, rfl, hv, e3⟩, by rw [List.map_cons, List.map_cons, e4]⟩
theorem valV_out {k : Key} : ∀ {kvs : List (Key × V)}, k ∉ kvs.map (·.1) → valV kvs k = none
  | [], _ => rfl
  | (k', v) :: kvs, h => by
    rw [valV_neg (fun e => h (by rw [List.map_cons]; exact List.mem_cons.mpr (.inl e.symm)))]
    exact valV_out fun z => h (by rw [List.map_cons]; exact List.mem_cons_of_mem _ z)
theorem mergeK_nodup : ∀ (kvs acc : List (Key × V)), (acc.map (·.1) ++ kvs.map (·.1)).Nodup → mergeK acc kvs = acc ++ kvs
  | [], acc, _ => by unfold mergeK; rw [List.foldl_nil, List.append_nil]
  | (k, v) :: kvs, acc, h => by
    have hk : k ∉ acc.map (·.1) := fun z => by
      have := (List.nodup_append.mp h).2.2 k z k (by rw [List.map_cons]; exact List.mem_cons_self)
      exact this rfl
    have e : mergeK acc ((k, v) :: kvs) = mergeK (putK acc k v) kvs := rfl
    rw [e, putK_new v (valV_out hk), mergeK_nodup kvs (acc ++ [(k, v)]) (by
      rw [List.map_append, List.append_assoc]
      exact h), List.append_assoc]
    rfl
theorem Gd.nodup {rs : List (Str × W)} (g : Gd rs) : (rs.map (·.1)).Nodup := by
  induction g with
  | nil => exact List.nodup_nil
  | @snoc rs m u h hn hc ih =>
    rw [List.map_append]
    refine List.nodup_append.mpr ⟨ih, by simp, fun a ha b hb e => ?_⟩
    have eb : b = m := by simpa using hb
    exact hn (eb ▸ e ▸ ha)
theorem over_same {G H H1 H' : Hp} (s : Same H H1) : Keep (over G (newer H1 H')) (over G (newer H H')) := over_keep fun a o _ h => by
  obtain ⟨h1, h2⟩ := newer_of h
  rw [newer_at (none_at s h1)]
  exact .inl h2
def spLRep (s : Nat) : Sp := fun vs H Q _ => ∃ (v : V) (x : W) (q : Addr) (us : List V) (rs : List (Str × W)) (i : Nat) (G : Hp), vs = [v, .ref q] ∧ Same G H ∧ WayAt G v x ∧ H q = some (.lst us) ∧ RulesAt G us rs ∧ Gd rs ∧ i ≤ rs.length ∧ W.cin ((rs.take i).map (·.1)) x ∧
  (W.rep (repT rs) x).size + i ≤ s ∧ s ≤ 1000 ∧ ∀ (u : V) (H' : Hp), Same H H' → WayAt (over G (newer H H')) u (W.rep (repT rs) x) → Q u H'
section
variable {P : Program} {w : World} {K : PySem.W.Frag} {mg : Str → Option Value} {base : Heap} {c : Cs}
abbrev s_l_replaced : Stmt := top 65
theorem sc_l_replaced : FnScope ["_law_way_here", "_law_rules_here", "_law_one"] ["_law_way_here", "_law_rules_here"] (defScope s_l_replaced) := ⟨rfl, rfl, rfl, by decide +kernel, rfl, by decide +kernel, by decide +kernel⟩
theorem none_lrep {f : Addr} {fd : FuncData} : FnOk P w K mg base CX0 1 f fd ["_law_way_here", "_law_rules_here"] (spLRep 0) := by
  have no : ∀ vs H Q E, ¬ spLRep 0 vs H Q E := fun vs H Q E h => by
    obtain ⟨v, x, q, us, rs, i, G, _, _, _, _, _, _, _, _, h1, _⟩ := h
    have := (W.rep (repT rs) x).size_pos
    omega
  exact ⟨fun vs H Q E h => absurd h (no vs H Q E), fun A outer s H args us vs Q E _ _ _ _ h => absurd h (no vs H Q E)⟩
theorem step_lrep (s : Nat) (h : Here K mg "_law_replaced" s_l_replaced ["_law_way_here", "_law_rules_here"]) (B_dict : mg "dict" = none) (G_l_replaced : DefOk P w K mg base (1 + s) "_law_replaced" ["_law_way_here", "_law_rules_here"] (spLRep s)) :
    DefOk P w K mg base (1 + s + 1) "_law_replaced" ["_law_way_here", "_law_rules_here"] (spLRep (s + 1)) := by
  refine h.ok sc_l_replaced (fun vs H Q E h => by obtain ⟨_, _, _, _, _, _, _, rfl, _⟩ := h; rfl) (fun f cdv A outer s' H vs Q E hr h => ?_)
  obtain ⟨v, x, q, us, rs, i, G, rfl, sG, hv, hq, hus, g, hi, hc, hs, hs2, k⟩ := h
  have hu : (A.deeper (envOfC "_law_replaced" (defScope s_l_replaced) s'.heap.objs.size f cdv)).units + 1 < cLine := Nat.lt_of_le_of_lt (Nat.add_le_add_left (by omega) _) hr.units
  refine ⟨_, (pss_cons (ps_if (pt_cmpR op_eq (pe_ix ix_tup (pv 0) pe_int (fun _ _ => rfl)) pe_str (nomark _)) (pss_one (ps_ret (pe_callD G_l_replaced (hr.mono (by first | decide | omega)) rfl (pa_cons (pe_dget hu (pe_callTy (call_dictP rfl) rfl B_dict (by decide +kernel) (pa_cons (pv 1) pa_nil)) (pe_ix ix_tup (pv 0) pe_int (fun _ _ => rfl)) (fun _ _ => rfl)) (pa_cons (pv 1) pa_nil))))) pss_nil)
  (pss_cons (ps_if (pt_cmpR op_in_seq (pe_ix ix_tup (pv 0) pe_int (fun _ _ => rfl)) (pe_lst (pa_cons pe_str (pa_cons pe_str pa_nil))) (by rfl)) (pss_one (ps_ret (pe_tup (pa_cons (pe_ix ix_tup (pv 0) pe_int (fun _ _ => rfl)) (pa_cons (pe_lc (own := [("_law_one", 2)]) (g := (gName 2)) (tt := tYes) rfl sc_l_replaced.nd (pi_list (pe_ix ix_tup (pv 0) pe_int (fun _ _ => rfl))) (blkOk_by (own := [("_law_one", 2)]) (N := ["_law_way_here", "_law_rules_here", "_law_one"]) (sc := defScope s_l_replaced) (by decide +kernel)) (fun _ _ _ _ _ => pg_name (i := 2) sc_l_replaced.nd rfl (Or.inl rfl)) (fun _ _ _ _ _ => pts_nil) (fun _ _ _ _ _ => (pe_callD G_l_replaced (hr.mono (by first | decide | omega)) rfl (pa_cons (pv 2) (pa_cons (pv 1) pa_nil))))) pa_nil))))) pss_nil)
  (pss_one (ps_ret (pe_ifExp (pt_cmpR op_in_seq (pe_ix ix_tup (pv 0) pe_int (fun _ _ => rfl)) (pe_lst (pa_cons pe_str (pa_cons pe_str (pa_cons pe_str (pa_cons pe_str pa_nil))))) (by rfl)) (pe_tup (pa_cons (pe_ix ix_tup (pv 0) pe_int (fun _ _ => rfl)) (pa_cons (pe_callD G_l_replaced (hr.mono (by first | decide | omega)) rfl (pa_cons (pe_ix ix_tup (pv 0) pe_int (fun _ _ => rfl)) (pa_cons (pv 1) pa_nil))) pa_nil))) (pv 0)))))), ?_⟩
  obtain ⟨a, rest, rfl, haG⟩ := hv.head
  have ha := sG _ _ haG
  walk_at "rd"
  refine ⟨a, _, _, _, rfl, rfl, SqT.of ha, atI0, rfl, _, rfl, ?_⟩
  rw [eq_call]
  refine ite2 (fun e => ?_) (fun e => ?_)
  · cases x <;> first | exact absurd e Bool.false_ne_true | skip
    rename_i z
    obtain ⟨a', e', h1⟩ := hv
    cases e'
    have hz : z ∈ (rs.take i).map (·.1) := hc
    obtain ⟨w', hw'⟩ := wayOf_in hz
    have hwr : wayOf rs z = some w' := by
      have e := wayOf_app (rs.take i) (rs.drop i) z
      rw [List.take_append_drop, hw'] at e
      rw [e]
      rfl
    obtain ⟨j, hj, hcj, _⟩ := way_rep (g.front i) hw'
    obtain ⟨_, _, _, hrep⟩ := way_rep g hwr
    have hji : j < i := by rw [List.length_take] at hj; omega
    have er : W.rep (repT rs) (.call z) = W.rep (repT rs) w' := by rw [W.rep, hrep]; rfl
    rw [er] at hs k
    rw [List.take_take, Nat.min_eq_left (Nat.le_of_lt hji)] at hcj
    obtain ⟨ps, kvs, e1, e2, e3, e4⟩ := RulesAt.kv (K := K) sG rs us hus
    walk_at "rd"
    refine ⟨q, ps, kvs, rfl, by rw [← e1]; exact SqL.of hq, e2, fun D hD => ?_⟩
    have em : mergeK [] kvs = kvs := by
      rw [mergeK_nodup kvs [] (by
        rw [List.map_nil, List.nil_append, e4]
        have h1 : (List.map kS (rs.map (·.1))).Nodup := List.pairwise_map.mpr (g.nodup.imp fun hxy e => hxy ((kS_inj _ _).mp e))
        rwa [List.map_map] at h1), List.nil_append]
    rw [em]
    have s1 := Same.new hD (.dK kvs)
    have hD1 : upd H D (.dK kvs) D = some (.dK kvs) := upd_same
    generalize upd H D (.dK kvs) = H1 at *
    have hg := DGet.k (k := kS z) hD1
    rcases KvAt.get z rs kvs e3 with ⟨e5, e6⟩ | ⟨v', u', e5, e6, hv'⟩
    · rw [e6] at hwr; cases hwr
    rw [e6] at hwr
    obtain rfl : u' = w' := by simpa using hwr
    rw [e5] at hg
    walk_at "rd"
    refine ⟨a, _, _, _, rfl, rfl, SqT.of (s1 _ _ (sG _ _ h1)), atI1, D, _, rfl, hg, ?_⟩
    walk_at "rd"
    exact ⟨v', u', q, us, rs, j, G, rfl, sG.trans s1, hv', s1 _ _ hq, hus, g, by omega, hcj, by omega, by omega, fun u H' s2 hu2 => k u H' (s1.trans s2) (WayAt.keep (over_same s1) _ _ hu2)⟩
  have ecl : x.is_call' = false := by cases h : x.is_call' <;> first | rfl | exact absurd h e
  walk_at "nx"
  walk_at "rd"
  refine ⟨a, _, _, _, rfl, rfl, SqT.of ha, atI0, ?_⟩
  refine ⟨by show 2 ≤ sizeLine; decide, fun p1 hp1 => ?_⟩
  have s2 := Same.new hp1 (.lst [.str (Str.ofString "row"), .str (Str.ofString "choice")])
  refine ⟨p1, _, rfl, .inl (SqL.of upd_same), rfl, by decide +kernel, ?_⟩
  rw [if_neg Bool.false_ne_true, in_rc]
  have ha2 := s2 _ _ ha
  have hq2 := s2 _ _ hq
  have sG2 := sG.trans s2
  generalize upd H p1 (.lst [.str (Str.ofString "row"), .str (Str.ofString "choice")]) = H2 at *
  walk_at "rd"
  have part : ∀ {wi : W}, wi ∈ x.inner → (W.rep (repT rs) wi).size + i ≤ s ∧ W.cin ((rs.take i).map (·.1)) wi := fun hm => by
    have := rep_inner (T := repT rs) hm
    exact ⟨by omega, cin_inner hc hm⟩
  refine ite2 (fun e1 => ?_) (fun e1 => ?_)
  · cases x <;> first | exact absurd e1 Bool.false_ne_true | skip
    all_goals
      obtain ⟨a', l, vs, e', h1G, h2G, h3⟩ := hv
      rename_i ws
      cases e'
      have h1 := sG2 _ _ h1G
      have h2 := sG2 _ _ h2G
      have elen := WaysAt.len _ _ h3
      walk_at "rd"
      refine ⟨a, _, _, _, rfl, rfl, SqT.of h1, atI0, ?_⟩
      walk_at "rd"
      refine ⟨a, _, _, _, rfl, rfl, SqT.of h1, atI1, ?_⟩
      refine ⟨l, rfl, ⟨vs, SqL.of h2⟩, fun D hD => ?_⟩
      have hwl : ws.length ≤ 1000 := by
        have h5 := W.sizes_len (ws.map (W.rep (repT rs)))
        rw [List.length_map] at h5
        rw [W.rep, reps_map, W.size] at hs
        omega
      have gD : G D = none := none_at sG2 hD
      have hDH : H D = none := none_at s2 hD
      refine lc_list (K := K) (a := l) (xs := vs) (fun j H' => ∃ os, H' D = some (.lst os) ∧ WaysAt (over G (nD D (newer H H'))) os ((ws.take j).map (W.rep (repT rs))) ∧ Same H2 H') ?_ ?_ ?_ ?_
      · exact ⟨[], upd_same, rfl, Same.new hD _⟩
      · rintro j H' _ ⟨os, _, _, s3⟩
        exact SqL.of (s3 _ _ h2)
      · rintro j y H' hy ⟨os, hD', hos, s3⟩
        have hjl : j < vs.length := (List.getElem?_eq_some_iff.mp hy).1
        obtain ⟨wi, hwi⟩ : ∃ wi, ws[j]? = some wi := ⟨ws[j]'(by omega), List.getElem?_eq_getElem (by omega)⟩
        obtain ⟨y', hy', hyw⟩ := WaysAt.at_ _ _ _ _ h3 hwi
        have ey : y = y' := Option.some.inj (hy.symm.trans hy')
        subst ey
        obtain ⟨p1', p2'⟩ := part (wi := wi) (List.mem_of_getElem? hwi)
        refine ⟨rfl, ?_⟩
        refine yesI ?_
        rw [if_pos rfl]
        refine ⟨_, rfl, _, rfl, y, wi, q, us, rs, i, G, rfl, sG2.trans s3, hyw, s3 _ _ hq2, hus, g, hi, p2', p1', by omega, fun u H4 s4 hu4 => ?_⟩
        have hlo := WaysAt.len _ _ hos
        have kA : Keep (over G (nD D (newer H H'))) (over G (nD D (newer H (upd H4 D (.lst (os ++ [u])))))) := over_keep fun b o _ z => by
          obtain ⟨nb, z1⟩ := nD_of z
          obtain ⟨z2, z3⟩ := newer_of z1
          rw [nD_at nb, newer_at z2, upd_ne nb]
          exact .inl (s4 _ _ z3)
        have kB : Keep (over G (newer H' H4)) (over G (nD D (newer H (upd H4 D (.lst (os ++ [u])))))) := over_keep fun b o _ z => by
          obtain ⟨z2, z3⟩ := newer_of z
          have nb : b ≠ D := fun z4 => by rw [z4, hD'] at z2; cases z2
          rw [nD_at nb, newer_at (none_at (s2.trans s3) z2), upd_ne nb]
          exact .inl z3
        refine ⟨os, s4 _ _ hD', small' (by rw [hlo, List.length_map, List.length_take]; omega), os ++ [u], upd_same, ?_, Same.put hD (s3.trans s4) _⟩
        rw [List.take_add_one, hwi, List.map_append]
        exact WaysAt.app _ _ (WaysAt.keep kA _ _ hos) ⟨u, [], rfl, WayAt.keep kB _ _ hu4, rfl⟩
      · rintro H4 ⟨os, hD', hos, s3⟩
        rw [elen, List.take_length] at hos
        refine ⟨by show 2 ≤ sizeLine; decide, fun t ht => ?_⟩
        have s6 : ∀ o, Same H4 (upd H4 t o) := fun o => Same.new ht o
        have kk : ∀ o, Keep (over G (nD D (newer H H4))) (over G (newer H (upd H4 t o))) := fun o' => over_keep fun b o _ z => by
          obtain ⟨nb, z1⟩ := nD_of z
          obtain ⟨z2, z3⟩ := newer_of z1
          rw [newer_at z2]
          exact .inl (s6 _ _ _ z3)
        refine k _ _ ((s2.trans s3).trans (s6 _)) ?_
        rw [W.rep, reps_map]
        refine ⟨t, D, os, rfl, ?_, ?_, WaysAt.keep (kk _) _ _ hos⟩
        · rw [over_new (none_at (sG2.trans s3) ht), newer_at (none_at (s2.trans s3) ht)]; exact upd_same
        · rw [over_new gD, newer_at hDH]; exact s6 _ _ _ hD'
  · walk_at "nx"
    walk_at "rd"
    refine ⟨a, _, _, _, rfl, rfl, SqT.of ha2, atI0, ?_⟩
    refine ⟨by show 4 ≤ sizeLine; decide, fun p3 hp3 => ?_⟩
    have s3 := s2.trans (Same.new hp3 (.lst [.str (Str.ofString "again"), .str (Str.ofString "maybe"), .str (Str.ofString "ahead"), .str (Str.ofString "unless")]))
    refine ⟨p3, _, rfl, .inl (SqL.of upd_same), rfl, by decide +kernel, ?_⟩
    rw [if_neg Bool.false_ne_true, in_un]
    generalize upd H2 p3 (.lst [.str (Str.ofString "again"), .str (Str.ofString "maybe"), .str (Str.ofString "ahead"), .str (Str.ofString "unless")]) = H3 at *
    have sG3 := sG.trans s3
    walk_at "rd"
    refine ite2 (fun e2 => ?_) (fun e2 => ?_)
    · cases x <;> first | exact absurd e2 Bool.false_ne_true | skip
      all_goals
        obtain ⟨a', u, e', h1G, hu1⟩ := hv
        rename_i y
        cases e'
        have h1 := sG3 _ _ h1G
        obtain ⟨p1', p2'⟩ := part (wi := y) (List.mem_singleton.mpr rfl)
        walk_at "rd"
        refine ⟨a, _, _, _, rfl, rfl, SqT.of h1, atI0, ?_⟩
        walk_at "rd"
        refine ⟨a, _, _, _, rfl, rfl, SqT.of h1, atI1, ?_⟩
        refine ⟨_, rfl, u, y, q, us, rs, i, G, rfl, sG3, hu1, s3 _ _ hq, hus, g, hi, p2', p1', by omega, fun u' H4 s4 hu4 => ?_⟩
        refine ⟨by show 2 ≤ sizeLine; decide, fun t ht => ?_⟩
        have s5 : ∀ o, Same H4 (upd H4 t o) := fun o => Same.new ht o
        have kk : ∀ o, Keep (over G (newer H3 H4)) (over G (newer H (upd H4 t o))) := fun o' => over_keep fun b o _ z => by
          obtain ⟨z2, z3⟩ := newer_of z
          rw [newer_at (none_at s3 z2)]
          exact .inl (s5 _ _ _ z3)
        refine k _ _ ((s3.trans s4).trans (s5 _)) ?_
        rw [W.rep]
        refine ⟨t, u', rfl, ?_, WayAt.keep (kk _) _ _ hu4⟩
        rw [over_new (none_at (sG3.trans s4) ht), newer_at (none_at (s3.trans s4) ht)]
        exact upd_same
    · have er : W.rep (repT rs) x = x := by
        cases x <;> first
          | rfl
          | exact absurd rfl e2
          | exact absurd rfl e1
          | exact absurd rfl e
      refine ⟨_, rfl, k _ H3 s3 ?_⟩
      rw [er]
      exact WayAt.keep over_in _ _ hv
theorem d_lrep (h : Here K mg "_law_replaced" s_l_replaced ["_law_way_here", "_law_rules_here"]) (B_dict : mg "dict" = none) : ∀ s, DefOk P w K mg base (1 + s) "_law_replaced" ["_law_way_here", "_law_rules_here"] (spLRep s)
  | 0 => by
    obtain ⟨f, fd, F, m, b⟩ := h.ex
    exact ⟨f, fd, m, F.kp, b, none_lrep⟩
  | s + 1 => step_lrep s h B_dict (d_lrep h B_dict s)
end
end Bo
namespace Bo
open PySem PySem.Spec PyProof.Rows L2 Wv Ws Bk Oq
/-! ### ways that are equal, or of two kinds -/
def spSameN (c : Cs) : Sp := fun vs H Q _ => ∃ (a b : V) (x y : W), vs = [a, b] ∧ ObjAt c H a x ∧ ObjAt c H b y ∧ x.kind ≠ y.kind ∧ ∀ H', Same H H' → Q (.bl false) H'
/-- both promises of one def -/
def Sp.or (p q : Sp) : Sp := fun vs H Q E => p vs H Q E ∨ q vs H Q E
theorem fnOr {CXx : CXT} {P : Program} {w : World} {K : PySem.W.Frag} {mg : Str → Option Value} {base : Heap} {k : Nat} {f : Addr} {fd : FuncData} {ps : List Str} {p q : Sp} (F : FnOk P w K mg base CXx k f fd ps p) (G : FnOk P w K mg base CXx k f fd ps q) :
    FnOk P w K mg base CXx k f fd ps (Sp.or p q) :=
  ⟨fun vs H Q E h => h.elim (F.len vs H Q E) (G.len vs H Q E), fun A outer s H args us vs Q E hr e0 hb hv h => h.elim (F.run A outer s H args us vs Q E hr e0 hb hv) (G.run A outer s H args us vs Q E hr e0 hb hv)⟩
theorem kind_int {x y : W} (h : x.kind ≠ y.kind) : decide (V.int (x.kind : Nat) = V.int ((y.kind : Nat) : Int)) = false := decide_eq_false fun e => h (by have := V.int.inj e; omega)
section
variable {P : Program} {w : World} {K : PySem.W.Frag} {mg : Str → Option Value} {base : Heap} {c : Cs}
abbrev s_same_ways : Stmt := top 39
theorem sc_same_ways : FnScope ["one", "other", "todo", "left", "right"] ["one", "other"] (defScope s_same_ways) := ⟨rfl, rfl, rfl, by decide +kernel, rfl, by decide +kernel, by decide +kernel⟩
theorem ok_same_ne {f : Addr} {fd : FuncData} (F : Fun K "same_ways" "same_ways" s_same_ways f fd) (B : Bs mg) (G_made_of : DefOk P w K mg base 1 "made_of" ["way"] (spMadeOf c)) (G_kind_of : DefOk P w K mg base 1 "kind_of" ["way"] (spKind c)) (G_word_of : DefOk P w K mg base 1 "word_of" ["way"] (spWord c)) :
    FnOk P w K mg base CX0 2 f fd ["one", "other"] (spSameN c) := by
  have B_len := B.len; have B_list := B.list; have B_zip := B.zip
  refine F.ok sc_same_ways (fun vs H Q E h => by obtain ⟨a, b, x, y, rfl, _⟩ := h; rfl) (fun cdv A' outer s H vs Q E hr h => ?_)
  obtain ⟨a, b, x, y, rfl, ha, hb, hxy, k⟩ := h
  refine ⟨_, (pss_cons (ps_set (i := 2) sc_same_ways.nd rfl (Or.inl rfl) (pe_lst (pa_cons (pe_tup (pa_cons (pv 0) (pa_cons (pv 1) pa_nil))) pa_nil)))
  (pss_cons (ps_while PassesOwn.never (pt_truth (pv 2) (by intro _; rfl)) (pss_cons (ps_asg (pe_bm0 PySem.F.plainAttrs_list PySem.F.slot_list_pop PySem.F.type_list_pop mt_pop (pv 2)) (pg_tup rfl (pgs_cons (pg_name (i := 3) sc_same_ways.nd rfl (Or.inl rfl)) (pgs_cons (pg_name (i := 4) sc_same_ways.nd rfl (Or.inl rfl)) pgs_nil))))
  (pss_cons (ps_if (PW.pt (pw_or (pt_cmpR op_ne (pe_callD G_kind_of (hr.mono (by first | decide | omega)) rfl (pa_cons (pv 3) pa_nil)) (pe_callD G_kind_of (hr.mono (by first | decide | omega)) rfl (pa_cons (pv 4) pa_nil)) (nomark _)) (pw_or1 (pt_cmpR op_ne (pe_callD G_word_of (hr.mono (by first | decide | omega)) rfl (pa_cons (pv 3) pa_nil)) (pe_callD G_word_of (hr.mono (by first | decide | omega)) rfl (pa_cons (pv 4) pa_nil)) (nomark _))))) (pss_one (ps_ret pe_bl)) pss_nil)
  (pss_cons (ps_if (pt_cmpR op_ne (pe_callB call_len_seq rfl B_len PySem.boot_len (pa_cons (pe_callD G_made_of (hr.mono (by first | decide | omega)) rfl (pa_cons (pv 3) pa_nil)) pa_nil)) (pe_callB call_len_seq rfl B_len PySem.boot_len (pa_cons (pe_callD G_made_of (hr.mono (by first | decide | omega)) rfl (pa_cons (pv 4) pa_nil)) pa_nil)) (nomark _)) (pss_one (ps_ret pe_bl)) pss_nil)
  (pss_one (ps_expr (pe_bm PySem.F.plainAttrs_list PySem.F.slot_list_extend PySem.F.type_list_extend mt_extend (pv 2) (pa_cons (Wz.pe_listZip rfl rfl B_list rfl B_zip (pa_cons (pe_callD G_made_of (hr.mono (by first | decide | omega)) rfl (pa_cons (pv 3) pa_nil)) (pa_cons (pe_callD G_made_of (hr.mono (by first | decide | omega)) rfl (pa_cons (pv 4) pa_nil)) pa_nil))) pa_nil))))))))
  (pss_one (ps_ret pe_bl)))), ?_⟩
  walk_at "rd"
  refine ⟨by show 2 ≤ sizeLine; decide, fun r hr => ?_⟩
  have s1 := Same.new hr (.tup [a, b])
  refine ⟨by show 1 ≤ sizeLine; decide, fun t ht => ?_⟩
  have s2 := s1.trans (Same.new ht (.lst [.ref r]))
  have nrt : r ≠ t := ne_of_none upd_same ht
  have htH : H t = none := by rw [upd_ne nrt.symm] at ht; exact ht
  have hr1 : upd (upd H r (.tup [a, b])) t (.lst [.ref r]) r = some (.tup [a, b]) := by rw [upd_ne nrt]; exact upd_same
  have ht1 : upd (upd H r (.tup [a, b])) t (.lst [.ref r]) t = some (.lst [.ref r]) := upd_same
  walk_at "nx"
  refine while_m (fun m σ H' => σ = [some a, some b, some (.ref t), none, none] ∧ H' t = some (.lst [.ref r]) ∧ H' r = some (.tup [a, b]) ∧ m = 1 ∧ Same H H') 1 ?_ ?_
    (fun σ H Q Q' hq ⟨v, e, b, tv, h⟩ => ⟨v, e, b, tv, hq _ _ h⟩)
  · exact ⟨rfl, ht1, hr1, rfl, s2⟩
  · rintro m σ H1 ⟨rfl, ht1, hr1, rfl, s3⟩
    refine ⟨_, rfl, _, tru_lst ht1, ?_⟩
    refine iteT' (by simp) ?_
    walk_at "nx"
    refine ⟨_, rfl, .inl ⟨rfl, _, SqL.of ht1⟩, t, _, _, rfl, rfl, ht1, last_get [] _, ?_⟩
    have s4 : Same H (upd H1 t (.lst (List.dropLast [V.ref r]))) := Same.put htH s3 _
    have hr2 : upd H1 t (.lst (List.dropLast [V.ref r])) r = some (.tup [a, b]) := by rw [upd_ne nrt]; exact hr1
    generalize upd H1 t (.lst (List.dropLast [V.ref r])) = H2 at *
    refine ⟨r, [a, b], rfl, SqT.of hr2, rfl, ?_⟩
    refine ⟨a, [b], rfl, ?_⟩
    walk_at "nx"
    refine ⟨b, [], rfl, ?_⟩
    walk_at "nx"
    refine ⟨rfl, ?_⟩
    walk_at "nx"
    refine ⟨_, rfl, a, x, rfl, ObjAt.keep (stillS s4) _ _ ha, _, rfl, b, y, rfl, ObjAt.keep (stillS s4) _ _ hb, rfl, ?_⟩
    rw [kind_int hxy]
    exact ⟨_, rfl, iteT (k H2 s4)⟩
theorem d_same_both (h : Here K mg "same_ways" s_same_ways ["one", "other"]) (B : Bs mg) (G_made_of : DefOk P w K mg base 1 "made_of" ["way"] (spMadeOf c)) (G_kind_of : DefOk P w K mg base 1 "kind_of" ["way"] (spKind c)) (G_word_of : DefOk P w K mg base 1 "word_of" ["way"] (spWord c)) :
    DefOk P w K mg base 2 "same_ways" ["one", "other"] (Sp.or (spSameW c) (spSameN c)) := by
  obtain ⟨f, fd, F, m, b⟩ := h.ex
  exact ⟨f, fd, m, F.kp, b, fnOr (ok_same_ways F B G_made_of G_kind_of G_word_of) (ok_same_ne F B G_made_of G_kind_of G_word_of)⟩
abbrev s_Way_eq : Stmt := inClass (top 22) 3
theorem sc_Way_eq : FnScope ["self", "other"] ["self", "other"] (defScope s_Way_eq) := ⟨rfl, rfl, rfl, by decide +kernel, rfl, by decide +kernel, by decide +kernel⟩
/-- the text's == of ways as a promise of both answers -/
def RW (c : Cs) (a : Addr) (y : V) (b : Bool) (H : Hp) : Prop := (b = true ∧ ∃ x : W, x.size ≤ 1000 ∧ ObjAt c H (.ref a) x ∧ ObjAt c H y x) ∨ (b = false ∧ ∃ x u : W, ObjAt c H (.ref a) x ∧ ObjAt c H y u ∧ x.kind ≠ u.kind)
theorem ok_Way_eqB {f wy : Addr} {fd : FuncData} (F : Fun K "__eq__" "Way.__eq__" s_Way_eq f fd) (A : AllF K mg c) (GK_Way : mg "Way" = some (.ref wy)) (hW : ∀ x : W, PySem.W.kitOne K (.ref (c.of x)) (.ref wy) = some true) (B : Bs mg)
    (G1 : DefOk P w K mg base 2 "same_ways" ["one", "other"] (Sp.or (spSameW c) (spSameN c))) : FnOk P w K mg base CX0 3 f fd ["self", "other"] (spEqB (RW c)) := by
  have B_isinstance := B.isinstance
  have G_same_ways := G1
  refine F.ok sc_Way_eq (fun vs H Q E h => by obtain ⟨a, y, b, rfl, _⟩ := h; rfl) (fun cdv A' outer s H vs Q E hr h => ?_)
  obtain ⟨a, y, b, rfl, hR, k⟩ := h
  refine ⟨_, (pss_one (ps_ret (pe_and (pe_callB call_isi rfl B_isinstance (by decide +kernel) (pa_cons (pv 1) (pa_cons (pe_globC rfl GK_Way) pa_nil))) (pe_one (pe_callD G_same_ways (hr.mono (by first | decide | omega)) rfl (pa_cons (pv 0) (pa_cons (pv 1) pa_nil))))))), ?_⟩
  rcases hR with ⟨rfl, x, hx, ha, hb⟩ | ⟨rfl, x, u, ha, hb, hn⟩
  · refine ⟨_, rfl, y, .ref wy, _, _, _, rfl, .own _, hb.ty A, hW x, _, rfl, ?_⟩
    refine iteT ?_
    exact ⟨_, rfl, _, rfl, .inl ⟨.ref a, y, x, rfl, ha, hb, hx, fun H' s => k H' s⟩⟩
  · refine ⟨_, rfl, y, .ref wy, _, _, _, rfl, .own _, hb.ty A, hW u, _, rfl, ?_⟩
    refine iteT ?_
    exact ⟨_, rfl, _, rfl, .inr ⟨.ref a, y, x, u, rfl, ha, hb, hn, fun H' s => k H' s⟩⟩
end
end Bo
namespace Bo
open PySem PySem.Spec PyProof.Rows L2 Wv Ws Bk Oq
/-! ### pairs of a name and a way, lists and tuples of them: equal or not -/
structure WEq (P : Program) (w : World) (K : PySem.W.Frag) (mg : Str → Option Value) (base : Heap) (c : Cs) (n : Nat) : Prop where
  ex : ∃ (f : Addr) (fd : FuncData) (ps : List Str), FnOk P w K mg base CX0 n f fd ps (spEqB (RW c)) ∧ (∀ u : W, PySem.W.findIn K (.ref (c.of u)) "__eq__" = some (some (.ref f))) ∧ PySem.W.isFn K (.ref f) = true ∧ Binds K fd ps []
  nf : ∀ x u : W, PySem.W.notFirst K (c.of x) (.ref (c.of u)) = true
  kit : ∀ w u : W, PySem.W.kitOne K (.ref (c.of w)) (.ref (c.of u)) = some (decide (w.tag = u.tag))
def DWay (c : Cs) : Eqb := fun x y b H => ∃ a, x = .ref a ∧ RW c a y b H
theorem monB_way {c : Cs} : MonB (DWay c) := fun x y b H H' e ⟨a, hx, r⟩ => ⟨a, hx, r.elim
  (fun ⟨hb, u, hu, h1, h2⟩ => .inl ⟨hb, u, hu, ObjAt.keep (stillS e) _ _ h1, ObjAt.keep (stillS e) _ _ h2⟩)
  (fun ⟨hb, u, z, h1, h2, hn⟩ => .inr ⟨hb, u, z, ObjAt.keep (stillS e) _ _ h1, ObjAt.keep (stillS e) _ _ h2, hn⟩)⟩
theorem kind_tag {x u : W} (h : x.tag = u.tag) : x.kind = u.kind := by
  cases x <;> cases u <;> first
    | rfl
    | exact absurd h (by simp only [W.tag]; decide +kernel)
/-- one object is of one kind -/
theorem kind_one {K : PySem.W.Frag} {c : Cs} {H : Hp} {v : V} {x u : W} (kit : ∀ w u : W, PySem.W.kitOne K (.ref (c.of w)) (.ref (c.of u)) = some (decide (w.tag = u.tag))) (h1 : ObjAt c H v x) (h2 : ObjAt c H v u) : x.kind = u.kind := by
  obtain ⟨a1, _, _, e1, g1⟩ := h1.head
  obtain ⟨a2, _, _, e2, g2⟩ := h2.head
  subst e1
  cases e2
  rw [g1] at g2
  have ec : c.of x = c.of u := by
    injection g2 with g2
    injection g2
  have k1 := kit x x
  have k2 := kit x u
  rw [← ec, k1, decide_eq_true rfl] at k2
  exact kind_tag (of_decide_eq_true (Option.some.inj k2).symm)
section
variable {X : Cx} {c : Cs} {n : Nat}
theorem eq_way (G : WEq X.prog X.w X.K X.mg X.base c n) : RcB X n .Eq (DWay c) := by
  obtain ⟨f, fd, ps, F, hs, hf, hb⟩ := G.ex
  intro A pins s σ H x y b u v sb I rx ry d
  obtain ⟨a, rfl, r⟩ := d
  have go : ∀ (x1 u1 : W), ObjAt c H (.ref a) x1 → ObjAt c H y u1 → wpAny (model X.prog X.w) A (richCompare .Eq u v) (fun r s' => r = .bool (opB .Eq b) ∧ ∃ H', Inv X pins σ H' s' ∧ L2.Ext H H') X.xe s := fun x1 u1 h1 h2 => by
    obtain ⟨a1, d1, fs1, e1, ha1⟩ := h1.head
    cases e1
    exact rcB_ins (C := c.of x1) (T := fun y t H => ∃ z, ObjAt c H y z ∧ t = .ref (c.of z)) (R := RW c) F (hs x1) hf hb pass0 (fun pins σ H s y t v I ry ⟨z, hz, et⟩ => by
      subst et
      obtain ⟨a2, d2, fs2, e2, ha2⟩ := hz.head
      subst e2
      cases ry
      obtain ⟨mA, J, _⟩ := ins_get I.hok ha2
      obtain ⟨od, J, _⟩ := J.look
      exact ⟨J.type, G.nf x1 z⟩) A pins s σ H _ _ b _ _ sb I rx ry ⟨a, d1, fs1, .ref (c.of u1), rfl, ha1, ⟨u1, h2, rfl⟩, r⟩
  rcases r with ⟨_, x1, _, h1, h2⟩ | ⟨_, x1, u1, h1, h2, _⟩
  · exact go x1 x1 h1 h2
  · exact go x1 u1 h1 h2
def DIt (c : Cs) : Eqb := fun x y b H => DFlat x y b H ∨ DWay c x y b H
theorem eqB_it (G : WEq X.prog X.w X.K X.mg X.base c n) : EqB X n (DIt c) := EqB.or (eqB_flat.mono (Nat.zero_le _)) ((eq_way G).eqB fun x y b H d => by
  obtain ⟨a, rfl, r⟩ := d
  rcases r with ⟨hb, x1, _, h1, h2⟩ | ⟨hb, x1, u1, h1, h2, hn⟩
  · obtain ⟨a2, _, _, e2, _⟩ := h2.head
    exact ⟨a, a2, rfl, e2, fun _ => hb⟩
  · obtain ⟨a2, _, _, e2, g2⟩ := h2.head
    refine ⟨a, a2, rfl, e2, fun e => ?_⟩
    subst e
    subst e2
    exact absurd (kind_one G.kit h1 h2) hn)
theorem monB_it : MonB (DIt c) := monB_flat.or monB_way
abbrev DPr (K : PySem.W.Frag) (c : Cs) : Eqb := DTupB K (DIt c)
theorem eqB_pr (G : WEq X.prog X.w X.K X.mg X.base c n) : EqB X (n + 1) (DPr X.K c) := eqB_tup monB_it (eqB_it G)
end
/-- how the rules of two books compare -/
inductive Cmp : List (Str × W) → List (Str × W) → Bool → Prop where
  | nil : Cmp [] [] true
  | left {q : Str × W} {qs : List (Str × W)} : Cmp [] (q :: qs) false
  | right {r : Str × W} {rs : List (Str × W)} : Cmp (r :: rs) [] false
  | name {m n : Str} {x y : W} {rs qs : List (Str × W)} (h : m ≠ n) : Cmp ((m, x) :: rs) ((n, y) :: qs) false
  | kind {m : Str} {x y : W} {rs qs : List (Str × W)} (h : x.kind ≠ y.kind) : Cmp ((m, x) :: rs) ((m, y) :: qs) false
  | cons {r : Str × W} {rs qs : List (Str × W)} {b : Bool} (hz : r.2.size ≤ 1000) (h : Cmp rs qs b) : Cmp (r :: rs) (r :: qs) b
theorem Cmp.refl : ∀ {rs : List (Str × W)}, (∀ r ∈ rs, r.2.size ≤ 1000) → Cmp rs rs true
  | [], _ => .nil
  | r :: rs, h => .cons (h r List.mem_cons_self) (Cmp.refl fun q hq => h q (List.mem_cons_of_mem _ hq))
theorem Cmp.app : ∀ {ps rs qs : List (Str × W)} {b : Bool}, (∀ r ∈ ps, r.2.size ≤ 1000) → Cmp rs qs b → Cmp (ps ++ rs) (ps ++ qs) b
  | [], rs, qs, b, _, h => h
  | r :: ps, rs, qs, b, hp, h => .cons (hp r List.mem_cons_self) (Cmp.app (fun q hq => hp q (List.mem_cons_of_mem _ hq)) h)
theorem prs_pairs {K : PySem.W.Frag} {c : Cs} {H : Hp} {rs qs : List (Str × W)} {b : Bool} (kit : ∀ w u : W, PySem.W.kitOne K (.ref (c.of w)) (.ref (c.of u)) = some (decide (w.tag = u.tag))) (h : Cmp rs qs b) : ∀ {us vs : List V}, PairsAt c H us rs → PairsAt c H vs qs → PrsB (DPr K c) H us vs b := by
  induction h with
  | nil => intro us vs h1 h2; rw [show us = [] from h1, show vs = [] from h2]; exact rfl
  | @left q qs =>
    intro us vs h1 h2
    obtain ⟨r, v, vs', e, _⟩ := h2
    rw [show us = [] from h1, e]; exact rfl
  | @right q qs =>
    intro us vs h1 h2
    obtain ⟨r, v, vs', e, _⟩ := h1
    rw [show vs = [] from h2, e]; exact rfl
  | @name m n x y rs qs hn =>
    intro us vs h1 h2
    obtain ⟨r1, v1, us', rfl, g1, o1, _⟩ := h1
    obtain ⟨r2, v2, vs', rfl, g2, o2, _⟩ := h2
    refine .inl ⟨⟨r1, r2, _, _, rfl, rfl, SqT.of g1, SqT.of g2, .inl ⟨.inl ⟨rfl, rfl, ?_⟩, rfl⟩, fun e => ?_⟩, rfl⟩
    · simp [eqV, hn]
    · subst e
      rw [g1] at g2
      injection g2 with g2
      injection g2 with g2
      injection g2 with g2
      injection g2 with g2
      exact absurd g2 hn
  | @kind m x y rs qs hn =>
    intro us vs h1 h2
    obtain ⟨r1, v1, us', rfl, g1, o1, _⟩ := h1
    obtain ⟨r2, v2, vs', rfl, g2, o2, _⟩ := h2
    obtain ⟨a1, _, _, rfl, _⟩ := o1.head
    refine .inl ⟨⟨r1, r2, _, _, rfl, rfl, SqT.of g1, SqT.of g2, .inr ⟨.inl ⟨rfl, rfl, by simp [eqV]⟩, .inl ⟨.inr ⟨a1, rfl, .inr ⟨rfl, x, y, o1, o2, hn⟩⟩, rfl⟩⟩, fun e => ?_⟩, rfl⟩
    subst e
    rw [g1] at g2
    injection g2 with g2
    injection g2 with g2
    injection g2 with _ g2
    injection g2 with g2
    rw [← g2] at o2
    exact absurd (kind_one kit o1 o2) hn
  | @cons r rs qs b hz h ih =>
    intro us vs h1 h2
    obtain ⟨m, x⟩ := r
    obtain ⟨r1, v1, us', rfl, g1, o1, t1⟩ := h1
    obtain ⟨r2, v2, vs', rfl, g2, o2, t2⟩ := h2
    obtain ⟨a1, _, _, rfl, _⟩ := o1.head
    exact .inr ⟨⟨r1, r2, _, _, rfl, rfl, SqT.of g1, SqT.of g2, .inr ⟨.inl ⟨rfl, rfl, by simp [eqV]⟩, .inr ⟨.inr ⟨a1, rfl, .inl ⟨rfl, x, hz, o1, o2⟩⟩, rfl⟩⟩, fun _ => rfl⟩, ih t1 t2⟩
end Bo
namespace Bo
open PySem PySem.Spec PyProof.Rows L2 Wv Ws Bk Oq
/-! ### Book.__eq__ -/
theorem cmp_same {K : PySem.W.Frag} {c : Cs} {H : Hp} {rs qs : List (Str × W)} {b : Bool} (kit : ∀ w u : W, PySem.W.kitOne K (.ref (c.of w)) (.ref (c.of u)) = some (decide (w.tag = u.tag))) (h : Cmp rs qs b) : ∀ {us : List V}, PairsAt c H us rs → PairsAt c H us qs → b = true := by
  induction h with
  | nil => intro us h1 h2; rfl
  | left => intro us h1 h2; obtain ⟨r, v, vs', e, _⟩ := h2; rw [show us = [] from h1] at e; cases e
  | right => intro us h1 h2; obtain ⟨r, v, vs', e, _⟩ := h1; rw [show us = [] from h2] at e; cases e
  | name hn =>
    intro us h1 h2
    obtain ⟨r1, v1, us', rfl, g1, o1, _⟩ := h1
    obtain ⟨r2, v2, vs', e, g2, o2, _⟩ := h2
    cases e
    rw [g1] at g2
    injection g2 with g2
    injection g2 with g2
    injection g2 with g2
    injection g2 with g2
    exact absurd g2 hn
  | kind hn =>
    intro us h1 h2
    obtain ⟨r1, v1, us', rfl, g1, o1, _⟩ := h1
    obtain ⟨r2, v2, vs', e, g2, o2, _⟩ := h2
    cases e
    rw [g1] at g2
    injection g2 with g2
    injection g2 with g2
    injection g2 with _ g2
    injection g2 with g2
    rw [← g2] at o2
    exact absurd (kind_one kit o1 o2) hn
  | cons hz h ih =>
    intro us h1 h2
    obtain ⟨r1, v1, us', rfl, g1, o1, t1⟩ := h1
    obtain ⟨r2, v2, vs', e, g2, o2, t2⟩ := h2
    cases e
    exact ih t1 t2
def RB (c : Cs) (C : Addr) (a : Addr) (y : V) (b : Bool) (H : Hp) : Prop :=
  (∃ (rs qs : List (Str × W)) (a2 : Addr), y = .ref a2 ∧ BookAt c C H a rs ∧ BookAt c C H a2 qs ∧ Cmp rs qs b) ∨ (b = false ∧ ∃ (q : Addr) (us : List V), y = .ref q ∧ H q = some (.lst us))
section
variable {P : Program} {w : World} {K : PySem.W.Frag} {mg : Str → Option Value} {base : Heap} {c : Cs} {C BN : Addr}
abbrev s_Book_eq : Stmt := inClass (top 48) 8
theorem sc_Book_eq : FnScope ["self", "other"] ["self", "other"] (defScope s_Book_eq) := ⟨rfl, rfl, rfl, by decide +kernel, rfl, by decide +kernel, by decide +kernel⟩
theorem ok_Book_eq {f : Addr} {fd : FuncData} (F : Fun K "__eq__" "Book.__eq__" s_Book_eq f fd) (Tb : BkF K C) (B : Bs mg) (GK_Book : mg "Book" = some (.ref C)) (GW : WEq P w K mg base c 3)
    (ty : ∀ {H : Hp} {a d : Addr} {fs : List (Str × V)}, H a = some (.ins C d fs) → TyX K H (.ref a) (.ref C)) (kb : PySem.W.kitOne K (.ref C) (.ref C) = some true) (kl : PySem.W.kitOne K (.type "list") (.ref C) = some false) : FnOk P w K mg base CX0 6 f fd ["self", "other"] (spEqB (RB c C)) := by
  have B_isinstance := B.isinstance
  refine F.ok sc_Book_eq (fun vs H Q E h => by obtain ⟨a, y, b, rfl, _⟩ := h; rfl) (fun cdv A' outer s H vs Q E hr h => ?_)
  obtain ⟨a, y, b, rfl, hR, k⟩ := h
  refine ⟨_, (pss_one (ps_ret (pe_and (pe_callB call_isi rfl B_isinstance (by decide +kernel) (pa_cons (pv 1) (pa_cons (pe_globC rfl GK_Book) pa_nil))) (pe_one (pe_cmpR (op_eqB (rcB_tup (.inl rfl) (monB_tup monB_it) (eqB_pr GW)) (hr.mono (by first | decide | omega))) (pe_fld (pv 0) rfl) (pe_fld (pv 1) rfl) (nomark _)))))), ?_⟩
  rcases hR with ⟨rs, qs, a2, rfl, ⟨d1, t1, tb1, sz1, ts1, hb1, ht1, hts1, _⟩, ⟨d2, t2, tb2, sz2, ts2, hb2, ht2, hts2, _⟩, hc⟩ | ⟨rfl, q, us, rfl, hq⟩
  · refine ⟨_, rfl, .ref a2, .ref C, _, _, _, rfl, .own _, ?_, kb, _, rfl, ?_⟩
    · exact ty hb2
    refine iteT ?_
    refine ⟨_, rfl, a, C, d1, _, _, rfl, hb1, Tb.cl, Tb.n1, rfl, _, rfl, a2, C, d2, _, _, rfl, hb2, Tb.cl, Tb.n1, rfl, b, ?_, fun H' e => ?_⟩
    · refine ⟨t1, t2, ts1, ts2, rfl, rfl, SqT.of ht1, SqT.of ht2, prs_pairs GW.kit hc hts1 hts2, fun e => ?_⟩
      subst e
      rw [ht1] at ht2
      injection ht2 with ht2
      injection ht2 with ht2
      subst ht2
      exact cmp_same GW.kit hc hts1 hts2
    · exact k H' e
  · refine ⟨_, rfl, .ref q, .ref C, _, _, _, rfl, .own _, ?_, kl, _, rfl, ?_⟩
    · exact .base (.lst hq)
    exact iteF (k H fun _ _ e => e)
/-! ### Book.__iter__ -/
def tRules (C : Addr) (a : Addr) (H : Hp) (tp : Addr) (_ : List V) : Prop := ∃ dx tb sz, H a = some (.ins C dx (bkF tp tb sz))
abbrev s_Book_iter : Stmt := inClass (top 48) 7
theorem sc_Book_iter : FnScope ["self"] ["self"] (defScope s_Book_iter) := ⟨rfl, rfl, rfl, by decide +kernel, rfl, by decide +kernel, by decide +kernel⟩
theorem ok_Book_iter {f : Addr} {fd : FuncData} (F : Fun K "__iter__" "Book.__iter__" s_Book_iter f fd) (Tb : BkF K C) (B_iter : mg "iter" = none) : FnOk P w K mg base CX0 1 f fd ["self"] (spIterT C (tRules C)) := by
  refine F.ok sc_Book_iter (fun vs H Q E h => by obtain ⟨_, _, _, rfl, _⟩ := h; rfl) (fun cdv A' outer s H vs Q E hr h => ?_)
  obtain ⟨a, tp, xs, rfl, ⟨dx, tb, sz, ha⟩, ht, k⟩ := h
  refine ⟨_, (pss_one (ps_ret (pe_callB call_iterT rfl B_iter (by decide +kernel) (pa_cons (pe_fld (pv 0) rfl) pa_nil)))), ?_⟩
  exact ⟨_, rfl, a, C, dx, _, _, rfl, ha, Tb.cl, Tb.n1, rfl, tp, xs, rfl, SqT.of ht, k⟩
/-- list(book), what a book asks of it -/
theorem list_book {H : Hp} {b : Addr} {rs : List (Str × W)} {Q : VK} (h : BookAt c C H b rs) (hl : rs.length ≤ 900) (k : ∀ (q : Addr) (ts : List V) (H' : Hp), Same H H' → H' q = some (.lst ts) → PairsAt c H' ts rs → Q (.ref q) H') : rListI C (tRules C) (spBkLen C) [.ref b] H Q := by
  obtain ⟨dx, t, tb, sz, ts, hb, ht, hts, hD⟩ := h
  have hlen := PairsAt.len _ _ hts
  refine ⟨b, dx, _, t, ts, rfl, hb, ht, small' (by omega), fun q hq => ?_⟩
  have s1 : ∀ o, Same H (upd H q o) := fun o => Same.new hq o
  refine ⟨⟨dx, tb, sz, s1 _ _ _ hb⟩, fun it hit => ?_, k q ts _ (s1 _) upd_same (PairsAt.keep (stillS (s1 _)) _ _ hts)⟩
  have s2 := (s1 (.lst [])).trans (Same.new hit (ItT t it 0))
  exact ⟨b, dx, t, tb, sz, ts, rfl, s2 _ _ hb, s2 _ _ ht, ts.length, rfl, by omega, rfl⟩
end
end Bo
namespace Bo
open PySem PySem.Spec PyProof.Rows L2 Wv Ws Bk Oq
/-! ### book == book, book == list -/
structure BEq (P : Program) (w : World) (K : PySem.W.Frag) (mg : Str → Option Value) (base : Heap) (c : Cs) (C : Addr) : Prop where
  ex : ∃ (f : Addr) (fd : FuncData) (ps : List Str), FnOk P w K mg base CX0 6 f fd ps (spEqB (RB c C)) ∧ PySem.W.findIn K (.ref C) "__eq__" = some (some (.ref f)) ∧ PySem.W.isFn K (.ref f) = true ∧ Binds K fd ps []
  nb : PySem.W.notFirst K C (.ref C) = true
  nl : PySem.W.notFirst K C (.type "list") = true
def DBk (c : Cs) (C : Addr) : Eqb := fun x y b H => ∃ a d fs, x = .ref a ∧ H a = some (.ins C d fs) ∧ RB c C a y b H
section
variable {X : Cx} {c : Cs} {C : Addr}
theorem eq_book (G : BEq X.prog X.w X.K X.mg X.base c C) : RcB X 6 .Eq (DBk c C) := by
  obtain ⟨f, fd, ps, F, hs, hf, hb⟩ := G.ex
  intro A pins s σ H x y b u v sb I rx ry d
  obtain ⟨a, d1, fs, rfl, ha, r⟩ := d
  have hT : ∀ (pins : List (Addr × Obj)) (σ : L2.St) (H : Hp) (s : Shared) (y : V) (t v : Value), Inv X pins σ H s → RelV y v →
      ((∃ a2 d fs, y = .ref a2 ∧ H a2 = some (.ins C d fs) ∧ t = .ref C) ∨ (∃ q us, y = .ref q ∧ H q = some (.lst us) ∧ t = .type "list")) →
      PySem.W.Looks (model X.prog X.w) s.heap (typeOf v) t ∧ PySem.W.notFirst X.K C t = true := by
    intro pins σ H s y t v I ry h
    rcases h with ⟨a2, d, fs, rfl, h2, rfl⟩ | ⟨q, us, rfl, h2, rfl⟩
    · cases ry
      obtain ⟨mA, J, _⟩ := ins_get I.hok h2
      obtain ⟨od, J, _⟩ := J.look
      exact ⟨J.type, G.nb⟩
    · cases ry
      obtain ⟨z, its, n, r, e⟩ := I.hok q _ h2
      refine ⟨?_, G.nl⟩
      intro A Q E s' k h
      exact wpAny_typeOf_ref (k _ _ e) h
  refine rcB_ins (C := C) (T := fun y t H => (∃ a2 d fs, y = .ref a2 ∧ H a2 = some (.ins C d fs) ∧ t = .ref C) ∨ (∃ q us, y = .ref q ∧ H q = some (.lst us) ∧ t = .type "list")) (R := RB c C) F hs hf hb pass0 hT A pins s σ H _ _ b _ _ sb I rx ry ?_
  rcases r with ⟨rs, qs, a2, e, h1, h2, h3⟩ | ⟨hb', q, us, e, hq⟩
  · obtain ⟨d2, t2, tb2, sz2, ts2, hb2, _⟩ := id h2
    exact ⟨a, d1, fs, .ref C, rfl, ha, .inl ⟨a2, d2, _, e, hb2, rfl⟩, .inl ⟨rs, qs, a2, e, h1, h2, h3⟩⟩
  · exact ⟨a, d1, fs, .type "list", rfl, ha, .inr ⟨q, us, e, hq, rfl⟩, .inr ⟨hb', q, us, e, hq⟩⟩
end
end Bo
/-! a try with several clauses `except X as e` -/
namespace Bo
open PySem PySem.Spec PyProof.Rows L2
/-- what the clauses wish of an exception of the body, one after the other; slot i is the name's -/
def wManyAs (K : PySem.W.Frag) (i : Nat) (Wout : WX) (D : Ends) : List (Value × (Addr → Value → Option Addr → TS)) → WX
  | [] => Wout
  | (c, ts) :: r => fun cls d σ H => ∃ b, PySem.W.exmOne K cls c = some b ∧
      (b = true → ∀ a, H a = none → ts a cls d { nx := fun σ' H' => D.nx (σ'.set i none) H', rt := D.rt, bk := fun σ' H' => D.bk (σ'.set i none) H', ct := fun σ' H' => D.ct (σ'.set i none) H' } (σ.set i (some (.ref a))) H) ∧ (b = false → wManyAs K i Wout D r cls d σ H)
inductive HdsAs (X : Cx) (n : Str) : List ExceptHandler → List (Value × (Addr → Value → Option Addr → TS)) → Prop
  | nil : HdsAs X n [] []
  | cons {x : Str} {c : Value} {ts : Addr → Value → Option Addr → TS} {b₀ : Stmt} {suite : List Stmt} {np pos' : Pos} {hds : List ExceptHandler} {l : List (Value × (Addr → Value → Option Addr → TS))} (hc : Names X x c)
      (hsu : ∀ (a : Addr) (oe : Obj) (cls : Value) (d : Option Addr) (pn : List (Addr × Obj)), Zc cls d oe → (∃ vs, oe.data = .fields vs) → PSs (X.suite a ((a, oe) :: pn)) (b₀ :: suite) (ts a cls d)) (r : HdsAs X n hds l) :
      HdsAs X n (.ExceptHandler (some (.Name x np)) (some n) (b₀ :: suite) pos' :: hds) ((c, ts) :: l)
section
variable {X : Cx} {n : Str} {i : Nat} {body : List Stmt} {h₀ : ExceptHandler} {hds : List ExceptHandler} {l : List (Value × (Addr → Value → Option Addr → TS))} {pos : Pos} {tb : WX → TS} {Wout : WX}
theorem ps_try_manyAs (hs : X.stack = X.env :: X.outer) (hf : X.env.frame = some X.env.locals) (hN : X.N.Nodup) (hi : X.N[i]? = some n) (hln : X.env.kindOf n = some .local) (tk : Takes X Wout)
    (hb : ∀ (W : WX) (pn : List (Addr × Obj)) (xe : Value → Shared → Prop), Takes (X.tr pn xe) W → PassesOwn (model X.prog X.w) X.A X.env xe → PSs (X.tr pn xe) body (tb W))
    (hh : HdsAs X n (h₀ :: hds) l) : PS X (.Try body (h₀ :: hds) [] [] pos) (fun D σ H => tb (wManyAs X.K i Wout D l) D σ H) := by
  refine ⟨fun pins s σ H D I h => ?_⟩
  have ok := I.ok
  have hfr : X.A.frames = some (X.env :: X.outer) := by rw [ok.frames, hs]
  have hloc : Loc X.env.scope n := .inl hln
  refine wpAny_Try_except ?_
  refine wpAny_mono ((hb (wManyAs X.K i Wout D l) (X.pn ++ pins) (fun e s₁ => wpAny (model X.prog X.w) X.A (noteFrame e X.env) (fun _ s₂ => wpAny (model X.prog X.w) X.A (setFlight e none) (fun _ s₃ =>
    wpAny (model X.prog X.w) X.A (handleBy e X.env (h₀ :: hds)) (SP X pins D) X.xe s₃) X.xe s₂) X.xe s₁) (fun u s' xx => ?_) PassesOwn.looking).run [] s σ H D (I.toTry _) h) (fun f s1 hsp => ?_) (fun e s1 he => he)
  · obtain ⟨a, B, sI, pins', σ', H', cls, d, rfl, J', nb, up, sky, na, os, ag, w⟩ := xx
    have J : Inv X pins σ' H' sI := J'.ofTry ok
    have sky' : Sky B (X.env :: X.outer) a (Zc cls d) X.env.locals s'.heap := by rw [← hs]; exact sky
    show wpAny (model X.prog X.w) X.A (noteFrame (.ref a) X.env) _ _ _
    refine Sky.land Zc.steady hfr hf sky' fun h3 fl3 up3 => ?_
    have J3 : Inv X pins σ' H' { s' with heap := h3 } := J.landed nb fl3.1 (up.trans up3) os ag
    obtain ⟨oe3, vs3, he3, hz3, hd3⟩ := fl3.there
    have notFr : ∀ {h : Heap} {o : Obj} {vs : Array Value}, h.FunFrames B (X.env :: X.outer) → h.get? a = some o → o.data = .fields vs → a ∉ frs (X.env :: X.outer) := fun {h o vs} ff e dd hm => by
      obtain ⟨_, o', e', hnf⟩ := ff.mem hm
      rw [e] at e'; cases e'
      exact hnf _ dd
    have nfr := notFr fl3.2.2.1 he3 hd3
    have nL : a ≠ X.env.locals := fun z => nfr (List.mem_filterMap.mpr ⟨X.env, List.mem_cons_self, by rw [hf, z]⟩)
    have nF : a ∉ X.fs := fun hm => by
      obtain ⟨e, he, q⟩ := List.mem_filterMap.mp hm
      exact nfr (List.mem_filterMap.mpr ⟨e, List.mem_cons_of_mem _ he, q⟩)
    have S3 := J3.suite he3 hd3 na nL nF
    have go : ∀ {hds' : List ExceptHandler} {l' : List (Value × (Addr → Value → Option Addr → TS))}, HdsAs X n hds' l' → wManyAs X.K i Wout D l' cls d σ' H' →
        wpAny (model X.prog X.w) X.A (handleBy (.ref a) X.env hds') (SP X pins D) X.xe { s' with heap := h3 } := by
      intro hds' l' hk
      induction hk with
      | nil =>
        intro w
        refine wpAny_handleBy_nil ?_
        obtain ⟨k1, k2, k3, oe, vs, T, oT, ts', he, hz, hd, h1, hr⟩ := id fl3
        unfold PySem.passOn
        refine wpAny_bind (wpAny_field he hd h1 ?_)
        rw [if_neg (show ¬ ((Value.ref T == Value.none) = true) from by simp)]
        have fin : wpAny (model X.prog X.w) X.A (setFlight (.ref a) X.env.frame) (fun _ s4 => wpAny (model X.prog X.w) X.A (throw (.ref a) : Sem Flow) (SP X pins D) X.xe s4) X.xe { s' with heap := h3 } := by
          rw [hf]
          refine HandSPX.setFlight_upZ fl3 fun h4 hh4 up4 => wpAny_throw (tk _ _ ?_)
          exact ⟨a, B, sI, pins, σ', H', cls, d, rfl, J, nb, (up.trans up3).trans up4, .inr (.inr (by rw [hs]; exact hh4)), na, os, ag, w⟩
        first
          | exact wpAny_bind (wpAny_pure (wpAny_bind fin))
          | exact wpAny_bind fin
      | @cons x c ts b₀ suite np pos' hds2 l2 hc hsu r ih =>
        intro w
        obtain ⟨b, hb1, hyes, hno⟩ := w
        refine wpAny_handleBy_cons (codeAny_handlers_test ?_) (by intro q; cases q)
        have LT : PySem.W.Looks (model X.prog X.w) h3 (typeOf (.ref a)) cls := fun A Q E s k q => wpAny_typeOf_ref (k _ _ he3) (by rw [hz3.1]; exact q)
        have LM := PySem.W.exm_one (M := model X.prog X.w) (J3.kIn) LT hb1
        have test : ∀ {Q : Value → Shared → Prop} {E : Value → Shared → Prop}, Q c { s' with heap := h3 } → wpAny (model X.prog X.w) (X.A.mark (some (.ref a))) (eval (.Name x np) X.env) Q E { s' with heap := h3 } := fun {Q E} q => by
          obtain ⟨hg, hdbg, hm | ⟨hm, hv, hnn⟩⟩ := hc
          · exact ld_glob (X := X.suite a ((a, oe3) :: (X.pn ++ pins))) S3 hg hm q hdbg
          · exact ld_blt (X := X.suite a ((a, oe3) :: (X.pn ++ pins))) S3 hg hm hv q hnn hdbg
        refine test (LM.here ?_)
        cases b with
        | true =>
          refine codeAny_handlers_suite_as ?_
          refine HandSPX.lands_againZ fl3 fun h4 fl4 up4 => ?_
          have J4 : Inv X pins σ' H' { s' with heap := h4 } := J.landed nb fl4.1 ((up.trans up3).trans up4) os ag
          obtain ⟨oe4, vs4, he4, hz4, hd4⟩ := fl4.there
          have S4 := J4.suite he4 hd4 na nL nF
          refine store_ok (X := X.suite a ((a, oe4) :: (X.pn ++ pins))) (v := .ref a) S4 hN hi hloc rfl (fun s5 S5 => ?_) (.inr hln)
          refine wpAny_mono ((hsu a oe4 cls d (X.pn ++ pins) hz4 ⟨_, hd4⟩).run [] s5 _ H' _ S5 (hyes rfl a na)) (fun f s6 hsp => ?_) (fun _ _ z => False.elim z)
          have end_ : ∀ {σ6 : L2.St} {H6 : Hp} {Q : Shared → Prop}, Inv (X.suite a ((a, oe4) :: (X.pn ++ pins))) [] σ6 H6 s6 → (∀ s7, Inv X pins (σ6.set i none) H6 s7 → Q s7) →
              wpAny (model X.prog X.w) X.A (do bindName X.env n .none; unbindBehindTheSuite X.env n pos') (fun _ s7 => Q s7) X.xe s6 := fun {σ6 H6 Q} S6 hq => gone_ok (S6.unsuite ok) hN hi hln hq
          cases f with
          | next =>
            obtain ⟨σ6, H6, S6, q6⟩ := hsp
            exact end_ S6 fun s7 J7 => ⟨_, _, J7, q6⟩
          | brk =>
            obtain ⟨σ6, H6, S6, q6⟩ := hsp
            exact end_ S6 fun s7 J7 => ⟨_, _, J7, q6⟩
          | cont =>
            obtain ⟨σ6, H6, S6, q6⟩ := hsp
            exact end_ S6 fun s7 J7 => ⟨_, _, J7, q6⟩
          | ret u =>
            obtain ⟨v6, σ6, H6, S6, r6, q6⟩ := hsp
            exact end_ S6 fun s7 J7 => ⟨_, _, _, J7, r6, q6⟩
        | false =>
          show wpAny _ X.A (handleBy (.ref a) X.env hds2) _ _ _
          exact ih (hno rfl)
    exact go hh w
  · cases f with
    | next =>
      obtain ⟨σ', H', J', q⟩ := hsp
      exact wpAny_execs_nil ⟨σ', H', J'.ofTry ok, q⟩
    | brk =>
      obtain ⟨σ', H', J', q⟩ := hsp
      exact ⟨σ', H', J'.ofTry ok, q⟩
    | cont =>
      obtain ⟨σ', H', J', q⟩ := hsp
      exact ⟨σ', H', J'.ofTry ok, q⟩
    | ret u =>
      obtain ⟨v, σ', H', J', r, q⟩ := hsp
      exact ⟨v, σ', H', J'.ofTry ok, r, q⟩
end
end Bo
namespace Bo
open PySem PySem.Spec PyProof.Rows L2 Wv Ws Bk LamX
/-! ### all but the tables of code objects stay -/
theorem ext_still {H H' : Hp} (e : ExtN H H') : Still H H' := ⟨fun h => e _ _ h fun _ z => (by cases z), fun h => e _ _ h fun _ z => (by cases z)⟩
theorem ext_lst {H H' : Hp} (e : ExtN H H') {a : Addr} {xs : List V} (h : H a = some (.lst xs)) : H' a = some (.lst xs) := e _ _ h fun _ z => (by cases z)
theorem ext_tup {H H' : Hp} (e : ExtN H H') {a : Addr} {xs : List V} (h : H a = some (.tup xs)) : H' a = some (.tup xs) := e _ _ h fun _ z => (by cases z)
theorem ext_dK {H H' : Hp} (e : ExtN H H') {a : Addr} {kvs : List (Key × V)} (h : H a = some (.dK kvs)) : H' a = some (.dK kvs) := e _ _ h fun _ z => (by cases z)
theorem ext_ins {H H' : Hp} (e : ExtN H H') {a C d : Addr} {fs : List (Str × V)} (h : H a = some (.ins C d fs)) : H' a = some (.ins C d fs) := e _ _ h fun _ z => (by cases z)
theorem extS {H H' : Hp} (s : Same H H') : ExtN H H' := ExtN.of s
theorem ext_seq {K : PySem.W.Frag} {H H' : Hp} {a : Addr} {xs : List V} (k : ExtN H H') (h : SqL K H a xs) : SqL K H' a xs := by
  rcases h with (h | ⟨o, h⟩) | h
  · exact .inl (.inl (ext_lst k h))
  · exact .inl (.inr ⟨o, k _ _ h fun _ z => (by cases z)⟩)
  · exact .inr h
mutual
theorem way_ext {H H' : Hp} (k : ExtN H H') : ∀ (w : W) (v : V), WayAt H v w → WayAt H' v w
  | .nothing, v, ⟨a, e, h⟩ => ⟨a, e, ext_tup k h⟩
  | .one, v, ⟨a, e, h⟩ => ⟨a, e, ext_tup k h⟩
  | .letter _, v, ⟨a, e, h⟩ => ⟨a, e, ext_tup k h⟩
  | .call _, v, ⟨a, e, h⟩ => ⟨a, e, ext_tup k h⟩
  | .row ws, v, ⟨a, l, vs, e, h, h2, h3⟩ => ⟨a, l, vs, e, ext_tup k h, ext_lst k h2, ways_ext k ws vs h3⟩
  | .choice ws, v, ⟨a, l, vs, e, h, h2, h3⟩ => ⟨a, l, vs, e, ext_tup k h, ext_lst k h2, ways_ext k ws vs h3⟩
  | .again w, v, ⟨a, u, e, h, h2⟩ => ⟨a, u, e, ext_tup k h, way_ext k w u h2⟩
  | .maybe w, v, ⟨a, u, e, h, h2⟩ => ⟨a, u, e, ext_tup k h, way_ext k w u h2⟩
  | .ahead w, v, ⟨a, u, e, h, h2⟩ => ⟨a, u, e, ext_tup k h, way_ext k w u h2⟩
  | .unless w, v, ⟨a, u, e, h, h2⟩ => ⟨a, u, e, ext_tup k h, way_ext k w u h2⟩
theorem ways_ext {H H' : Hp} (k : ExtN H H') : ∀ (ws : List W) (vs : List V), WaysAt H vs ws → WaysAt H' vs ws
  | [], _, h => h
  | w :: ws, vs, ⟨u, us, e, hu, h⟩ => ⟨u, us, e, way_ext k w u hu, ways_ext k ws us h⟩
end
theorem rules_ext {H H' : Hp} (k : ExtN H H') : ∀ (rs : List (Str × W)) (vs : List V), RulesAt H vs rs → RulesAt H' vs rs
  | [], _, h => h
  | (n, w) :: rs, vs, ⟨r, v, us, e, h, hv, h2⟩ => ⟨r, v, us, e, ext_tup k h, way_ext k _ _ hv, rules_ext k rs us h2⟩
theorem dcr_ext {c : Cs} {H H' : Hp} {tb sz : Addr} {rs : List (Str × W)} (d : DcR c H tb sz rs) (k : ExtN H H') : DcR c H' tb sz rs := by
  obtain ⟨kt, h1, h2⟩ := d.a
  exact ⟨d.ne, ⟨kt, ext_dK k h1, TabAt.keep (ext_still k) _ _ h2⟩, ext_dK k d.b⟩
theorem book_ext {c : Cs} {C : Addr} {H H' : Hp} {b : Addr} {rs : List (Str × W)} (h : BookAt c C H b rs) (k : ExtN H H') : BookAt c C H' b rs := by
  obtain ⟨dx, t, tb, sz, ts, h1, h2, h3, h4⟩ := h
  exact ⟨dx, t, tb, sz, ts, ext_ins k h1, ext_tup k h2, PairsAt.keep (ext_still k) _ _ h3, dcr_ext h4 k⟩
theorem pen_ext {K : PySem.W.Frag} {H H' : Hp} {p : Pen} {n : Nat} (h : PenAt K H p n) (k : ExtN H H') : PenAt K H' p n := by
  obtain ⟨a, b, cs, h1, h2, h3, h4⟩ := h.ex
  exact ⟨a, b, cs, ext_dK k h1, ext_seq k h2, h3, h4⟩
theorem tabs_keep {T : List (Addr × Str)} {H H' : Hp} (t : Tabs T H) (k : Keep H H') : Tabs T H' := fun p hp => by
  obtain ⟨ps, h1, h2, h3⟩ := t p hp
  refine ⟨ps, k.at_ h1 (fun _ z => by cases z), h2, fun pos cv hc => ?_⟩
  obtain ⟨c, e1, e2⟩ := h3 pos cv hc
  exact ⟨c, e1, k.at_ e2 (fun _ z => by unfold CodeO at z; cases z)⟩
theorem takes_len {X : Cx} {W : WX} (t : Takes X W) : Takes X (fun c d σ H => σ.length = X.N.length → W c d σ H) := fun u s' ⟨a, B, sI, pins, σ, H, cls, d, e, I, nb, up, sky, na, os, ag, w⟩ =>
  t u s' ⟨a, B, sI, pins, σ, H, cls, d, e, I, nb, up, sky, na, os, ag, w I.len⟩
/-! ### the law's met -/
structure MetT (K : PySem.W.Frag) (mg : Str → Option Value) (BN TM : Addr) : Prop where
  m : mg "BadName" = some (.ref BN)
  mM : mg "TooMany" = some (.ref TM)
  xfN : XfC K BN
  xfM : XfC K TM
  noN : PySem.W.findIn K (.ref BN) "name" = some none
  noW : PySem.W.findIn K (.ref TM) "what" = some none
  e1 : PySem.W.exmOne K (.ref BN) (.ref BN) = some true
  e2 : PySem.W.exmOne K (.ref TM) (.ref BN) = some false
  e3 : PySem.W.exmOne K (.ref TM) (.ref TM) = some true
/-- what is raised, and what met tells then -/
def EMet (BN TM : Addr) (Q : VK) : XK := fun cls d H' => ∃ (dd : Addr) (v : V), d = some dd ∧
  ((cls = .ref BN ∧ H' dd = some (.xd [(sName, v)]) ∧ ∀ t, H' t = none → Q (.ref t) (upd H' t (.tup [.str (Str.ofString "name"), v]))) ∨
   (cls = .ref TM ∧ H' dd = some (.xd [(sWhat, v)]) ∧ ∀ t, H' t = none → Q (.ref t) (upd H' t (.tup [.str (Str.ofString "many"), v]))))
def TMet (BN TM : Addr) : (XK → Hp → VK → Prop) → Hp → VK → Prop := fun tl H Q => tl (EMet BN TM Q) H Q
section
variable {X : Cx} {BN TM : Addr}
abbrev s_l_met : Stmt := top 68
theorem sc_l_met : FnScope ["_law_ask", "_law_told", "e"] ["_law_ask"] (defScope s_l_met) := ⟨rfl, rfl, rfl, by decide +kernel, rfl, by decide +kernel, by decide +kernel⟩
theorem met_gives {g : Addr} {cdg : Value} {q : Str} (T : MetT X.K X.mg BN TM) : GivesTo X ["_law_ask", "_law_told", "e"] "_law_met" (defScope s_l_met) g cdg (defBody s_l_met) "_law_ask" q (TMet BN TM) := by
  intro f c' s H Q tl act hc h
  refine ⟨_, pss_cons (ps_try_manyAs (X := (cxOf C8.CX0 X.prog X.w X.K X.mg X.base ["_law_ask", "_law_told", "e"] "_law_met" (defScope s_l_met) g cdg X.A X.stack s H C8.E0).nox) (n := "e") (i := 2)
      (l := [(.ref BN, _), (.ref TM, _)])
      (tb := fun W D σ H => ∃ Ech : XK, (∀ cls d σ' H', Ech cls d H' → σ'.length = 3 → W cls d σ' H') ∧ σ[0]? = some (some (.ref f)) ∧ H c' = some (CodeO c' q) ∧ tl Ech H (fun v H1 => D.nx (σ.set 1 (some v)) H1))
      rfl rfl sc_l_met.nd rfl rfl LamX.takes0 (fun W pn xe tk _ => ?_)
      (.cons ⟨rfl, by decide, .inl T.m⟩ (fun a oe cls d pn hz hf => pss_one (ps_ret (pe_tup (pa_cons pe_str (pa_cons (pe_xfK (K := X.K) rfl T.xfN T.noN hz hf (pv 2)) pa_nil)))))
        (.cons ⟨rfl, by decide, .inl T.mM⟩ (fun a oe cls d pn hz hf => pss_one (ps_ret (pe_tup (pa_cons pe_str (pa_cons (pe_xfK (K := X.K) rfl T.xfM T.noW hz hf (pv 2)) pa_nil))))) .nil)))
    (pss_one (ps_ret (pv 1))), ?_⟩
  · refine ⟨fun pins s' σ H' D I h' => ?_⟩
    obtain ⟨Ech, hW, h1, h2, h3⟩ := h'
    exact (pss_one (ps_set (i := 1) sc_l_met.nd rfl (Or.inl rfl) (act _ pn xe Ech _ _ (takes_len tk) hW))).run pins s' σ H' D I ⟨h1, h2, h3⟩
  · refine ⟨EMet BN TM Q, fun cls d σ' H' h' hl => ?_, rfl, hc, ?_⟩
    · obtain ⟨dd, v, rfl, h'⟩ := h'
      have h2 : ∀ a : Addr, (σ'.set 2 (some (V.ref a)))[2]? = some (some (V.ref a)) := fun a => by rw [List.getElem?_set_self (by omega)]
      rcases h' with ⟨rfl, hd, k⟩ | ⟨rfl, hd, k⟩
      · refine ⟨true, T.e1, fun _ a ha => ?_, fun z => by cases z⟩
        exact ⟨_, h2 a, rfl, rfl, dd, _, v, rfl, hd, rfl, by show 2 ≤ sizeLine; decide, fun t ht => k t ht⟩
      · refine ⟨false, T.e2, fun z => (by cases z), fun _ => ⟨true, T.e3, fun _ a ha => ?_, fun z => (by cases z)⟩⟩
        exact ⟨_, h2 a, rfl, rfl, dd, _, v, rfl, hd, rfl, by show 2 ≤ sizeLine; decide, fun t ht => k t ht⟩
    · refine Eq.mp (congrArg (tl (EMet BN TM Q) H) (funext fun v => funext fun H1 => propext ⟨fun q => ⟨v, rfl, q⟩, fun ⟨x, e, q⟩ => ?_⟩)) h
      cases e
      exact q
theorem pe_met {T : List (Addr × Str)} {c P : Addr} {k : Nat} {params : Arguments} {body : Expr} {scope : Scope} {t : XK → TE} {p lpos pos : Pos} (M : Here X.K X.mg "_law_met" s_l_met ["_law_ask"]) (MT : MetT X.K X.mg BN TM) (hg : Gl X "_law_met")
    (TB : TabB X.base X.mg c P) (hcode : X.env.code = .ref c) {q : Str} (hq : X.env.qual = q) (hmT : (P, q ++ "<lambda>") ∈ T) (hu : ∀ p ∈ T, p.1 = P → p.2 = q ++ "<lambda>") (hr : Room (k + 2) X.A) (L : LamS X.env.scope scope) (hdef : defaultsOf params X.env = ([], []))
    (hbind : ∀ (q : Str) (cl : List (Str × Addr)) (pm cv ctv : Value), bindArgs (PySem.W.kla_fn "<lambda>" q params body scope cl pm cv ctv) ⟨[], []⟩ = pure [])
    (hbody : ∀ (A : Around) (outer : List Env) (s : Shared) (H : Hp) (E : XK) (f c' : Addr), Room k (A.deeper (lamEnv X scope s.heap.objs.size f c')) → PE (lamCx X A outer s H E scope f c') body (t E)) :
    PE X (.Call (.Name "_law_met" p) [.Lambda params body scope lpos] [] pos) (tLam T (TMet BN TM) t) := by
  subst hq
  obtain ⟨g, fd, F, hm, hb⟩ := M.ex
  have hk := F.kp
  obtain ⟨oc, od, kV, doc, pm, an, cdv, ct, osl, rfl, lk, hcd⟩ := F.ex
  exact pe_lamcall (a := "_law_ask") (Ng := ["_law_ask", "_law_told", "e"]) hg hm hk lk hcd hb sc_l_met rfl (Or.inl rfl) (met_gives MT) TB hcode hmT hu hr L hdef hbind hbody
end
end Bo
namespace Bo
open PySem PySem.Spec PyProof.Rows L2 Wv Ws Bk Oq LamX
/-! ### a def whose code object is known -/
structure HereC (K : PySem.W.Frag) (mg : Str → Option Value) (x : Str) (st : Stmt) (ps : List Str) (c : Addr) : Prop where
  ex : ∃ (f : Addr) (oc : Value) (od : Option Addr) (kV doc pm : Value) (an : Option Addr) (ct : Value) (osl : Array (Option Value)),
    K.lookup f = some ⟨oc, od, .func (PySem.W.fnOf x x (defArgs st) (defBody st) (defScope st) .none kV doc pm an (.ref c) ct), osl⟩ ∧ PySem.W.codeIn K (.ref c) x = true ∧ PySem.W.keepIn K (.ref f) = true ∧ mg x = some (.ref f) ∧
    Binds K (PySem.W.fnOf x x (defArgs st) (defBody st) (defScope st) .none kV doc pm an (.ref c) ct) ps []
/-- the function at f -/
def FdAt (K : PySem.W.Frag) (f : Addr) (fd : FuncData) : Prop := ∃ (oc : Value) (od : Option Addr) (osl : Array (Option Value)), K.lookup f = some ⟨oc, od, .func fd, osl⟩
section
variable {P : Program} {w : World} {K : PySem.W.Frag} {mg : Str → Option Value} {base : Heap}
theorem HereC.fn {x : Str} {st : Stmt} {N ps : List Str} {cd : Addr} {k : Nat} {sp : Sp} (h : HereC K mg x st ps cd) (S : FnScope N ps (defScope st)) (len : ∀ vs H Q E, sp vs H Q E → vs.length = ps.length)
    (hbody : ∀ (f : Addr) (A : Around) (outer : List Env) (s : Shared) (H : Hp) (vs : List V) (Q : VK) (E : XK), Room k (A.deeper (envOfC x (defScope st) s.heap.objs.size f (.ref cd))) → sp vs H Q E →
      ∃ t, PSs (cxOf CX0 P w K mg base N x (defScope st) f (.ref cd) A outer s H E).nox (defBody st) t ∧ t { nx := fun _ H' => Q .non H', rt := Q } (start N vs) H) :
    ∃ (f : Addr) (fd : FuncData), mg x = some (.ref f) ∧ PySem.W.keepIn K (.ref f) = true ∧ Binds K fd ps [] ∧ FnOk P w K mg base CX0 (k + 1) f fd ps sp ∧ FdAt K f fd := by
  obtain ⟨f, oc, od, kV, doc, pm, an, ct, osl, lk, hcd, hk, hm, hb⟩ := h.ex
  refine ⟨f, _, hm, hk, hb, And.intro (?_ : FnOk P w K mg base CX0 (k + 1) f _ ps sp) ⟨oc, od, osl, lk⟩⟩
  refine fn_of lk hcd S len fun A outer s H vs Q E hr hsp => ?_
  obtain ⟨t, h, q⟩ := hbody f A outer s H vs Q E hr hsp
  exact ⟨t, h.nox, q⟩
theorem HereC.ok {x : Str} {st : Stmt} {N ps : List Str} {cd : Addr} {k : Nat} {sp : Sp} (h : HereC K mg x st ps cd) (S : FnScope N ps (defScope st)) (len : ∀ vs H Q E, sp vs H Q E → vs.length = ps.length)
    (hbody : ∀ (f : Addr) (A : Around) (outer : List Env) (s : Shared) (H : Hp) (vs : List V) (Q : VK) (E : XK), Room k (A.deeper (envOfC x (defScope st) s.heap.objs.size f (.ref cd))) → sp vs H Q E →
      ∃ t, PSs (cxOf CX0 P w K mg base N x (defScope st) f (.ref cd) A outer s H E).nox (defBody st) t ∧ t { nx := fun _ H' => Q .non H', rt := Q } (start N vs) H) : DefOk P w K mg base (k + 1) x ps sp :=
  let ⟨f, fd, a, b, c, d, _⟩ := h.fn S len hbody
  ⟨f, fd, a, b, c, d⟩
end
/-! ### tuples of two texts compared -/
theorem eqv_two (a b : Str) : PyData.eqv (.tuple [.str a, .str b]) (.tuple [.str a, .str b]) = true := by
  simp [PyData.eqv, PyData.eqvAll]
theorem shaped_two {a b : Str} (ha : PyData.strOk a = true) (hb : PyData.strOk b = true) : SeqAt.shaped (.tuple [.str a, .str b]) = true := by
  unfold SeqAt.shaped
  rw [Bool.and_eq_true]
  refine ⟨?_, decide_eq_true ?_⟩
  · show (PyData.strOk a && (PyData.strOk b && true)) = true
    rw [ha, hb]; rfl
  · simp [PyData.depth, PyData.depthAll]
theorem two_dp {K : PySem.W.Frag} {H : Hp} {t : Addr} {a b : Str} (h : H t = some (.tup [.str a, .str b])) : Dp K H (.ref t) (.tuple [.str a, .str b]) := .tup (SqT.of h) (.cons (.str _) (.cons (.str _) .nil))
/-- != of two such tuples that hold the same -/
theorem ne_two {K : PySem.W.Frag} {H : Hp} {t u : Addr} {a b : Str} {Q : VK} (ha : PyData.strOk a = true) (hb : PyData.strOk b = true) (h1 : H t = some (.tup [.str a, .str b])) (h2 : H u = some (.tup [.str a, .str b])) (q : Q (.bl false) H) : rNeD K (.ref t) (.ref u) H Q :=
  ⟨_, _, two_dp h1, two_dp h2, shaped_two ha hb, shaped_two ha hb, by rw [eqv_two]; exact q⟩
theorem wayOf_at {rs : List (Str × W)} (g : Gd rs) {i : Nat} {n : Str} {x : W} (h : rs[i]? = some (n, x)) : wayOf rs n = some x := by
  obtain ⟨hi, e⟩ := List.getElem?_eq_some_iff.mp h
  have e2 : rs = rs.take i ++ ([(n, x)] ++ rs.drop (i + 1)) := by
    rw [← e]; simp
  rw [e2, wayOf_app, wayOf_out (g.at_ h).1, wayOf_app, wayOf_one, if_pos rfl]
  rfl
/-! ### whether each rule's way is right -/
def spAre (c : Cs) (C : Addr) (T : List (Addr × Str)) : Sp := fun vs H Q _ => ∃ (b q : Addr) (us : List V) (rs : List (Str × W)), vs = [.ref b, .ref q] ∧ BookAt c C H b rs ∧ H q = some (.lst us) ∧ RulesAt H us rs ∧ Gd rs ∧ rs.length ≤ 16 ∧ (∀ r ∈ rs, r.2.size ≤ 30) ∧ Tabs T H ∧
  ∀ H', ExtN H H' → Tabs T H' → Q (.bl true) H'
section
variable {P : Program} {w : World} {K : PySem.W.Frag} {mg : Str → Option Value} {base : Heap} {c : Cs} {C BN TM cd Pt : Addr} {TT : List (Addr × Str)}
abbrev s_l_are_ways_right : Stmt := top 69
theorem sc_l_are_ways_right : FnScope ["_law_book", "_law_rules_here", "_law_sizes_here", "_law_way_here", "_law_told", "_law_name_here"] ["_law_book", "_law_rules_here"] (defScope s_l_are_ways_right) := ⟨rfl, rfl, rfl, by decide +kernel, rfl, by decide +kernel, by decide +kernel⟩
theorem d_are (h : HereC K mg "_law_are_ways_right" s_l_are_ways_right ["_law_book", "_law_rules_here"] cd) (B : Bs mg) (Tb : BkF K C) (TB : TabB base mg cd Pt) (hmT : (Pt, Str.ofString "_law_are_ways_right" ++ ".<locals>." ++ "<lambda>") ∈ TT) (huT : ∀ p ∈ TT, p.1 = Pt → p.2 = Str.ofString "_law_are_ways_right" ++ ".<locals>." ++ "<lambda>")
    (GM : Here K mg "_law_met" s_l_met ["_law_ask"]) (MT : MetT K mg BN TM) (GW : WEq P w K mg base c 3) (G_len : LenOk P w K mg base c 3 (spLenW c))
    (G_getitem_Book : SpC (L2.CX P w) P w K mg base C "__getitem__" 3 (spGet c C BN)) (G_contains_Book : SpC CX0 P w K mg base C "__contains__" 3 (spHas c C)) (G_way : MxOk P w K mg base C 85 "way" ["self", "name"] (spWayB c C BN TM))
    (G_l_sizes : DefOk P w K mg base 33 "_law_sizes" ["_law_rules_here"] spSizes) (G_l_made : DefOk P w K mg base (3 + 64) "_law_made" ["_law_way_here"] (spMade c 64)) (G_l_replaced : DefOk P w K mg base (1 + 80) "_law_replaced" ["_law_way_here", "_law_rules_here"] (spLRep 80)) :
    DefOk P w K mg base 94 "_law_are_ways_right" ["_law_book", "_law_rules_here"] (spAre c C TT) := by
  have B_len := B.len
  refine h.ok sc_l_are_ways_right (fun vs H Q E h => by obtain ⟨_, _, _, _, rfl, _⟩ := h; rfl) (fun f A outer s' H vs Q E hr h => ?_)
  obtain ⟨b, q, us, rs, rfl, hB, hq, hus, g, hl, hz, hT, k⟩ := h
  have hu : (A.deeper (envOfC "_law_are_ways_right" (defScope s_l_are_ways_right) s'.heap.objs.size f (.ref cd))).units + 1 < cLine := Nat.lt_of_le_of_lt (Nat.add_le_add_left (by decide) _) hr.units
  refine ⟨_, (pss_cons (ps_set (i := 2) sc_l_are_ways_right.nd rfl (Or.inl rfl) (pe_callD G_l_sizes (hr.mono (by first | decide | omega)) rfl (pa_cons (pv 1) pa_nil)))
  (pss_cons (ps_for PassesOwn.never rfl (pi_list (pv 1)) (pg_tup rfl (pgs_cons (pg_name (i := 5) sc_l_are_ways_right.nd rfl (Or.inr rfl)) (pgs_cons (pg_name (i := 3) sc_l_are_ways_right.nd rfl (Or.inl rfl)) pgs_nil)))
   (pss_cons (ps_if (PW.pt (pw_or (pt_not (pt_cmpR (op_eqB (eq_way GW) (hr.mono (by first | decide | omega))) (pe_met (T := TT) (k := 90) (q := Str.ofString "_law_are_ways_right" ++ ".<locals>.") GM MT rfl TB rfl rfl hmT huT (hr.mono (by first | decide | omega)) (lamS_by (sc := defScope s_l_are_ways_right) (by decide +kernel)) rfl (fun _ _ _ _ _ => rfl) (fun A0 outer0 s0 H0 E f0 c0 hr => (pe_getC (E := E) G_getitem_Book (hr.mono (by first | decide | omega)) (passes_call (takes_of rfl rfl rfl rfl) (fun _ _ _ _ h => h)) (pv 0) (pv 5)))) (pe_callD G_l_made (hr.mono (by first | decide | omega)) rfl (pa_cons (pv 3) pa_nil)) (nomark _))) (pw_or1 (pt_cmpR (op_notInC G_contains_Book (hr.mono (by first | decide | omega))) (pv 5) (pv 0) (by rfl))))) (pss_one (ps_ret pe_bl)) pss_nil)
  (pss_cons (ps_set (i := 4) sc_l_are_ways_right.nd rfl (Or.inl rfl) (pe_met (T := TT) (k := 90) (q := Str.ofString "_law_are_ways_right" ++ ".<locals>.") GM MT rfl TB rfl rfl hmT huT (hr.mono (by first | decide | omega)) (lamS_by (sc := defScope s_l_are_ways_right) (by decide +kernel)) rfl (fun _ _ _ _ _ => rfl) (fun A0 outer0 s0 H0 E f0 c0 hr => (pe_methX (E := E) G_way (hr.mono (by first | decide | omega)) (passes_call (takes_of rfl rfl rfl rfl) (fun _ _ _ _ h => h)) (pv 0) (pa_cons (pv 5) pa_nil)))))
  (pss_one (ps_if (pt_cmpR op_gt (pe_dget hu (pv 2) (pv 5) (fun _ _ => rfl)) pe_int (nomark _)) (pss_one (ps_if (pt_cmpR (op_neD hr.units) (pv 4) (pe_tup (pa_cons pe_str (pa_cons pe_str pa_nil))) (nomark _)) (pss_one (ps_ret pe_bl)) pss_nil)) (pss_one (ps_if (PW.pt (pw_or (pt_not (pt_cmpR (op_eqB (eq_way GW) (hr.mono (by first | decide | omega))) (pv 4) (pe_callD G_l_made (hr.mono (by first | decide | omega)) rfl (pa_cons (pe_callD G_l_replaced (hr.mono (by first | decide | omega)) rfl (pa_cons (pv 3) (pa_cons (pv 1) pa_nil))) pa_nil)) (nomark _))) (pw_or1 (pt_cmpR op_ne (pe_callB (call_lenW G_len (hr.mono (by first | decide | omega))) rfl B_len PySem.boot_len (pa_cons (pv 4) pa_nil)) (pe_dget hu (pv 2) (pv 5) (fun _ _ => rfl)) (nomark _))))) (pss_one (ps_ret pe_bl)) pss_nil)))))))
  (pss_one (ps_ret pe_bl)))), ?_⟩
  refine ⟨_, rfl, q, us, rs, rfl, hq, hus, g, by omega, hz, fun D H1 s1 hD => ?_⟩
  have hlen := RulesAt.len _ _ hus
  walk_at "nx"
  walk_at "rd"
  refine ⟨⟨_, SqL.of (s1 _ _ hq)⟩, ?_⟩
  refine for_list (K := K) (a := q) (xs := us) (fun i σ H' => ∃ x3 x4 x5 : Option V, σ = [some (.ref b), some (.ref q), some (.ref D), x3, x4, x5] ∧ ExtN H1 H' ∧ Tabs TT H') ?_ ?_ ?_ ?_
  · exact ⟨none, none, none, rfl, ExtN.refl _, hT.ext s1⟩
  · rintro i σ H' _ ⟨_, _, _, rfl, e2, _⟩
    exact SqL.of (ext_lst e2 (s1 _ _ hq))
  · rintro i e σ H2 he ⟨x3, x4, x5, rfl, e2, hT2⟩
    obtain ⟨r, n, v, x, rfl, hri, hr', hv⟩ := RulesAt.at_ _ _ _ _ hus he
    have hi : i < rs.length := (List.getElem?_eq_some_iff.mp hri).1
    have e02 := (extS s1).trans e2
    refine ⟨r, _, rfl, SqT.of (ext_tup e02 hr'), rfl, _, _, rfl, _, _, rfl, rfl, ?_⟩
    walk_at "nx"
    have hB2 := book_ext (hB.same s1) e2
    have hx30 : x.size ≤ 30 := hz _ (List.mem_of_getElem? hri)
    have hway : wayOf rs n = some x := wayOf_at g hri
    have hnm : decide (n ∈ rs.map (·.1)) = true := decide_eq_true (List.mem_map.mpr ⟨_, List.mem_of_getElem? hri, rfl⟩)
    have hxs := x.size_pos
    refine ⟨hT2, fun H3 e3 T3 => ?_⟩
    have hB3 := book_ext hB2 e3
    obtain ⟨dx, t, tb, sz, ts, hb3, _⟩ := id hB3
    refine ⟨_, rfl, _, rfl, b, dx, _, rfl, hb3, b, n, rs, rfl, hB3, fun v1 u1 hw hv1 => ?_, fun hn => (by rw [hway] at hn; cases hn)⟩
    obtain rfl : x = u1 := Option.some.inj (hway.symm.trans hw)
    have e03 := e02.trans e3
    refine ⟨_, rfl, v, x, rfl, way_ext e03 _ _ hv, by omega, by omega, fun u4 H4 s4 hu4 => ?_⟩
    obtain ⟨a1, _, _, rfl, _⟩ := hv1.head
    refine ⟨true, ⟨a1, rfl, .inl ⟨rfl, x, by omega, ObjAt.keep (stillS s4) _ _ hv1, hu4⟩⟩, fun H5 s5 => ?_⟩
    refine ⟨_, rfl, ?_⟩
    refine iteF ?_
    have e35 := (extS s4).trans (extS s5)
    have hB5 := book_ext hB3 e35
    have T5 := (T3.ext s4).ext s5
    obtain ⟨dx5, t5, tb5, sz5, ts5, hb5, _⟩ := id hB5
    refine ⟨_, rfl, _, rfl, b, dx5, _, rfl, hb5, b, n, rs, rfl, hB5, ?_⟩
    rw [hnm]
    refine ⟨_, rfl, _, rfl, ?_⟩
    refine iteF ?_
    walk_at "nx"
    -- with calls replaced
    refine ⟨T5, fun H6 e6 T6 => ?_⟩
    have e06 := (e03.trans e35).trans e6
    have hB6 := book_ext hB5 e6
    obtain ⟨dx6, t6, tb6, sz6, ts6, hb6, _⟩ := id hB6
    obtain ⟨ii, hii, hci, hr2⟩ := way_rep g hway
    have hD6 : H6 D = some (.dK (szK (sizesOf rs))) := ext_dK ((e2.trans (e3.trans e35)).trans e6) hD
    have hg : ∀ Hz : Hp, Hz D = some (.dK (szK (sizesOf rs))) → DGet Hz D (.str n) (some (V.int ((W.rep (repT rs) x).size : Nat))) := fun Hz h => by
      have z := DGet.k (k := kS n) h
      rw [valV_sz, sizes_rep g n, hr2] at z
      exact z
    refine ⟨_, rfl, b, dx6, _, rfl, hb6, rfl, _, rfl, b, n, rs, rfl, hB6, g, hl, fun hn => (by rw [hway] at hn; cases hn), fun u hu1 hbig d H7 s7 hd => ⟨d, _, rfl, .inr ⟨rfl, hd, fun t ht => ?_⟩⟩, fun u hu1 hsm v7 H7 s7 hv7 => ?_⟩
    · obtain rfl : W.rep (repT rs) x = u := Option.some.inj (hr2.symm.trans hu1)
      have s8 := s7.trans (Same.new ht (.tup [.str (Str.ofString "many"), .str (Str.ofString "parts")]))
      walk_at "nx"
      refine ⟨_, rfl, _, rfl, D, _, rfl, hg _ (s8 _ _ hD6), _, _, rfl, rfl, _, rfl, ?_⟩
      refine ite2 (fun _ => ?_) (fun z => absurd (decide_eq_true (show (64 : Int) < ((W.rep (repT rs) x).size : Nat) by omega)) z)
      refine ⟨_, rfl, by show 2 ≤ sizeLine; decide, fun t2 ht2 => ne_two (a := Str.ofString "many") (b := Str.ofString "parts") (by decide +kernel) (by decide +kernel) ((Same.new ht2 _) _ _ upd_same) upd_same ⟨_, rfl, ?_⟩⟩
      refine iteF ?_
      have s9 := s8.trans (Same.new ht2 (.tup [.str (Str.ofString "many"), .str (Str.ofString "parts")]))
      exact ⟨_, _, _, rfl, (e2.trans ((e3.trans e35).trans e6)).trans (extS s9), T6.ext s9⟩
    · obtain rfl : W.rep (repT rs) x = u := Option.some.inj (hr2.symm.trans hu1)
      walk_at "nx"
      refine ⟨_, rfl, _, rfl, D, _, rfl, hg _ (s7 _ _ hD6), _, _, rfl, rfl, _, rfl, ?_⟩
      refine ite2 (fun z => absurd (of_decide_eq_true z) (show ¬ (64 : Int) < ((W.rep (repT rs) x).size : Nat) by omega)) (fun _ => ?_)
      have e07 := e06.trans (extS s7)
      obtain ⟨a7, _, _, rfl, _⟩ := hv7.head
      refine ⟨_, rfl, _, rfl, _, rfl, v, x, q, us, rs, ii, H7, rfl, fun _ _ z => z, way_ext e07 _ _ hv, ext_lst e07 hq, rules_ext e07 _ _ hus, g, Nat.le_of_lt hii, hci, by omega, by decide, fun u8 H8 s8 hu8 => ?_⟩
      refine ⟨u8, W.rep (repT rs) x, rfl, WayAt.keep (over_to (Keep.refl _) (Keep.of s8)) _ _ hu8, hsm, by omega, fun u9 H9 s9 hu9 => ?_⟩
      have s79 := s8.trans s9
      refine ⟨true, ⟨a7, rfl, .inl ⟨rfl, W.rep (repT rs) x, by omega, ObjAt.keep (stillS s79) _ _ hv7, hu9⟩⟩, fun H10 s10 => ⟨_, rfl, ?_⟩⟩
      refine iteF ?_
      have s710 := s79.trans s10
      have hv10 := ObjAt.keep (stillS s710) _ _ hv7
      refine ⟨_, rfl, _, W.rep (repT rs) x, rfl, hv10, _, W.rep (repT rs) x, rfl, hv10, by omega, fun H11 s11 => ⟨_, rfl, by omega, by omega, _, rfl, _, rfl, D, _, rfl, hg _ (s11 _ _ (s710 _ _ (s7 _ _ hD6))), rfl, _, rfl, ?_⟩⟩
      rw [decide_eq_true rfl]
      refine iteF ?_
      have s711 := s710.trans s11
      exact ⟨_, _, _, rfl, ((e2.trans ((e3.trans e35).trans e6)).trans (extS s7)).trans (extS s711), (T6.ext s7).ext s711⟩
  · rintro σ H2 ⟨x3, x4, x5, rfl, e2, hT2⟩
    walk_at "nx"
    exact k H2 ((extS s1).trans e2) hT2
end
end Bo
namespace Bo
open PySem PySem.Spec PyProof.Rows L2 Wv Ws Bk Oq LamX
/-! ### a book made outside a try -/
section
variable {c : Cs} {C BN : Addr}
theorem at_made {H1 : Hp} {x dx : Addr} (hx : H1 x = none) (hdx : H1 dx = none) (hne : dx ≠ x) : upd (upd H1 dx (.own x)) x (.ins C dx []) x = some (.ins C dx []) ∧ Same H1 (upd (upd H1 dx (.own x)) x (.ins C dx [])) := by
  refine ⟨upd_same, fun b o e => ?_⟩
  rw [upd_ne (ne_of_none e hx), upd_ne (ne_of_none e hdx)]
  exact e
theorem mk_bookL {H1 : Hp} {D x dx : Addr} {os : List V} {rs : List (Str × W)} {Q : VK} {E : XK} (hD : H1 D = some (.lst os)) (hos : PairsAt c H1 os rs) (hl : rs.length ≤ 900) (hz : ∀ r ∈ rs, r.2.size ≤ 1000) (he : bookE [] rs = none) (hx : H1 x = none) (hdx : H1 dx = none) (hne : dx ≠ x)
    (k : ∀ H2, Same H1 H2 → BookAt c C H2 x rs → Q .non H2) : spBook2 c C BN [.ref x, .ref D] (upd (upd H1 dx (.own x)) x (.ins C dx [])) Q E :=
  .inl ⟨x, dx, D, os, rs, H1, rfl, (at_made hx hdx hne).1, hx, (at_made (C := C) hx hdx hne).2, hD, hos, hl, hz, fun _ t tb sz ts H2 hb2 ht2 hts2 hD2 s2 => k H2 s2 ⟨dx, t, tb, sz, ts, hb2, ht2, hts2, hD2⟩,
    fun y hy => by rw [he] at hy; cases hy⟩
theorem mk_bookT {H1 : Hp} {D x dx : Addr} {os : List V} {rs : List (Str × W)} {Q : VK} {E : XK} (hD : H1 D = some (.tup os)) (hos : PairsAt c H1 os rs) (hl : rs.length ≤ 900) (hz : ∀ r ∈ rs, r.2.size ≤ 1000) (he : bookE [] rs = none) (hx : H1 x = none) (hdx : H1 dx = none) (hne : dx ≠ x)
    (k : ∀ H2, Same H1 H2 → BookAt c C H2 x rs → Q .non H2) : spBook2 c C BN [.ref x, .ref D] (upd (upd H1 dx (.own x)) x (.ins C dx [])) Q E :=
  .inr ⟨x, dx, D, os, rs, H1, rfl, (at_made hx hdx hne).1, hx, (at_made (C := C) hx hdx hne).2, hD, hos, hl, hz, fun _ t tb sz ts H2 hb2 ht2 hts2 hD2 s2 => k H2 s2 ⟨dx, t, tb, sz, ts, hb2, ht2, hts2, hD2⟩,
    fun y hy => by rw [he] at hy; cases hy⟩
theorem mk0 {x dx : Addr} {H : Hp} {Q : VK} {E : XK} (hx : H x = none) (hd : H dx = none) (k : ∀ H', Same H H' → H' x = some (.ins C dx (nts none 0 [])) → Q .non H') : spInit0 C [.ref x] (upd (upd H dx (.own x)) x (.ins C dx [])) Q E :=
  ⟨x, dx, H, rfl, at0 hx hd, fun H' e s => k H' s e⟩
theorem BookAt.putl {H : Hp} {b D : Addr} {rs : List (Str × W)} {xs ys : List V} (h : BookAt c C H b rs) (hD : H D = some (.lst xs)) : BookAt c C (upd H D (.lst ys)) b rs := by
  obtain ⟨dx, t, tb, sz, ts, h1, h2, h3, h4⟩ := h
  obtain ⟨kt, g1, g2⟩ := h4.a
  have n1 : tb ≠ D := ne_of g1 hD (by intro z; cases z)
  have n2 : sz ≠ D := ne_of h4.b hD (by intro z; cases z)
  have k := Still.put (ys := ys) hD
  exact ⟨dx, t, tb, sz, ts, k.ins h1, k.tup h2, PairsAt.keep k _ _ h3, h4.ne, ⟨kt, by rw [upd_ne n1]; exact g1, TabAt.keep k _ _ g2⟩, by rw [upd_ne n2]; exact h4.b⟩
theorem PairsAt.take {H : Hp} : ∀ (i : Nat) (rs : List (Str × W)) (vs : List V), PairsAt c H vs rs → PairsAt c H (vs.take i) (rs.take i)
  | 0, _, _, _ => rfl
  | i + 1, [], vs, h => by rw [show vs = [] from h]; rfl
  | i + 1, (n, w) :: rs, vs, ⟨r, v, us, e, h, hv, h2⟩ => by
    rw [e]
    exact ⟨r, v, us.take i, rfl, h, hv, PairsAt.take i rs us h2⟩
theorem PairsAt.drop {H : Hp} : ∀ (i : Nat) (rs : List (Str × W)) (vs : List V), PairsAt c H vs rs → PairsAt c H (vs.drop i) (rs.drop i)
  | 0, _, _, h => h
  | i + 1, [], vs, h => by rw [show vs = [] from h]; rfl
  | i + 1, (n, w) :: rs, vs, ⟨r, v, us, e, h, hv, h2⟩ => by
    rw [e]
    exact PairsAt.drop i rs us h2
theorem cutV_take (l : List V) (k : Nat) : cutV l none (some (k : Int)) = l.take k := by
  unfold cutV
  rw [HT.sIx_none, HT.sIx_nat, List.drop_zero, Nat.sub_zero, List.take_eq_take_iff]
  omega
theorem cutV_drop (l : List V) (k : Nat) : cutV l (some (k : Int)) none = l.drop k := by
  unfold cutV
  rw [HT.sIx_none, HT.sIx_nat]
  by_cases h : k ≤ l.length
  · rw [Nat.min_eq_left h, List.take_of_length_le (by rw [List.length_drop]; omega)]
  · rw [Nat.min_eq_right (by omega), Nat.sub_self, List.take_zero, List.drop_eq_nil_of_le (by omega)]
end
/-! ### books with one rule more -/
theorem bad1_more {T U : List Str} (h : ∀ x ∈ T, x ∈ U) : ∀ ps : List W, bad1 T ps = none → bad1 U ps = none
  | [], _ => rfl
  | p :: ps, e => by
    cases p with
    | call y =>
      rw [bad1] at e ⊢
      split at e
      · rename_i hy
        rw [if_pos (h y hy)]
        exact bad1_more h ps e
      · cases e
    | _ => exact bad1_more h ps e
theorem badR_none {T : List Str} {n : Str} {w : W} : badR T n w = none ↔ n ∉ T ∧ bad1 T w.parts = none := by
  unfold badR
  by_cases h : n ∈ T
  · rw [if_pos h]; exact ⟨fun z => (by cases z), fun z => absurd h z.1⟩
  · rw [if_neg h]; exact ⟨fun z => ⟨h, z⟩, fun z => z.2⟩
theorem bookE_cons {T : List Str} {n : Str} {w : W} {rs : List (Str × W)} : bookE T ((n, w) :: rs) = none ↔ badR T n w = none ∧ bookE (T ++ [n]) rs = none := by
  rw [bookE]
  cases h : badR T n w with
  | none => exact ⟨fun z => ⟨rfl, z⟩, fun z => z.2⟩
  | some x => exact ⟨fun z => (by cases z), fun z => (by cases z.1)⟩
theorem bookE_app : ∀ (rs qs : List (Str × W)) (T : List Str), bookE T (rs ++ qs) = none ↔ bookE T rs = none ∧ bookE (T ++ rs.map (·.1)) qs = none
  | [], qs, T => by simp [bookE]
  | (n, w) :: rs, qs, T => by
    rw [List.cons_append, bookE_cons, bookE_cons, bookE_app rs qs, List.map_cons, List.append_assoc]
    exact ⟨fun ⟨a, b, d⟩ => ⟨⟨a, b⟩, d⟩, fun ⟨⟨a, b⟩, d⟩ => ⟨a, b, d⟩⟩
theorem bookE_more : ∀ (rs : List (Str × W)) {T U : List Str}, (∀ x ∈ T, x ∈ U) → (∀ r ∈ rs, r.1 ∈ U → r.1 ∈ T) → bookE T rs = none → bookE U rs = none
  | [], _, _, _, _, _ => rfl
  | (n, w) :: rs, T, U, h1, h2, h => by
    rw [bookE_cons, badR_none] at h ⊢
    obtain ⟨⟨a, b⟩, d⟩ := h
    refine ⟨⟨fun z => a (h2 _ List.mem_cons_self z), bad1_more h1 _ b⟩, bookE_more rs (fun x hx => ?_) (fun r hr hx => ?_) d⟩
    · rcases List.mem_append.mp hx with hx | hx
      · exact List.mem_append.mpr (.inl (h1 x hx))
      · exact List.mem_append.mpr (.inr hx)
    · rcases List.mem_append.mp hx with hx | hx
      · exact List.mem_append.mpr (.inl (h2 r (List.mem_cons_of_mem _ hr) hx))
      · exact List.mem_append.mpr (.inr hx)
/-- a rule of a leaf under a new name, put anywhere -/
theorem bookE_put {rs : List (Str × W)} {n : Str} {w : W} (i : Nat) (h : bookE [] rs = none) (hn : n ∉ rs.map (·.1)) (hw : bad1 [] w.parts = none) : bookE [] (rs.take i ++ [(n, w)] ++ rs.drop i) = none := by
  have h0 : bookE [] (rs.take i ++ rs.drop i) = none := by rw [List.take_append_drop]; exact h
  obtain ⟨h1, h2⟩ := (bookE_app _ _ _).mp h0
  refine (bookE_app _ _ _).mpr ⟨(bookE_app _ _ _).mpr ⟨h1, bookE_cons.mpr ⟨badR_none.mpr ⟨fun z => ?_, bad1_more (fun x hx => absurd hx List.not_mem_nil) _ hw⟩, rfl⟩⟩, bookE_more _ (fun x hx => ?_) (fun r hr hx => ?_) h2⟩
  · obtain ⟨r, hr, e⟩ := List.mem_map.mp (show n ∈ (rs.take i).map (·.1) from z)
    exact hn (List.mem_map.mpr ⟨r, List.mem_of_mem_take hr, e⟩)
  · rw [List.map_append]
    exact List.mem_append.mpr (.inr (List.mem_append.mpr (.inl hx)))
  · rw [List.map_append] at hx
    rcases List.mem_append.mp hx with z | hx
    · exact absurd z List.not_mem_nil
    · rcases List.mem_append.mp hx with z | z
      · exact List.mem_append.mpr (.inr z)
      · refine absurd ?_ hn
        rw [← List.mem_singleton.mp (show r.1 ∈ [n] from z)]
        exact List.mem_map.mpr ⟨r, List.mem_of_mem_drop hr, rfl⟩
theorem bookE_snoc {rs : List (Str × W)} {n : Str} {w : W} (h : bookE [] rs = none) (hn : n ∉ rs.map (·.1)) (hw : bad1 [] w.parts = none) : bookE [] (rs ++ [(n, w)]) = none := by
  have z := bookE_put rs.length h hn hw
  rwa [List.take_length, List.drop_length, List.append_nil] at z
theorem cmp_more {rs : List (Str × W)} {r : Str × W} (h : ∀ r ∈ rs, r.2.size ≤ 1000) : Cmp (rs ++ [r]) rs false := by
  have z := Cmp.app (ps := rs) (rs := [r]) (qs := []) h Cmp.right
  rwa [List.append_nil] at z
theorem cmp_put {rs : List (Str × W)} {n : Str} (i : Nat) (h : ∀ r ∈ rs, r.2.size ≤ 1000) (hn : n ∉ rs.map (·.1)) : Cmp (rs.take i ++ [(n, .one)] ++ rs.drop i) (rs ++ [(n, .nothing)]) false := by
  have e : rs ++ [(n, W.nothing)] = rs.take i ++ (rs.drop i ++ [(n, .nothing)]) := by rw [← List.append_assoc, List.take_append_drop]
  rw [e, List.append_assoc]
  refine Cmp.app (fun r hr => h r (List.mem_of_mem_take hr)) ?_
  cases hd : rs.drop i with
  | nil => exact Cmp.kind (by decide)
  | cons r qs =>
    refine Cmp.name fun z => hn ?_
    rw [z]
    exact List.mem_map.mpr ⟨r, List.mem_of_mem_drop (by rw [hd]; exact List.mem_cons_self), rfl⟩
theorem size_snoc {rs : List (Str × W)} {n : Str} {w : W} (h : ∀ r ∈ rs, r.2.size ≤ 1000) (hw : w.size ≤ 1000) : ∀ r ∈ rs ++ [(n, w)], r.2.size ≤ 1000 := fun r hr => by
  rcases List.mem_append.mp hr with z | z
  · exact h r z
  · rw [List.mem_singleton.mp z]; exact hw
theorem size_put {rs : List (Str × W)} {n : Str} {w : W} (i : Nat) (h : ∀ r ∈ rs, r.2.size ≤ 1000) (hw : w.size ≤ 1000) : ∀ r ∈ rs.take i ++ [(n, w)] ++ rs.drop i, r.2.size ≤ 1000 := fun r hr => by
  rcases List.mem_append.mp hr with z | z
  · exact size_snoc (fun r hr => h r (List.mem_of_mem_take hr)) hw r z
  · exact h r (List.mem_of_mem_drop z)
/-- a strange name -/
theorem strange_out {rs : List (Str × W)} {cs : List Nat} (h : ∀ x ∈ rs, x.2.size ≤ 30 ∧ NmOk x.1) : tx (113 :: cs) ∉ rs.map (·.1) := fun z => by
  obtain ⟨r, hr, e⟩ := List.mem_map.mp z
  obtain ⟨_, ds, e1, hd⟩ := (h r hr).2
  rw [e1] at e
  have e3 : ds = 113 :: cs := by
    have := congrArg (fun z : Str => z.cps.toList) e
    simpa [tx] using this
  have := hd 113 (by rw [e3]; exact List.mem_cons_self)
  revert this
  decide
theorem strange_ok {cs : List Nat} (h : Six cs) : PyData.strOk (tx (113 :: cs)) = true := by
  show ((113 :: cs).toArray).all (fun x => decide (x < 0x110000)) = true
  simp
  intro c hc
  have := h c hc
  simp only [List.mem_cons, List.not_mem_nil, or_false] at this
  omega
end Bo
namespace Bo
open PySem PySem.Spec PyProof.Rows L2 Wv Ws Bk Oq LamX
/-! ### the law -/
theorem pairs_lst {c : Cs} {H : Hp} {D : Addr} {os ys : List V} {xs : List V} {rs : List (Str × W)} (h : PairsAt c H os rs) (hD : H D = some (.lst xs)) : PairsAt c (upd H D (.lst ys)) os rs := PairsAt.keep (Still.put hD) _ _ h
def spLaw8 (K : PySem.W.Frag) (T : List (Addr × Str)) : Sp := fun vs H Q _ => ∃ (a : Addr) (ns : List Int), vs = [.ref a] ∧ SqL K H a (ns.map V.int) ∧ ns.length ≤ 63 ∧ Tabs T H ∧ ∀ H', Q (.bl true) H'
section
variable {P : Program} {w : World} {K : PySem.W.Frag} {mg : Str → Option Value} {base : Heap} {c : Cs} {C BN TM cd Pt : Addr} {TT : List (Addr × Str)}
abbrev s_law : Stmt := top 70
theorem sc_law : FnScope ["_law_script", "_law_pen_here", "_law_turn", "_law_signs_here", "_law_rules_here", "_law_given", "_law_made_here", "_law_at", "_law_more", "_law_other", "_law_book", "_law_strange", "_law_name_here", "_law_way_here"] ["_law_script"] (defScope s_law) := ⟨rfl, rfl, rfl, by decide +kernel, rfl, by decide +kernel, by decide +kernel⟩
theorem ok_law (h : HereC K mg "law" s_law ["_law_script"] cd) (B : Bs mg) (Tb : BkF K C) (TB : TabB base mg cd Pt) (hmT : (Pt, Str.ofString "law" ++ ".<locals>." ++ "<lambda>") ∈ TT) (huT : ∀ p ∈ TT, p.1 = Pt → p.2 = Str.ofString "law" ++ ".<locals>." ++ "<lambda>")
    (GM : Here K mg "_law_met" s_l_met ["_law_ask"]) (MT : MetT K mg BN TM) (GW : WEq P w K mg base c 3) (GQ : BEq P w K mg base c C) (gs : Gs P w K mg base c)
    (G_Book : CxOk P w K mg base 5 "Book" C ["self", "rules"] (spBook2 c C BN)) (G_iter_Book : IterC P w K mg base C 1 (tRules C)) (G_len_Book : LenC P w K mg base C 1 (spBkLen C))
    (G_getitem_Book : SpC (L2.CX P w) P w K mg base C "__getitem__" 3 (spGet c C BN)) (G_contains_Book : SpC CX0 P w K mg base C "__contains__" 3 (spHas c C)) (G_way : MxOk P w K mg base C 85 "way" ["self", "name"] (spWayB c C BN TM))
    (G_l_pen : DefOk P w K mg base 1 "_law_pen" ["_law_script"] (spPen K)) (G_l_draw : DefOk P w K mg base 1 "_law_draw" ["_law_pen_here", "_law_many"] (spDraw K)) (G_l_signs : DefOk P w K mg base 2 "_law_signs" ["_law_pen_here", "_law_many"] (spSigns K))
    (G_l_name : DefOk P w K mg base 3 "_law_name" ["_law_pen_here"] (spNm K)) (G_l_rules : DefOk P w K mg base 35 "_law_rules" ["_law_pen_here", "_law_signs_here", "_law_many"] (spRules K)) (G_l_made : DefOk P w K mg base (3 + 64) "_law_made" ["_law_way_here"] (spMade c 64))
    (G_l_are_ways_right : DefOk P w K mg base 94 "_law_are_ways_right" ["_law_book", "_law_rules_here"] (spAre c C TT)) :
    ∃ (f : Addr) (fd : FuncData), mg "law" = some (.ref f) ∧ PySem.W.keepIn K (.ref f) = true ∧ Binds K fd ["_law_script"] [] ∧ FnOk P w K mg base CX0 97 f fd ["_law_script"] (spLaw8 K TT) ∧ FdAt K f fd := by
  have B_len := B.len; have B_range := B.range; have B_min := B.min; have B_list := B.list; have B_tuple := B.tuple; have B_isinstance := B.isinstance
  have G_One := gs.on; have G_Nothing := gs.no
  refine h.fn sc_law (fun vs H Q E h => by obtain ⟨p, v, rfl, _⟩ := h; rfl) (fun f A outer s' H vs Q E hr h => ?_)
  obtain ⟨a, ns, rfl, hns, hnl, hT, k⟩ := h
  have hu : (A.deeper (envOfC "law" (defScope s_law) s'.heap.objs.size f (.ref cd))).units + 1 < cLine := Nat.lt_of_le_of_lt (Nat.add_le_add_left (by decide) _) hr.units
  refine ⟨_, (pss_cons (ps_set (i := 1) sc_law.nd rfl (Or.inl rfl) (pe_callD G_l_pen (hr.mono (by first | decide | omega)) rfl (pa_cons (pv 0) pa_nil)))
  (pss_cons (ps_for PassesOwn.never rfl (pi_range1 rfl B_range (pa_cons (pe_op op_add pe_int (pe_callB (call_min2 rfl) rfl B_min (by decide +kernel) (pa_cons pe_int (pa_cons (pe_callB call_len_seq rfl B_len PySem.boot_len (pa_cons (pv 0) pa_nil)) pa_nil)))) pa_nil)) (pg_name (i := 2) sc_law.nd rfl (Or.inl rfl))
   (pss_cons (ps_set (i := 3) sc_law.nd rfl (Or.inl rfl) (pe_callD G_l_signs (hr.mono (by first | decide | omega)) rfl (pa_cons (pv 1) (pa_cons (pe_op op_add pe_int (pe_callD G_l_draw (hr.mono (by first | decide | omega)) rfl (pa_cons (pv 1) (pa_cons pe_int pa_nil)))) pa_nil))))
  (pss_cons (ps_set (i := 4) sc_law.nd rfl (Or.inl rfl) (pe_callD G_l_rules (hr.mono (by first | decide | omega)) rfl (pa_cons (pv 1) (pa_cons (pv 3) (pa_cons (pe_callD G_l_draw (hr.mono (by first | decide | omega)) rfl (pa_cons (pv 1) (pa_cons pe_int pa_nil))) pa_nil)))))
  (pss_cons (ps_setLc (i := 5) (own := [("_law_name_here", 12), ("_law_way_here", 13)]) (tt := tYes) rfl sc_law.nd rfl rfl (sw_true rfl rfl rfl (by decide +kernel)) (pi_list (pv 4)) (blkOk_by (own := [("_law_name_here", 12), ("_law_way_here", 13)]) (N := ["_law_script", "_law_pen_here", "_law_turn", "_law_signs_here", "_law_rules_here", "_law_given", "_law_made_here", "_law_at", "_law_more", "_law_other", "_law_book", "_law_strange", "_law_name_here", "_law_way_here"]) (sc := defScope s_law) (by decide +kernel)) (fun _ _ _ _ _ => (pg_tupK (K := K) (n := 2) rfl rfl (pgs_cons (pg_name (i := 12) sc_law.nd rfl (Or.inl rfl)) (pgs_cons (pg_name (i := 13) sc_law.nd rfl (Or.inl rfl)) pgs_nil)))) (fun _ _ _ _ _ => pts_nil) (fun _ _ _ _ _ => (pe_tup (pa_cons (pv 12) (pa_cons (pe_callD G_l_made (hr.mono (by first | decide | omega)) rfl (pa_cons (pv 13) pa_nil)) pa_nil)))))
  (pss_cons (ps_set (i := 10) sc_law.nd rfl (Or.inr rfl) (pe_makeS (E := WE (fun _ _ _ _ => False)) G_Book (hr.mono (by first | decide | omega)) (fun σ => passAt L2.takes0 σ) rfl (pa_cons (pv 5) pa_nil)))
  (pss_cons (ps_expr (pe_bm PySem.F.plainAttrs_list PySem.F.slot_list_append PySem.F.type_list_append mt_append (pv 5) (pa_cons (pe_tup (pa_cons pe_str (pa_cons (pe_makeD0 G_One (hr.mono (by first | decide | omega)) rfl) pa_nil))) pa_nil)))
  (pss_cons (ps_setLc (i := 6) (own := [("_law_name_here", 12), ("_law_way_here", 13)]) (tt := tYes) rfl sc_law.nd rfl rfl (sw_true rfl rfl rfl (by decide +kernel)) (pi_list (pv 4)) (blkOk_by (own := [("_law_name_here", 12), ("_law_way_here", 13)]) (N := ["_law_script", "_law_pen_here", "_law_turn", "_law_signs_here", "_law_rules_here", "_law_given", "_law_made_here", "_law_at", "_law_more", "_law_other", "_law_book", "_law_strange", "_law_name_here", "_law_way_here"]) (sc := defScope s_law) (by decide +kernel)) (fun _ _ _ _ _ => (pg_tupK (K := K) (n := 2) rfl rfl (pgs_cons (pg_name (i := 12) sc_law.nd rfl (Or.inl rfl)) (pgs_cons (pg_name (i := 13) sc_law.nd rfl (Or.inl rfl)) pgs_nil)))) (fun _ _ _ _ _ => pts_nil) (fun _ _ _ _ _ => (pe_tup (pa_cons (pv 12) (pa_cons (pe_callD G_l_made (hr.mono (by first | decide | omega)) rfl (pa_cons (pv 13) pa_nil)) pa_nil)))))
  (pss_cons (ps_if (PW.pt (pw_or (pt_cmpR (op_neB (rcB_list (.inr rfl) (monB_tup monB_it) (eqB_pr GW)) (hr.mono (by first | decide | omega))) (pe_callTy call_list_of rfl B_list (by decide +kernel) (pa_cons (pe_fld (pv 10) rfl) pa_nil)) (pv 6) (nomark _)) (pw_or (pt_cmpR (op_neB (rcB_list (.inr rfl) (monB_tup monB_it) (eqB_pr GW)) (hr.mono (by first | decide | omega))) (pe_callTy (call_listI rfl G_iter_Book G_len_Book (hr.mono (by first | decide | omega))) rfl B_list (by decide +kernel) (pa_cons (pv 10) pa_nil)) (pv 6) (nomark _)) (pw_or1 (pt_cmpR op_ne (pe_callB (call_lenC G_len_Book (hr.mono (by first | decide | omega))) rfl B_len PySem.boot_len (pa_cons (pv 10) pa_nil)) (pe_callB call_len_seq rfl B_len PySem.boot_len (pa_cons (pv 4) pa_nil)) (nomark _)))))) (pss_one (ps_ret pe_bl)) pss_nil)
  (pss_cons (ps_if (pt_not (pt_val (pe_callB call_isi rfl B_isinstance (by decide +kernel) (pa_cons (pe_fld (pv 10) rfl) (pa_cons (pe_bltn (v := V.ty "tuple") rfl B_tuple (by decide +kernel) rfl) pa_nil))))) (pss_one (ps_ret pe_bl)) pss_nil)
  (pss_cons (ps_if (PW.pt (pw_or (pt_not (pt_cmpR (op_eqB (eq_book GQ) (hr.mono (by first | decide | omega))) (pv 10) (pe_makeS (E := WE (fun _ _ _ _ => False)) G_Book (hr.mono (by first | decide | omega)) (fun σ => passAt L2.takes0 σ) rfl (pa_cons (pe_callTy call_tuple_of rfl B_tuple (by decide +kernel) (pa_cons (pv 6) pa_nil)) pa_nil)) (nomark _))) (pw_or (pt_cmpR (op_eqB (eq_book GQ) (hr.mono (by first | decide | omega))) (pv 10) (pv 6) (nomark _)) (pw_or1 (pt_not (pt_val (pe_callD G_l_are_ways_right (hr.mono (by first | decide | omega)) rfl (pa_cons (pv 10) (pa_cons (pv 4) pa_nil))))))))) (pss_one (ps_ret pe_bl)) pss_nil)
  (pss_cons (ps_set (i := 11) sc_law.nd rfl (Or.inr rfl) (pe_op op_add_str pe_str (pe_slice sl_str (pe_callD G_l_name (hr.mono (by first | decide | omega)) rfl (pa_cons (pv 1) pa_nil)) po_none (po_some pe_int))))
  (pss_cons (ps_if (PW.pt (pw_or (pt_cmpR (op_inC G_contains_Book (hr.mono (by first | decide | omega))) (pv 11) (pv 10) (by rfl)) (pw_or1 (pt_cmpR (op_neD hr.units) (pe_met (T := TT) (k := 90) (q := Str.ofString "law" ++ ".<locals>.") GM MT rfl TB rfl rfl hmT huT (hr.mono (by first | decide | omega)) (lamS_by (sc := defScope s_law) (by decide +kernel)) rfl (fun _ _ _ _ _ => rfl) (fun A0 outer0 s0 H0 E f0 c0 hr => (pe_getC (E := E) G_getitem_Book (hr.mono (by first | decide | omega)) (passes_call (takes_of rfl rfl rfl rfl) (fun _ _ _ _ h => h)) (pv 10) (pv 11)))) (pe_tup (pa_cons pe_str (pa_cons (pv 11) pa_nil))) (nomark _))))) (pss_one (ps_ret pe_bl)) pss_nil)
  (pss_cons (ps_if (pt_cmpR (op_neD hr.units) (pe_met (T := TT) (k := 90) (q := Str.ofString "law" ++ ".<locals>.") GM MT rfl TB rfl rfl hmT huT (hr.mono (by first | decide | omega)) (lamS_by (sc := defScope s_law) (by decide +kernel)) rfl (fun _ _ _ _ _ => rfl) (fun A0 outer0 s0 H0 E f0 c0 hr => (pe_methX (E := E) G_way (hr.mono (by first | decide | omega)) (passes_call (takes_of rfl rfl rfl rfl) (fun _ _ _ _ h => h)) (pv 10) (pa_cons (pv 11) pa_nil)))) (pe_tup (pa_cons pe_str (pa_cons (pv 11) pa_nil))) (nomark _)) (pss_one (ps_ret pe_bl)) pss_nil)
  (pss_cons (ps_set (i := 7) sc_law.nd rfl (Or.inl rfl) (pe_callD G_l_draw (hr.mono (by first | decide | omega)) rfl (pa_cons (pv 1) (pa_cons (pe_op op_add (pe_callB call_len_seq rfl B_len PySem.boot_len (pa_cons (pv 4) pa_nil)) pe_int) pa_nil))))
  (pss_cons (ps_set (i := 8) sc_law.nd rfl (Or.inl rfl) (pe_makeS (E := WE (fun _ _ _ _ => False)) G_Book (hr.mono (by first | decide | omega)) (fun σ => passAt L2.takes0 σ) rfl (pa_cons (pe_op op_cat (pv 6) (pe_lst (pa_cons (pe_tup (pa_cons (pv 11) (pa_cons (pe_makeD0 G_Nothing (hr.mono (by first | decide | omega)) rfl) pa_nil))) pa_nil))) pa_nil)))
  (pss_cons (ps_set (i := 9) sc_law.nd rfl (Or.inl rfl) (pe_makeS (E := WE (fun _ _ _ _ => False)) G_Book (hr.mono (by first | decide | omega)) (fun σ => passAt L2.takes0 σ) rfl (pa_cons (pe_op op_cat (pe_op op_cat (pe_slice sl_list (pv 6) po_none (po_some (pv 7))) (pe_lst (pa_cons (pe_tup (pa_cons (pv 11) (pa_cons (pe_makeD0 G_One (hr.mono (by first | decide | omega)) rfl) pa_nil))) pa_nil))) (pe_slice sl_list (pv 6) (po_some (pv 7)) po_none)) pa_nil)))
  (pss_one (ps_if (PW.pt (pw_or (pt_cmpR (op_eqB (eq_book GQ) (hr.mono (by first | decide | omega))) (pv 8) (pv 10) (nomark _)) (pw_or (pt_cmpR (op_eqB (eq_book GQ) (hr.mono (by first | decide | omega))) (pv 9) (pv 8) (nomark _)) (pw_or (pt_cmpR op_isnot_bl (pe_cmpR (op_inC G_contains_Book (hr.mono (by first | decide | omega))) (pv 11) (pv 8) (by rfl)) pe_bl (nomark _)) (pw_or1 (pt_cmpR op_ne (pe_callB (call_lenC G_len_Book (hr.mono (by first | decide | omega))) rfl B_len PySem.boot_len (pa_cons (pv 9) pa_nil)) (pe_op op_add (pe_callB call_len_seq rfl B_len PySem.boot_len (pa_cons (pv 4) pa_nil)) pe_int) (nomark _))))))) (pss_one (ps_ret pe_bl)) pss_nil))))))))))))))))))
  (pss_one (ps_ret pe_bl)))), ?_⟩
  refine ⟨_, rfl, a, ns, rfl, hns, hnl, fun p H0 s0 hP0 => ?_⟩
  have hT0 := hT.ext s0
  walk_at "nx"
  have hm : ∃ n : Nat, n ≤ 7 ∧ 3 + (if (((ns.map V.int).length : Nat) : Int) < 4 then (((ns.map V.int).length : Nat) : Int) else 4) = (n : Int) := by
    by_cases h8 : (((ns.map V.int).length : Nat) : Int) < 4
    · rw [if_pos h8]; exact ⟨(ns.map V.int).length + 3, by omega, by omega⟩
    · rw [if_neg h8]; exact ⟨7, by omega, by omega⟩
  obtain ⟨n, hn, en⟩ := hm
  refine ⟨_, rfl, a, _, rfl, .inl (s0.seq hns), _, _, rfl, _, _, rfl, rfl, (n : Int), ?_, by omega, by omega, ?_⟩
  · exact congrArg (fun z => [V.int z]) en
  refine for_range (lo := 0) (n := (n : Int).toNat) (fun i σ H' => ∃ x2 x3 x4 x5 x6 x7 x8 x9 x10 x11 x12 x13 : Option V, σ = [some (.ref a), some (.ref p.d), x2, x3, x4, x5, x6, x7, x8, x9, x10, x11, x12, x13] ∧ PenAt K H' p (20000 * i) ∧ Tabs TT H') ?_ ?_ ?_
  · exact ⟨_, _, _, _, _, _, _, _, _, _, _, _, rfl, hP0, hT0⟩
  · rintro i σ H1 hi ⟨x2, x3, x4, x5, x6, x7, x8, x9, x10, x11, x12, x13, rfl, hP1, T1⟩
    have hi' : i < 7 := by omega
    walk_at "nx"
    refine ⟨_, rfl, _, rfl, p, 3, _, rfl, hP1, by unfold LIM; omega, by decide, by decide, fun d H2 d0 d1 k2 hP2 => ?_⟩
    have e1 : (1 + d) = ((d.toNat + 1 : Nat) : Int) := by omega
    refine ⟨_, _, rfl, rfl, p, d.toNat + 1, _, by rw [← e1]; rfl, hP2, by unfold LIM; omega, by omega, fun z H3 hzl _ hza k3 hP3 => ?_⟩
    walk_at "nx"
    refine ⟨_, rfl, _, rfl, _, rfl, p, 9, _, rfl, hP3, by unfold LIM; omega, by decide, by decide, fun d2 H4 d20 d21 k4 hP4 => ?_⟩
    have e2 : d2 = ((d2.toNat : Nat) : Int) := by omega
    refine ⟨p, z, d2.toNat, _, by rw [← e2]; rfl, hP4, by unfold LIM; omega, by omega, by omega, hza, by omega, fun q us rs H5 k5 hP5 hq hus hrl hok hbe => ?_⟩
    walk_at "nx"
    have T5 := tabs_keep (tabs_keep (tabs_keep (tabs_keep T1 k2) k3) k4) k5
    have hz30 : ∀ x ∈ rs, x.2.size ≤ 30 := fun x hx => (hok x hx).1
    have hz1000 : ∀ x ∈ rs, x.2.size ≤ 1000 := fun x hx => Nat.le_trans (hz30 x hx) (by decide)
    have g := gd_of hbe
    have hr8 : rs.length ≤ 8 := by omega
    have elen := RulesAt.len _ _ hus
    clear T1 k2 k3 k4 k5 hP1 hP2 hP3 hP4
    -- what is given
    refine ⟨_, rfl, q, rfl, ⟨us, SqL.of hq⟩, fun D hD => ?_⟩
    refine lc_list (K := K) (a := q) (xs := us) (fun i H' => ∃ os, H' D = some (.lst os) ∧ PairsAt c H' os (rs.take i) ∧ Same H5 H') ?_ ?_ ?_ ?_
    · exact ⟨[], upd_same, rfl, Same.new hD _⟩
    · rintro i H' _ ⟨os, _, _, s1⟩
      exact SqL.of (s1 _ _ hq)
    · rintro i e H' he ⟨os, hD', hos, s1⟩
      obtain ⟨r, n, v, x, rfl, hri, hr', hv⟩ := RulesAt.at_ _ _ _ _ hus he
      have hi : i < rs.length := (List.getElem?_eq_some_iff.mp hri).1
      have hx : x.size ≤ 30 := hz30 _ (List.mem_of_getElem? hri)
      refine ⟨r, _, rfl, SqT.of (s1 _ _ hr'), rfl, _, _, rfl, _, _, rfl, rfl, rfl, ?_⟩
      refine yesI ?_
      rw [if_pos rfl]
      refine ⟨_, rfl, _, rfl, v, x, rfl, WayAt.keep (Keep.of s1) _ _ hv, by omega, by omega, fun u H2 s2 hu => ⟨by show 2 ≤ sizeLine; decide, fun r2 hr2 => ?_⟩⟩
      have s3 := Same.new hr2 (.tup [.str n, u])
      have hD3 := s3 _ _ (s2 _ _ hD')
      have hlo := PairsAt.len _ _ hos
      refine ⟨os, hD3, small' (by rw [hlo, List.length_take]; omega), os ++ [.ref r2], upd_same, ?_, Same.put hD ((s1.trans s2).trans s3) _⟩
      rw [take_more' hri]
      have st : Still (upd H2 r2 (.tup [.str n, u])) (upd (upd H2 r2 (.tup [.str n, u])) D (.lst (os ++ [.ref r2]))) := Still.put hD3
      exact PairsAt.app _ _ (PairsAt.keep ((stillS (s2.trans s3)).trans st) _ _ hos) ⟨r2, u, [], rfl, st.tup upd_same, ObjAt.keep ((stillS s3).trans st) _ _ hu, rfl⟩
    rintro H6 ⟨gs1, hD6, hgs, s6⟩
    rw [elen, List.take_length] at hgs
    walk_at "nx"
    -- the book
    refine ⟨_, rfl, fun bk dxb hbk hdxb hneb => mk_bookL hD6 hgs (by omega) hz1000 hbe hbk hdxb hneb fun H7 s7 hB7 => ⟨rfl, ?_⟩⟩
    walk_at "nx"
    have hD7 := s7 _ _ hD6
    refine ⟨_, rfl, .inl ⟨rfl, _, SqL.of hD7⟩, fun xo dxo hxo hdxo _ => mk0 hxo hdxo fun H8 s8 ho8 => ⟨rfl, by show 2 ≤ sizeLine; decide, fun to hto => ?_⟩⟩
    have s9 := s8.trans (Same.new hto (.tup [.str (Str.ofString "q"), .ref xo]))
    have hD9 := s9 _ _ hD7
    have hlo := PairsAt.len _ _ hgs
    refine ⟨D, _, _, rfl, rfl, hD9, small' (by omega), ?_⟩
    have s10 : Same H5 (upd (upd H8 to (.tup [.str (Str.ofString "q"), .ref xo])) D (.lst (gs1 ++ [.ref to]))) := Same.put hD ((s6.trans s7).trans s9) _
    have hB10 : BookAt c C (upd (upd H8 to (.tup [.str (Str.ofString "q"), .ref xo])) D (.lst (gs1 ++ [.ref to]))) bk rs := BookAt.putl (hB7.same s9) hD9
    generalize upd (upd H8 to (.tup [.str (Str.ofString "q"), .ref xo])) D (.lst (gs1 ++ [.ref to])) = H10 at s10 hB10 ⊢
    clear ho8 hD9 s9 s8 hD7 hB7 s7 hgs hD6 s6 hto hxo hdxo hlo
    have hq10 := s10 _ _ hq
    have hus10 := RulesAt.keep (Keep.of s10) _ _ hus
    walk_at "nx"
    refine ⟨_, rfl, q, rfl, ⟨us, SqL.of hq10⟩, fun M hM0 => ?_⟩
    refine lc_list (K := K) (a := q) (xs := us) (fun i H' => ∃ os, H' M = some (.lst os) ∧ PairsAt c H' os (rs.take i) ∧ Same H10 H') ?_ ?_ ?_ ?_
    · exact ⟨[], upd_same, rfl, Same.new hM0 _⟩
    · rintro i H' _ ⟨os, _, _, s1⟩
      exact SqL.of (s1 _ _ hq10)
    · rintro i e H' he ⟨os, hD', hos, s1⟩
      obtain ⟨r, n, v, x, rfl, hri, hr', hv⟩ := RulesAt.at_ _ _ _ _ hus10 he
      have hi : i < rs.length := (List.getElem?_eq_some_iff.mp hri).1
      have hx : x.size ≤ 30 := hz30 _ (List.mem_of_getElem? hri)
      refine ⟨r, _, rfl, SqT.of (s1 _ _ hr'), rfl, _, _, rfl, _, _, rfl, rfl, rfl, ?_⟩
      refine yesI ?_
      rw [if_pos rfl]
      refine ⟨_, rfl, _, rfl, v, x, rfl, WayAt.keep (Keep.of s1) _ _ hv, by omega, by omega, fun u H2 s2 hu => ⟨by show 2 ≤ sizeLine; decide, fun r2 hr2 => ?_⟩⟩
      have s3 := Same.new hr2 (.tup [.str n, u])
      have hD3 := s3 _ _ (s2 _ _ hD')
      have hlo := PairsAt.len _ _ hos
      refine ⟨os, hD3, small' (by rw [hlo, List.length_take]; omega), os ++ [.ref r2], upd_same, ?_, Same.put hM0 ((s1.trans s2).trans s3) _⟩
      rw [take_more' hri]
      have st : Still (upd H2 r2 (.tup [.str n, u])) (upd (upd H2 r2 (.tup [.str n, u])) M (.lst (os ++ [.ref r2]))) := Still.put hD3
      exact PairsAt.app _ _ (PairsAt.keep ((stillS (s2.trans s3)).trans st) _ _ hos) ⟨r2, u, [], rfl, st.tup upd_same, ObjAt.keep ((stillS s3).trans st) _ _ hu, rfl⟩
    rintro H11 ⟨ms, hM11, hms, s11⟩
    rw [elen, List.take_length] at hms
    walk_at "nx"
    have hB11 := hB10.same s11
    obtain ⟨dx, t, tb, sz, ts, hb11, ht11, hts11, hdc11⟩ := id hB11
    have hlt := PairsAt.len _ _ hts11
    have cref : Cmp rs rs true := Cmp.refl hz1000
    refine ⟨_, rfl, bk, C, dx, _, _, rfl, hb11, Tb.cl, Tb.n1, rfl, t, ts, rfl, .inr (SqT.of ht11), fun L hL => ?_⟩
    have s12 := Same.new hL (.lst ts)
    refine ⟨_, rfl, true, ⟨L, M, ts, ms, rfl, rfl, upd_same, s12 _ _ hM11, prs_pairs GW.kit cref (PairsAt.keep (stillS s12) _ _ hts11) (PairsAt.keep (stillS s12) _ _ hms), fun _ => rfl⟩, fun H13 s13 => ⟨_, rfl, ?_⟩⟩
    refine iteF ?_
    have s1113 := s12.trans s13
    have hb13 := s1113 _ _ hb11
    have ht13 := s1113 _ _ ht11
    refine ⟨_, rfl, bk, dx, _, t, ts, rfl, hb13, ht13, small' (by omega), fun L2 hL2 => ?_⟩
    have s14 := Same.new hL2 (.lst ts)
    refine ⟨⟨dx, tb, sz, (Same.new hL2 (.lst [])) _ _ hb13⟩, fun it hit => ?_, ?_⟩
    · have s2 := (Same.new hL2 (.lst [])).trans (Same.new hit (ItT t it 0))
      exact ⟨bk, dx, t, tb, sz, ts, rfl, s2 _ _ hb13, s2 _ _ ht13, ts.length, rfl, by omega, rfl⟩
    have s1114 := s1113.trans s14
    refine ⟨_, rfl, true, ⟨L2, M, ts, ms, rfl, rfl, upd_same, s1114 _ _ hM11, prs_pairs GW.kit cref (PairsAt.keep (stillS s1114) _ _ hts11) (PairsAt.keep (stillS s1114) _ _ hms), fun _ => rfl⟩, fun H15 s15 => ⟨_, rfl, ?_⟩⟩
    refine iteF ?_
    have s1115 := s1114.trans s15
    have hb15 := s1115 _ _ hb11
    have ht15 := s1115 _ _ ht11
    refine ⟨_, rfl, bk, dx, _, rfl, hb15, bk, dx, t, tb, sz, ts, rfl, hb15, ht15, _, rfl, by omega, by omega, _, rfl, q, us, rfl, .inl (SqL.of (s1115 _ _ (s11 _ _ hq10))), rfl, _, rfl, ?_⟩
    rw [show ts.length = us.length by omega, decide_eq_true rfl]
    refine iteF ?_
    walk_at "nx"
    refine ⟨_, rfl, bk, C, dx, _, _, rfl, hb15, Tb.cl, Tb.n1, rfl, .ref t, .ty "tuple", _, _, true, rfl, .ty _, .base (.tup ht15), ?_, _, rfl, ?_⟩
    · unfold PySem.W.kitOne; rw [if_pos (beq_self_eq_true _)]
    refine iteF ?_
    walk_at "nx"
    have hM15 := s1115 _ _ hM11
    have hms15 := PairsAt.keep (stillS s1115) _ _ hms
    refine ⟨_, rfl, _, rfl, M, ms, rfl, .inl ⟨SqL.of hM15, fun t2 ht2 => fun b2 dxb2 hb2 hdxb2 hne2 => mk_bookT upd_same (PairsAt.keep (stillS (Same.new ht2 (.tup ms))) _ _ hms15) (by omega) hz1000 hbe hb2 hdxb2 hne2 fun H17 s17 hB17 => ⟨rfl, ?_⟩⟩⟩
    have s1117 := (s1115.trans (Same.new ht2 (.tup ms))).trans s17
    refine ⟨true, ⟨bk, dx, _, rfl, s1117 _ _ hb11, .inl ⟨rs, rs, b2, rfl, hB11.same s1117, hB17, cref⟩⟩, fun H18 s18 => ⟨_, rfl, ?_⟩⟩
    refine iteF ?_
    have s1118 := s1117.trans s18
    refine ⟨_, rfl, _, rfl, false, ⟨bk, dx, _, rfl, s1118 _ _ hb11, .inr ⟨rfl, M, ms, rfl, s1118 _ _ hM11⟩⟩, fun H19 s19 => ⟨_, rfl, ?_⟩⟩
    refine iteF ?_
    have s1119 := s1118.trans s19
    have s519 := (s10.trans s11).trans s1119
    refine ⟨_, rfl, _, rfl, bk, q, us, rs, rfl, hB11.same s1119, s519 _ _ hq, RulesAt.keep (Keep.of s519) _ _ hus, g, by omega, hz30, T5.ext s519, fun H20 e20 T20 => ⟨_, rfl, ?_⟩⟩
    refine iteF ?_
    have hB20 := book_ext (hB11.same s1119) e20
    have hM20 := ext_lst e20 (s1119 _ _ hM11)
    have hms20 := PairsAt.keep ((stillS s1119).trans (ext_still e20)) _ _ hms
    have hq20 := ext_lst e20 (s519 _ _ hq)
    have hP20 := pen_ext (hP5.same s519) e20
    clear hms15 hM15 s1118 s1117 hb13 ht13 hb15 ht15 hus10 hq10 T5 hus hq hP5
    walk_at "nx"
    walk_at "rd"
    refine ⟨p, _, rfl, hP20, by unfold LIM; omega, fun x21 H21 hx21 k21 hP21 => ?_⟩
    obtain ⟨⟨_, hx21l⟩, cs, rfl, hcs⟩ := hx21
    obtain ⟨st, est, hso, hsn⟩ : ∃ st, Str.ofString "q" ++ cutS (tx cs) none (some 11) = st ∧ PyData.strOk st = true ∧ st ∉ rs.map (·.1) :=
      ⟨tx (113 :: cs.take 11), by rw [show (11 : Int) = ((11 : Nat) : Int) from rfl, tx_take, show Str.ofString "q" = tx [113] by decide +kernel, tx_app]; rfl, strange_ok fun x hx => hcs x (List.mem_of_mem_take hx), strange_out hok⟩
    walk_at "rd"
    refine ⟨Nat.le_trans hx21l (by decide), _, _, rfl, rfl, ?_, ?_⟩
    · rw [show (11 : Int) = ((11 : Nat) : Int) from rfl, tx_take, tx_len, List.length_take, show (Str.ofString "q").length = 1 by decide +kernel]
      show 1 + _ ≤ 16777216
      omega
    rw [est]
    have T21 := tabs_keep T20 k21
    have hB21 := hB20.keep (plain_names hok) k21
    have hM21 := k21.lst hM20
    have hms21 := PairsAt.keep k21.still _ _ hms20
    have hq21 := k21.lst hq20
    have hway : wayOf rs st = none := wayOf_out hsn
    have hwayT : wayOf (repT rs) st = none := wayOf_out (by rw [repT_names g]; exact hsn)
    clear hcs hx21l est hB20 hM20 hms20 hq20 hP20
    walk_at "nx"
    obtain ⟨dx21, _, _, _, _, hb21, _⟩ := id hB21
    refine ⟨_, rfl, _, rfl, bk, dx21, _, rfl, hb21, bk, st, rs, rfl, hB21, ?_⟩
    rw [decide_eq_false hsn]
    refine ⟨_, rfl, _, rfl, ?_⟩
    refine iteF ?_
    refine ⟨T21, fun H22 e22 T22 => ?_⟩
    have hB22 := book_ext hB21 e22
    obtain ⟨dx22, _, _, _, _, hb22, _⟩ := id hB22
    refine ⟨_, rfl, _, rfl, bk, dx22, _, rfl, hb22, bk, st, rs, rfl, hB22, fun v u hw _ => (by rw [hway] at hw; cases hw), fun _ dd H23 s23 hd => ⟨dd, _, rfl, .inl ⟨rfl, hd, fun t ht => ?_⟩⟩⟩
    refine ⟨_, rfl, by show 2 ≤ sizeLine; decide, fun t2 ht2 => ne_two (a := Str.ofString "name") (b := st) (by decide +kernel) hso ((Same.new ht2 _) _ _ upd_same) upd_same ⟨_, rfl, ?_⟩⟩
    refine iteF ?_
    have e2124 := e22.trans (extS ((s23.trans (Same.new ht (.tup [.str (Str.ofString "name"), .str st]))).trans (Same.new ht2 (.tup [.str (Str.ofString "name"), .str st]))))
    have T24 := T22.ext ((s23.trans (Same.new ht (.tup [.str (Str.ofString "name"), .str st]))).trans (Same.new ht2 (.tup [.str (Str.ofString "name"), .str st])))
    generalize upd (upd H23 t (.tup [.str (Str.ofString "name"), .str st])) t2 (.tup [.str (Str.ofString "name"), .str st]) = H24 at e2124 T24 ⊢
    walk_at "nx"
    refine ⟨T24, fun H25 e25 T25 => ?_⟩
    have e2125 := e2124.trans e25
    have hB25 := book_ext hB21 e2125
    obtain ⟨dx25, _, _, _, _, hb25, _⟩ := id hB25
    refine ⟨_, rfl, bk, dx25, _, rfl, hb25, rfl, _, rfl, bk, st, rs, rfl, hB25, g, by omega, fun _ dd H26 s26 hd => ⟨dd, _, rfl, .inl ⟨rfl, hd, fun t ht => ?_⟩⟩, fun u hu => (by rw [hwayT] at hu; cases hu), fun u hu => (by rw [hwayT] at hu; cases hu)⟩
    refine ⟨_, rfl, by show 2 ≤ sizeLine; decide, fun t2 ht2 => ne_two (a := Str.ofString "name") (b := st) (by decide +kernel) hso ((Same.new ht2 _) _ _ upd_same) upd_same ⟨_, rfl, ?_⟩⟩
    refine iteF ?_
    have s2627 := ((s26.trans (Same.new ht (.tup [.str (Str.ofString "name"), .str st]))).trans (Same.new ht2 (.tup [.str (Str.ofString "name"), .str st])))
    have e2127 := e2125.trans (extS s2627)
    have T27 := T25.ext s2627
    generalize upd (upd H26 t (.tup [.str (Str.ofString "name"), .str st])) t2 (.tup [.str (Str.ofString "name"), .str st]) = H27 at e2127 T27 s2627 ⊢
    have hB27 := book_ext hB21 e2127
    have hM27 := ext_lst e2127 hM21
    have hq27 := ext_lst e2127 hq21
    have hms27 := PairsAt.keep (ext_still e2127) _ _ hms21
    have hP27 := pen_ext hP21 e2127
    clear e2127 s2627 e2125 hB25 hb25 hB22 hb22 e22 e2124 T24 T25 T22 T21 hB21 hM21 hms21 hq21 hP21
    walk_at "nx"
    have hlm := PairsAt.len _ _ hms27
    -- a place
    refine ⟨_, rfl, _, rfl, q, us, rfl, .inl (SqL.of hq27), _, _, rfl, rfl, p, ((us.length : Nat) : Int) + 1, _, rfl, hP27, by unfold LIM; omega, by omega, by omega, fun at_ H28 a0 a1 k28 hP28 => ?_⟩
    have ea : at_ = ((at_.toNat : Nat) : Int) := by omega
    generalize at_.toNat = ai at ea
    subst ea
    have T28 := tabs_keep T27 k28
    have hB28 := hB27.keep (plain_names hok) k28
    have hM28 := k28.lst hM27
    have hq28 := k28.lst hq27
    have hms28 := PairsAt.keep k28.still _ _ hms27
    clear hB27 hM27 hq27 hms27 hP27 T27 k28
    walk_at "nx"
    -- one rule more
    refine ⟨_, rfl, _, rfl, fun xo dxo hxo hdxo _ => mk0 hxo hdxo fun H29 s29 ho => ⟨rfl, by show 2 ≤ sizeLine; decide, fun t ht => ⟨by show 1 ≤ sizeLine; decide, fun l hl => ?_⟩⟩⟩
    have s30 := (Same.new ht (.tup [.str st, .ref xo])).trans (Same.new hl (.lst [.ref t]))
    have ht30 : upd (upd H29 t (.tup [.str st, .ref xo])) l (.lst [.ref t]) t = some (.tup [.str st, .ref xo]) := (Same.new hl (.lst [.ref t])) _ _ upd_same
    have hl30 : upd (upd H29 t (.tup [.str st, .ref xo])) l (.lst [.ref t]) l = some (.lst [.ref t]) := upd_same
    have ho30 := s30 _ _ ho
    generalize upd (upd H29 t (.tup [.str st, .ref xo])) l (.lst [.ref t]) = H30 at s30 ht30 hl30 ho30 ⊢
    have s2830 := s29.trans s30
    refine ⟨M, l, _, _, rfl, rfl, s2830 _ _ hM28, hl30, Nat.le_of_lt (small' (by show _ + 1 ≤ _; omega)), fun r1 hr1 => ?_⟩
    have s31 := Same.new hr1 (.lst (ms ++ [.ref t]))
    refine fun bm dxm hbm0 hdxm hnem => mk_bookL upd_same (PairsAt.app _ _ (PairsAt.keep (stillS (s2830.trans s31)) _ _ hms28) (qs := [(st, .nothing)]) ⟨t, .ref xo, [], rfl, s31 _ _ ht30, ⟨xo, dxo, rfl, s31 _ _ ho30⟩, rfl⟩) (by rw [List.length_append]; show _ + 1 ≤ _; omega)
      (size_snoc hz1000 (by decide)) (bookE_snoc hbe hsn rfl) hbm0 hdxm hnem fun H32 s32 hB32 => ⟨rfl, ?_⟩
    have s2832 := (s2830.trans s31).trans s32
    walk_at "nx"
    have hM32 := s2832 _ _ hM28
    have hms32 := PairsAt.keep (stillS s2832) _ _ hms28
    -- one put in
    refine ⟨_, rfl, _, rfl, _, rfl, M, ms, rfl, SqL.of hM32, fun p1 hp1 => ?_⟩
    rw [cutV_take]
    have s33 := Same.new hp1 (.lst (ms.take ai))
    refine ⟨_, rfl, fun xp dxp hxp hdxp _ => mk0 hxp hdxp fun H34 s34 hp => ⟨rfl, by show 2 ≤ sizeLine; decide, fun t3 ht3 => ⟨by show 1 ≤ sizeLine; decide, fun l3 hl3 => ?_⟩⟩⟩
    have s35 := (Same.new ht3 (.tup [.str st, .ref xp])).trans (Same.new hl3 (.lst [.ref t3]))
    have ht35 : upd (upd H34 t3 (.tup [.str st, .ref xp])) l3 (.lst [.ref t3]) t3 = some (.tup [.str st, .ref xp]) := (Same.new hl3 (.lst [.ref t3])) _ _ upd_same
    have hl35 : upd (upd H34 t3 (.tup [.str st, .ref xp])) l3 (.lst [.ref t3]) l3 = some (.lst [.ref t3]) := upd_same
    have hp35 := s35 _ _ hp
    generalize upd (upd H34 t3 (.tup [.str st, .ref xp])) l3 (.lst [.ref t3]) = H35 at s35 ht35 hl35 hp35 ⊢
    have s3235 := (s33.trans s34).trans s35
    refine ⟨p1, l3, _, _, rfl, rfl, (s34.trans s35) _ _ upd_same, hl35, Nat.le_of_lt (small' (by rw [List.length_take]; show _ + 1 ≤ _; omega)), fun r2 hr2 => ?_⟩
    have s36 := Same.new hr2 (.lst (ms.take ai ++ [.ref t3]))
    have s3236 := s3235.trans s36
    refine ⟨_, rfl, _, rfl, _, rfl, M, ms, rfl, SqL.of (s3236 _ _ hM32), fun p2 hp2 => ?_⟩
    rw [cutV_drop]
    have s37 := Same.new hp2 (.lst (ms.drop ai))
    refine ⟨r2, p2, _, _, rfl, rfl, s37 _ _ upd_same, upd_same, Nat.le_of_lt (small' (by rw [List.length_append, List.length_take, List.length_drop]; show _ + 1 + _ ≤ _; omega)), fun r3 hr3 => ?_⟩
    have s38 := Same.new hr3 (.lst (ms.take ai ++ [.ref t3] ++ ms.drop ai))
    have s3538 := (s36.trans s37).trans s38
    have s3238 := s3235.trans s3538
    refine fun bo dxo2 hbo0 hdxo2 hneo => mk_bookL upd_same (PairsAt.app _ _ (PairsAt.app _ _ (PairsAt.keep (stillS s3238) _ _ (PairsAt.take ai _ _ hms32)) (qs := [(st, .one)]) ⟨t3, .ref xp, [], rfl, s3538 _ _ ht35, ⟨xp, dxp, rfl, s3538 _ _ hp35⟩, rfl⟩) (PairsAt.keep (stillS s3238) _ _ (PairsAt.drop ai _ _ hms32)))
      (by rw [List.length_append, List.length_append, List.length_take, List.length_drop]; show _ + 1 + _ ≤ _; omega) (size_put ai hz1000 (by decide)) (bookE_put ai hbe hsn rfl) hbo0 hdxo2 hneo fun H39 s39 hB39 => ⟨rfl, ?_⟩
    have s3239 := s3238.trans s39
    have s2839 := s2832.trans s3239
    walk_at "nx"
    have hB39m := hB32.same s3239
    have hB39b := hB28.same s2839
    obtain ⟨dxm9, _, _, _, _, hbm9, _⟩ := id hB39m
    refine ⟨_, rfl, _, rfl, false, ⟨bm, dxm9, _, rfl, hbm9, .inl ⟨_, rs, bk, rfl, hB39m, hB39b, cmp_more hz1000⟩⟩, fun H40 s40 => ⟨_, rfl, ?_⟩⟩
    refine iteF ?_
    have hB40o := hB39.same s40
    obtain ⟨dxo9, _, _, _, _, hbo9, _⟩ := id hB40o
    refine ⟨_, rfl, _, rfl, false, ⟨bo, dxo9, _, rfl, hbo9, .inl ⟨_, _, bm, rfl, hB40o, hB39m.same s40, cmp_put ai hz1000 hsn⟩⟩, fun H41 s41 => ⟨_, rfl, ?_⟩⟩
    refine iteF ?_
    have s3941 := s40.trans s41
    have hbm41 := s3941 _ _ hbm9
    refine ⟨_, rfl, _, rfl, bm, dxm9, _, rfl, hbm41, bm, st, _, rfl, hB39m.same s3941, ?_⟩
    rw [decide_eq_true (show st ∈ (rs ++ [(st, W.nothing)]).map (·.1) by rw [List.map_append]; exact List.mem_append.mpr (.inr List.mem_cons_self))]
    refine ⟨_, rfl, true, true, rfl, rfl, _, rfl, ?_⟩
    refine iteF ?_
    obtain ⟨dxo, to2, tbo, szo, tso, hbo41, hto41, htso, _⟩ := id (hB40o.same s41)
    have hq41 := (s2839.trans s3941) _ _ hq28
    have hlo := PairsAt.len _ _ htso
    rw [List.length_append, List.length_append, List.length_take, List.length_drop] at hlo
    have hlo2 : tso.length = us.length + 1 := by
      have : ([(st, W.one)] : List (Str × W)).length = 1 := rfl
      omega
    refine ⟨_, rfl, bo, dxo, _, rfl, hbo41, bo, dxo, to2, tbo, szo, tso, rfl, hbo41, hto41, _, rfl, by omega, by omega, _, rfl, q, us, rfl, .inl (SqL.of hq41), _, _, rfl, rfl, rfl, _, rfl, ?_⟩
    rw [show ((tso.length : Nat) : Int) = (us.length : Nat) + 1 by omega, decide_eq_true rfl]
    refine iteF ?_
    have s2841 := s2839.trans s3941
    exact ⟨_, _, _, _, _, _, _, _, _, _, _, _, rfl, (hP28.same s2841).mono (by omega), T28.ext s2841⟩
  · rintro σ H1 ⟨x2, x3, x4, x5, x6, x7, x8, x9, x10, x11, x12, x13, rfl, hP1, T1⟩
    walk_at "nx"
    exact k _
end
end Bo
namespace Wv
open PySem PySem.Spec PyProof.Rows L2
/-! ### what the program's top leaves -/
section
variable {P : Program} {w : World} {K : PySem.W.Frag} {mg : Str → Option Value} {h : Heap}
theorem here_mk {x : Str} {st : Stmt} {ps : List Str} (X : K.In h) (G : h.Ns mainGlobals mg) {f : Addr} {oc kV dc pm cd ct : Value} {od an : Option Addr} {sl : Array (Option Value)} (a : PySem.W.nsIn K mainGlobals x = some (some (.ref f)))
    (l : K.lookup f = some ⟨oc, od, .func (PySem.W.fnOf x x (defArgs st) (defBody st) (defScope st) .none kV dc pm an cd ct), sl⟩) (c : PySem.W.codeIn K cd x = true) (k : PySem.W.keepIn K (.ref f) = true)
    (b : ∀ (kV doc pm : Value) (an : Option Addr) (cdv ct : Value) (us : List Value), us.length = ps.length → bindArgs (PySem.W.fnOf x x (defArgs st) (defBody st) (defScope st) .none kV doc pm an cdv ct) ⟨us, []⟩ = pure (ps.zip us)) : Here K mg x st ps :=
  ⟨f, _, fun_mk l c k, PySem.W.mg_of X G a, (fun_mk l c k).binds b⟩
/-- a def within a class -/
structure In1 (K : PySem.W.Frag) (m q : Str) (st : Stmt) (ps : List Str) (f : Addr) : Prop where
  fn : PySem.W.isFn K (.ref f) = true
  ex : ∃ fd : FuncData, Fun K m q st f fd ∧ Binds K fd ps []
theorem in_mk {m q : Str} {st : Stmt} {ps : List Str} {f : Addr} {oc kV dc pm cd ct : Value} {od an : Option Addr} {sl : Array (Option Value)} (i : PySem.W.isFn K (.ref f) = true)
    (l : K.lookup f = some ⟨oc, od, .func (PySem.W.fnOf m q (defArgs st) (defBody st) (defScope st) .none kV dc pm an cd ct), sl⟩) (c : PySem.W.codeIn K cd q = true) (k : PySem.W.keepIn K (.ref f) = true)
    (b : ∀ (kV doc pm : Value) (an : Option Addr) (cdv ct : Value) (us : List Value), us.length = ps.length → bindArgs (PySem.W.fnOf m q (defArgs st) (defBody st) (defScope st) .none kV doc pm an cdv ct) ⟨us, []⟩ = pure (ps.zip us)) : In1 K m q st ps f :=
  ⟨i, _, fun_mk l c k, (fun_mk l c k).binds b⟩
/-- a class of ways -/
structure ClT (K : PySem.W.Frag) (mg : Str → Option Value) (x : Str) (C wy at_ eq_ len_ : Addr) : Prop where
  m : mg x = some (.ref C)
  f : ClsF K C
  mks : PySem.W.makesIn K C = true
  kc : PySem.W.keepIn K (.ref C) = true
  ty : PySem.W.typeIn K (.ref C) = some (.type "type")
  cls : ∃ cd, PySem.W.clsIn K C = some cd ∧ cd.mro = [.ref C, .ref wy, .type "object"]
  mat : PySem.W.findIn K (.ref C) "at" = some (some (.ref at_))
  meq : PySem.W.findIn K (.ref C) "__eq__" = some (some (.ref eq_))
  mln : PySem.W.findIn K (.ref C) "__len__" = some (some (.ref len_))
theorem clt_mk {x : Str} {C wy at_ eq_ len_ : Addr} {cd : ClassData} (X : K.In h) (G : h.Ns mainGlobals mg) (a : PySem.W.nsIn K mainGlobals x = some (some (.ref C))) (pg : PySem.W.plainGet K C Str.empty = true) (hd : PySem.W.hasDictIn K C = true) (po : PySem.W.plainOver K C = true)
    (sa : PySem.W.findIn K (.ref C) "__setattr__" = some (some (.builtin "object.__setattr__"))) (nl : PySem.W.findIn K (.ref C) "letter" = some none) (nn : PySem.W.findIn K (.ref C) "name" = some none) (nw : PySem.W.findIn K (.ref C) "ways" = some none) (np : PySem.W.findIn K (.ref C) "part" = some none) (nc : PySem.W.findIn K (.ref C) "called" = some none) (nr : PySem.W.findIn K (.ref C) "rounds" = some none) (nm : PySem.W.findIn K (.ref C) "mark" = some none)
    (ha : PySem.W.findIn K (.ref C) "__class__" = some (some (.builtin "object.__class__"))) (hm : PySem.W.mroIn K C (.type "object") = some true) (mk : PySem.W.makesIn K C = true) (kc : PySem.W.keepIn K (.ref C) = true) (ty : PySem.W.typeIn K (.ref C) = some (.type "type"))
    (cl : PySem.W.clsIn K C = some cd) (cm : cd.mro = [.ref C, .ref wy, .type "object"]) (mat : PySem.W.findIn K (.ref C) "at" = some (some (.ref at_))) (meq : PySem.W.findIn K (.ref C) "__eq__" = some (some (.ref eq_))) (mln : PySem.W.findIn K (.ref C) "__len__" = some (some (.ref len_))) : ClT K mg x C wy at_ eq_ len_ :=
  ⟨PySem.W.mg_of X G a, ⟨⟨pg, hd, po, sa⟩, nl, nn, nw, np, nc, nr, nm, ha, hm⟩, mk, kc, ty, ⟨cd, cl, cm⟩, mat, meq, mln⟩
theorem ClT.kit {x y : Str} {C D wy a1 a2 a3 b1 b2 b3 : Addr} (c : ClT K mg x C wy a1 a2 a3) (d : ClT K mg y D wy b1 b2 b3) (hw : D ≠ wy) : PySem.W.kitOne K (.ref C) (.ref D) = some (decide (C = D)) := by
  obtain ⟨cd, e1, e2⟩ := c.cls
  obtain ⟨dd, g1, _⟩ := d.cls
  by_cases h : C = D
  · subst h
    rw [decide_eq_true rfl]
    unfold PySem.W.kitOne
    rw [if_pos (beq_self_eq_true _)]
  · rw [decide_eq_false h]
    unfold PySem.W.kitOne
    rw [if_neg (by simpa using h)]
    show (if ((PySem.W.clsIn K D).isSome && PySem.W.typeIn K (.ref D) == some (.type "type")) = true then PySem.W.subIn K (.ref C) (.ref D) else none) = _
    rw [g1, d.ty, if_pos (by simp)]
    show PySem.W.mroIn K C (.ref D) = _
    unfold PySem.W.mroIn
    rw [e1, Option.bind_some, e2]
    have h' : D ≠ C := fun e => h e.symm
    simp [h', hw]
theorem ClT.kitWay {x : Str} {C wy a1 a2 a3 : Addr} (c : ClT K mg x C wy a1 a2 a3) (hc : PySem.W.isClsIn K wy = true) (ht : PySem.W.typeIn K (.ref wy) = some (.type "type")) : PySem.W.kitOne K (.ref C) (.ref wy) = some true := by
  obtain ⟨cd, e1, e2⟩ := c.cls
  by_cases h : C = wy
  · subst h
    unfold PySem.W.kitOne
    rw [if_pos (beq_self_eq_true _)]
  · unfold PySem.W.kitOne
    rw [if_neg (by simpa using h)]
    show (if ((PySem.W.clsIn K wy).isSome && PySem.W.typeIn K (.ref wy) == some (.type "type")) = true then PySem.W.subIn K (.ref C) (.ref wy) else none) = _
    rw [show (PySem.W.clsIn K wy).isSome = true from hc, ht, if_pos (by simp)]
    show PySem.W.mroIn K C (.ref wy) = _
    unfold PySem.W.mroIn
    rw [e1, Option.bind_some, e2]
    simp
/-- the classes -/
structure Tops (K : PySem.W.Frag) (mg : Str → Option Value) (c : Cs) (wy at_ eq_ len_ : Addr) : Prop where
  lt : ClT K mg "Letter" c.lt wy at_ eq_ len_
  on : ClT K mg "One" c.on wy at_ eq_ len_
  no : ClT K mg "Nothing" c.no wy at_ eq_ len_
  ro : ClT K mg "Row" c.ro wy at_ eq_ len_
  ch : ClT K mg "Choice" c.ch wy at_ eq_ len_
  ag : ClT K mg "Again" c.ag wy at_ eq_ len_
  ma : ClT K mg "Maybe" c.ma wy at_ eq_ len_
  ah : ClT K mg "Ahead" c.ah wy at_ eq_ len_
  un : ClT K mg "Unless" c.un wy at_ eq_ len_
  ca : ClT K mg "Call" c.ca wy at_ eq_ len_
  nd : [c.lt, c.on, c.no, c.ro, c.ch, c.ag, c.ma, c.ah, c.un, c.ca, wy].Nodup
def W.name : W → Str
  | .letter _ => "Letter" | .one => "One" | .nothing => "Nothing" | .row _ => "Row" | .choice _ => "Choice" | .again _ => "Again" | .maybe _ => "Maybe" | .ahead _ => "Ahead" | .unless _ => "Unless" | .call _ => "Call"
theorem Tops.of {c : Cs} {wy a1 a2 a3 : Addr} (t : Tops K mg c wy a1 a2 a3) : ∀ x : W, ClT K mg x.name (c.of x) wy a1 a2 a3
  | .letter _ => t.lt | .one => t.on | .nothing => t.no | .row _ => t.ro | .choice _ => t.ch | .again _ => t.ag | .maybe _ => t.ma | .ahead _ => t.ah | .unless _ => t.un | .call _ => t.ca
theorem get_inj {α : Type} {l : List α} (n : l.Nodup) {i j : Nat} {x y : α} (h1 : l[i]? = some x) (h2 : l[j]? = some y) : x = y ↔ i = j := by
  obtain ⟨a, e1⟩ := List.getElem?_eq_some_iff.mp h1
  obtain ⟨b, e2⟩ := List.getElem?_eq_some_iff.mp h2
  subst e1 e2
  first
    | exact List.Nodup.getElem_inj_iff n
    | exact List.getElem_inj n
    | exact List.nodup_getElem_inj n
    | (constructor
       · intro e
         rcases Nat.lt_trichotomy i j with q | q | q
         · exact absurd e (List.pairwise_iff_getElem.mp n i j a b q)
         · exact q
         · exact absurd e.symm (List.pairwise_iff_getElem.mp n j i b a q)
       · intro e; subst e; rfl)
theorem W.tag_get (x : W) : [Str.ofString "letter", Str.ofString "one", Str.ofString "nothing", Str.ofString "row", Str.ofString "choice", Str.ofString "again", Str.ofString "maybe", Str.ofString "ahead", Str.ofString "unless", Str.ofString "call"][x.kind]? = some x.tag := by
  cases x <;> rfl
theorem W.tag_kind (x y : W) : x.tag = y.tag ↔ x.kind = y.kind := get_inj (by decide +kernel) x.tag_get y.tag_get
theorem Cs.of_get (c : Cs) (wy : Addr) (x : W) : [c.lt, c.on, c.no, c.ro, c.ch, c.ag, c.ma, c.ah, c.un, c.ca, wy][x.kind]? = some (c.of x) := by
  cases x <;> rfl
theorem Tops.ne {c : Cs} {wy a1 a2 a3 : Addr} (t : Tops K mg c wy a1 a2 a3) (x : W) : c.of x ≠ wy := fun e => by
  have h := (get_inj t.nd (c.of_get wy x) (show _ = some wy from (rfl : [c.lt, c.on, c.no, c.ro, c.ch, c.ag, c.ma, c.ah, c.un, c.ca, wy][10]? = some wy))).mp e
  cases x <;> cases h
theorem Tops.same {c : Cs} {wy a1 a2 a3 : Addr} (t : Tops K mg c wy a1 a2 a3) (x y : W) : decide (c.of x = c.of y) = decide (x.tag = y.tag) := by
  have h := get_inj t.nd (c.of_get wy x) (c.of_get wy y)
  rw [decide_eq_decide, h, W.tag_kind]
theorem Tops.all {c : Cs} {wy a1 a2 a3 : Addr} (t : Tops K mg c wy a1 a2 a3) (hn : PySem.W.specialIn K (.builtin "object.__class__") "__get__" = some (some (.builtin "getset_descriptor.__get__"))) (ht : PySem.W.takesIn K (.builtin "object.__class__") = some true) : AllF K mg c :=
  ⟨fun x => (t.of x).f, hn, ht, fun x y => by rw [← t.same x y]; exact (t.of x).kit (t.of y) (t.ne y), t.lt.m, t.on.m, t.no.m, t.ro.m, t.ch.m, t.ag.m, t.ma.m, t.ah.m, t.un.m, t.ca.m⟩
theorem bs_mk (X : K.In h) (G : h.Ns mainGlobals mg) (z1 : PySem.W.nsIn K mainGlobals "len" = some none) (z2 : PySem.W.nsIn K mainGlobals "int" = some none) (z3 : PySem.W.nsIn K mainGlobals "list" = some none) (z4 : PySem.W.nsIn K mainGlobals "range" = some none)
    (z5 : PySem.W.nsIn K mainGlobals "min" = some none) (z6 : PySem.W.nsIn K mainGlobals "tuple" = some none) (z7 : PySem.W.nsIn K mainGlobals "isinstance" = some none) (z8 : PySem.W.nsIn K mainGlobals "zip" = some none) (z9 : PySem.W.nsIn K mainGlobals "sum" = some none)
    (z10 : PySem.W.nsIn K mainGlobals "max" = some none) (z11 : PySem.W.nsIn K mainGlobals "reversed" = some none) (z12 : PySem.W.nsIn K mainGlobals "enumerate" = some none) (z13 : PySem.W.nsIn K mainGlobals "repr" = some none) : Bs mg :=
  have n := fun {x : Str} (z : PySem.W.nsIn K mainGlobals x = some none) => PySem.W.mg_none_of X G z
  ⟨n z1, n z2, n z3, n z4, n z5, n z6, n z7, n z8, n z9, n z10, n z11, n z12, n z13⟩
theorem kc_mk (X : K.In h) (G : h.Ns mainGlobals mg) {t0 t1 t2 t3 t4 t5 t6 t7 t8 t9 : Tok} (z0 : PySem.W.nsIn K mainGlobals "LETTER" = some (some (.int 0 t0))) (z1 : PySem.W.nsIn K mainGlobals "ONE" = some (some (.int 1 t1))) (z2 : PySem.W.nsIn K mainGlobals "NOTHING" = some (some (.int 2 t2)))
    (z3 : PySem.W.nsIn K mainGlobals "ROW" = some (some (.int 3 t3))) (z4 : PySem.W.nsIn K mainGlobals "CHOICE" = some (some (.int 4 t4))) (z5 : PySem.W.nsIn K mainGlobals "AGAIN" = some (some (.int 5 t5))) (z6 : PySem.W.nsIn K mainGlobals "MAYBE" = some (some (.int 6 t6)))
    (z7 : PySem.W.nsIn K mainGlobals "AHEAD" = some (some (.int 7 t7))) (z8 : PySem.W.nsIn K mainGlobals "UNLESS" = some (some (.int 8 t8))) (z9 : PySem.W.nsIn K mainGlobals "CALL" = some (some (.int 9 t9))) : Kc mg :=
  have n := fun {x : Str} {v : Value} (z : PySem.W.nsIn K mainGlobals x = some (some v)) => PySem.W.mg_of X G z
  ⟨⟨_, n z0⟩, ⟨_, n z1⟩, ⟨_, n z2⟩, ⟨_, n z3⟩, ⟨_, n z4⟩, ⟨_, n z5⟩, ⟨_, n z6⟩, ⟨_, n z7⟩, ⟨_, n z8⟩, ⟨_, n z9⟩⟩
theorem mk0_mk {C : Addr} {x : Str} (X : K.In h) (G : h.Ns mainGlobals mg) (a : PySem.W.nsIn K mainGlobals x = some (some (.ref C))) (mk : PySem.W.makesIn K C = true) (f : PySem.W.findIn K (.ref C) "__init__" = some (some (.builtin "object.__init__"))) (kc : PySem.W.keepIn K (.ref C) = true) : Mk0 K mg x C :=
  ⟨PySem.W.mg_of X G a, mk, f, kc⟩
theorem cls_ok {k : Nat} {x q : Str} {st : Stmt} {C wy a1 a2 a3 f : Addr} {ps : List Str} {sp : Sp} {base : Heap} (t : ClT K mg x C wy a1 a2 a3) (i : PySem.W.findIn K (.ref C) "__init__" = some (some (.ref f))) (j : In1 K "__init__" q st ps f)
    (o : ∀ fd : FuncData, Fun K "__init__" q st f fd → FnOk P w K mg base CX0 k f fd ps sp) : ClsOk P w K mg base k x C ps sp := by
  obtain ⟨fd, F, b⟩ := j.ex
  exact ⟨f, fd, t.m, ⟨t.mks, i, j.fn, t.kc⟩, b, o fd F⟩
end
end Wv
namespace Bo
open PySem PySem.Spec PyProof.Rows L2 Wv Ws Bk Oq LamX
/-! ### what the program's top leaves, and the end -/
section
variable {P : Program} {w : World} {K : PySem.W.Frag} {mg : Str → Option Value} {h : Heap}
theorem herec_mk {x : Str} {st : Stmt} {ps : List Str} {c : Addr} (X : K.In h) (G : h.Ns mainGlobals mg) {f : Addr} {oc kV dc pm ct : Value} {od an : Option Addr} {sl : Array (Option Value)} (a : PySem.W.nsIn K mainGlobals x = some (some (.ref f)))
    (l : K.lookup f = some ⟨oc, od, .func (PySem.W.fnOf x x (defArgs st) (defBody st) (defScope st) .none kV dc pm an (.ref c) ct), sl⟩) (cc : PySem.W.codeIn K (.ref c) x = true) (k : PySem.W.keepIn K (.ref f) = true)
    (b : ∀ (kV doc pm : Value) (an : Option Addr) (cdv ct : Value) (us : List Value), us.length = ps.length → bindArgs (PySem.W.fnOf x x (defArgs st) (defBody st) (defScope st) .none kV doc pm an cdv ct) ⟨us, []⟩ = pure (ps.zip us)) : HereC K mg x st ps c :=
  ⟨f, oc, od, kV, dc, pm, an, ct, sl, l, cc, k, PySem.W.mg_of X G a, (fun_mk l cc k).binds b⟩
/-- the class Book -/
structure BkT (K : PySem.W.Frag) (mg : Str → Option Value) (C : Addr) : Prop where
  m : mg "Book" = some (.ref C)
  f : BkF K C
  mks : PySem.W.makesIn K C = true
  kc : PySem.W.keepIn K (.ref C) = true
  ha : PySem.W.findIn K (.ref C) "__class__" = some (some (.builtin "object.__class__"))
  cc : PySem.W.isClsIn K C = true
  ty : PySem.W.typeIn K (.ref C) = some (.type "type")
  sl : PySem.W.subIn K (.type "list") (.ref C) = some false
  nl : PySem.W.notFirst K C (.type "list") = true
  mo : PySem.W.mroIn K C (.type "object") = some true
theorem bkt_mk {C : Addr} (X : K.In h) (G : h.Ns mainGlobals mg) (a : PySem.W.nsIn K mainGlobals "Book" = some (some (.ref C))) (pg : PySem.W.plainGet K C Str.empty = true) (hd : PySem.W.hasDictIn K C = true) (po : PySem.W.plainOver K C = true)
    (sa : PySem.W.findIn K (.ref C) "__setattr__" = some (some (.builtin "object.__setattr__"))) (n1 : PySem.W.findIn K (.ref C) "rules" = some none) (n2 : PySem.W.findIn K (.ref C) "table" = some none) (n3 : PySem.W.findIn K (.ref C) "sizes" = some none)
    (mk : PySem.W.makesIn K C = true) (kc : PySem.W.keepIn K (.ref C) = true) (ha : PySem.W.findIn K (.ref C) "__class__" = some (some (.builtin "object.__class__"))) (cc : PySem.W.isClsIn K C = true) (ty : PySem.W.typeIn K (.ref C) = some (.type "type"))
    (sl : PySem.W.subIn K (.type "list") (.ref C) = some false) (nl : PySem.W.notFirst K C (.type "list") = true) (mo : PySem.W.mroIn K C (.type "object") = some true) : BkT K mg C :=
  ⟨PySem.W.mg_of X G a, ⟨⟨pg, hd, po, sa⟩, n1, n2, n3⟩, mk, kc, ha, cc, ty, sl, nl, mo⟩
theorem BkT.kl {C : Addr} (T : BkT K mg C) : PySem.W.kitOne K (.type "list") (.ref C) = some false := by
  unfold PySem.W.kitOne
  rw [if_neg (by simp)]
  show (if ((PySem.W.clsIn K C).isSome && PySem.W.typeIn K (.ref C) == some (.type "type")) = true then PySem.W.subIn K (.type "list") (.ref C) else none) = _
  rw [show (PySem.W.clsIn K C).isSome = true from T.cc, T.ty, if_pos (by simp)]
  exact T.sl
theorem kit_self {v : Value} : PySem.W.kitOne K v v = some true := by
  unfold PySem.W.kitOne
  rw [if_pos (beq_self_eq_true _)]
theorem first_self {C : Addr} : PySem.W.notFirst K C (.ref C) = true := by
  unfold PySem.W.notFirst
  simp
/-- a def of a class, as the class finds it -/
structure CM (K : PySem.W.Frag) (C : Addr) (m q : Str) (st : Stmt) (ps : List Str) : Prop where
  ex : ∃ f : Addr, PySem.W.findIn K (.ref C) m = some (some (.ref f)) ∧ In1 K m q st ps f
theorem cm_mk {C : Addr} {m q : Str} {st : Stmt} {ps : List Str} {f : Addr} (a : PySem.W.findIn K (.ref C) m = some (some (.ref f))) (i : In1 K m q st ps f) : CM K C m q st ps := ⟨f, a, i⟩
theorem oex_mk {C : Addr} {nm q : Str} {N : Addr} {bs bm : List Value} {sn : List Str} {sub : List Value} {ab : Bool} {col : Option Bool} {dd : Option Addr} {k0 k1 k2 k3 k5 : Option Value}
    (xL : K.lookup C = some (excClassObj nm q C N bs bm true sn sub ab col dd k0 k1 k2 k3 k5 "ValueError.__new__")) (om : PySem.HandSPX.refsVE bm = true) (os : PySem.W.findIn K (.ref C) "__setattr__" = some (some (.builtin "object.__setattr__")))
    (oe : PySem.W.subIn K (.ref C) (.type "BaseException") = some true) (ot : PySem.W.typeIn K (.ref C) = some (.type "type")) (ok : PySem.W.keepIn K (.ref C) = true) : OexC K C :=
  ⟨⟨nm, q, N, bs, bm, sn, sub, ab, col, dd, k0, k1, k2, k3, k5, xL, om⟩, os, oe, ot, ok⟩
theorem met_mk {BN TM : Addr} (X : K.In h) (G : h.Ns mainGlobals mg) (a : PySem.W.nsIn K mainGlobals "BadName" = some (some (.ref BN))) (b : PySem.W.nsIn K mainGlobals "TooMany" = some (some (.ref TM)))
    (g1 : PySem.W.findIn K (.ref BN) "__getattribute__" = some (some (.builtin "BaseException.__getattribute__"))) (g2 : PySem.W.findIn K (.ref BN) "__getattr__" = some none) (g3 : PySem.W.subIn K (.ref BN) (.type "BaseException") = some true) (g4 : PySem.W.hasDictIn K BN = true)
    (t1 : PySem.W.findIn K (.ref TM) "__getattribute__" = some (some (.builtin "BaseException.__getattribute__"))) (t2 : PySem.W.findIn K (.ref TM) "__getattr__" = some none) (t3 : PySem.W.subIn K (.ref TM) (.type "BaseException") = some true) (t4 : PySem.W.hasDictIn K TM = true)
    (no : PySem.W.findIn K (.ref BN) "name" = some none) (nw : PySem.W.findIn K (.ref TM) "what" = some none) (ty : PySem.W.typeIn K (.ref BN) = some (.type "type")) (tt : PySem.W.typeIn K (.ref TM) = some (.type "type"))
    (s1 : PySem.W.subIn K (.ref BN) (.ref BN) = some true) (s2 : PySem.W.subIn K (.ref TM) (.ref BN) = some false) (s3 : PySem.W.subIn K (.ref TM) (.ref TM) = some true) : MetT K mg BN TM :=
  ⟨PySem.W.mg_of X G a, PySem.W.mg_of X G b, ⟨g1, g2, g3, g4⟩, ⟨t1, t2, t3, t4⟩, no, nw, PySem.W.exm_ref g3 g4 ty s1, PySem.W.exm_ref g3 g4 ty s2, PySem.W.exm_ref t3 t4 tt s3⟩
theorem ClT.first {x y : Str} {C D wy a1 a2 a3 b1 b2 b3 : Addr} (c : ClT K mg x C wy a1 a2 a3) (d : ClT K mg y D wy b1 b2 b3) (hw : C ≠ wy) : PySem.W.notFirst K C (.ref D) = true := by
  obtain ⟨dd, g1, g2⟩ := d.cls
  unfold PySem.W.notFirst
  by_cases h : D = C
  · subst h; simp
  · have e : PySem.W.subIn K (.ref D) (.ref C) = some false := by
      show PySem.W.mroIn K D (.ref C) = _
      unfold PySem.W.mroIn
      rw [g1, Option.bind_some, g2]
      have h' : C ≠ D := fun e => h e.symm
      simp [h', hw]
    rw [e]; simp
theorem fnIn_of {x q : Str} {st : Stmt} {f : Addr} {fd : FuncData} (F : Fun K x q st f fd) : PySem.W.fnIn K f = true := by
  obtain ⟨oc, od, kV, doc, pm, an, cdv, ct, osl, rfl, lk, _⟩ := F.ex
  unfold PySem.W.fnIn
  rw [lk]
/-- the table of the code object at c -/
structure TabP (K : PySem.W.Frag) (c P : Addr) : Prop where
  ex : ∃ (od : Option Addr) (vs : Array Value) (sl : Array (Option Value)), K.lookup c = some ⟨.type "code", od, .fields vs, sl⟩ ∧ vs[11]? = some (.ref P)
theorem tabp_mk {c P : Addr} {od : Option Addr} {vs : Array Value} {sl : Array (Option Value)} (l : K.lookup c = some ⟨.type "code", od, .fields vs, sl⟩) (e : vs[11]? = some (.ref P)) : TabP K c P := ⟨od, vs, sl, l, e⟩
theorem one_of {x : Str} {v : Value} (X : K.In h) (G : h.Ns mainGlobals mg) (z : PySem.W.nsIn K mainGlobals x = some (some v)) : mg x = some v := PySem.W.mg_of X G z
theorem fin {fa wy aat aeq aln i1 i2 i3 i4 i5 i6 i7 i8 i9 i10 mkC bk bn tm c1 P1 c2 P2 : Addr} {lt on no ro ch ag ma ah un ca : Addr} {tq : Tok} (X : K.In h) (G : h.Ns mainGlobals mg) (hfa : mg "law" = some (.ref fa))
    (tLt : ClT K mg "Letter" lt wy aat aeq aln) (tOn : ClT K mg "One" on wy aat aeq aln) (tNo : ClT K mg "Nothing" no wy aat aeq aln) (tRo : ClT K mg "Row" ro wy aat aeq aln) (tCh : ClT K mg "Choice" ch wy aat aeq aln)
    (tAg : ClT K mg "Again" ag wy aat aeq aln) (tMa : ClT K mg "Maybe" ma wy aat aeq aln) (tAh : ClT K mg "Ahead" ah wy aat aeq aln) (tUn : ClT K mg "Unless" un wy aat aeq aln) (tCa : ClT K mg "Call" ca wy aat aeq aln)
    (nd : [lt, on, no, ro, ch, ag, ma, ah, un, ca, wy].Nodup) (hn : PySem.W.specialIn K (.builtin "object.__class__") "__get__" = some (some (.builtin "getset_descriptor.__get__"))) (ht : PySem.W.takesIn K (.builtin "object.__class__") = some true)
    (wM : PySem.W.nsIn K mainGlobals "Way" = some (some (.ref wy))) (wc : PySem.W.isClsIn K wy = true) (wt : PySem.W.typeIn K (.ref wy) = some (.type "type"))
    (ieq : In1 K "__eq__" "Way.__eq__" s_Way_eq ["self", "other"] aeq) (iln : In1 K "__len__" "Way.__len__" s_Way_len ["self"] aln)
    (f1 : PySem.W.findIn K (.ref lt) "__init__" = some (some (.ref i1))) (j1 : In1 K "__init__" "Letter.__init__" s_Letter_init ["self", "letter"] i1)
    (f2 : PySem.W.findIn K (.ref ca) "__init__" = some (some (.ref i2))) (j2 : In1 K "__init__" "Call.__init__" s_Call_init ["self", "name"] i2)
    (f3 : PySem.W.findIn K (.ref ro) "__init__" = some (some (.ref i3))) (j3 : In1 K "__init__" "Row.__init__" s_Row_init ["self", "ways"] i3)
    (f4 : PySem.W.findIn K (.ref ch) "__init__" = some (some (.ref i4))) (j4 : In1 K "__init__" "Choice.__init__" s_Choice_init ["self", "ways"] i4)
    (f5 : PySem.W.findIn K (.ref ag) "__init__" = some (some (.ref i5))) (j5 : In1 K "__init__" "Again.__init__" s_Again_init ["self", "part"] i5)
    (f6 : PySem.W.findIn K (.ref ma) "__init__" = some (some (.ref i6))) (j6 : In1 K "__init__" "Maybe.__init__" s_Maybe_init ["self", "part"] i6)
    (f7 : PySem.W.findIn K (.ref ah) "__init__" = some (some (.ref i7))) (j7 : In1 K "__init__" "Ahead.__init__" s_Ahead_init ["self", "part"] i7)
    (f8 : PySem.W.findIn K (.ref un) "__init__" = some (some (.ref i8))) (j8 : In1 K "__init__" "Unless.__init__" s_Unless_init ["self", "part"] i8)
    (f9 : PySem.W.findIn K (.ref on) "__init__" = some (some (.ref i9))) (j9 : In1 K "__init__" "One.__init__" s_One_init ["self"] i9)
    (f10 : PySem.W.findIn K (.ref no) "__init__" = some (some (.ref i10))) (j10 : In1 K "__init__" "Nothing.__init__" s_Nothing_init ["self"] i10)
    (fM : Mk0 K mg "Mark" mkC) (k1 : Here K mg "first_call" s_first_call ["ways"]) (k2 : Here K mg "most_rounds" s_most_rounds ["ways"])
    (T : BkT K mg bk) (m0 : CM K bk "__init__" "Book.__init__" s_Book_init ["self", "rules"]) (m1 : CM K bk "add_rule" "Book.add_rule" s_Book_add_rule ["self", "name", "way"]) (m2 : CM K bk "__len__" "Book.__len__" s_Book_len ["self"])
    (m3 : CM K bk "way" "Book.way" s_Book_way ["self", "name"]) (m4 : CM K bk "__getitem__" "Book.__getitem__" s_Book_getitem ["self", "name"]) (m5 : CM K bk "__contains__" "Book.__contains__" s_Book_contains ["self", "name"])
    (m6 : CM K bk "__iter__" "Book.__iter__" s_Book_iter ["self"]) (m7 : CM K bk "__eq__" "Book.__eq__" s_Book_eq ["self", "other"])
    (D : MetT K mg bn tm) (x1 : OexC K bn) (x2 : OexC K tm) (m8 : CM K bn "__init__" "BadName.__init__" s_BadName_init ["self", "name"]) (m9 : CM K tm "__init__" "TooMany.__init__" s_TooMany_init ["self", "what"])
    (B : Bs mg) (bD : PySem.W.nsIn K mainGlobals "dict" = some none) (bI : PySem.W.nsIn K mainGlobals "iter" = some none) (C : Kc mg) (cM : PySem.W.nsIn K mainGlobals "MOST_BOOK_PARTS" = some (some (.int 64 tq)))
    (h1 : Here K mg "kind_of" s_kind_of ["way"]) (h2 : Here K mg "word_of" s_word_of ["way"]) (h3 : Here K mg "made_of" s_made_of ["way"]) (h4 : Here K mg "parts_of" s_parts_of ["way"]) (h5 : Here K mg "same_ways" s_same_ways ["one", "other"])
    (h6 : Here K mg "built" s_built ["kind", "word", "inner"]) (h7 : Here K mg "replaced" s_replaced ["way", "table"])
    (g1 : Here K mg "_law_pen" s_l_pen ["_law_script"]) (g2 : Here K mg "_law_draw" s_l_draw ["_law_pen_here", "_law_many"]) (g3 : Here K mg "_law_pick" s_l_pick ["_law_pen_here", "_law_items"]) (g4 : Here K mg "_law_signs" s_l_signs ["_law_pen_here", "_law_many"]) (g5 : Here K mg "_law_leaf" s_l_leaf ["_law_pen_here", "_law_signs_here"])
    (g6 : Here K mg "_law_way" s_l_way ["_law_pen_here", "_law_signs_here", "_law_most"]) (g7 : Here K mg "_law_way_of" s_l_way_of ["_law_pen_here", "_law_signs_here", "_law_size_here"]) (g8 : Here K mg "_law_inner" s_l_inner ["_law_way_here"]) (g9 : Here K mg "_law_made" s_l_made ["_law_way_here"])
    (g12 : Here K mg "_law_name" s_l_name ["_law_pen_here"]) (g13 : Here K mg "_law_with_calls" s_l_with_calls ["_law_pen_here", "_law_way_here", "_law_names"]) (g14 : Here K mg "_law_rules" s_l_rules ["_law_pen_here", "_law_signs_here", "_law_many"]) (g15 : Here K mg "_law_replaced" s_l_replaced ["_law_way_here", "_law_rules_here"])
    (g16 : Here K mg "_law_met" s_l_met ["_law_ask"]) (g17 : Here K mg "_law_sizes" s_l_sizes ["_law_rules_here"]) (g18 : Here K mg "_law_size_in" s_l_size_in ["_law_way_here", "_law_sizes_here"])
    (y1 : HereC K mg "_law_are_ways_right" s_l_are_ways_right ["_law_book", "_law_rules_here"] c1) (y2 : HereC K mg "law" s_law ["_law_script"] c2) (v1 : TabP K c1 P1) (v2 : TabP K c2 P2) (hP : P1 ≠ P2)
    (z1 : PySem.W.codeHdIn K c1 P1 = true) (z2 : PySem.W.codeHdIn K c2 P2 = true) (n1 : K.lookup P1 = none) (n2 : K.lookup P2 = none) (w1 : h.get? P1 = some (PySem.W.tabObj #[])) (w2 : h.get? P2 = some (PySem.W.tabObj #[])) :
    ∃ (fd : FuncData) (cs : List (Addr × Addr)) (sp : Sp), (∀ p ∈ cs, h.get? p.2 = some { cls := .none, data := .fields #[] }) ∧ (∀ p ∈ cs, K.lookup p.2 = none) ∧ (∀ p ∈ cs, PySem.W.CodeHd h p.1 p.2) ∧ (∀ (s : Shared) (u : Value), BindsTo s fd ⟨[u], []⟩ [("_law_script", u)]) ∧
      (∀ (H : Hp) (a : Addr) (ns : List Int), ns.length ≤ 63 → (∀ z ∈ ns, Builtin.Int.intBits z ≤ 1048576) → (∀ p ∈ cs, H p.2 = some (.tbl #[])) → SqL K H a (ns.map V.int) → sp [.ref a] H (fun v _ => v = .bl true) fun _ _ _ => False) ∧
      ∀ base : Heap, K.In base → base.Ns mainGlobals mg → (∀ p ∈ cs, TabB base mg p.1 p.2) → FnOk P w K mg base CX0 97 fa fd ["_law_script"] sp := by
  have e97 : ∀ base : Heap, TabB base mg c1 P1 → TabB base mg c2 P2 →
      ∃ fd, FnOk P w K mg base CX0 97 fa fd ["_law_script"] (spLaw8 K [(P1, Str.ofString "_law_are_ways_right" ++ ".<locals>." ++ "<lambda>"), (P2, Str.ofString "law" ++ ".<locals>." ++ "<lambda>")]) ∧ FdAt K fa fd := by
    intro base TB1 TB2
    have t : Tops K mg ⟨lt, on, no, ro, ch, ag, ma, ah, un, ca⟩ wy aat aeq aln := ⟨tLt, tOn, tNo, tRo, tCh, tAg, tMa, tAh, tUn, tCa, nd⟩
    have A := t.all hn ht
    have U1 := d_first_call (P := P) (w := w) (base := base) k1 A.f
    have U2 := d_most_rounds (P := P) (w := w) (base := base) k2 B A.f
    have g : Gs P w K mg base ⟨lt, on, no, ro, ch, ag, ma, ah, un, ca⟩ :=
      ⟨cls_ok tLt f1 j1 fun _ F => ok_Letter F tLt.f, cls_ok tCa f2 j2 fun _ F => ok_Call F tCa.f, cls_ok tRo f3 j3 fun _ F => ok_Row F tRo.f B U1 U2, cls_ok tCh f4 j4 fun _ F => ok_Choice F tCh.f B U1 U2, cls_ok tAg f5 j5 fun _ F => ok_Again F tAg.f A.f fM,
        cls_ok tMa f6 j6 fun _ F => ok_Maybe F tMa.f A.f, cls_ok tAh f7 j7 fun _ F => ok_Ahead F tAh.f A.f, cls_ok tUn f8 j8 fun _ F => ok_Unless F tUn.f A.f, cls_ok tOn f9 j9 fun _ F => ok_One F tOn.f, cls_ok tNo f10 j10 fun _ F => ok_Nothing F tNo.f⟩
    have P1' := d_l_pen (P := P) (w := w) (base := base) g1 B
    have P2' := d_l_draw (P := P) (w := w) (base := base) g2 B
    have P3 := d_l_pick g3 B P2'
    have P4 := d_l_signs g4 B P2'
    have P5 := d_l_leaf g5 B P2' P3
    have P7 := d_l_way_of g7 B P2' P3 P5 30
    have P6 := d_l_way g6 P2' P7
    have P8 := d_l_inner (P := P) (w := w) (base := base) g8
    have P9 := d_l_made _ g9 g P8 64
    have P12 := d_l_name g12 B P2' P3
    have P13 := d_l_with_calls g13 B P2' P3 30
    have P14 := d_l_rules g14 B P12 P6 P13
    have P15 := d_lrep (P := P) (w := w) (base := base) g15 (PySem.W.mg_none_of X G bD) 80
    have P18 := d_size_in g18 B P8 30
    have P17 := d_sizes g17 P18
    have Q1 := d_kind_of (P := P) (w := w) (base := base) h1 A B C
    have Q2 := d_word_of (P := P) (w := w) (base := base) h2 A B
    have Q3 := d_made_of (P := P) (w := w) (base := base) h3 A B
    have Q4 := d_parts_of h4 Q3
    have Q5 := d_same_both h5 B Q3 Q1 Q2
    have Q6 := d_built h6 g C
    have Q7 := d_replaced h7 A B Q6 Q1 Q2 Q3 80
    have GW : WEq P w K mg base ⟨lt, on, no, ro, ch, ag, ma, ah, un, ca⟩ 3 := by
      obtain ⟨fd, F, b⟩ := ieq.ex
      exact ⟨⟨aeq, fd, _, ok_Way_eqB F A (PySem.W.mg_of X G wM) (fun x => (t.of x).kitWay wc wt) B Q5, fun u => (t.of u).meq, ieq.fn, b⟩, fun x u => ClT.first (t.of x) (t.of u) (t.ne x), A.kit⟩
    have GL : LenOk P w K mg base ⟨lt, on, no, ro, ch, ag, ma, ah, un, ca⟩ 3 (spLenW ⟨lt, on, no, ro, ch, ag, ma, ah, un, ca⟩) := by
      obtain ⟨fd, F, b⟩ := iln.ex
      exact ⟨aln, fd, _, ok_Way_len F B Q4, fun u => (t.of u).mln, iln.fn, b⟩
    have R1 : ExOk P w K mg base 1 "BadName" bn ["self", "name"] (spBad bn) := by
      obtain ⟨fI, a, i⟩ := m8.ex
      obtain ⟨fd, F, b⟩ := i.ex
      exact ⟨fI, fd, x1, a, beq_iff_eq.mp i.fn, D.m, b, ok_BadName F x1 D.noN⟩
    have R1b : ExOk P w K mg base 1 "TooMany" tm ["self", "what"] (spMany tm) := by
      obtain ⟨fI, a, i⟩ := m9.ex
      obtain ⟨fd, F, b⟩ := i.ex
      exact ⟨fI, fd, x2, a, beq_iff_eq.mp i.fn, D.mM, b, ok_Many F x2 D.noW⟩
    have R2 : MxOk P w K mg base bk 4 "add_rule" ["self", "name", "way"] (spAdd2 ⟨lt, on, no, ro, ch, ag, ma, ah, un, ca⟩ bk bn) := by
      obtain ⟨f, a, i⟩ := m1.ex
      obtain ⟨fd, F, b⟩ := i.ex
      exact ⟨T.f.cl, f, fd, Bo.ok_add F T.f A B R1 Q4, ⟨a, i.fn, F.kp⟩, b⟩
    have R3 : CxOk P w K mg base 5 "Book" bk ["self", "rules"] (spBook2 ⟨lt, on, no, ro, ch, ag, ma, ah, un, ca⟩ bk bn) := by
      obtain ⟨f, a, i⟩ := m0.ex
      obtain ⟨fd, F, b⟩ := i.ex
      exact ⟨f, fd, T.m, ⟨T.mks, a, i.fn, T.kc⟩, b, fnOr (ok_BookL F T.f B R2) (ok_BookT F T.f B R2)⟩
    have R4 : LenC P w K mg base bk 1 (spBkLen bk) := by
      obtain ⟨f, a, i⟩ := m2.ex
      obtain ⟨fd, F, b⟩ := i.ex
      exact ⟨f, fd, _, ok_len F T.f B, a, i.fn, b⟩
    have R5 : SpC (L2.CX P w) P w K mg base bk "__getitem__" 3 (spGet ⟨lt, on, no, ro, ch, ag, ma, ah, un, ca⟩ bk bn) := by
      obtain ⟨f, a, i⟩ := m4.ex
      obtain ⟨fd, F, b⟩ := i.ex
      exact ⟨f, fd, _, ok_getitem F T.f R1, a, i.fn, fnIn_of F, b⟩
    have R6 : SpC CX0 P w K mg base bk "__contains__" 3 (spHas ⟨lt, on, no, ro, ch, ag, ma, ah, un, ca⟩ bk) := by
      obtain ⟨f, a, i⟩ := m5.ex
      obtain ⟨fd, F, b⟩ := i.ex
      exact ⟨f, fd, _, ok_contains F T.f, a, i.fn, fnIn_of F, b⟩
    have R7 : IterC P w K mg base bk 1 (tRules bk) := by
      obtain ⟨f, a, i⟩ := m6.ex
      obtain ⟨fd, F, b⟩ := i.ex
      exact ⟨f, fd, _, ok_Book_iter F T.f (PySem.W.mg_none_of X G bI), a, i.fn, b⟩
    have R8 : BEq P w K mg base ⟨lt, on, no, ro, ch, ag, ma, ah, un, ca⟩ bk := by
      obtain ⟨f, a, i⟩ := m7.ex
      obtain ⟨fd, F, b⟩ := i.ex
      exact ⟨⟨f, fd, _, ok_Book_eq F T.f B T.m GW (fun e => .base (.ins e T.f.cl T.ha hn ht T.mo)) kit_self T.kl, a, i.fn, b⟩, first_self, T.nl⟩
    have R9 : MxOk P w K mg base bk 85 "way" ["self", "name"] (spWayB ⟨lt, on, no, ro, ch, ag, ma, ah, un, ca⟩ bk bn tm) := by
      obtain ⟨f, a, i⟩ := m3.ex
      obtain ⟨fd, F, b⟩ := i.ex
      exact ⟨T.f.cl, f, fd, ok_way F T.f ⟨_, PySem.W.mg_of X G cM⟩ R1b R5 Q7, ⟨a, i.fn, F.kp⟩, b⟩
    have hu1 : ∀ p ∈ [(P1, Str.ofString "_law_are_ways_right" ++ ".<locals>." ++ "<lambda>"), (P2, Str.ofString "law" ++ ".<locals>." ++ "<lambda>")], p.1 = P1 → p.2 = Str.ofString "_law_are_ways_right" ++ ".<locals>." ++ "<lambda>" := fun p hp e => by
      rcases List.mem_cons.mp hp with rfl | hp
      · rfl
      · rw [List.mem_singleton.mp hp] at e; exact absurd e hP.symm
    have hu2 : ∀ p ∈ [(P1, Str.ofString "_law_are_ways_right" ++ ".<locals>." ++ "<lambda>"), (P2, Str.ofString "law" ++ ".<locals>." ++ "<lambda>")], p.1 = P2 → p.2 = Str.ofString "law" ++ ".<locals>." ++ "<lambda>" := fun p hp e => by
      rcases List.mem_cons.mp hp with rfl | hp
      · exact absurd e hP
      · rw [List.mem_singleton.mp hp]
    have S1 := d_are y1 B T.f TB1 List.mem_cons_self hu1 g16 D GW GL R5 R6 R9 P17 P9 P15
    obtain ⟨f, fd, m, kp, b, F, hfd⟩ := ok_law y2 B T.f TB2 (List.mem_cons_of_mem _ List.mem_cons_self) hu2 g16 D GW R8 g R3 R7 R4 R5 R6 R9 P1' P2' P4 P12 P14 P9 S1
    have e := hfa.symm.trans m
    cases e
    exact ⟨fd, F, hfd⟩
  have hcs : ∀ {q : Addr × Addr → Prop}, q (c1, P1) → q (c2, P2) → ∀ p ∈ [(c1, P1), (c2, P2)], q p := fun a b p hp => by
    rcases List.mem_cons.mp hp with rfl | hp
    · exact a
    · rw [List.mem_singleton.mp hp]; exact b
  obtain ⟨f, oc, od, kV, doc, pm, an, ct, osl, lk, hcd, hk, hm, hb⟩ := y2.ex
  have e := hfa.symm.trans hm
  cases e
  refine ⟨PySem.W.fnOf "law" "law" (defArgs s_law) (defBody s_law) (defScope s_law) .none kV doc pm an (.ref c2) ct, [(c1, P1), (c2, P2)], spLaw8 K [(P1, Str.ofString "_law_are_ways_right" ++ ".<locals>." ++ "<lambda>"), (P2, Str.ofString "law" ++ ".<locals>." ++ "<lambda>")], hcs w1 w2, hcs n1 n2, hcs (PySem.W.codeHd_of_K X z1) (PySem.W.codeHd_of_K X z2), fun s v => .of_eq rfl, fun H a ns hl _ hT hS => ?_, fun base hB _ hT => ?_⟩
  · refine ⟨a, ns, rfl, hS, hl, fun p hp => ?_, fun _ => rfl⟩
    rcases List.mem_cons.mp hp with rfl | hp
    · exact TabS.nil (hT (c1, P1) List.mem_cons_self)
    · rw [List.mem_singleton.mp hp]; exact TabS.nil (hT (c2, P2) (List.mem_cons_of_mem _ List.mem_cons_self))
  · obtain ⟨fd, F, oc', od', osl', lk'⟩ := e97 base (hT (c1, P1) List.mem_cons_self) (hT (c2, P2) (List.mem_cons_of_mem _ List.mem_cons_self))
    rw [lk] at lk'
    cases lk'
    exact F
end
theorem walk {l : PySem.W.OpenLaw} {q : Program} {loose : List Str} {XP : (Str → Option Value) → Heap → Prop} {YP : World → Heap → Prop} {d : DefRec} {K : Params → PySem.W.Frag} {ts : List Addr} (hn : l.most = some 63) (hdf : d.params.defaults = [])
    (hY : ∀ (w : World) (h : Heap), YP w h → (K w.params).In h) (hT : ∀ (w : World) (h : Heap), YP w h → ∀ P ∈ ts, h.get? P = some (PySem.W.tabObj #[]))
    (F : ∀ (w : World) (mg : Str → Option Value) (fa : Addr) (h : Heap), (K w.params).In h → (∀ P ∈ ts, h.get? P = some (PySem.W.tabObj #[])) → h.Ns mainGlobals mg → mg d.name = some (.ref fa) → LawAtS l w (K w.params) CX0 97 63 "_law_script" mg fa h) :
    PySem.W.WalkO q loose XP YP l.row.toRowW d [] (fun f vs => PySem.call f vs) :=
  LamX.walk_ofTs (n := 63) (k := 97) (x := "_law_script") (CX := fun _ => L2.CX0) hn (by decide) hdf ⟨rfl, by decide, by decide⟩ hY (fun w mg fa h Y X G hm => F w mg fa h X (hT w h Y) G hm) fun _ _ _ _ _ z => z
end Bo
open PySem PySem.W PyProof.Rows
set_option maxHeartbeats 0
def PySem.W.Fast.tw11819693571083138648 : Nat := 0
def PySem.W.Fast.tw861502493610598483 : Nat := 0
open_top hd for PySem.Challenge.rw_waystaken_k08_books
theorem PySem.Challenge.cw_waystaken_k08_books_holds : PySem.Challenge.rw_waystaken_k08_books.Holds :=
  hd (by
  k_fill
  refine Bo.walk (l := PySem.Challenge.rw_waystaken_k08_books) rfl rfl (fun _ _ Y => PySem.W.km_in_of Y) (fun _ _ Y => PySem.W.km_tabs_of Y) ?F
  case F =>
    intro w mg fa h KX hT G hmg
    refine' Bo.fin KX G hmg ?tLt ?tOn ?tNo ?tRo ?tCh ?tAg ?tMa ?tAh ?tUn ?tCa ?nd ?hn ?ht ?wM ?wc ?wt ?ieq ?iln ?f1 ?j1 ?f2 ?j2 ?f3 ?j3 ?f4 ?j4 ?f5 ?j5 ?f6 ?j6 ?f7 ?j7 ?f8 ?j8 ?f9 ?j9 ?f10 ?j10 ?fM ?k1 ?k2 ?T ?m0 ?m1 ?m2 ?m3 ?m4 ?m5 ?m6 ?m7 ?D ?x1 ?x2 ?m8 ?m9 ?B ?bD ?bI ?C ?cM ?h1 ?h2 ?h3 ?h4 ?h5 ?h6 ?h7 ?g1 ?g2 ?g3 ?g4 ?g5 ?g6 ?g7 ?g8 ?g9 ?g12 ?g13 ?g14 ?g15 ?g16 ?g17 ?g18 ?y1 ?y2 ?v1 ?v2 ?hP ?yz1 ?yz2 ?yn1 ?yn2 ?yw1 ?yw2
    (case wM => k_is)
    (case tLt => (refine' Wv.clt_mk KX G ?a ?pg ?hd ?po ?sa ?nl ?nn ?nw ?np ?nc ?nr ?nm ?ha ?hm ?mk ?kc ?ty ?cl ?cm ?mat ?meq ?mln; (case a => k_is); (case pg => k_is); (case hd => k_is); (case po => k_is); (case sa => k_is); (case nl => k_is); (case nn => k_is); (case nw => k_is); (case np => k_is); (case nc => k_is); (case nr => k_is); (case nm => k_is); (case ha => k_is); (case hm => k_is); (case mk => k_is); (case kc => k_is); (case ty => k_is); (case cl => k_is); (case cm => exact rfl); (case mat => k_is); (case meq => k_is); (case mln => k_is)))
    (case tOn => (refine' Wv.clt_mk KX G ?a ?pg ?hd ?po ?sa ?nl ?nn ?nw ?np ?nc ?nr ?nm ?ha ?hm ?mk ?kc ?ty ?cl ?cm ?mat ?meq ?mln; (case a => k_is); (case pg => k_is); (case hd => k_is); (case po => k_is); (case sa => k_is); (case nl => k_is); (case nn => k_is); (case nw => k_is); (case np => k_is); (case nc => k_is); (case nr => k_is); (case nm => k_is); (case ha => k_is); (case hm => k_is); (case mk => k_is); (case kc => k_is); (case ty => k_is); (case cl => k_is); (case cm => exact rfl); (case mat => k_is); (case meq => k_is); (case mln => k_is)))
    (case tNo => (refine' Wv.clt_mk KX G ?a ?pg ?hd ?po ?sa ?nl ?nn ?nw ?np ?nc ?nr ?nm ?ha ?hm ?mk ?kc ?ty ?cl ?cm ?mat ?meq ?mln; (case a => k_is); (case pg => k_is); (case hd => k_is); (case po => k_is); (case sa => k_is); (case nl => k_is); (case nn => k_is); (case nw => k_is); (case np => k_is); (case nc => k_is); (case nr => k_is); (case nm => k_is); (case ha => k_is); (case hm => k_is); (case mk => k_is); (case kc => k_is); (case ty => k_is); (case cl => k_is); (case cm => exact rfl); (case mat => k_is); (case meq => k_is); (case mln => k_is)))
    (case tRo => (refine' Wv.clt_mk KX G ?a ?pg ?hd ?po ?sa ?nl ?nn ?nw ?np ?nc ?nr ?nm ?ha ?hm ?mk ?kc ?ty ?cl ?cm ?mat ?meq ?mln; (case a => k_is); (case pg => k_is); (case hd => k_is); (case po => k_is); (case sa => k_is); (case nl => k_is); (case nn => k_is); (case nw => k_is); (case np => k_is); (case nc => k_is); (case nr => k_is); (case nm => k_is); (case ha => k_is); (case hm => k_is); (case mk => k_is); (case kc => k_is); (case ty => k_is); (case cl => k_is); (case cm => exact rfl); (case mat => k_is); (case meq => k_is); (case mln => k_is)))
    (case tCh => (refine' Wv.clt_mk KX G ?a ?pg ?hd ?po ?sa ?nl ?nn ?nw ?np ?nc ?nr ?nm ?ha ?hm ?mk ?kc ?ty ?cl ?cm ?mat ?meq ?mln; (case a => k_is); (case pg => k_is); (case hd => k_is); (case po => k_is); (case sa => k_is); (case nl => k_is); (case nn => k_is); (case nw => k_is); (case np => k_is); (case nc => k_is); (case nr => k_is); (case nm => k_is); (case ha => k_is); (case hm => k_is); (case mk => k_is); (case kc => k_is); (case ty => k_is); (case cl => k_is); (case cm => exact rfl); (case mat => k_is); (case meq => k_is); (case mln => k_is)))
    (case tAg => (refine' Wv.clt_mk KX G ?a ?pg ?hd ?po ?sa ?nl ?nn ?nw ?np ?nc ?nr ?nm ?ha ?hm ?mk ?kc ?ty ?cl ?cm ?mat ?meq ?mln; (case a => k_is); (case pg => k_is); (case hd => k_is); (case po => k_is); (case sa => k_is); (case nl => k_is); (case nn => k_is); (case nw => k_is); (case np => k_is); (case nc => k_is); (case nr => k_is); (case nm => k_is); (case ha => k_is); (case hm => k_is); (case mk => k_is); (case kc => k_is); (case ty => k_is); (case cl => k_is); (case cm => exact rfl); (case mat => k_is); (case meq => k_is); (case mln => k_is)))
    (case tMa => (refine' Wv.clt_mk KX G ?a ?pg ?hd ?po ?sa ?nl ?nn ?nw ?np ?nc ?nr ?nm ?ha ?hm ?mk ?kc ?ty ?cl ?cm ?mat ?meq ?mln; (case a => k_is); (case pg => k_is); (case hd => k_is); (case po => k_is); (case sa => k_is); (case nl => k_is); (case nn => k_is); (case nw => k_is); (case np => k_is); (case nc => k_is); (case nr => k_is); (case nm => k_is); (case ha => k_is); (case hm => k_is); (case mk => k_is); (case kc => k_is); (case ty => k_is); (case cl => k_is); (case cm => exact rfl); (case mat => k_is); (case meq => k_is); (case mln => k_is)))
    (case tAh => (refine' Wv.clt_mk KX G ?a ?pg ?hd ?po ?sa ?nl ?nn ?nw ?np ?nc ?nr ?nm ?ha ?hm ?mk ?kc ?ty ?cl ?cm ?mat ?meq ?mln; (case a => k_is); (case pg => k_is); (case hd => k_is); (case po => k_is); (case sa => k_is); (case nl => k_is); (case nn => k_is); (case nw => k_is); (case np => k_is); (case nc => k_is); (case nr => k_is); (case nm => k_is); (case ha => k_is); (case hm => k_is); (case mk => k_is); (case kc => k_is); (case ty => k_is); (case cl => k_is); (case cm => exact rfl); (case mat => k_is); (case meq => k_is); (case mln => k_is)))
    (case tUn => (refine' Wv.clt_mk KX G ?a ?pg ?hd ?po ?sa ?nl ?nn ?nw ?np ?nc ?nr ?nm ?ha ?hm ?mk ?kc ?ty ?cl ?cm ?mat ?meq ?mln; (case a => k_is); (case pg => k_is); (case hd => k_is); (case po => k_is); (case sa => k_is); (case nl => k_is); (case nn => k_is); (case nw => k_is); (case np => k_is); (case nc => k_is); (case nr => k_is); (case nm => k_is); (case ha => k_is); (case hm => k_is); (case mk => k_is); (case kc => k_is); (case ty => k_is); (case cl => k_is); (case cm => exact rfl); (case mat => k_is); (case meq => k_is); (case mln => k_is)))
    (case tCa => (refine' Wv.clt_mk KX G ?a ?pg ?hd ?po ?sa ?nl ?nn ?nw ?np ?nc ?nr ?nm ?ha ?hm ?mk ?kc ?ty ?cl ?cm ?mat ?meq ?mln; (case a => k_is); (case pg => k_is); (case hd => k_is); (case po => k_is); (case sa => k_is); (case nl => k_is); (case nn => k_is); (case nw => k_is); (case np => k_is); (case nc => k_is); (case nr => k_is); (case nm => k_is); (case ha => k_is); (case hm => k_is); (case mk => k_is); (case kc => k_is); (case ty => k_is); (case cl => k_is); (case cm => exact rfl); (case mat => k_is); (case meq => k_is); (case mln => k_is)))
    (case wc => k_is)
    (case wt => k_is)
    (case hn => k_is)
    (case ht => k_is)
    (case nd => decide)
    (case ieq => (refine' Wv.in_mk ?i ?l ?c ?k ?b; (case i => k_is); (case l => k_is); (case c => k_is); (case k => k_is); (case b => exact fun _ _ _ _ _ _ us hl => match us, hl with | [_, _], _ => rfl)))
    (case iln => (refine' Wv.in_mk ?i ?l ?c ?k ?b; (case i => k_is); (case l => k_is); (case c => k_is); (case k => k_is); (case b => exact fun _ _ _ _ _ _ us hl => match us, hl with | [_], _ => rfl)))
    (case f1 => k_is)
    (case j1 => (refine' Wv.in_mk ?i ?l ?c ?k ?b; (case i => k_is); (case l => k_is); (case c => k_is); (case k => k_is); (case b => exact fun _ _ _ _ _ _ us hl => match us, hl with | [_, _], _ => rfl)))
    (case f2 => k_is)
    (case j2 => (refine' Wv.in_mk ?i ?l ?c ?k ?b; (case i => k_is); (case l => k_is); (case c => k_is); (case k => k_is); (case b => exact fun _ _ _ _ _ _ us hl => match us, hl with | [_, _], _ => rfl)))
    (case f3 => k_is)
    (case j3 => (refine' Wv.in_mk ?i ?l ?c ?k ?b; (case i => k_is); (case l => k_is); (case c => k_is); (case k => k_is); (case b => exact fun _ _ _ _ _ _ us hl => match us, hl with | [_, _], _ => rfl)))
    (case f4 => k_is)
    (case j4 => (refine' Wv.in_mk ?i ?l ?c ?k ?b; (case i => k_is); (case l => k_is); (case c => k_is); (case k => k_is); (case b => exact fun _ _ _ _ _ _ us hl => match us, hl with | [_, _], _ => rfl)))
    (case f5 => k_is)
    (case j5 => (refine' Wv.in_mk ?i ?l ?c ?k ?b; (case i => k_is); (case l => k_is); (case c => k_is); (case k => k_is); (case b => exact fun _ _ _ _ _ _ us hl => match us, hl with | [_, _], _ => rfl)))
    (case f6 => k_is)
    (case j6 => (refine' Wv.in_mk ?i ?l ?c ?k ?b; (case i => k_is); (case l => k_is); (case c => k_is); (case k => k_is); (case b => exact fun _ _ _ _ _ _ us hl => match us, hl with | [_, _], _ => rfl)))
    (case f7 => k_is)
    (case j7 => (refine' Wv.in_mk ?i ?l ?c ?k ?b; (case i => k_is); (case l => k_is); (case c => k_is); (case k => k_is); (case b => exact fun _ _ _ _ _ _ us hl => match us, hl with | [_, _], _ => rfl)))
    (case f8 => k_is)
    (case j8 => (refine' Wv.in_mk ?i ?l ?c ?k ?b; (case i => k_is); (case l => k_is); (case c => k_is); (case k => k_is); (case b => exact fun _ _ _ _ _ _ us hl => match us, hl with | [_, _], _ => rfl)))
    (case f9 => k_is)
    (case j9 => (refine' Wv.in_mk ?i ?l ?c ?k ?b; (case i => k_is); (case l => k_is); (case c => k_is); (case k => k_is); (case b => exact fun _ _ _ _ _ _ us hl => match us, hl with | [_], _ => rfl)))
    (case f10 => k_is)
    (case j10 => (refine' Wv.in_mk ?i ?l ?c ?k ?b; (case i => k_is); (case l => k_is); (case c => k_is); (case k => k_is); (case b => exact fun _ _ _ _ _ _ us hl => match us, hl with | [_], _ => rfl)))
    (case fM => (refine' Wv.mk0_mk KX G ?a ?mk ?f ?kc; (case a => k_is); (case mk => k_is); (case f => k_is); (case kc => k_is)))
    (case k1 => (refine' Wv.here_mk KX G ?a ?l ?c ?k ?b; (case a => k_is); (case l => k_is); (case c => k_is); (case k => k_is); (case b => exact fun _ _ _ _ _ _ us hl => match us, hl with | [_], _ => rfl)))
    (case k2 => (refine' Wv.here_mk KX G ?a ?l ?c ?k ?b; (case a => k_is); (case l => k_is); (case c => k_is); (case k => k_is); (case b => exact fun _ _ _ _ _ _ us hl => match us, hl with | [_], _ => rfl)))
    (case T => (refine' Bo.bkt_mk KX G ?a ?pg ?hd ?po ?sa ?r1 ?r2 ?r3 ?mk ?kc ?ha ?cc ?ty ?sl ?nl ?mo; (case a => k_is); (case pg => k_is); (case hd => k_is); (case po => k_is); (case sa => k_is); (case r1 => k_is); (case r2 => k_is); (case r3 => k_is); (case mk => k_is); (case kc => k_is); (case ha => k_is); (case cc => k_is); (case ty => k_is); (case sl => k_is); (case nl => k_is); (case mo => k_is)))
    (case m0 => (refine' Bo.cm_mk ?a (Wv.in_mk ?i ?l ?c ?k ?b); (case a => k_is); (case i => k_is); (case l => k_is); (case c => k_is); (case k => k_is); (case b => exact fun _ _ _ _ _ _ us hl => match us, hl with | [_, _], _ => rfl)))
    (case m1 => (refine' Bo.cm_mk ?a (Wv.in_mk ?i ?l ?c ?k ?b); (case a => k_is); (case i => k_is); (case l => k_is); (case c => k_is); (case k => k_is); (case b => exact fun _ _ _ _ _ _ us hl => match us, hl with | [_, _, _], _ => rfl)))
    (case m2 => (refine' Bo.cm_mk ?a (Wv.in_mk ?i ?l ?c ?k ?b); (case a => k_is); (case i => k_is); (case l => k_is); (case c => k_is); (case k => k_is); (case b => exact fun _ _ _ _ _ _ us hl => match us, hl with | [_], _ => rfl)))
    (case m3 => (refine' Bo.cm_mk ?a (Wv.in_mk ?i ?l ?c ?k ?b); (case a => k_is); (case i => k_is); (case l => k_is); (case c => k_is); (case k => k_is); (case b => exact fun _ _ _ _ _ _ us hl => match us, hl with | [_, _], _ => rfl)))
    (case m4 => (refine' Bo.cm_mk ?a (Wv.in_mk ?i ?l ?c ?k ?b); (case a => k_is); (case i => k_is); (case l => k_is); (case c => k_is); (case k => k_is); (case b => exact fun _ _ _ _ _ _ us hl => match us, hl with | [_, _], _ => rfl)))
    (case m5 => (refine' Bo.cm_mk ?a (Wv.in_mk ?i ?l ?c ?k ?b); (case a => k_is); (case i => k_is); (case l => k_is); (case c => k_is); (case k => k_is); (case b => exact fun _ _ _ _ _ _ us hl => match us, hl with | [_, _], _ => rfl)))
    (case m6 => (refine' Bo.cm_mk ?a (Wv.in_mk ?i ?l ?c ?k ?b); (case a => k_is); (case i => k_is); (case l => k_is); (case c => k_is); (case k => k_is); (case b => exact fun _ _ _ _ _ _ us hl => match us, hl with | [_], _ => rfl)))
    (case m7 => (refine' Bo.cm_mk ?a (Wv.in_mk ?i ?l ?c ?k ?b); (case a => k_is); (case i => k_is); (case l => k_is); (case c => k_is); (case k => k_is); (case b => exact fun _ _ _ _ _ _ us hl => match us, hl with | [_, _], _ => rfl)))
    (case D => (refine' Bo.met_mk KX G ?a ?b ?o1 ?o2 ?o3 ?o4 ?p1 ?p2 ?p3 ?p4 ?no ?nw ?ty ?tt ?s1 ?s2 ?s3; (case a => k_is); (case b => k_is); (case o1 => k_is); (case o2 => k_is); (case o3 => k_is); (case o4 => k_is); (case p1 => k_is); (case p2 => k_is); (case p3 => k_is); (case p4 => k_is); (case no => k_is); (case nw => k_is); (case ty => k_is); (case tt => k_is); (case s1 => k_is); (case s2 => k_is); (case s3 => k_is)))
    (case x1 => (refine' Bo.oex_mk ?ol ?om ?os ?oe ?ot ?ok; (case ol => k_is); (case om => exact rfl); (case os => k_is); (case oe => k_is); (case ot => k_is); (case ok => k_is)))
    (case x2 => (refine' Bo.oex_mk ?ol ?om ?os ?oe ?ot ?ok; (case ol => k_is); (case om => exact rfl); (case os => k_is); (case oe => k_is); (case ot => k_is); (case ok => k_is)))
    (case m8 => (refine' Bo.cm_mk ?a (Wv.in_mk ?i ?l ?c ?k ?b); (case a => k_is); (case i => k_is); (case l => k_is); (case c => k_is); (case k => k_is); (case b => exact fun _ _ _ _ _ _ us hl => match us, hl with | [_, _], _ => rfl)))
    (case m9 => (refine' Bo.cm_mk ?a (Wv.in_mk ?i ?l ?c ?k ?b); (case a => k_is); (case i => k_is); (case l => k_is); (case c => k_is); (case k => k_is); (case b => exact fun _ _ _ _ _ _ us hl => match us, hl with | [_, _], _ => rfl)))
    (case B => (refine' Wv.bs_mk KX G ?z1 ?z2 ?z3 ?z4 ?z5 ?z6 ?z7 ?z8 ?z9 ?z10 ?z11 ?z12 ?z13; (case z1 => k_is); (case z2 => k_is); (case z3 => k_is); (case z4 => k_is); (case z5 => k_is); (case z6 => k_is); (case z7 => k_is); (case z8 => k_is); (case z9 => k_is); (case z10 => k_is); (case z11 => k_is); (case z12 => k_is); (case z13 => k_is)))
    (case bD => k_is)
    (case bI => k_is)
    (case C => (refine' Wv.kc_mk KX G ?z0 ?z1 ?z2 ?z3 ?z4 ?z5 ?z6 ?z7 ?z8 ?z9; (case z0 => k_is); (case z1 => k_is); (case z2 => k_is); (case z3 => k_is); (case z4 => k_is); (case z5 => k_is); (case z6 => k_is); (case z7 => k_is); (case z8 => k_is); (case z9 => k_is)))
    (case cM => k_is)
    (case h1 => (refine' Wv.here_mk KX G ?a ?l ?c ?k ?b; (case a => k_is); (case l => k_is); (case c => k_is); (case k => k_is); (case b => exact fun _ _ _ _ _ _ us hl => match us, hl with | [_], _ => rfl)))
    (case h2 => (refine' Wv.here_mk KX G ?a ?l ?c ?k ?b; (case a => k_is); (case l => k_is); (case c => k_is); (case k => k_is); (case b => exact fun _ _ _ _ _ _ us hl => match us, hl with | [_], _ => rfl)))
    (case h3 => (refine' Wv.here_mk KX G ?a ?l ?c ?k ?b; (case a => k_is); (case l => k_is); (case c => k_is); (case k => k_is); (case b => exact fun _ _ _ _ _ _ us hl => match us, hl with | [_], _ => rfl)))
    (case h4 => (refine' Wv.here_mk KX G ?a ?l ?c ?k ?b; (case a => k_is); (case l => k_is); (case c => k_is); (case k => k_is); (case b => exact fun _ _ _ _ _ _ us hl => match us, hl with | [_], _ => rfl)))
    (case h5 => (refine' Wv.here_mk KX G ?a ?l ?c ?k ?b; (case a => k_is); (case l => k_is); (case c => k_is); (case k => k_is); (case b => exact fun _ _ _ _ _ _ us hl => match us, hl with | [_, _], _ => rfl)))
    (case h6 => (refine' Wv.here_mk KX G ?a ?l ?c ?k ?b; (case a => k_is); (case l => k_is); (case c => k_is); (case k => k_is); (case b => exact fun _ _ _ _ _ _ us hl => match us, hl with | [_, _, _], _ => rfl)))
    (case h7 => (refine' Wv.here_mk KX G ?a ?l ?c ?k ?b; (case a => k_is); (case l => k_is); (case c => k_is); (case k => k_is); (case b => exact fun _ _ _ _ _ _ us hl => match us, hl with | [_, _], _ => rfl)))
    (case g1 => (refine' Wv.here_mk KX G ?a ?l ?c ?k ?b; (case a => k_is); (case l => k_is); (case c => k_is); (case k => k_is); (case b => exact fun _ _ _ _ _ _ us hl => match us, hl with | [_], _ => rfl)))
    (case g2 => (refine' Wv.here_mk KX G ?a ?l ?c ?k ?b; (case a => k_is); (case l => k_is); (case c => k_is); (case k => k_is); (case b => exact fun _ _ _ _ _ _ us hl => match us, hl with | [_, _], _ => rfl)))
    (case g3 => (refine' Wv.here_mk KX G ?a ?l ?c ?k ?b; (case a => k_is); (case l => k_is); (case c => k_is); (case k => k_is); (case b => exact fun _ _ _ _ _ _ us hl => match us, hl with | [_, _], _ => rfl)))
    (case g4 => (refine' Wv.here_mk KX G ?a ?l ?c ?k ?b; (case a => k_is); (case l => k_is); (case c => k_is); (case k => k_is); (case b => exact fun _ _ _ _ _ _ us hl => match us, hl with | [_, _], _ => rfl)))
    (case g5 => (refine' Wv.here_mk KX G ?a ?l ?c ?k ?b; (case a => k_is); (case l => k_is); (case c => k_is); (case k => k_is); (case b => exact fun _ _ _ _ _ _ us hl => match us, hl with | [_, _], _ => rfl)))
    (case g6 => (refine' Wv.here_mk KX G ?a ?l ?c ?k ?b; (case a => k_is); (case l => k_is); (case c => k_is); (case k => k_is); (case b => exact fun _ _ _ _ _ _ us hl => match us, hl with | [_, _, _], _ => rfl)))
    (case g7 => (refine' Wv.here_mk KX G ?a ?l ?c ?k ?b; (case a => k_is); (case l => k_is); (case c => k_is); (case k => k_is); (case b => exact fun _ _ _ _ _ _ us hl => match us, hl with | [_, _, _], _ => rfl)))
    (case g8 => (refine' Wv.here_mk KX G ?a ?l ?c ?k ?b; (case a => k_is); (case l => k_is); (case c => k_is); (case k => k_is); (case b => exact fun _ _ _ _ _ _ us hl => match us, hl with | [_], _ => rfl)))
    (case g9 => (refine' Wv.here_mk KX G ?a ?l ?c ?k ?b; (case a => k_is); (case l => k_is); (case c => k_is); (case k => k_is); (case b => exact fun _ _ _ _ _ _ us hl => match us, hl with | [_], _ => rfl)))
    (case g12 => (refine' Wv.here_mk KX G ?a ?l ?c ?k ?b; (case a => k_is); (case l => k_is); (case c => k_is); (case k => k_is); (case b => exact fun _ _ _ _ _ _ us hl => match us, hl with | [_], _ => rfl)))
    (case g13 => (refine' Wv.here_mk KX G ?a ?l ?c ?k ?b; (case a => k_is); (case l => k_is); (case c => k_is); (case k => k_is); (case b => exact fun _ _ _ _ _ _ us hl => match us, hl with | [_, _, _], _ => rfl)))
    (case g14 => (refine' Wv.here_mk KX G ?a ?l ?c ?k ?b; (case a => k_is); (case l => k_is); (case c => k_is); (case k => k_is); (case b => exact fun _ _ _ _ _ _ us hl => match us, hl with | [_, _, _], _ => rfl)))
    (case g15 => (refine' Wv.here_mk KX G ?a ?l ?c ?k ?b; (case a => k_is); (case l => k_is); (case c => k_is); (case k => k_is); (case b => exact fun _ _ _ _ _ _ us hl => match us, hl with | [_, _], _ => rfl)))
    (case g16 => (refine' Wv.here_mk KX G ?a ?l ?c ?k ?b; (case a => k_is); (case l => k_is); (case c => k_is); (case k => k_is); (case b => exact fun _ _ _ _ _ _ us hl => match us, hl with | [_], _ => rfl)))
    (case g17 => (refine' Wv.here_mk KX G ?a ?l ?c ?k ?b; (case a => k_is); (case l => k_is); (case c => k_is); (case k => k_is); (case b => exact fun _ _ _ _ _ _ us hl => match us, hl with | [_], _ => rfl)))
    (case g18 => (refine' Wv.here_mk KX G ?a ?l ?c ?k ?b; (case a => k_is); (case l => k_is); (case c => k_is); (case k => k_is); (case b => exact fun _ _ _ _ _ _ us hl => match us, hl with | [_, _], _ => rfl)))
    (case y1 => (refine' Bo.herec_mk KX G ?a ?l ?c ?k ?b; (case a => k_is); (case l => k_is); (case c => k_is); (case k => k_is); (case b => exact fun _ _ _ _ _ _ us hl => match us, hl with | [_, _], _ => rfl)))
    (case y2 => (refine' Bo.herec_mk KX G ?a ?l ?c ?k ?b; (case a => k_is); (case l => k_is); (case c => k_is); (case k => k_is); (case b => exact fun _ _ _ _ _ _ us hl => match us, hl with | [_], _ => rfl)))
    (case v1 => (refine' Bo.tabp_mk ?l ?e; (case l => k_is); (case e => exact rfl)))
    (case v2 => (refine' Bo.tabp_mk ?l ?e; (case l => k_is); (case e => exact rfl)))
    (case hP => decide)
    (case yz1 => kernel_rfl)
    (case yz2 => kernel_rfl)
    (case yn1 => kernel_rfl)
    (case yn2 => kernel_rfl)
    (case yw1 => exact hT _ (by k_mem))
    (case yw2 => exact hT _ (by k_mem)))
