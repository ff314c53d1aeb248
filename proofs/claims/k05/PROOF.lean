import PyProof.Rows.All
import Wide.All
import OpenK.AllK
import Wide.FinOn
import HandS.ForMost
import HandS.IsInst
import HandS.Style
import HandS.RevRange
import HandS.OwnEq
import HandS.SortKw
import KE.DataMinMax
import HandS.Deep
import HandS.Zip
import HandS.ListItems
import KE.KDictZip
import KE.KCallOwn
import HandS.ForExc
import HandS.ExcInit
import HandS.ExcField
import HandS.ExcIs
import HandS.WordsExc
import KE.KExcIs
import HandS.Star
import HandS.ClsMeth
import PySem.Challenge.RW_waystaken_k05_wrong_texts_of_ways
set_option Elab.async false
set_option linter.all false
set_option maxRecDepth 100000
set_option maxHeartbeats 4000000
namespace Wv
open PySem PySem.Spec PyProof.Rows L2
/-! ### a def of the module, called by its name -/
section
variable {P : Program} {w : World} {K : PySem.W.Frag} {mg : Str → Option Value} {base : Heap}
structure DefOk (P : Program) (w : World) (K : PySem.W.Frag) (mg : Str → Option Value) (base : Heap) (k : Nat) (x : Str) (ps : List Str) (sp : Sp) : Prop where
  ex : ∃ (f : Addr) (fd : FuncData), mg x = some (.ref f) ∧ PySem.W.keepIn K (.ref f) = true ∧ Binds K fd ps [] ∧ FnOk P w K mg base CX0 k f fd ps sp
theorem DefOk.mono {j k : Nat} {x : Str} {ps : List Str} {sp : Sp} (h : DefOk P w K mg base j x ps sp) (q : j ≤ k) : DefOk P w K mg base k x ps sp := by
  obtain ⟨f, fd, a, b, c, d⟩ := h.ex
  exact ⟨f, fd, a, b, c, d.mono q⟩
/-- the def as the top left it -/
structure Here (K : PySem.W.Frag) (mg : Str → Option Value) (x : Str) (st : Stmt) (ps : List Str) : Prop where
  ex : ∃ (f : Addr) (fd : FuncData), Fun K x x st f fd ∧ mg x = some (.ref f) ∧ Binds K fd ps []
theorem Here.ok {x : Str} {st : Stmt} {N ps : List Str} {k : Nat} {sp : Sp} (h : Here K mg x st ps) (S : FnScope N ps (defScope st)) (len : ∀ vs H Q E, sp vs H Q E → vs.length = ps.length)
    (hbody : ∀ (f : Addr) (cdv : Value) (A : Around) (outer : List Env) (s : Shared) (H : Hp) (vs : List V) (Q : VK) (E : XK), Room k (A.deeper (envOfC x (defScope st) s.heap.objs.size f cdv)) → sp vs H Q E →
      ∃ t, PSs (cxOf CX0 P w K mg base N x (defScope st) f cdv A outer s H E).nox (defBody st) t ∧ t { nx := fun _ H' => Q .non H', rt := Q } (start N vs) H) : DefOk P w K mg base (k + 1) x ps sp := by
  obtain ⟨f, fd, F, m, b⟩ := h.ex
  exact ⟨f, fd, m, F.kp, b, F.ok S len fun cdv A outer s H vs Q E hr q => hbody f cdv A outer s H vs Q E hr q⟩
end
section
variable {X : Cx} {k : Nat} {x : Str} {ps : List Str} {sp : Sp} {e : Expr} {es : List Expr} {t : TA} {p pos : Pos}
theorem pe_callD (G : DefOk X.prog X.w X.K X.mg X.base k x ps sp) (hr : Room k X.A) (hg : Gl X x) (ha : PA X (e :: es) t) (hdb : (x == ("__debug__" : Str)) = false := by decide)
    (he : starEach (e :: es) X.env = (false, eval e X.env) :: starEach es X.env := by rfl) (hpl : (backTo pos (starEach es X.env)).any (·.1) = false := by rfl) :
    PE X (.Call (.Name x p) (e :: es) [] pos) (tCall sp [] E0 t) := by
  obtain ⟨f, fd, m, kp, b, F⟩ := G.ex
  exact pe_call F hr hg m kp b .nil pass0 ha hdb he hpl
theorem pe_callD0 (G : DefOk X.prog X.w X.K X.mg X.base k x ps sp) (hr : Room k X.A) (hg : Gl X x) (hdb : (x == ("__debug__" : Str)) = false := by decide) :
    PE X (.Call (.Name x p) [] [] pos) (tCall sp [] E0 tNil) := by
  obtain ⟨f, fd, m, kp, b, F⟩ := G.ex
  exact pe_call0 F hr hg m kp b .nil pass0 hdb
end
/-! ### a class of the module, made by its name -/
structure ClsOk (P : Program) (w : World) (K : PySem.W.Frag) (mg : Str → Option Value) (base : Heap) (k : Nat) (x : Str) (C : Addr) (ps : List Str) (sp : Sp) : Prop where
  ex : ∃ (f : Addr) (fd : FuncData), mg x = some (.ref C) ∧ Mk K C f ∧ Binds K fd ps [] ∧ FnOk P w K mg base CX0 k f fd ps sp
section
variable {X : Cx} {k : Nat} {x : Str} {C : Addr} {ps : List Str} {sp : Sp} {e : Expr} {es : List Expr} {t : TA} {p pos : Pos}
theorem pe_makeD (G : ClsOk X.prog X.w X.K X.mg X.base k x C ps sp) (hr : Room (k + 1) X.A) (hg : Gl X x) (ha : PA X (e :: es) t) (hdb : (x == ("__debug__" : Str)) = false := by decide)
    (he : starEach (e :: es) X.env = (false, eval e X.env) :: starEach es X.env := by rfl) (hpl : (backTo pos (starEach es X.env)).any (·.1) = false := by rfl) :
    PE X (.Call (.Name x p) (e :: es) [] pos) (tMake C sp [] E0 t) := by
  obtain ⟨f, fd, m, M, b, F⟩ := G.ex
  exact pe_make M F hr hg m b .nil pass0 ha hdb he hpl
theorem pe_makeD0 (G : ClsOk X.prog X.w X.K X.mg X.base k x C ps sp) (hr : Room (k + 1) X.A) (hg : Gl X x) (hdb : (x == ("__debug__" : Str)) = false := by decide) :
    PE X (.Call (.Name x p) [] [] pos) (tMake C sp [] E0 tNil) := by
  obtain ⟨f, fd, m, M, b, F⟩ := G.ex
  exact pe_make0 M F hr hg m b .nil pass0 hdb
end
/-! ### a class of the module without an __init__ of its own -/
structure Mk0 (K : PySem.W.Frag) (mg : Str → Option Value) (x : Str) (C : Addr) : Prop where
  m : mg x = some (.ref C)
  makes : PySem.W.makesIn K C = true
  init : PySem.W.findIn K (.ref C) "__init__" = some (some (.builtin "object.__init__"))
  kp : PySem.W.keepIn K (.ref C) = true
def tMake0 (C : Addr) : TE := fun _ H Q => ∀ x dx, H x = none → H dx = none → dx ≠ x → Q (.ref x) (upd (upd H dx (.own x)) x (.ins C dx []))
section
open PySem.W
variable {X : Cx} {C : Addr} {x : Str} {p pos : Pos}
theorem make0_raw {prog : Program} {w : World} {A : Around} {K : Frag} {C : Addr} {s : Shared} {R : Result → Shared → Prop} (X : K.In s.heap) (hm : makesIn K C = true) (hi : findIn K (.ref C) "__init__" = some (some (.builtin "object.__init__")))
    (z : R (.ok (.ret (.ref (s.heap.objs.size + 1)))) { s with heap := (s.heap.push emptyDict).push (instObj C s.heap.objs.size) }) :
    codeAny (model prog w) A (.call (.ref C) ⟨[], []⟩) R s := by
  obtain ⟨hh, g, d, t, os⟩ := s
  have Y := makes_of (M := model prog w) X hm
  have hx : ((hh.push emptyDict).push (instObj C hh.objs.size)).get? (hh.objs.size + 1) = some (instObj C hh.objs.size) := by heap_get
  refine make_core Y (looks_findIn X hi) (fun self => Looks.of_pure (oi_bind self)) (.inr ⟨rfl, rfl⟩) ?_
  have t1 : Looks (model prog w) ((hh.push emptyDict).push (instObj C hh.objs.size)) (typeOf (.ref (hh.objs.size + 1))) (.ref C) := (Looks.ld hx).andThen .now
  have t2 : Looks (model prog w) ((hh.push emptyDict).push (instObj C hh.objs.size)) (isInstance (.ref (hh.objs.size + 1)) (.type "object")) true := t1.andThen (Y.top.keeps fun b o e => Heap.get?_push_of_some _ (Heap.get?_push_of_some _ e))
  refine codeAny_call_builtin oi_plain entry_oi (@check_slot (model prog w) _ _ _ "object.__init__" "object" "__init__" (.ref (hh.objs.size + 1)) [] [] _ oi_kind oi_split t2 (oi_args (.ref (hh.objs.size + 1))) ?_)
  rw [oi_run]
  exact wpAny_pure (And.intro rfl z)
theorem pe_make00 (M : Mk0 X.K X.mg x C) (hg : Gl X x) (hdb : (x == ("__debug__" : Str)) = false := by decide) : PE X (.Call (.Name x p) [] [] pos) (tMake0 C) := by
  refine ⟨fun pins s σ H Q I h => ?_⟩
  refine wpAny_Call_Name_kw (ld_glob I hg M.m ?_ hdb)
  refine PySem.W.callWith_K0 I.kIn M.kp ?_
  have hq := h (s.heap.objs.size + 1) s.heap.objs.size (I.hok.fresh (Nat.le_succ _)) (I.hok.fresh (Nat.le_refl _)) (Nat.ne_of_lt (Nat.lt_succ_self _))
  have I2 := Inv.made (C := C) I
  exact wpAny_call (make0_raw I.kIn M.makes M.init ⟨.ref _, _, I2, rfl, hq⟩)
end
/-- the built-ins' names that the text leaves as they are -/
structure Bs (mg : Str → Option Value) : Prop where
  len : mg "len" = none
  int : mg "int" = none
  list : mg "list" = none
  range : mg "range" = none
  min : mg "min" = none
  tuple : mg "tuple" = none
  isinstance : mg "isinstance" = none
  zip : mg "zip" = none
  sum : mg "sum" = none
  max : mg "max" = none
  reversed : mg "reversed" = none
  enumerate : mg "enumerate" = none
  repr : mg "repr" = none
/-! ### a part of a reading by itself: what it gives, whatever follows -/
theorem withQ {E : TE} {σ : L2.St} {H : Hp} {Q : VK} (C : V → Hp → Prop) (h : ∀ Q' : VK, (∀ x H', C x H' → Q' x H') → E σ H Q') (g : ∀ x H', C x H' → Q x H') : E σ H Q := h Q g
theorem withB {E : TT} {σ : L2.St} {H : Hp} {Q : Bool → Hp → Prop} (C : Bool → Hp → Prop) (h : ∀ Q' : Bool → Hp → Prop, (∀ x H', C x H' → Q' x H') → E σ H Q') (g : ∀ x H', C x H' → Q x H') : E σ H Q := h Q g
theorem gset {i : Nat} {x : V} {σ : L2.St} {H : Hp} {Q : L2.St → Hp → Prop} (h : Q (σ.set i (some x)) H) : gName i x σ H Q := h
theorem st_seq {t u : TS} {D : Ends} {σ : L2.St} {H : Hp} (h : t { D with nx := u D } σ H) : tSeq t u D σ H := h
theorem st_asg {te : TE} {g : TG} {D : Ends} {σ : L2.St} {H : Hp} (h : te σ H fun x H1 => g x σ H1 D.nx) : tAsg te g D σ H := h
theorem st_next {D : Ends} {σ : L2.St} {H : Hp} (h : D.nx σ H) : tNext D σ H := h
theorem st_drop {te : TE} {D : Ends} {σ : L2.St} {H : Hp} (h : te σ H fun _ H1 => D.nx σ H1) : tDrop te D σ H := h
theorem st_ret {te : TE} {D : Ends} {σ : L2.St} {H : Hp} (h : te σ H D.rt) : tRet te D σ H := h
/-! ### heaps: all but the dicts stay -/
/-- the dict of a pen -/
def Penny (kvs : List (Key × V)) : Prop := ∃ v r, kvs = (.inr (Str.ofString "cells"), v) :: r
/-- one dict of a pen instead of another -/
def Moves (o : HO) (u : Option HO) : Prop := ∃ kvs kvs', (o = .dK kvs ∧ u = some (.dK kvs')) ∧ Penny kvs ∧ Penny kvs'
def Keep (H H' : Hp) : Prop := ∀ b o, H b = some o → H' b = some o ∨ Moves o (H' b)
theorem Keep.refl (H : Hp) : Keep H H := fun _ _ h => .inl h
theorem Keep.trans {H H1 H2 : Hp} (a : Keep H H1) (b : Keep H1 H2) : Keep H H2 := fun c o h => by
  rcases a c o h with h1 | ⟨k1, k2, ⟨e, h1⟩, p1, p2⟩
  · exact b c o h1
  · rcases b c _ h1 with h2 | ⟨k3, k4, ⟨e2, h2⟩, _, p4⟩
    · exact .inr ⟨k1, k2, ⟨e, h2⟩, p1, p2⟩
    · exact .inr ⟨k1, k4, ⟨e, h2⟩, p1, p4⟩
theorem Keep.of {H H' : Hp} (s : Same H H') : Keep H H' := fun b o h => .inl (s b o h)
theorem Keep.at_ {H H' : Hp} {a : Addr} {o : HO} (k : Keep H H') (h : H a = some o) (n : ∀ kvs, o ≠ .dK kvs) : H' a = some o := by
  rcases k a o h with q | ⟨k1, _, ⟨e, _⟩, _⟩
  · exact q
  · exact absurd e (n k1)
theorem Keep.dict {H H' : Hp} {a : Addr} {kvs : List (Key × V)} (k : Keep H H') (h : H a = some (.dK kvs)) (n : ¬ Penny kvs) : H' a = some (.dK kvs) := by
  rcases k a _ h with q | ⟨k1, _, ⟨e, _⟩, p, _⟩
  · exact q
  · cases e
    exact absurd p n
theorem Keep.free {H H' : Hp} {a : Addr} (k : Keep H H') (h : H' a = none) : H a = none := by
  cases e : H a with
  | none => rfl
  | some o =>
    rcases k a o e with q | ⟨_, _, ⟨_, q⟩, _⟩
    · rw [h] at q; cases q
    · rw [h] at q; cases q
theorem Keep.lst {H H' : Hp} {a : Addr} {xs : List V} (k : Keep H H') (h : H a = some (.lst xs)) : H' a = some (.lst xs) := k.at_ h (fun _ z => by cases z)
theorem Keep.tup {H H' : Hp} {a : Addr} {xs : List V} (k : Keep H H') (h : H a = some (.tup xs)) : H' a = some (.tup xs) := k.at_ h (fun _ z => by cases z)
theorem Keep.ins {H H' : Hp} {a C d : Addr} {fs : List (Str × V)} (k : Keep H H') (h : H a = some (.ins C d fs)) : H' a = some (.ins C d fs) := k.at_ h (fun _ z => by cases z)
theorem Keep.seq {K : PySem.W.Frag} {H H' : Hp} {a : Addr} {xs : List V} (k : Keep H H') (h : SqL K H a xs) : SqL K H' a xs := by
  rcases h with (h | ⟨o, h⟩) | h
  · exact .inl (.inl (k.lst h))
  · exact .inl (.inr ⟨o, k.at_ h (fun _ z => by cases z)⟩)
  · exact .inr h
theorem Keep.seqT {K : PySem.W.Frag} {H H' : Hp} {a : Addr} {xs : List V} (k : Keep H H') (h : SqT K H a xs) : SqT K H' a xs := by
  rcases h with (h | ⟨o, h⟩) | h
  · exact .inl (.inl (k.tup h))
  · exact .inl (.inr ⟨o, k.at_ h (fun _ z => by cases z)⟩)
  · exact .inr h
theorem Same.new {H : Hp} {p : Addr} (h : H p = none) (o : HO) : Same H (upd H p o) := fun b u q => by rw [upd_ne (ne_of_none q h)]; exact q
theorem Same.put {H H' : Hp} {p : Addr} (h : H p = none) (s : Same H H') (o : HO) : Same H (upd H' p o) := fun b u q => by rw [upd_ne (ne_of_none q h)]; exact s b u q
theorem Keep.new {H : Hp} {p : Addr} (h : H p = none) (o : HO) : Keep H (upd H p o) := .of (Same.new h o)
theorem Keep.put {H H' : Hp} {p : Addr} (h : H p = none) (s : Keep H H') (o : HO) : Keep H (upd H' p o) := fun b u q => by rw [upd_ne (ne_of_none q h)]; exact s b u q
/-! ### what is new in a heap -/
def newer (H H' : Hp) : Hp := fun a => if (H a).isSome = true then none else H' a
theorem newer_at {H H' : Hp} {a : Addr} (h : H a = none) : newer H H' a = H' a := by unfold newer; rw [h]; exact if_neg (by decide)
theorem newer_old {H H' : Hp} {a : Addr} {o : HO} (h : H a = some o) : newer H H' a = none := by unfold newer; rw [h]; exact if_pos rfl
theorem newer_of {H H' : Hp} {a : Addr} {o : HO} (h : newer H H' a = some o) : H a = none ∧ H' a = some o := by
  cases e : H a with
  | none => rw [newer_at e] at h; exact ⟨rfl, h⟩
  | some u => rw [newer_old e] at h; cases h
theorem newer_le {H H' : Hp} : Keep (newer H H') H' := fun _ _ h => .inl (newer_of h).2
theorem newer_up {H H' H'' : Hp} (k : Keep H' H'') : Keep (newer H H') (newer H H'') := fun a o h => by
  obtain ⟨h1, h2⟩ := newer_of h
  rw [newer_at h1]
  exact k a o h2
theorem newer_down {H H0 H' : Hp} (k : Keep H H0) : Keep (newer H0 H') (newer H H') := fun a o h => by
  obtain ⟨h1, h2⟩ := newer_of h
  rw [newer_at (k.free h1)]
  exact .inl h2
def Sub (H H' : Hp) : Prop := ∀ a, H' a = none → H a = none
theorem Keep.sub {H H' : Hp} (k : Keep H H') : Sub H H' := fun _ h => k.free h
theorem Sub.trans {H H1 H2 : Hp} (a : Sub H H1) (b : Sub H1 H2) : Sub H H2 := fun c h => a c (b c h)
theorem Sub.put {H H' : Hp} (s : Sub H H') (p : Addr) (o : HO) : Sub H (upd H' p o) := fun a h => by
  by_cases e : a = p
  · rw [e, upd_same] at h; cases h
  · rw [upd_ne e] at h; exact s a h
theorem newer_sub {H H0 H' : Hp} (k : Sub H H0) : Keep (newer H0 H') (newer H H') := fun a o h => by
  obtain ⟨h1, h2⟩ := newer_of h
  rw [newer_at (k a h1)]
  exact .inl h2
theorem newer_put {H H' : Hp} {p : Addr} {o u : HO} (h : H p = some u) : newer H (upd H' p o) = newer H H' := by
  funext a
  unfold newer
  by_cases e : a = p
  · rw [e, h]; rfl
  · rw [upd_ne e]
/-! ### arithmetic -/
theorem fmod_in (x : Int) {m : Int} (h : 0 < m) : 0 ≤ x.fmod m ∧ x.fmod m < m := ⟨Int.fmod_nonneg_of_pos x h, Int.fmod_lt_of_pos x h⟩
theorem small' {n : Nat} (h : n ≤ 1000000) : n < sizeLine := Nat.lt_of_le_of_lt h (by decide)
theorem atI_of {xs : List V} {i : Int} (h0 : 0 ≤ i) (h1 : i < (xs.length : Int)) : ∃ v, xs[i.toNat]? = some v ∧ atI xs i = some v := by
  have hk : i.toNat < xs.length := by omega
  have ek : i = ((i.toNat : Nat) : Int) := by omega
  refine ⟨xs[i.toNat], List.getElem?_eq_getElem hk, ?_⟩
  have q : atI xs ((i.toNat : Nat) : Int) = some xs[i.toNat] := atI_nat (List.getElem?_eq_getElem hk)
  rw [← ek] at q
  exact q
/-- a text of one sign -/
abbrev sg (c : Nat) : Str := ⟨#[c]⟩
/-- a text by its codes -/
def tx (l : List Nat) : Str := ⟨l.toArray⟩
end Wv
local macro_rules | `(tactic| walk_at "rd") => `(tactic| (repeat (first | refine ⟨_, rfl, ?_⟩ | refine ⟨_, _, rfl, rfl, ?_⟩ | refine ⟨rfl, ?_⟩ | refine Or.inl ⟨_, rfl, ?_⟩)))
local macro_rules | `(tactic| walk_at "nx") => `(tactic| (repeat (first | (with_reducible refine Wv.gset ?_) | (with_reducible refine Wv.st_seq ?_) | (with_reducible refine Wv.st_asg ?_) | (with_reducible refine Wv.st_next ?_) | (with_reducible refine Wv.st_drop ?_) | (with_reducible refine Wv.st_ret ?_))))
/-! max([..], default=d) of integers -/
namespace Wv
open PySem PySem.Spec PyProof.Rows L2
/-- the greatest one, d if there is none -/
def mx (d : Int) : List Int → Int
  | [] => d
  | n :: r => r.foldl max n
def rMaxDef (K : PySem.W.Frag) : List V → List V → Hp → VK → Prop := fun xs zs H Q => ∃ (a : Addr) (ns : List Int) (d : Int), xs = [.ref a] ∧ zs = [.int d] ∧ SqL K H a (ns.map V.int) ∧
  Q (.int (mx d ns)) H
theorem ints_alike (ns : List Int) : PySem.W.AlikeAll (ns.map PyData.int) := by
  refine ⟨fun x hx y hy => ?_, fun x hx => ?_⟩
  · obtain ⟨n, _, rfl⟩ := List.mem_map.mp hx
    obtain ⟨m, _, rfl⟩ := List.mem_map.mp hy
    rfl
  · obtain ⟨n, _, rfl⟩ := List.mem_map.mp hx
    intro e; cases e
theorem depth_ints0 : ∀ ns : List Int, PyData.depthAll (ns.map PyData.int) = 0
  | [] => rfl
  | n :: r => by
    rw [List.map_cons, PyData.depthAll, depth_ints0 r]; rfl
theorem cr_maxDef {X : Cx} (hc : X.calm = true) (hu : X.A.units + 1 < cLine) : CallRK X (.builtin "max") [Str.ofString "default"] (rMaxDef X.K) := by
  intro pins s σ H vs zs us ws Q I r1 r2 h
  obtain ⟨a, ns, d, rfl, rfl, hs, q⟩ := h
  obtain ⟨its, rv, hl, _⟩ := I.list hs
  rw [Vals.ref1 r1]
  obtain ⟨u, rfl, ru⟩ := r2.one
  obtain ⟨t, rfl⟩ := ru
  have hi := rv.ints
  obtain ⟨as, hr⟩ : ∃ as, ReadsAll s.heap its (ns.map PyData.int) as := ⟨_, hi.reads s.heap⟩
  show wpAny _ X.A (call (.builtin "max") [.ref a] [(Str.ofString "default", .int d t)]) _ _ s
  refine PySem.W.max_list_default (xs := ns.map PyData.int) (I.ok.hd hc) hl.isList (by simpa using hr) (ints_alike ns) (by rw [depth_ints0]; exact hu) (fun e h' tk hk => ?_) (fun y ys i v h' tk bs e hv hr' hk => ?_)
  · have : ns = [] := by simpa using e
    subst this
    exact ⟨.int d, H, I.kept hk, ⟨_, rfl⟩, q⟩
  · cases ns with
    | nil => cases e
    | cons n r =>
      rw [List.map_cons] at e
      obtain ⟨rfl, rfl⟩ := List.cons.inj e
      rw [PySem.W.maxD_ints] at hr'
      cases hr'
      exact ⟨.int _, H, I.kept hk, ⟨_, rfl⟩, q⟩
/-- an attribute, where K is told by itself -/
theorem pe_fldK {X : Cx} {K : PySem.W.Frag} {e : Expr} {f : Str} {pos : Pos} {ta : TE} (q : X.K = K) (he : PE X e ta) (hb : attributeBase e f X.env (eval e X.env) = eval e X.env) : PE X (.Attribute e f pos) (tFld K ta f) := q ▸ pe_fld he hb
end Wv
namespace Wv
open PySem PySem.Spec PyProof.Rows L2
/-! ### ways as data -/
inductive W where
  | nothing | one | letter (c : Nat) | call (x : Str)
  | row (ws : List W) | choice (ws : List W)
  | again (w : W) | maybe (w : W) | ahead (w : W) | unless (w : W)
mutual
def W.size : W → Nat
  | .nothing => 1 | .one => 1 | .letter _ => 1 | .call _ => 1
  | .row ws => 1 + W.sizes ws | .choice ws => 1 + W.sizes ws
  | .again w => 1 + W.size w | .maybe w => 1 + W.size w | .ahead w => 1 + W.size w | .unless w => 1 + W.size w
def W.sizes : List W → Nat
  | [] => 0
  | w :: ws => W.size w + W.sizes ws
end
theorem W.size_pos (w : W) : 0 < w.size := by cases w <;> simp only [W.size] <;> omega
theorem W.sizes_app : ∀ (a b : List W), W.sizes (a ++ b) = W.sizes a + W.sizes b
  | [], b => by simp [W.sizes]
  | x :: a, b => by simp only [List.cons_append, W.sizes, W.sizes_app a b]; omega
theorem W.sizes_len : ∀ ws : List W, ws.length ≤ W.sizes ws
  | [] => Nat.le_refl _
  | w :: ws => by
    have h := W.sizes_len ws
    have h2 := w.size_pos
    simp only [List.length_cons, W.sizes]
    omega
-- letters among these codes, rows and choices of two or more, no calls
mutual
def W.wf (z : List Nat) : W → Prop
  | .nothing => True | .one => True | .letter c => c ∈ z | .call _ => False
  | .row ws => 2 ≤ ws.length ∧ W.wfs z ws | .choice ws => 2 ≤ ws.length ∧ W.wfs z ws
  | .again w => W.wf z w | .maybe w => W.wf z w | .ahead w => W.wf z w | .unless w => W.wf z w
def W.wfs (z : List Nat) : List W → Prop
  | [] => True
  | w :: ws => W.wf z w ∧ W.wfs z ws
end
theorem W.wfs_app (z : List Nat) : ∀ (a b : List W), W.wfs z (a ++ b) ↔ W.wfs z a ∧ W.wfs z b
  | [], b => by simp [W.wfs]
  | x :: a, b => by simp only [List.cons_append, W.wfs, W.wfs_app z a b, and_assoc]
mutual

def W.data : W → PyData
  | .nothing => .tuple [.str (Str.ofString "nothing")]
  | .one => .tuple [.str (Str.ofString "one")]
  | .letter c => .tuple [.str (Str.ofString "letter"), .str (sg c)]
  | .call x => .tuple [.str (Str.ofString "call"), .str x]
  | .row ws => .tuple [.str (Str.ofString "row"), .list (W.datas ws)]
  | .choice ws => .tuple [.str (Str.ofString "choice"), .list (W.datas ws)]
  | .again w => .tuple [.str (Str.ofString "again"), W.data w]
  | .maybe w => .tuple [.str (Str.ofString "maybe"), W.data w]
  | .ahead w => .tuple [.str (Str.ofString "ahead"), W.data w]
  | .unless w => .tuple [.str (Str.ofString "unless"), W.data w]
def W.datas : List W → List PyData
  | [] => []
  | w :: ws => W.data w :: W.datas ws
end
mutual
theorem W.depth_data : ∀ w : W, (W.data w).depth ≤ 2 * w.size
  | .nothing => by simp only [W.data, W.size, PyData.depth, PyData.depthAll]; omega
  | .one => by simp only [W.data, W.size, PyData.depth, PyData.depthAll]; omega
  | .letter c => by simp only [W.data, W.size, PyData.depth, PyData.depthAll]; omega
  | .call x => by simp only [W.data, W.size, PyData.depth, PyData.depthAll]; omega
  | .row ws => by
    have h := W.depth_datas ws
    simp only [W.data, W.size, PyData.depth, PyData.depthAll]; omega
  | .choice ws => by
    have h := W.depth_datas ws
    simp only [W.data, W.size, PyData.depth, PyData.depthAll]; omega
  | .again w => by
    have h := W.depth_data w
    simp only [W.data, W.size, PyData.depth, PyData.depthAll]; omega
  | .maybe w => by
    have h := W.depth_data w
    simp only [W.data, W.size, PyData.depth, PyData.depthAll]; omega
  | .ahead w => by
    have h := W.depth_data w
    simp only [W.data, W.size, PyData.depth, PyData.depthAll]; omega
  | .unless w => by
    have h := W.depth_data w
    simp only [W.data, W.size, PyData.depth, PyData.depthAll]; omega
theorem W.depth_datas : ∀ ws : List W, PyData.depthAll (W.datas ws) ≤ 2 * W.sizes ws
  | [] => by simp [W.datas, PyData.depthAll]
  | w :: ws => by
    have h := W.depth_data w
    have h2 := W.depth_datas ws
    simp only [W.datas, W.sizes, PyData.depthAll]; omega
end
def W.tag : W → Str
  | .nothing => Str.ofString "nothing"
  | .one => Str.ofString "one"
  | .again _ => Str.ofString "again"
  | .maybe _ => Str.ofString "maybe"
  | .ahead _ => Str.ofString "ahead"
  | .unless _ => Str.ofString "unless"
  | .letter _ => Str.ofString "letter"
  | .call _ => Str.ofString "call"
  | .row _ => Str.ofString "row"
  | .choice _ => Str.ofString "choice"
mutual
def WayAt (H : Hp) : V → W → Prop
  | v, .nothing => ∃ a, v = .ref a ∧ H a = some (.tup [.str (Str.ofString "nothing")])
  | v, .one => ∃ a, v = .ref a ∧ H a = some (.tup [.str (Str.ofString "one")])
  | v, .letter c => ∃ a, v = .ref a ∧ H a = some (.tup [.str (Str.ofString "letter"), .str (sg c)])
  | v, .call x => ∃ a, v = .ref a ∧ H a = some (.tup [.str (Str.ofString "call"), .str x])
  | v, .row ws => ∃ a l vs, v = .ref a ∧ H a = some (.tup [.str (Str.ofString "row"), .ref l]) ∧ H l = some (.lst vs) ∧ WaysAt H vs ws
  | v, .choice ws => ∃ a l vs, v = .ref a ∧ H a = some (.tup [.str (Str.ofString "choice"), .ref l]) ∧ H l = some (.lst vs) ∧ WaysAt H vs ws
  | v, .again w => ∃ a u, v = .ref a ∧ H a = some (.tup [.str (Str.ofString "again"), u]) ∧ WayAt H u w
  | v, .maybe w => ∃ a u, v = .ref a ∧ H a = some (.tup [.str (Str.ofString "maybe"), u]) ∧ WayAt H u w
  | v, .ahead w => ∃ a u, v = .ref a ∧ H a = some (.tup [.str (Str.ofString "ahead"), u]) ∧ WayAt H u w
  | v, .unless w => ∃ a u, v = .ref a ∧ H a = some (.tup [.str (Str.ofString "unless"), u]) ∧ WayAt H u w
def WaysAt (H : Hp) : List V → List W → Prop
  | vs, [] => vs = []
  | vs, w :: ws => ∃ u us, vs = u :: us ∧ WayAt H u w ∧ WaysAt H us ws
end
theorem WaysAt.len {H : Hp} : ∀ (ws : List W) (vs : List V), WaysAt H vs ws → vs.length = ws.length
  | [], vs, h => by rw [show vs = [] from h]; rfl
  | w :: ws, vs, ⟨u, us, e, _, h⟩ => by rw [e, List.length_cons, List.length_cons, WaysAt.len ws us h]
theorem WaysAt.app {H : Hp} : ∀ (ws : List W) (vs : List V) {us : List V} {xs : List W}, WaysAt H vs ws → WaysAt H us xs → WaysAt H (vs ++ us) (ws ++ xs)
  | [], vs, us, xs, h, h2 => by rw [show vs = [] from h]; exact h2
  | w :: ws, vs, us, xs, ⟨u, r, e, hu, h⟩, h2 => by rw [e]; exact ⟨u, r ++ us, rfl, hu, WaysAt.app ws r h h2⟩
theorem WaysAt.at_ {H : Hp} : ∀ (ws : List W) (vs : List V) (i : Nat) (w : W), WaysAt H vs ws → ws[i]? = some w → ∃ v, vs[i]? = some v ∧ WayAt H v w
  | [], vs, i, w, h, e => by simp at e
  | x :: ws, vs, 0, w, ⟨u, us, ev, hu, h⟩, e => by
    have q : x = w := by simpa using e
    subst q
    exact ⟨u, by rw [ev]; rfl, hu⟩
  | x :: ws, vs, i + 1, w, ⟨u, us, ev, hu, h⟩, e => by
    obtain ⟨v, h1, h2⟩ := WaysAt.at_ ws us i w h (by simpa using e)
    exact ⟨v, by rw [ev]; simpa using h1, h2⟩
mutual
theorem WayAt.keep {H H' : Hp} (k : Keep H H') : ∀ (w : W) (v : V), WayAt H v w → WayAt H' v w
  | .nothing, v, ⟨a, e, h⟩ => ⟨a, e, k.tup h⟩
  | .one, v, ⟨a, e, h⟩ => ⟨a, e, k.tup h⟩
  | .letter _, v, ⟨a, e, h⟩ => ⟨a, e, k.tup h⟩
  | .call _, v, ⟨a, e, h⟩ => ⟨a, e, k.tup h⟩
  | .row ws, v, ⟨a, l, vs, e, h, h2, h3⟩ => ⟨a, l, vs, e, k.tup h, k.lst h2, WaysAt.keep k ws vs h3⟩
  | .choice ws, v, ⟨a, l, vs, e, h, h2, h3⟩ => ⟨a, l, vs, e, k.tup h, k.lst h2, WaysAt.keep k ws vs h3⟩
  | .again w, v, ⟨a, u, e, h, h2⟩ => ⟨a, u, e, k.tup h, WayAt.keep k w u h2⟩
  | .maybe w, v, ⟨a, u, e, h, h2⟩ => ⟨a, u, e, k.tup h, WayAt.keep k w u h2⟩
  | .ahead w, v, ⟨a, u, e, h, h2⟩ => ⟨a, u, e, k.tup h, WayAt.keep k w u h2⟩
  | .unless w, v, ⟨a, u, e, h, h2⟩ => ⟨a, u, e, k.tup h, WayAt.keep k w u h2⟩
theorem WaysAt.keep {H H' : Hp} (k : Keep H H') : ∀ (ws : List W) (vs : List V), WaysAt H vs ws → WaysAt H' vs ws
  | [], _, h => h
  | w :: ws, vs, ⟨u, us, e, h, h2⟩ => ⟨u, us, e, WayAt.keep k w u h, WaysAt.keep k ws us h2⟩
end
mutual
theorem WayAt.dp {K : PySem.W.Frag} {H : Hp} : ∀ (w : W) (v : V), WayAt H v w → Dp K H v (W.data w)
  | .nothing, v, ⟨a, e, h⟩ => by rw [e]; exact .tup (SqT.of h) (.cons (.str _) .nil)
  | .one, v, ⟨a, e, h⟩ => by rw [e]; exact .tup (SqT.of h) (.cons (.str _) .nil)
  | .letter _, v, ⟨a, e, h⟩ => by rw [e]; exact .tup (SqT.of h) (.cons (.str _) (.cons (.str _) .nil))
  | .call _, v, ⟨a, e, h⟩ => by rw [e]; exact .tup (SqT.of h) (.cons (.str _) (.cons (.str _) .nil))
  | .row ws, v, ⟨a, l, vs, e, h, h2, h3⟩ => by rw [e]; exact .tup (SqT.of h) (.cons (.str _) (.cons (.lst (SqL.of h2) (WaysAt.dp ws vs h3)) .nil))
  | .choice ws, v, ⟨a, l, vs, e, h, h2, h3⟩ => by rw [e]; exact .tup (SqT.of h) (.cons (.str _) (.cons (.lst (SqL.of h2) (WaysAt.dp ws vs h3)) .nil))
  | .again w, v, ⟨a, u, e, h, h2⟩ => by rw [e]; exact .tup (SqT.of h) (.cons (.str _) (.cons (WayAt.dp w u h2) .nil))
  | .maybe w, v, ⟨a, u, e, h, h2⟩ => by rw [e]; exact .tup (SqT.of h) (.cons (.str _) (.cons (WayAt.dp w u h2) .nil))
  | .ahead w, v, ⟨a, u, e, h, h2⟩ => by rw [e]; exact .tup (SqT.of h) (.cons (.str _) (.cons (WayAt.dp w u h2) .nil))
  | .unless w, v, ⟨a, u, e, h, h2⟩ => by rw [e]; exact .tup (SqT.of h) (.cons (.str _) (.cons (WayAt.dp w u h2) .nil))
theorem WaysAt.dp {K : PySem.W.Frag} {H : Hp} : ∀ (ws : List W) (vs : List V), WaysAt H vs ws → DpAll K H vs (W.datas ws)
  | [], vs, h => by rw [show vs = [] from h]; exact .nil
  | w :: ws, vs, ⟨u, us, e, h, h2⟩ => by rw [e]; exact .cons (WayAt.dp w u h) (WaysAt.dp ws us h2)
end
-- letters that are letters
abbrev Az (z : List Nat) : Prop := ∀ c ∈ z, 97 ≤ c ∧ c ≤ 122
theorem strOk_sg {c : Nat} (h : c ≤ 122) : PyData.strOk (sg c) = true := by
  show (#[c] : Array Nat).all (fun x => decide (x < 0x110000)) = true
  simp
  omega
mutual
theorem W.lay {z : List Nat} (hz : Az z) : ∀ w : W, w.wf z → (W.data w).canLay0 = true
  | .nothing, _ => by decide +kernel
  | .one, _ => by decide +kernel
  | .letter c, h => by
    have q := strOk_sg (hz c h).2
    simp only [W.data, PyData.canLay0, PyData.canLayAll0, q, Bool.and_true, Bool.and_eq_true, and_true]
    decide +kernel
  | .call x, h => by cases h
  | .row ws, h => by
    have q := W.lays hz ws h.2
    simp only [W.data, PyData.canLay0, PyData.canLayAll0, q, Bool.and_true, Bool.and_eq_true, and_true]
    decide +kernel
  | .choice ws, h => by
    have q := W.lays hz ws h.2
    simp only [W.data, PyData.canLay0, PyData.canLayAll0, q, Bool.and_true, Bool.and_eq_true, and_true]
    decide +kernel
  | .again w, h => by
    have q := W.lay hz w h
    simp only [W.data, PyData.canLay0, PyData.canLayAll0, q, Bool.and_true, Bool.and_eq_true, and_true]
    decide +kernel
  | .maybe w, h => by
    have q := W.lay hz w h
    simp only [W.data, PyData.canLay0, PyData.canLayAll0, q, Bool.and_true, Bool.and_eq_true, and_true]
    decide +kernel
  | .ahead w, h => by
    have q := W.lay hz w h
    simp only [W.data, PyData.canLay0, PyData.canLayAll0, q, Bool.and_true, Bool.and_eq_true, and_true]
    decide +kernel
  | .unless w, h => by
    have q := W.lay hz w h
    simp only [W.data, PyData.canLay0, PyData.canLayAll0, q, Bool.and_true, Bool.and_eq_true, and_true]
    decide +kernel
theorem W.lays {z : List Nat} (hz : Az z) : ∀ ws : List W, W.wfs z ws → PyData.canLayAll0 (W.datas ws) = true
  | [], _ => rfl
  | w :: ws, h => by
    simp only [W.datas, PyData.canLayAll0, W.lay hz w h.1, W.lays hz ws h.2, Bool.and_self]
end
theorem W.shaped_list {z : List Nat} (hz : Az z) {ws : List W} (h : W.wfs z ws) (hs : W.sizes ws ≤ 31) : SeqAt.shaped (.list (W.datas ws)) = true := by
  unfold SeqAt.shaped
  have d := W.depth_datas ws
  rw [Bool.and_eq_true]
  refine ⟨W.lays hz ws h, decide_eq_true ?_⟩
  simp only [PyData.depth]
  omega
theorem datas_empty (ws : List W) : (W.datas ws).isEmpty = ws.isEmpty := by cases ws <;> rfl
end Wv
namespace Wv
open PySem PySem.Spec PyProof.Rows L2
def top (i : Nat) : Stmt := PySem.Challenge.pw_waystaken_k05_wrong_texts_of_ways.main.body.getD i (.Pass ⟨0, 0, 0, 0⟩)
/-! ### the source of draws: what holds of it, whatever it draws -/
abbrev kC : Key := .inr (Str.ofString "cells")
abbrev kA : Key := .inr (Str.ofString "at")
abbrev kL : Key := .inr (Str.ofString "left")
def penF (l : Addr) (a b : Int) : List (Key × V) := [(kC, .ref l), (kA, .int a), (kL, .int b)]
theorem k12 : ¬ (kC = kA) := by decide
theorem k13 : ¬ (kC = kL) := by decide
theorem k23 : ¬ (kA = kL) := by decide
theorem k32 : ¬ (kL = kA) := by decide
theorem pen_cells (l : Addr) (a b : Int) : valV (penF l a b) kC = some (.ref l) := by
  unfold penF; rw [valV_pos rfl]
theorem pen_at (l : Addr) (a b : Int) : valV (penF l a b) kA = some (.int a) := by
  unfold penF; rw [valV_neg k12, valV_pos rfl]
theorem pen_left (l : Addr) (a b : Int) : valV (penF l a b) kL = some (.int b) := by
  unfold penF; rw [valV_neg k13, valV_neg k23, valV_pos rfl]
theorem put_at (l : Addr) (a b c : Int) : putK (penF l a b) kA (.int c) = penF l c b := by
  unfold putK
  rw [valV_any, pen_at, if_pos (show (some (V.int a)).isSome = true from rfl)]
  have h1 := k12; have h2 := k32
  unfold penF
  rw [List.map_cons, List.map_cons, List.map_cons, List.map_nil, if_neg h1, if_pos rfl, if_neg h2]
theorem put_left (l : Addr) (a b c : Int) : putK (penF l a b) kL (.int c) = penF l a c := by
  unfold putK
  rw [valV_any, pen_left, if_pos (show (some (V.int b)).isSome = true from rfl)]
  have h1 := k13; have h2 := k23
  unfold penF
  rw [List.map_cons, List.map_cons, List.map_cons, List.map_nil, if_neg h1, if_neg h2, if_pos rfl]
theorem get_cells {H : Hp} {p l : Addr} {a b : Int} (h : H p = some (.dK (penF l a b))) : DGet H p (.str "cells") (some (.ref l)) := by
  rw [← pen_cells l a b]; exact DGet.k (k := kC) h
theorem get_at {H : Hp} {p l : Addr} {a b : Int} (h : H p = some (.dK (penF l a b))) : DGet H p (.str "at") (some (.int a)) := by
  rw [← pen_at l a b]; exact DGet.k (k := kA) h
theorem get_left {H : Hp} {p l : Addr} {a b : Int} (h : H p = some (.dK (penF l a b))) : DGet H p (.str "left") (some (.int b)) := by
  rw [← pen_left l a b]; exact DGet.k (k := kL) h
theorem dput_at {H : Hp} {p l : Addr} {a b : Int} (c : Int) (h : H p = some (.dK (penF l a b))) : DPut H p (.str "at") (.int c) (upd H p (.dK (penF l c b))) := by
  rw [← put_at l a b c]; exact DPut.k (k := kA) h (by show 3 < sizeLine; decide)
theorem dput_left {H : Hp} {p l : Addr} {a b : Int} (c : Int) (h : H p = some (.dK (penF l a b))) : DPut H p (.str "left") (.int c) (upd H p (.dK (penF l a c))) := by
  rw [← put_left l a b c]; exact DPut.k (k := kL) h (by show 3 < sizeLine; decide)
/-- a pen: its dict, the list of its cells -/
structure Pen where
  d : Addr
  l : Addr
/-- the pen p, of which at most n draws have been made -/
structure PenAt (K : PySem.W.Frag) (H : Hp) (p : Pen) (n : Nat) : Prop where
  ex : ∃ (a b : Int) (cs : List Int), H p.d = some (.dK (penF p.l a b)) ∧ SqL K H p.l (cs.map V.int) ∧ cs.length ≤ 63 ∧ 0 ≤ a ∧ a ≤ (n : Int)
theorem PenAt.same {K : PySem.W.Frag} {H H' : Hp} {p : Pen} {n : Nat} (h : PenAt K H p n) (s : Same H H') : PenAt K H' p n := by
  obtain ⟨a, b, cs, h1, h2, h3, h4⟩ := h.ex
  exact ⟨a, b, cs, s _ _ h1, s.seq h2, h3, h4⟩
theorem PenAt.mono {K : PySem.W.Frag} {H : Hp} {p : Pen} {n m : Nat} (h : PenAt K H p n) (q : n ≤ m) : PenAt K H p m := by
  obtain ⟨a, b, cs, h1, h2, h3, h4, h5⟩ := h.ex
  exact ⟨a, b, cs, h1, h2, h3, h4, by omega⟩
theorem Keep.pen {H : Hp} {p l : Addr} {a b a' b' : Int} (h : H p = some (.dK (penF l a b))) : Keep H (upd H p (.dK (penF l a' b'))) := fun c o e => by
  by_cases z : c = p
  · rw [z, h] at e
    exact .inr ⟨_, _, ⟨(Option.some.inj e).symm, by rw [z]; exact upd_same⟩, ⟨_, _, rfl⟩, ⟨_, _, rfl⟩⟩
  · rw [upd_ne z]; exact .inl e
theorem PenAt.mk' {K : PySem.W.Frag} {H : Hp} {p : Pen} {a b a' b' : Int} {cs : List Int} {n : Nat} (h : H p.d = some (.dK (penF p.l a b))) (hs : SqL K H p.l (cs.map V.int)) (hl : cs.length ≤ 63) (h0 : 0 ≤ a') (h1 : a' ≤ (n : Int)) :
    PenAt K (upd H p.d (.dK (penF p.l a' b'))) p n := ⟨a', b', cs, upd_same, (Keep.pen h).seq hs, hl, h0, h1⟩
/-- a list that was new is written -/
theorem PenAt.put {K : PySem.W.Frag} {H H' : Hp} {p : Pen} {n m : Nat} {q : Addr} {xs ys : List V} (h0 : PenAt K H p m) (hq : H q = none) (h : PenAt K H' p n) (k : Keep H H') (e : H' q = some (.lst xs)) : PenAt K (upd H' q (.lst ys)) p n := by
  obtain ⟨_, _, cs, _, h2, h3, _⟩ := h0.ex
  obtain ⟨a, b, _, h1, _, _, h4, h5⟩ := h.ex
  have hpq : p.d ≠ q := ne_of h1 e (by intro z; cases z)
  exact ⟨a, b, cs, by rw [upd_ne hpq]; exact h1, (Keep.put hq k _).seq h2, h3, h4, h5⟩
/-! ### their promises -/
def LIM : Nat := 1000000000000
def spPen (K : PySem.W.Frag) : Sp := fun vs H Q _ => ∃ (a : Addr) (ns : List Int), vs = [.ref a] ∧ SqL K H a (ns.map V.int) ∧ ns.length ≤ 63 ∧ ∀ (p : Pen) (H' : Hp), Same H H' → PenAt K H' p 0 → Q (.ref p.d) H'
def spDraw (K : PySem.W.Frag) : Sp := fun vs H Q _ => ∃ (p : Pen) (m : Int) (n : Nat), vs = [.ref p.d, .int m] ∧ PenAt K H p n ∧ n < LIM ∧ 0 < m ∧ m < 1073741824 ∧
  ∀ (d : Int) (H' : Hp), 0 ≤ d → d < m → Keep H H' → PenAt K H' p (n + 1) → Q (.int d) H'
def spPick (K : PySem.W.Frag) : Sp := fun vs H Q _ => ∃ (p : Pen) (y : V) (n : Nat), vs = [.ref p.d, y] ∧ PenAt K H p n ∧ n < LIM ∧
  ((∃ (q : Addr) (xs : List V), y = .ref q ∧ SqL K H q xs ∧ 0 < xs.length ∧ xs.length ≤ 1000 ∧ ∀ (v : V) (H' : Hp), v ∈ xs → Keep H H' → PenAt K H' p (n + 1) → Q v H') ∨
   (∃ (z : List Nat), y = .str (tx z) ∧ 0 < z.length ∧ z.length ≤ 1000 ∧ ∀ (c : Nat) (H' : Hp), c ∈ z → Keep H H' → PenAt K H' p (n + 1) → Q (.str (sg c)) H'))
section
variable {P : Program} {w : World} {K : PySem.W.Frag} {mg : Str → Option Value} {base : Heap}
theorem dpAll_ints {H : Hp} : ∀ ns : List Int, DpAll K H (ns.map V.int) (ns.map PyData.int)
  | [] => .nil
  | n :: r => .cons (.int n) (dpAll_ints r)
theorem canLay_ints : ∀ ns : List Int, PyData.canLayAll0 (ns.map PyData.int) = true
  | [] => rfl
  | n :: r => by
    show (PyData.canLay0 (.int n) && PyData.canLayAll0 (r.map PyData.int)) = true
    rw [canLay_ints r]; rfl
theorem depth_ints : ∀ ns : List Int, PyData.depthAll (ns.map PyData.int) ≤ 1
  | [] => by decide
  | n :: r => by
    have h := depth_ints r
    simp only [List.map_cons, PyData.depthAll, PyData.depth]
    omega
theorem shaped_ints (ns : List Int) : SeqAt.shaped (.list (ns.map PyData.int)) = true := by
  unfold SeqAt.shaped
  have h := depth_ints ns
  rw [Bool.and_eq_true]
  refine ⟨?_, decide_eq_true ?_⟩
  · show PyData.canLayAll0 (ns.map PyData.int) = true
    exact canLay_ints ns
  · simp only [PyData.depth]
    omega
theorem eqv_nil (ds : List PyData) : PyData.eqv (.list ds) (.list []) = ds.isEmpty := by
  cases ds <;> simp [PyData.eqv, PyData.eqvAll]
theorem ints_get {ns : List Int} {i : Nat} {v : V} (h : (ns.map V.int)[i]? = some v) : ∃ z, v = .int z := by
  rw [List.getElem?_map] at h
  cases e : ns[i]? with
  | none => rw [e] at h; cases h
  | some z => rw [e] at h; exact ⟨z, (Option.some.inj h).symm⟩
theorem cmul_fmod (x : Int) {m : Int} (h0 : 0 < m) (h1 : m < 18446744073709551616) (j : Int) : CMul (x.fmod m) j := by
  have h := fmod_in x h0
  exact .inl ⟨by omega, by omega⟩
abbrev s_l_pen : Stmt := top 45
theorem sc_l_pen : FnScope ["_law_script"] ["_law_script"] (defScope s_l_pen) := ⟨rfl, rfl, rfl, by decide +kernel, rfl, by decide +kernel, by decide +kernel⟩
theorem cutV_len (xs : List V) (lo hi : Option Int) : (cutV xs lo hi).length ≤ xs.length := by
  unfold cutV
  rw [List.length_take, List.length_drop]
  omega
theorem cutV_ints (ns : List Int) (lo hi : Option Int) : ∃ cs : List Int, cutV (ns.map V.int) lo hi = cs.map V.int ∧ cs.length ≤ ns.length := by
  unfold cutV
  refine ⟨(ns.drop (HT.sIx (ns.map V.int).length 0 lo)).take (HT.sIx (ns.map V.int).length (ns.map V.int).length hi - HT.sIx (ns.map V.int).length 0 lo), by rw [List.map_take, List.map_drop], ?_⟩
  rw [List.length_take, List.length_drop]
  omega
theorem mergePen (l : Addr) : mergeK [] (penF l 0 0) = penF l 0 0 := by
  have e1 : putK ([] : List (Key × V)) kC (.ref l) = [(kC, V.ref l)] := putK_new _ rfl
  have e2 : putK ([(kC, V.ref l)] : List (Key × V)) kA (.int 0) = [(kC, V.ref l), (kA, V.int 0)] := putK_new _ (by rw [valV_neg k12]; rfl)
  have e3 : putK ([(kC, V.ref l), (kA, V.int 0)] : List (Key × V)) kL (.int 0) = penF l 0 0 := putK_new _ (by rw [valV_neg k13, valV_neg k23]; rfl)
  show putK (putK (putK ([] : List (Key × V)) kC (.ref l)) kA (.int 0)) kL (.int 0) = _
  rw [e1, e2, e3]
theorem d_l_pen (h : Here K mg "_law_pen" s_l_pen ["_law_script"]) (B : Bs mg) : DefOk P w K mg base 1 "_law_pen" ["_law_script"] (spPen K) := by
  have B_list := B.list
  refine h.ok sc_l_pen (fun vs H Q E h => by obtain ⟨a, ns, rfl, _⟩ := h; rfl) (fun f cdv A outer s H vs Q E hr h => ?_)
  obtain ⟨a, ns, rfl, hS, hl, k⟩ := h
  refine ⟨_, (pss_one (ps_ret (pe_disp (pps_cons pe_str (pe_callTy call_list_of rfl B_list (by decide +kernel) (pa_cons (pe_slice sl_list (pv 0) po_none (po_some pe_int)) pa_nil)) (pps_cons pe_str pe_int (pps_cons pe_str pe_int pps_nil))) (by rfl) (by rfl) (fun z => by cases z) (by decide)))), ?_⟩
  intro p hp
  have s0 : Same H (upd H p (.dK [])) := Same.new hp _
  refine ⟨_, rfl, _, rfl, a, _, rfl, s0.seq hS, fun q hq => ?_⟩
  obtain ⟨cs, ec, hc⟩ := cutV_ints ns none (some 63)
  have npq : p ≠ q := ne_of_none upd_same hq
  refine ⟨q, _, rfl, .inl (SqL.of upd_same), fun l hl' => ?_⟩
  have npl : p ≠ l := ne_of_none (by rw [upd_ne npq]; exact upd_same) hl'
  refine ⟨by rw [upd_ne npl, upd_ne npq, upd_same], penF l 0 0, rfl, by show 3 ≤ 15; decide, ?_⟩
  rw [mergePen]
  refine k ⟨p, l⟩ _ ?_ ⟨0, 0, cs, upd_same, ?_, by omega, by omega, by omega⟩
  · exact Same.put hp ((s0.trans (Same.new hq _)).trans (Same.new hl' _)) _
  · refine SqL.of ?_
    rw [upd_ne (Ne.symm npl), upd_same, ec]
abbrev s_l_draw : Stmt := top 46
theorem sc_l_draw : FnScope ["_law_pen_here", "_law_many", "_law_digit", "_law_at", "_law_cell", "_law_mixed"] ["_law_pen_here", "_law_many"] (defScope s_l_draw) := ⟨rfl, rfl, rfl, by decide +kernel, rfl, by decide +kernel, by decide +kernel⟩
theorem d_l_draw (h : Here K mg "_law_draw" s_l_draw ["_law_pen_here", "_law_many"]) (B : Bs mg) : DefOk P w K mg base 1 "_law_draw" ["_law_pen_here", "_law_many"] (spDraw K) := by
  have B_int := B.int
  have B_len := B.len
  refine h.ok sc_l_draw (fun vs H Q E h => by obtain ⟨a, ns, n, rfl, _⟩ := h; rfl) (fun f cdv A outer s H vs Q E hr h => ?_)
  obtain ⟨p, m, n, rfl, hP, hn, hm0, hm1, k⟩ := h
  obtain ⟨a, b, cs, hp, hS, hc, ha0, ha1⟩ := hP.ex
  have hu := hu_of hr
  have hnl : (n : Int) < 1000000000000 := by unfold LIM at hn; omega
  have hmn : m ≠ 0 := by omega
  have hdiv : CDivN b m := ⟨hmn, by omega⟩
  refine ⟨_, (pss_cons (ps_if (pt_cmpR op_ge (pe_dget hu (pv 0) pe_str (fun _ _ => rfl)) (pv 1) (nomark _)) (pss_cons (ps_set (i := 2) sc_l_draw.nd rfl (Or.inl rfl) (pe_op op_modN (pe_callTy call_int1 rfl B_int (by decide +kernel) (pa_cons (pe_dget hu (pv 0) pe_str (fun _ _ => rfl)) pa_nil)) (pv 1)))
  (pss_cons (ps_dput hu (pv 0) pe_str (pe_op op_fdivN (pe_dget hu (pv 0) pe_str (fun _ _ => rfl)) (pv 1)) rfl)
  (pss_one (ps_ret (pv 2))))) pss_nil)
  (pss_cons (ps_set (i := 3) sc_l_draw.nd rfl (Or.inl rfl) (pe_dget hu (pv 0) pe_str (fun _ _ => rfl)))
  (pss_cons (ps_dput hu (pv 0) pe_str (pe_op op_add (pv 3) pe_int) rfl)
  (pss_cons (ps_set (i := 4) sc_l_draw.nd rfl (Or.inl rfl) (pe_op op_add (pe_op op_mul pe_int (pv 3)) pe_int))
  (pss_cons (ps_if (pt_cmpR (op_neD hr.units) (pe_dget hu (pv 0) pe_str (fun _ _ => rfl)) (pe_lst pa_nil) (nomark _)) (pss_one (ps_set (i := 4) sc_l_draw.nd rfl (Or.inl rfl) (pe_ix ix_list (pe_dget hu (pv 0) pe_str (fun _ _ => rfl)) (pe_op op_modN (pe_callTy call_int1 rfl B_int (by decide +kernel) (pa_cons (pv 3) pa_nil)) (pe_callB call_len_seq rfl B_len PySem.boot_len (pa_cons (pe_dget hu (pv 0) pe_str (fun _ _ => rfl)) pa_nil))) (fun _ _ => rfl)))) pss_nil)
  (pss_cons (ps_if (PW.pt (pw_and (pt_cmpR op_lt (pv 3) (pe_callB call_len_seq rfl B_len PySem.boot_len (pa_cons (pe_dget hu (pv 0) pe_str (fun _ _ => rfl)) pa_nil)) (nomark _)) (pw_and1 (pt_cmpR op_ge (pv 4) (pe_op op_pow pe_int pe_int) (nomark _))))) (pss_cons (ps_dput hu (pv 0) pe_str (pe_op op_fdivN (pe_op op_sub (pv 4) (pe_op op_pow pe_int pe_int)) (pv 1)) rfl)
  (pss_one (ps_ret (pe_op op_modN (pe_callTy call_int1 rfl B_int (by decide +kernel) (pa_cons (pe_op op_sub (pv 4) (pe_op op_pow pe_int pe_int)) pa_nil)) (pv 1))))) pss_nil)
  (pss_cons (ps_set (i := 5) sc_l_draw.nd rfl (Or.inl rfl) (pe_op op_add (pe_op op_add (pe_op op_add (pe_op op_mul (pe_op op_modN (pe_callTy call_int1 rfl B_int (by decide +kernel) (pa_cons (pv 4) pa_nil)) pe_int) pe_int) (pe_op op_mul (pe_op op_mul pe_int (pv 3)) (pv 3))) (pe_op op_mul pe_int (pv 3))) pe_int))
  (pss_cons (ps_set (i := 5) sc_l_draw.nd rfl (Or.inl rfl) (pe_op op_modN (pe_callTy call_int1 rfl B_int (by decide +kernel) (pa_cons (pv 5) pa_nil)) pe_int))
  (pss_cons (ps_set (i := 5) sc_l_draw.nd rfl (Or.inl rfl) (pe_op op_modN (pe_callTy call_int1 rfl B_int (by decide +kernel) (pa_cons (pe_op op_mul (pv 5) (pe_op op_add (pv 5) pe_int)) pa_nil)) pe_int))
  (pss_one (ps_ret (pe_op op_modN (pe_callTy call_int1 rfl B_int (by decide +kernel) (pa_cons (pe_op op_fdivN (pe_op op_modN (pe_callTy call_int1 rfl B_int (by decide +kernel) (pa_cons (pe_op op_mul (pv 5) (pv 5)) pa_nil)) pe_int) pe_int) pa_nil)) (pv 1))))))))))))), ?_⟩
  -- if pen["left"] >= many
  refine ⟨_, rfl, p.d, _, rfl, get_left hp, _, rfl, _, _, rfl, rfl, _, rfl, ?_⟩
  refine ite2 (fun _ => ?_) (fun _ => ?_)
  · refine ⟨_, rfl, p.d, _, rfl, get_left hp, .inl ⟨_, rfl, _, rfl, _, _, rfl, rfl, hmn, ?_⟩⟩
    refine ⟨_, rfl, p.d, _, rfl, get_left hp, _, rfl, _, _, rfl, rfl, ⟨hmn, by omega⟩, _, rfl, p.d, _, rfl, dput_left _ hp, _, rfl, ?_⟩
    exact k _ _ (fmod_in _ hm0).1 (fmod_in _ hm0).2 (Keep.pen hp) (.mk' hp hS hc ha0 (by omega))
  · refine ⟨_, rfl, p.d, _, rfl, get_at hp, ?_⟩
    refine ⟨_, rfl, _, _, rfl, rfl, _, rfl, p.d, _, rfl, dput_at _ hp, ?_⟩
    have hp1 : upd H p.d (.dK (penF p.l (a + 1) b)) p.d = some (.dK (penF p.l (a + 1) b)) := upd_same
    have hS1 := (Keep.pen (a' := a + 1) (b' := b) hp).seq hS
    refine ⟨_, rfl, _, _, rfl, rfl, .inl ⟨by decide, by decide⟩, _, _, rfl, rfl, ?_⟩
    refine ⟨_, rfl, p.d, _, rfl, get_cells hp1, ?_⟩
    refine ⟨by show 0 ≤ sizeLine; decide, fun q hq => ?_⟩
    have s1 := Same.new hq (.lst [])
    have npq : p.d ≠ q := ne_of_none hp1 hq
    have hp2 := s1 _ _ hp1
    have hS2 := s1.seq hS1
    refine ⟨.list (cs.map PyData.int), .list [], .lst hS2 (dpAll_ints cs), .lst (SqL.of upd_same) .nil, shaped_ints cs, by decide, _, rfl, ?_⟩
    rw [eqv_nil]
    have hk : Keep H (upd (upd H p.d (.dK (penF p.l (a + 1) b))) q (.lst [])) := (Keep.pen hp).trans (.of s1)
    have hP2 : PenAt K (upd (upd H p.d (.dK (penF p.l (a + 1) b))) q (.lst [])) p (n + 1) := ⟨a + 1, b, cs, hp2, hS2, hc, by omega, by omega⟩
    have hlen : ((cs.map V.int).length : Int) ≤ 63 := by rw [List.length_map]; omega
    refine ite2 (fun e => ?_) (fun _ => ?_)
    · have hpos : 0 < ((cs.map V.int).length : Int) := by
        cases cs with
        | nil => simp at e
        | cons c r => rw [List.length_map, List.length_cons]; omega
      have hb := fmod_in a hpos
      obtain ⟨v, hv1, hv2⟩ := atI_of (xs := cs.map V.int) hb.1 hb.2
      obtain ⟨z, rfl⟩ := ints_get hv1
      refine ⟨_, rfl, p.d, _, rfl, get_cells hp2, ?_⟩
      walk_at "rd"
      refine ⟨p.d, _, rfl, get_cells hp2, _, _, rfl, .inl hS2, ?_⟩
      walk_at "rd"
      refine ⟨by omega, _, _, _, _, rfl, rfl, hS2, hv2, ?_⟩
      walk_at "rd"
      refine ⟨p.d, _, rfl, get_cells hp2, _, _, rfl, .inl hS2, ?_⟩
      walk_at "rd"
      refine ite2 (fun _ => ?_) (fun _ => ?_)
      · walk_at "rd"
        refine ⟨⟨by decide, by decide, by decide⟩, ?_⟩
        walk_at "rd"
        refine ite2 (fun _ => ?_) (fun _ => ?_)
        · walk_at "rd"
          refine ⟨⟨by decide, by decide, by decide⟩, ?_⟩
          walk_at "rd"
          refine ⟨⟨hmn, by omega⟩, ?_⟩
          walk_at "rd"
          refine ⟨p.d, _, rfl, dput_left _ hp2, ?_⟩
          walk_at "rd"
          refine ⟨⟨by decide, by decide, by decide⟩, ?_⟩
          walk_at "rd"
          refine ⟨hmn, ?_⟩
          exact k _ _ (fmod_in _ hm0).1 (fmod_in _ hm0).2 (hk.trans (Keep.pen hp2)) (.mk' hp2 hS2 hc (by omega) (by omega))
        · walk_at "rd"
          refine ⟨show (2147483587 : Int) ≠ 0 by decide, ?_⟩
          walk_at "rd"
          refine ⟨.inr ⟨by decide, by decide⟩, ?_⟩
          walk_at "rd"
          refine ⟨.inl ⟨by decide, by decide⟩, ?_⟩
          walk_at "rd"
          refine ⟨.inr ⟨by omega, by omega⟩, ?_⟩
          walk_at "rd"
          refine ⟨.inl ⟨by decide, by decide⟩, ?_⟩
          walk_at "rd"
          refine ⟨show (2147483629 : Int) ≠ 0 by decide, ?_⟩
          walk_at "rd"
          refine ⟨cmul_fmod _ (by decide) (by decide) _, ?_⟩
          walk_at "rd"
          refine ⟨show (2147483549 : Int) ≠ 0 by decide, ?_⟩
          walk_at "rd"
          refine ⟨cmul_fmod _ (by decide) (by decide) _, ?_⟩
          walk_at "rd"
          refine ⟨show (2147483579 : Int) ≠ 0 by decide, ?_⟩
          walk_at "rd"
          refine ⟨⟨by decide, by decide⟩, ?_⟩
          walk_at "rd"
          refine ⟨hmn, ?_⟩
          exact k _ _ (fmod_in _ hm0).1 (fmod_in _ hm0).2 hk hP2
      · walk_at "rd"
        refine ⟨show (2147483587 : Int) ≠ 0 by decide, ?_⟩
        walk_at "rd"
        refine ⟨.inr ⟨by decide, by decide⟩, ?_⟩
        walk_at "rd"
        refine ⟨.inl ⟨by decide, by decide⟩, ?_⟩
        walk_at "rd"
        refine ⟨.inr ⟨by omega, by omega⟩, ?_⟩
        walk_at "rd"
        refine ⟨.inl ⟨by decide, by decide⟩, ?_⟩
        walk_at "rd"
        refine ⟨show (2147483629 : Int) ≠ 0 by decide, ?_⟩
        walk_at "rd"
        refine ⟨cmul_fmod _ (by decide) (by decide) _, ?_⟩
        walk_at "rd"
        refine ⟨show (2147483549 : Int) ≠ 0 by decide, ?_⟩
        walk_at "rd"
        refine ⟨cmul_fmod _ (by decide) (by decide) _, ?_⟩
        walk_at "rd"
        refine ⟨show (2147483579 : Int) ≠ 0 by decide, ?_⟩
        walk_at "rd"
        refine ⟨⟨by decide, by decide⟩, ?_⟩
        walk_at "rd"
        refine ⟨hmn, ?_⟩
        exact k _ _ (fmod_in _ hm0).1 (fmod_in _ hm0).2 hk hP2
    · walk_at "rd"
      refine ⟨p.d, _, rfl, get_cells hp2, _, _, rfl, .inl hS2, ?_⟩
      walk_at "rd"
      refine ite2 (fun _ => ?_) (fun _ => ?_)
      · walk_at "rd"
        refine ⟨⟨by decide, by decide, by decide⟩, ?_⟩
        walk_at "rd"
        refine ite2 (fun _ => ?_) (fun _ => ?_)
        · walk_at "rd"
          refine ⟨⟨by decide, by decide, by decide⟩, ?_⟩
          walk_at "rd"
          refine ⟨⟨hmn, by omega⟩, ?_⟩
          walk_at "rd"
          refine ⟨p.d, _, rfl, dput_left _ hp2, ?_⟩
          walk_at "rd"
          refine ⟨⟨by decide, by decide, by decide⟩, ?_⟩
          walk_at "rd"
          refine ⟨hmn, ?_⟩
          exact k _ _ (fmod_in _ hm0).1 (fmod_in _ hm0).2 (hk.trans (Keep.pen hp2)) (.mk' hp2 hS2 hc (by omega) (by omega))
        · walk_at "rd"
          refine ⟨show (2147483587 : Int) ≠ 0 by decide, ?_⟩
          walk_at "rd"
          refine ⟨.inr ⟨by decide, by decide⟩, ?_⟩
          walk_at "rd"
          refine ⟨.inl ⟨by decide, by decide⟩, ?_⟩
          walk_at "rd"
          refine ⟨.inr ⟨by omega, by omega⟩, ?_⟩
          walk_at "rd"
          refine ⟨.inl ⟨by decide, by decide⟩, ?_⟩
          walk_at "rd"
          refine ⟨show (2147483629 : Int) ≠ 0 by decide, ?_⟩
          walk_at "rd"
          refine ⟨cmul_fmod _ (by decide) (by decide) _, ?_⟩
          walk_at "rd"
          refine ⟨show (2147483549 : Int) ≠ 0 by decide, ?_⟩
          walk_at "rd"
          refine ⟨cmul_fmod _ (by decide) (by decide) _, ?_⟩
          walk_at "rd"
          refine ⟨show (2147483579 : Int) ≠ 0 by decide, ?_⟩
          walk_at "rd"
          refine ⟨⟨by decide, by decide⟩, ?_⟩
          walk_at "rd"
          refine ⟨hmn, ?_⟩
          exact k _ _ (fmod_in _ hm0).1 (fmod_in _ hm0).2 hk hP2
      · walk_at "rd"
        refine ⟨show (2147483587 : Int) ≠ 0 by decide, ?_⟩
        walk_at "rd"
        refine ⟨.inr ⟨by decide, by decide⟩, ?_⟩
        walk_at "rd"
        refine ⟨.inl ⟨by decide, by decide⟩, ?_⟩
        walk_at "rd"
        refine ⟨.inr ⟨by omega, by omega⟩, ?_⟩
        walk_at "rd"
        refine ⟨.inl ⟨by decide, by decide⟩, ?_⟩
        walk_at "rd"
        refine ⟨show (2147483629 : Int) ≠ 0 by decide, ?_⟩
        walk_at "rd"
        refine ⟨cmul_fmod _ (by decide) (by decide) _, ?_⟩
        walk_at "rd"
        refine ⟨show (2147483549 : Int) ≠ 0 by decide, ?_⟩
        walk_at "rd"
        refine ⟨cmul_fmod _ (by decide) (by decide) _, ?_⟩
        walk_at "rd"
        refine ⟨show (2147483579 : Int) ≠ 0 by decide, ?_⟩
        walk_at "rd"
        refine ⟨⟨by decide, by decide⟩, ?_⟩
        walk_at "rd"
        refine ⟨hmn, ?_⟩
        exact k _ _ (fmod_in _ hm0).1 (fmod_in _ hm0).2 hk hP2
end
end Wv
namespace Wv
open PySem PySem.Spec PyProof.Rows L2
/-! ### texts as codes -/
theorem tx_len (l : List Nat) : (tx l).length = l.length := by simp [tx, Str.length]
theorem tx_app (a b : List Nat) : tx a ++ tx b = tx (a ++ b) := by
  show Str.mk (a.toArray ++ b.toArray) = Str.mk (a ++ b).toArray
  simp
theorem tx_list (l : List Nat) : (tx l).cps.toList = l := rfl
theorem tx_take (l : List Nat) (k : Nat) : cutS (tx l) none (some (k : Int)) = tx (l.take k) := by
  unfold cutS
  rw [tx_len, tx_list, HT.sIx_none, HT.sIx_nat, List.drop_zero, Nat.sub_zero]
  unfold tx
  congr 2
  rw [List.take_eq_take_iff]
  omega
theorem tx_drop (l : List Nat) (k : Nat) : cutS (tx l) (some (k : Int)) none = tx (l.drop k) := by
  unfold cutS
  rw [tx_len, tx_list, HT.sIx_none, HT.sIx_nat]
  unfold tx
  congr 2
  by_cases h : k ≤ l.length
  · rw [Nat.min_eq_left h, List.take_of_length_le (by rw [List.length_drop]; omega)]
  · rw [Nat.min_eq_right (by omega), Nat.sub_self, List.take_zero, List.drop_eq_nil_of_le (by omega)]
abbrev alpha : List Nat := [97, 98, 99, 100, 101, 102, 103, 104, 105, 106, 107, 108, 109, 110, 111, 112, 113, 114, 115, 116, 117, 118, 119, 120, 121, 122]
theorem alpha_tx : Str.ofString "abcdefghijklmnopqrstuvwxyz" = tx alpha := by decide +kernel
theorem empty_tx : Str.ofString "" = tx [] := by decide +kernel
theorem alpha_az : Az alpha := by decide
theorem alpha_nd : alpha.Nodup := by decide
theorem perm_move {l fd : List Nat} {k : Nat} (h : k < l.length) (q : (fd ++ l).Perm alpha) : ((fd ++ [l[k]]) ++ (l.take k ++ l.drop (k + 1))).Perm alpha := by
  refine List.Perm.trans ?_ q
  rw [List.append_assoc]
  refine List.Perm.append_left fd ?_
  have e : l = l.take k ++ (l[k] :: l.drop (k + 1)) := by rw [← List.drop_eq_getElem_cons h, List.take_append_drop]
  refine List.Perm.trans ?_ (List.Perm.of_eq e.symm)
  exact (List.perm_middle (a := l[k]) (l₁ := l.take k) (l₂ := l.drop (k + 1))).symm
def spSigns (K : PySem.W.Frag) : Sp := fun vs H Q _ => ∃ (p : Pen) (m n : Nat), vs = [.ref p.d, .int (m : Int)] ∧ PenAt K H p n ∧ n + 30 < LIM ∧ m ≤ 20 ∧
  ∀ (z : List Nat) (H' : Hp), z.length = m → z.Nodup → Az z → Keep H H' → PenAt K H' p (n + m) → Q (.str (tx z)) H'
/-- leaves: the draws that they may make are counted -/
def spLeaf (K : PySem.W.Frag) : Sp := fun vs H Q _ => ∃ (p : Pen) (z : List Nat) (n : Nat), vs = [.ref p.d, .str (tx z)] ∧ PenAt K H p n ∧ n + 30 < LIM ∧ 0 < z.length ∧ z.length ≤ 100 ∧
  ∀ (v : V) (w : W) (H' : Hp), w.size = 1 → w.wf z → WayAt (newer H H') v w → Keep H H' → PenAt K H' p (n + 2) → Q v H'
def spWayOf (K : PySem.W.Frag) (s : Nat) : Sp := fun vs H Q _ => ∃ (p : Pen) (z : List Nat) (m n : Nat), vs = [.ref p.d, .str (tx z), .int (m : Int)] ∧ PenAt K H p n ∧ n + 4 * m + 30 < LIM ∧ 0 < z.length ∧ z.length ≤ 100 ∧ Az z ∧ 0 < m ∧ m ≤ s ∧ m ≤ 30 ∧
  ∀ (v : V) (w : W) (H' : Hp), w.size = m → w.wf z → WayAt (newer H H') v w → Keep H H' → PenAt K H' p (n + (4 * m - 2)) → Q v H'
def spWay (K : PySem.W.Frag) : Sp := fun vs H Q _ => ∃ (p : Pen) (z : List Nat) (m n : Nat), vs = [.ref p.d, .str (tx z), .int (m : Int)] ∧ PenAt K H p n ∧ n + 300 < LIM ∧ 0 < z.length ∧ z.length ≤ 100 ∧ Az z ∧ 0 < m ∧ m ≤ 30 ∧
  ∀ (v : V) (w : W) (H' : Hp), w.size ≤ m → w.wf z → WayAt (newer H H') v w → Keep H H' → PenAt K H' p (n + 200) → Q v H'
section
variable {P : Program} {w : World} {K : PySem.W.Frag} {mg : Str → Option Value} {base : Heap}
abbrev s_l_pick : Stmt := top 47
theorem sc_l_pick : FnScope ["_law_pen_here", "_law_items"] ["_law_pen_here", "_law_items"] (defScope s_l_pick) := ⟨rfl, rfl, rfl, by decide +kernel, rfl, by decide +kernel, by decide +kernel⟩
theorem d_l_pick (h : Here K mg "_law_pick" s_l_pick ["_law_pen_here", "_law_items"]) (B : Bs mg) (G_l_draw : DefOk P w K mg base 1 "_law_draw" ["_law_pen_here", "_law_many"] (spDraw K)) : DefOk P w K mg base 2 "_law_pick" ["_law_pen_here", "_law_items"] (spPick K) := by
  have B_len := B.len
  refine h.ok sc_l_pick (fun vs H Q E h => by obtain ⟨a, q, n, rfl, _⟩ := h; rfl) (fun f cdv A outer s H vs Q E hr h => ?_)
  obtain ⟨p, y, n, rfl, hP, hn, ⟨q, xs, rfl, hS, h0, h1, k⟩ | ⟨z, rfl, h0, h1, k⟩⟩ := h
  · refine ⟨_, (pss_one (ps_ret (pe_ix (IxR.or ix_list (IxR.or ix_str ix_tup)) (pv 1) (pe_callD G_l_draw (hr.mono (by first | decide | omega)) rfl (pa_cons (pv 0) (pa_cons (pe_callB (CallR.or call_len_seq call_len_str) rfl B_len PySem.boot_len (pa_cons (pv 1) pa_nil)) pa_nil))) (fun _ _ => rfl)))), ?_⟩
    refine ⟨_, rfl, _, rfl, _, rfl, .inl ⟨q, _, rfl, .inl hS, ?_⟩⟩
    refine ⟨p, _, n, rfl, hP, hn, by omega, by omega, fun d H' d0 d1 kp hP' => ?_⟩
    obtain ⟨v, hv1, hv2⟩ := atI_of d0 d1
    exact .inl ⟨q, _, _, _, rfl, rfl, kp.seq hS, hv2, k v H' (List.mem_of_getElem? hv1) kp hP'⟩
  · have hl : (tx z).length = z.length := tx_len z
    have hz : (tx z).length ≤ sizeLine := by rw [hl]; exact Nat.le_of_lt (small' (by omega))
    refine ⟨_, (pss_one (ps_ret (pe_ix (IxR.or ix_list (IxR.or ix_str ix_tup)) (pv 1) (pe_callD G_l_draw (hr.mono (by first | decide | omega)) rfl (pa_cons (pv 0) (pa_cons (pe_callB (CallR.or call_len_seq call_len_str) rfl B_len PySem.boot_len (pa_cons (pv 1) pa_nil)) pa_nil))) (fun _ _ => rfl)))), ?_⟩
    refine ⟨_, rfl, _, rfl, _, rfl, .inr ⟨_, rfl, hz, ?_⟩⟩
    refine ⟨p, _, n, rfl, hP, hn, by rw [hl]; omega, by rw [hl]; omega, fun d H' d0 d1 kp hP' => ?_⟩
    rw [hl] at d1
    obtain ⟨j, rfl⟩ : ∃ j : Nat, d = (j : Int) := ⟨d.toNat, by omega⟩
    have hj : j < z.length := by omega
    exact .inr (.inl ⟨tx z, _, z[j], rfl, rfl, hz, atI_nat (by rw [tx_list]; exact List.getElem?_eq_getElem hj), k _ H' (List.getElem_mem hj) kp hP'⟩)
abbrev s_l_signs : Stmt := top 48
theorem sc_l_signs : FnScope ["_law_pen_here", "_law_many", "_law_left", "_law_found", "_law_turn", "_law_at"] ["_law_pen_here", "_law_many"] (defScope s_l_signs) := ⟨rfl, rfl, rfl, by decide +kernel, rfl, by decide +kernel, by decide +kernel⟩
theorem d_l_signs (h : Here K mg "_law_signs" s_l_signs ["_law_pen_here", "_law_many"]) (B : Bs mg) (G_l_draw : DefOk P w K mg base 1 "_law_draw" ["_law_pen_here", "_law_many"] (spDraw K)) : DefOk P w K mg base 2 "_law_signs" ["_law_pen_here", "_law_many"] (spSigns K) := by
  have B_len := B.len
  have B_range := B.range
  refine h.ok sc_l_signs (fun vs H Q E h => by obtain ⟨a, q, n, rfl, _⟩ := h; rfl) (fun f cdv A outer s H vs Q E hr h => ?_)
  obtain ⟨p, m, n, rfl, hP, hn, hm, k⟩ := h
  refine ⟨_, (pss_cons (ps_asg (pe_tup (pa_cons pe_str (pa_cons pe_str pa_nil))) (pg_tup rfl (pgs_cons (pg_name (i := 2) sc_l_signs.nd rfl (Or.inl rfl)) (pgs_cons (pg_name (i := 3) sc_l_signs.nd rfl (Or.inl rfl)) pgs_nil))))
  (pss_cons (ps_for PassesOwn.never rfl (pi_range1 rfl B_range (pa_cons (pv 1) pa_nil)) (pg_name (i := 4) sc_l_signs.nd rfl (Or.inl rfl))
   (pss_cons (ps_set (i := 5) sc_l_signs.nd rfl (Or.inl rfl) (pe_callD G_l_draw (hr.mono (by first | decide | omega)) rfl (pa_cons (pv 0) (pa_cons (pe_callB call_len_str rfl B_len PySem.boot_len (pa_cons (pv 2) pa_nil)) pa_nil))))
  (pss_one (ps_par (i := 3) (j := 2) rfl sc_l_signs.nd rfl rfl (by decide) rfl rfl (pa_cons (pe_op op_add_str (pv 3) (pe_ix ix_str (pv 2) (pv 5) (fun _ _ => rfl))) (pa_cons (pe_op op_add_str (pe_slice sl_str (pv 2) po_none (po_some (pv 5))) (pe_slice sl_str (pv 2) (po_some (pe_op op_add (pv 5) pe_int)) po_none)) pa_nil)) (by rfl)))))
  (pss_one (ps_ret (pv 3))))), ?_⟩
  refine ⟨by show 2 ≤ sizeLine; decide, fun t ht => ?_⟩
  have st := Same.new ht (.tup [.str (Str.ofString "abcdefghijklmnopqrstuvwxyz"), .str (Str.ofString "")])
  refine ⟨t, _, rfl, SqT.of upd_same, rfl, ?_⟩
  refine ⟨_, _, rfl, _, _, rfl, rfl, _, rfl, (m : Int), rfl, by omega, by omega, ?_⟩
  refine for_range (lo := 0) (n := (m : Int).toNat) (fun i σ H' => ∃ (lf fd : List Nat) (v4 v5 : Option V), σ = [some (.ref p.d), some (.int m), some (.str (tx lf)), some (.str (tx fd)), v4, v5] ∧ fd.length = i ∧ (fd ++ lf).Perm alpha ∧ Keep H H' ∧ PenAt K H' p (n + i)) ?_ ?_ ?_
  · exact ⟨alpha, [], none, none, by rw [← alpha_tx, ← empty_tx]; rfl, rfl, .refl _, .of st, hP.same st⟩
  · rintro i σ H1 hi ⟨lf, fd, v4, v5, rfl, hl, hp, hk, hP1⟩
    have e26 : fd.length + lf.length = 26 := by rw [← List.length_append, hp.length_eq]; rfl
    have hsz : (tx lf).length = lf.length := tx_len lf
    refine ⟨_, rfl, _, rfl, _, rfl, by rw [hsz]; exact Nat.le_of_lt (small' (by omega)), p, _, _, rfl, hP1, by omega, by rw [hsz]; omega, by rw [hsz]; omega, fun d H2 d0 d1 k2 hP2 => ?_⟩
    rw [hsz] at d1
    obtain ⟨j, rfl⟩ : ∃ j : Nat, d = (j : Int) := ⟨d.toNat, by omega⟩
    have hj : j < lf.length := by omega
    have g1 : (tx fd).length + (sg lf[j]).length ≤ sizeLine := by rw [tx_len]; exact Nat.le_of_lt (small' (by show fd.length + 1 ≤ _; omega))
    walk_at "rd"
    have hz : (tx lf).length ≤ sizeLine := by rw [tx_len]; exact Nat.le_of_lt (small' (by omega))
    refine ⟨tx lf, _, lf[j], rfl, rfl, hz, atI_nat (by rw [tx_list]; exact List.getElem?_eq_getElem hj), ?_⟩
    walk_at "rd"
    refine ⟨g1, ?_⟩
    walk_at "rd"
    refine ⟨hz, ?_⟩
    walk_at "rd"
    refine ⟨hz, ?_⟩
    walk_at "rd"
    have ej : ((j : Int) + 1) = ((j + 1 : Nat) : Int) := by omega
    have g2 : (cutS (tx lf) none (some (j : Int))).length + (cutS (tx lf) (some ((j : Int) + 1)) none).length ≤ sizeLine := by
      rw [ej, tx_take, tx_drop, tx_len, tx_len, List.length_take, List.length_drop]
      exact Nat.le_of_lt (small' (by omega))
    refine ⟨g2, ?_⟩
    walk_at "rd"
    refine ⟨_, _, rfl, lf.take j ++ lf.drop (j + 1), fd ++ [lf[j]], some (.int (0 + i)), some (.int j), ?_, by rw [List.length_append, hl]; rfl, perm_move hj hp, hk.trans k2, hP2⟩
    show [some (V.ref p.d), some (V.int m), some (V.str (cutS (tx lf) none (some (j : Int)) ++ cutS (tx lf) (some ((j : Int) + 1)) none)), some (V.str (tx fd ++ sg lf[j])), some (V.int (0 + i)), some (V.int j)] = _
    rw [ej, tx_take, tx_drop, tx_app, show sg lf[j] = tx [lf[j]] from rfl, tx_app]
  · rintro σ H1 ⟨lf, fd, v4, v5, rfl, hl, hp, hk, hP1⟩
    refine ⟨_, rfl, ?_⟩
    have nd : (fd ++ lf).Nodup := hp.nodup_iff.mpr alpha_nd
    exact k fd H1 (by omega) (List.nodup_append.mp nd).1 (fun c hc => alpha_az c (hp.mem_iff.mp (List.mem_append_left _ hc))) hk (by rw [Int.toNat_natCast] at hP1; exact hP1)
abbrev s_l_leaf : Stmt := top 49
theorem sc_l_leaf : FnScope ["_law_pen_here", "_law_signs_here", "_law_sort"] ["_law_pen_here", "_law_signs_here"] (defScope s_l_leaf) := ⟨rfl, rfl, rfl, by decide +kernel, rfl, by decide +kernel, by decide +kernel⟩
theorem d_l_leaf (h : Here K mg "_law_leaf" s_l_leaf ["_law_pen_here", "_law_signs_here"]) (B : Bs mg) (G_l_draw : DefOk P w K mg base 1 "_law_draw" ["_law_pen_here", "_law_many"] (spDraw K)) (G_l_pick : DefOk P w K mg base 2 "_law_pick" ["_law_pen_here", "_law_items"] (spPick K)) : DefOk P w K mg base 3 "_law_leaf" ["_law_pen_here", "_law_signs_here"] (spLeaf K) := by
  refine h.ok sc_l_leaf (fun vs H Q E h => by obtain ⟨a, q, n, rfl, _⟩ := h; rfl) (fun f cdv A outer s H vs Q E hr h => ?_)
  obtain ⟨p, z, n, rfl, hP, hn, hz0, hz1, k⟩ := h
  refine ⟨_, (pss_cons (ps_set (i := 2) sc_l_leaf.nd rfl (Or.inl rfl) (pe_callD G_l_draw (hr.mono (by first | decide | omega)) rfl (pa_cons (pv 0) (pa_cons pe_int pa_nil))))
  (pss_cons (ps_if (pt_cmpR op_eq (pv 2) pe_int (nomark _)) (pss_one (ps_ret (pe_tup (pa_cons pe_str pa_nil)))) pss_nil)
  (pss_one (ps_ret (pe_ifExp (pt_cmpR op_lt (pv 2) pe_int (nomark _)) (pe_tup (pa_cons pe_str pa_nil)) (pe_tup (pa_cons pe_str (pa_cons (pe_callD G_l_pick (hr.mono (by first | decide | omega)) rfl (pa_cons (pv 0) (pa_cons (pv 1) pa_nil))) pa_nil)))))))), ?_⟩
  refine ⟨_, rfl, p, 8, n, rfl, hP, by omega, by decide, by decide, fun d H1 d0 d1 k1 hP1 => ?_⟩
  walk_at "rd"
  refine ite2 (fun _ => ?_) (fun _ => ?_)
  · refine ⟨by show 1 ≤ sizeLine; decide, fun t ht => ?_⟩
    have s1 := Same.new ht (.tup [.str (Str.ofString "nothing")])
    exact k _ .nothing _ rfl trivial ⟨t, rfl, by rw [newer_at (k1.free ht)]; exact upd_same⟩ (k1.trans (.of s1)) ((hP1.same s1).mono (by omega))
  · walk_at "rd"
    refine ite2 (fun _ => ?_) (fun _ => ?_)
    · refine ⟨by show 1 ≤ sizeLine; decide, fun t ht => ?_⟩
      have s1 := Same.new ht (.tup [.str (Str.ofString "one")])
      exact k _ .one _ rfl trivial ⟨t, rfl, by rw [newer_at (k1.free ht)]; exact upd_same⟩ (k1.trans (.of s1)) ((hP1.same s1).mono (by omega))
    · walk_at "rd"
      refine ⟨p, _, n + 1, rfl, hP1, by omega, .inr ⟨z, rfl, hz0, by omega, fun c H2 hc k2 hP2 => ?_⟩⟩
      refine ⟨by show 2 ≤ sizeLine; decide, fun t ht => ?_⟩
      have s1 := Same.new ht (.tup [.str (Str.ofString "letter"), .str (sg c)])
      exact k _ (.letter c) _ rfl hc ⟨t, rfl, by rw [newer_at ((k1.trans k2).free ht)]; exact upd_same⟩ ((k1.trans k2).trans (.of s1)) (hP2.same s1)
/-- the number in a slot -/
def slotN (k : Nat) (σ : L2.St) : Nat := match σ[k]? with
  | some (some (V.int i)) => i.toNat
  | _ => 0
theorem dec_t {a b : Int} (h : decide (V.int a = V.int b) = true) : a = b := V.int.inj (of_decide_eq_true h)
theorem dec_f {a b : Int} (h : ¬ decide (V.int a = V.int b) = true) : a ≠ b := fun e => h (decide_eq_true (by rw [e]))
abbrev s_l_way_of : Stmt := top 51
theorem sc_l_way_of : FnScope ["_law_pen_here", "_law_signs_here", "_law_size", "_law_word", "_law_left", "_law_found", "_law_rest", "_law_share"] ["_law_pen_here", "_law_signs_here", "_law_size"] (defScope s_l_way_of) := ⟨rfl, rfl, rfl, by decide +kernel, rfl, by decide +kernel, by decide +kernel⟩
theorem none_way_of {f : Addr} {fd : FuncData} : FnOk P w K mg base CX0 3 f fd ["_law_pen_here", "_law_signs_here", "_law_size"] (spWayOf K 0) := by
  have no : ∀ vs H Q E, ¬ spWayOf K 0 vs H Q E := fun vs H Q E h => by
    obtain ⟨p, z, m, n, _, _, _, _, _, _, h1, h2, _⟩ := h
    omega
  exact ⟨fun vs H Q E h => absurd h (no vs H Q E), fun A outer s H args us vs Q E _ _ _ _ h => absurd h (no vs H Q E)⟩
theorem step_l_way_of (s : Nat) (h : Here K mg "_law_way_of" s_l_way_of ["_law_pen_here", "_law_signs_here", "_law_size"]) (B : Bs mg) (G_l_draw : DefOk P w K mg base 1 "_law_draw" ["_law_pen_here", "_law_many"] (spDraw K)) (G_l_pick : DefOk P w K mg base 2 "_law_pick" ["_law_pen_here", "_law_items"] (spPick K))
    (G_l_leaf : DefOk P w K mg base 3 "_law_leaf" ["_law_pen_here", "_law_signs_here"] (spLeaf K)) (G_l_way_of : DefOk P w K mg base (3 + s) "_law_way_of" ["_law_pen_here", "_law_signs_here", "_law_size"] (spWayOf K s)) : DefOk P w K mg base (3 + s + 1) "_law_way_of" ["_law_pen_here", "_law_signs_here", "_law_size"] (spWayOf K (s + 1)) := by
  refine h.ok sc_l_way_of (fun vs H Q E h => by obtain ⟨a, q, m, n, rfl, _⟩ := h; rfl) (fun f cdv A outer s' H vs Q E hr h => ?_)
  obtain ⟨p, z, m, n, rfl, hP, hn, hz0, hz1, hz, hm0, hm1, hm2, k⟩ := h
  refine ⟨_, (pss_cons (ps_if (pt_cmpR op_eq (pv 2) pe_int (nomark _)) (pss_one (ps_ret (pe_callD G_l_leaf (hr.mono (by first | decide | omega)) rfl (pa_cons (pv 0) (pa_cons (pv 1) pa_nil))))) pss_nil)
  (pss_cons (ps_if (PW.pt (pw_or (pt_cmpR op_eq (pv 2) pe_int (nomark _)) (pw_or1 (pt_cmpR op_eq (pe_callD G_l_draw (hr.mono (by first | decide | omega)) rfl (pa_cons (pv 0) (pa_cons pe_int pa_nil))) pe_int (nomark _))))) (pss_cons (ps_set (i := 3) sc_l_way_of.nd rfl (Or.inl rfl) (pe_callD G_l_pick (hr.mono (by first | decide | omega)) rfl (pa_cons (pv 0) (pa_cons (pe_lst (pa_cons pe_str (pa_cons pe_str (pa_cons pe_str (pa_cons pe_str (pa_cons pe_str pa_nil)))))) pa_nil))))
  (pss_one (ps_ret (pe_tup (pa_cons (pv 3) (pa_cons (pe_callD G_l_way_of (hr.mono (by first | decide | omega)) rfl (pa_cons (pv 0) (pa_cons (pv 1) (pa_cons (pe_op op_sub (pv 2) pe_int) pa_nil)))) pa_nil)))))) pss_nil)
  (pss_cons (ps_par3 (i := 3) (j := 4) (l := 5) rfl sc_l_way_of.nd rfl rfl rfl (by decide) (by decide) (by decide) rfl rfl rfl (pa_cons (pe_callD G_l_pick (hr.mono (by first | decide | omega)) rfl (pa_cons (pv 0) (pa_cons (pe_lst (pa_cons pe_str (pa_cons pe_str (pa_cons pe_str pa_nil)))) pa_nil))) (pa_cons (pe_op op_sub (pv 2) pe_int) (pa_cons (pe_lst pa_nil) pa_nil))) (by rfl))
  (pss_cons (ps_while PassesOwn.never (pt_cmpR op_gt (pv 4) pe_int (nomark _)) (pss_cons (ps_set (i := 6) sc_l_way_of.nd rfl (Or.inl rfl) (pe_and (pe_cmpR (op_neD hr.units) (pv 5) (pe_lst pa_nil) (nomark _)) (pe_one (pe_cmpR op_eq (pe_callD G_l_draw (hr.mono (by first | decide | omega)) rfl (pa_cons (pv 0) (pa_cons pe_int pa_nil))) pe_int (nomark _)))))
  (pss_cons (ps_set (i := 7) sc_l_way_of.nd rfl (Or.inl rfl) (pe_ifExp (pt_val (pv 6)) (pv 4) (pe_op op_add pe_int (pe_callD G_l_draw (hr.mono (by first | decide | omega)) rfl (pa_cons (pv 0) (pa_cons (pv 4) pa_nil))))))
  (pss_cons (ps_set (i := 7) sc_l_way_of.nd rfl (Or.inl rfl) (pe_ifExp (PW.pt (pw_and (pt_cmpR (op_eqD hr.units) (pv 5) (pe_lst pa_nil) (nomark _)) (pw_and1 (pt_cmpR op_eq (pv 7) (pv 4) (nomark _))))) (pe_op op_sub (pv 4) pe_int) (pv 7)))
  (pss_cons (ps_expr (pe_bm PySem.F.plainAttrs_list PySem.F.slot_list_append PySem.F.type_list_append mt_append (pv 5) (pa_cons (pe_callD G_l_way_of (hr.mono (by first | decide | omega)) rfl (pa_cons (pv 0) (pa_cons (pv 1) (pa_cons (pv 7) pa_nil)))) pa_nil)))
  (pss_one (ps_set (i := 4) sc_l_way_of.nd rfl (Or.inl rfl) (pe_op op_sub (pv 4) (pv 7)))))))))
  (pss_one (ps_ret (pe_tup (pa_cons (pv 3) (pa_cons (pv 5) pa_nil))))))))), ?_⟩
  walk_at "rd"
  refine ite2 (fun e1 => ?_) (fun e1 => ?_)
  · have e1 := dec_t e1
    walk_at "rd"
    refine ⟨p, z, n, rfl, hP, by omega, hz0, hz1, fun v w' H' hs hw hv kk hP' => k v w' H' (by omega) hw hv kk (hP'.mono (by omega))⟩
  · have e1 := dec_f e1
    walk_at "rd"
    refine ite2 (fun e2 => ?_) (fun e2 => ?_)
    · have e2 := dec_t e2
      obtain ⟨n1, hn1, en1⟩ : ∃ n1, n1 ≤ n + 1 ∧ n1 = n := ⟨n, by omega, rfl⟩
      have hP1 : PenAt K H p n1 := by rw [en1]; exact hP
      have k1 : Keep H H := .refl H
      refine iteT ?_
      walk_at "rd"
      refine ⟨by show 5 ≤ sizeLine; decide, fun q hq => ?_⟩
      have s2 := Same.new hq (.lst [.str (Str.ofString "again"), .str (Str.ofString "again"), .str (Str.ofString "maybe"), .str (Str.ofString "ahead"), .str (Str.ofString "unless")])
      refine ⟨p, _, n1, rfl, hP1.same s2, by omega, .inl ⟨q, _, rfl, SqL.of upd_same, by decide, by decide, fun v H2 hv k2 hP2 => ?_⟩⟩
      walk_at "rd"
      have em : ((m : Int) - 1) = ((m - 1 : Nat) : Int) := by omega
      have k12 := (k1.trans (.of s2)).trans k2
      refine ⟨p, z, m - 1, n1 + 1, by rw [← em]; rfl, hP2, by omega, hz0, hz1, hz, by omega, by omega, by omega, fun u wu H3 hs hw hu k3 hP3 => ?_⟩
      refine ⟨by show 2 ≤ sizeLine; decide, fun t ht => ?_⟩
      have s4 := Same.new ht (.tup [v, u])
      have k13 := k12.trans k3
      have hu' : WayAt (newer H (upd H3 t (.tup [v, u]))) u wu := WayAt.keep ((newer_down k12).trans (newer_up (.of s4))) _ _ hu
      have ht' : newer H (upd H3 t (.tup [v, u])) t = some (.tup [v, u]) := by rw [newer_at (k13.free ht)]; exact upd_same
      have kf := k13.trans (.of s4)
      have pf := (hP3.same s4).mono (show n1 + 1 + (4 * (m - 1) - 2) ≤ n + (4 * m - 2) by omega)
      simp only [List.mem_cons, List.not_mem_nil, or_false] at hv
      rcases hv with rfl | rfl | rfl | rfl | rfl
      · exact k _ (.again wu) _ (by simp only [W.size]; omega) hw ⟨t, u, rfl, ht', hu'⟩ kf pf
      · exact k _ (.again wu) _ (by simp only [W.size]; omega) hw ⟨t, u, rfl, ht', hu'⟩ kf pf
      · exact k _ (.maybe wu) _ (by simp only [W.size]; omega) hw ⟨t, u, rfl, ht', hu'⟩ kf pf
      · exact k _ (.ahead wu) _ (by simp only [W.size]; omega) hw ⟨t, u, rfl, ht', hu'⟩ kf pf
      · exact k _ (.unless wu) _ (by simp only [W.size]; omega) hw ⟨t, u, rfl, ht', hu'⟩ kf pf
    · have e2 := dec_f e2
      refine ⟨_, rfl, p, 3, n, rfl, hP, by omega, by decide, by decide, fun d H1 d0 d1 k1 hP1 => ?_⟩
      walk_at "rd"
      obtain ⟨n1, hn1, en1⟩ : ∃ n1, n1 ≤ n + 1 ∧ n1 = n + 1 := ⟨n + 1, by omega, rfl⟩
      rw [← en1] at hP1
      refine ite2 (fun e3 => ?_) (fun e3 => ?_)
      · walk_at "rd"
        refine ⟨by show 5 ≤ sizeLine; decide, fun q hq => ?_⟩
        have s2 := Same.new hq (.lst [.str (Str.ofString "again"), .str (Str.ofString "again"), .str (Str.ofString "maybe"), .str (Str.ofString "ahead"), .str (Str.ofString "unless")])
        refine ⟨p, _, n1, rfl, hP1.same s2, by omega, .inl ⟨q, _, rfl, SqL.of upd_same, by decide, by decide, fun v H2 hv k2 hP2 => ?_⟩⟩
        walk_at "rd"
        have em : ((m : Int) - 1) = ((m - 1 : Nat) : Int) := by omega
        have k12 := (k1.trans (.of s2)).trans k2
        refine ⟨p, z, m - 1, n1 + 1, by rw [← em]; rfl, hP2, by omega, hz0, hz1, hz, by omega, by omega, by omega, fun u wu H3 hs hw hu k3 hP3 => ?_⟩
        refine ⟨by show 2 ≤ sizeLine; decide, fun t ht => ?_⟩
        have s4 := Same.new ht (.tup [v, u])
        have k13 := k12.trans k3
        have hu' : WayAt (newer H (upd H3 t (.tup [v, u]))) u wu := WayAt.keep ((newer_down k12).trans (newer_up (.of s4))) _ _ hu
        have ht' : newer H (upd H3 t (.tup [v, u])) t = some (.tup [v, u]) := by rw [newer_at (k13.free ht)]; exact upd_same
        have kf := k13.trans (.of s4)
        have pf := (hP3.same s4).mono (show n1 + 1 + (4 * (m - 1) - 2) ≤ n + (4 * m - 2) by omega)
        simp only [List.mem_cons, List.not_mem_nil, or_false] at hv
        rcases hv with rfl | rfl | rfl | rfl | rfl
        · exact k _ (.again wu) _ (by simp only [W.size]; omega) hw ⟨t, u, rfl, ht', hu'⟩ kf pf
        · exact k _ (.again wu) _ (by simp only [W.size]; omega) hw ⟨t, u, rfl, ht', hu'⟩ kf pf
        · exact k _ (.maybe wu) _ (by simp only [W.size]; omega) hw ⟨t, u, rfl, ht', hu'⟩ kf pf
        · exact k _ (.ahead wu) _ (by simp only [W.size]; omega) hw ⟨t, u, rfl, ht', hu'⟩ kf pf
        · exact k _ (.unless wu) _ (by simp only [W.size]; omega) hw ⟨t, u, rfl, ht', hu'⟩ kf pf
      · walk_at "rd"
        refine ⟨by show 3 ≤ sizeLine; decide, fun q0 hq0 => ?_⟩
        have s2 := Same.new hq0 (.lst [.str (Str.ofString "row"), .str (Str.ofString "row"), .str (Str.ofString "choice")])
        refine ⟨p, _, n1, rfl, hP1.same s2, by omega, .inl ⟨q0, _, rfl, SqL.of upd_same, by decide, by decide, fun v H2 hv k2 hP2 => ?_⟩⟩
        walk_at "rd"
        refine ⟨Nat.zero_le _, fun q hq => ?_⟩
        have s3 := Same.new hq (.lst [])
        have k13 := (k1.trans (.of s2)).trans k2
        have k14 := k13.trans (.of s3)
        have hqH := k13.free hq
        have hP4 := hP2.same s3
        generalize hH4 : upd H2 q (.lst []) = H4 at *
        have hq4 : H4 q = some (.lst []) := by rw [← hH4]; exact upd_same
        refine ⟨_, _, _, rfl, ?_⟩
        refine while_by (fun σ H' => ∃ (lf : Nat) (ws : List W) (vs : List V) (v6 v7 : Option V), σ = [some (.ref p.d), some (.str (tx z)), some (.int m), some v, some (.int lf), some (.ref q), v6, v7] ∧ H' q = some (.lst vs) ∧ WaysAt (newer H4 H') vs ws ∧ W.wfs z ws ∧
            W.sizes ws + lf + 1 = m ∧ (lf = 0 → 2 ≤ ws.length) ∧ Keep H H' ∧ Sub H4 H' ∧ PenAt K H' p (n + 2 + 4 * W.sizes ws)) (fun σ _ => slotN 4 σ) ?_ ?_ (fun σ H Q Q' hq ⟨v, e, i, j, e1, e2, k, e3, h⟩ => ⟨v, e, i, j, e1, e2, k, e3, hq _ _ h⟩)
        · refine ⟨m - 1, [], [], none, none, ?_, hq4, rfl, trivial, by simp only [W.sizes]; omega, fun _ => by omega, k14, fun _ h => h, hP4.mono (by simp only [W.sizes]; omega)⟩
          have em : ((m : Int) - 1) = ((m - 1 : Nat) : Int) := by omega
          rw [← em]
          rfl
        · rintro σ H5 ⟨lf, ws, vs, v6, v7, rfl, hq5, hws, hwf, hsum, h0, k5, k45, hP5⟩
          walk_at "rd"
          refine ite2 (fun e4 => ?_) (fun e4 => ?_)
          · have e4 : (0 : Int) < lf := of_decide_eq_true e4
            have hlen := WaysAt.len _ _ hws
            have hll := W.sizes_len ws
            have hshape := W.shaped_list hz hwf (show W.sizes ws ≤ 31 by omega)
            -- whether the last one takes all that is left
            refine withQ (E := tAndV _ _) (fun x H6 => ∃ b : Bool, x = .bl b ∧ (b = true → ws ≠ []) ∧ Keep H5 H6 ∧ PenAt K H6 p (n + 2 + 4 * W.sizes ws + 1)) (fun Q' go => ?_) ?_
            · walk_at "rd"
              refine ⟨Nat.zero_le _, fun qe hqe => ?_⟩
              have se := Same.new hqe (.lst [])
              refine ⟨.list (W.datas ws), .list [], .lst (SqL.of (se _ _ hq5)) (WaysAt.dp _ _ (WaysAt.keep (newer_le.trans (.of se)) _ _ hws)), .lst (SqL.of upd_same) .nil, hshape, by decide, ?_⟩
              rw [eqv_nil, datas_empty]
              refine ⟨_, rfl, ?_⟩
              refine ite2 (fun e5 => ?_) (fun e5 => ?_)
              · refine ⟨_, rfl, p, 2, _, rfl, hP5.same se, by omega, by decide, by decide, fun d H6 d0 d1 k6 hP6 => ?_⟩
                refine ⟨rfl, go _ _ ⟨_, rfl, fun _ e => ?_, (Keep.of se).trans k6, hP6⟩⟩
                rw [e] at e5
                cases e5
              · exact go _ _ ⟨false, rfl, fun e => Bool.noConfusion e, Keep.of se, (hP5.same se).mono (by omega)⟩
            rintro x H6 ⟨b, rfl, hb, k6, hP6⟩
            -- the share
            walk_at "nx"
            refine withQ (E := tIf _ _ _) (fun x H7 => ∃ sh : Nat, x = .int sh ∧ 0 < sh ∧ sh ≤ lf ∧ Keep H5 H7 ∧ PenAt K H7 p (n + 2 + 4 * W.sizes ws + 2)) (fun Q' go => ?_) ?_
            · walk_at "rd"
              refine ite2 (fun e5 => ?_) (fun e5 => ?_)
              · walk_at "rd"
                exact go _ _ ⟨lf, rfl, by omega, Nat.le_refl _, k6, hP6.mono (by omega)⟩
              · refine ⟨_, rfl, _, rfl, p, lf, _, rfl, hP6, by omega, e4, by omega, fun d H7 d0 d1 k7 hP7 => ?_⟩
                walk_at "rd"
                exact go _ _ ⟨d.toNat + 1, by show V.int (1 + d) = _; congr 1; omega, by omega, by omega, k6.trans k7, hP7⟩
            rintro x H7 ⟨sh, rfl, hs0, hs1, k7, hP7⟩
            walk_at "nx"
            refine withQ (E := tIf _ _ _) (fun x H8 => ∃ sh : Nat, x = .int sh ∧ 0 < sh ∧ sh ≤ lf ∧ (ws = [] → sh < lf) ∧ Keep H5 H8 ∧ PenAt K H8 p (n + 2 + 4 * W.sizes ws + 2)) (fun Q' go => ?_) ?_
            · refine withB (E := tAnd _ _) (fun b H8 => (b = true ↔ (ws = [] ∧ sh = lf)) ∧ Keep H5 H8 ∧ PenAt K H8 p (n + 2 + 4 * W.sizes ws + 2)) (fun Q' go => ?_) ?_
              · walk_at "rd"
                refine ⟨Nat.zero_le _, fun qe hqe => ?_⟩
                have se := Same.new hqe (.lst [])
                have k75 : Keep H5 (upd H7 qe (.lst [])) := k7.trans (.of se)
                refine ⟨.list (W.datas ws), .list [], .lst (SqL.of (k75.lst hq5)) (WaysAt.dp _ _ (WaysAt.keep (newer_le.trans k75) _ _ hws)), .lst (SqL.of upd_same) .nil, hshape, by decide, _, rfl, ?_⟩
                rw [eqv_nil, datas_empty]
                refine ite2 (fun e5 => ?_) (fun e5 => ?_)
                · walk_at "rd"
                  refine go _ _ ⟨⟨fun e => ⟨List.isEmpty_iff.mp e5, ?_⟩, fun e => decide_eq_true (by rw [e.2])⟩, k75, hP7.same se⟩
                  have := dec_t e
                  omega
                · exact go _ _ ⟨⟨fun e => Bool.noConfusion e, fun e => absurd (List.isEmpty_iff.mpr e.1) e5⟩, k75, hP7.same se⟩
              · rintro b' H8 ⟨hb', k8, hP8⟩
                refine ite2 (fun e5 => ?_) (fun e5 => ?_)
                · obtain ⟨e6, e7⟩ := hb'.mp e5
                  walk_at "rd"
                  have hz0 : W.sizes ws = 0 := by rw [e6]; rfl
                  refine go _ _ ⟨lf - 1, ?_, by omega, by omega, fun _ => by omega, k8, hP8⟩
                  show V.int ((lf : Int) - 1) = _
                  congr 1
                  omega
                · walk_at "rd"
                  refine go _ _ ⟨sh, rfl, hs0, hs1, fun e => ?_, k8, hP8⟩
                  by_cases e7 : sh = lf
                  · exact absurd (hb'.mpr ⟨e, e7⟩) e5
                  · omega
            rintro x H8 ⟨sh', rfl, hs0', hs1', hne, k8, hP8⟩
            walk_at "nx"
            refine ⟨_, rfl, .inl ⟨rfl, _, SqL.of (k8.lst hq5)⟩, _, rfl, _, rfl, _, rfl, ?_⟩
            refine ⟨p, z, sh', _, rfl, hP8, by omega, hz0, hz1, hz, hs0', by omega, by omega, fun u wu H9 hs hw hu k9 hP9 => ?_⟩
            have k59 := k8.trans k9
            refine ⟨q, vs, u, rfl, rfl, k59.lst hq5, small' (by omega), ?_⟩
            walk_at "rd"
            have esz : W.sizes (ws ++ [wu]) = W.sizes ws + sh' := by rw [W.sizes_app]; simp only [W.sizes]; omega
            have elf : ((lf : Int) - sh') = ((lf - sh' : Nat) : Int) := by omega
            refine ⟨⟨lf - sh', ws ++ [wu], vs ++ [u], some (.bl b), some (.int sh'), ?_, upd_same, ?_, (W.wfs_app _ _ _).mpr ⟨hwf, hw, trivial⟩, by rw [esz]; omega, fun e => ?_, Keep.put hqH (k5.trans k59) _, (k45.trans k59.sub).put _ _, ?_⟩, ?_⟩
            · show [some (V.ref p.d), some (V.str (tx z)), some (V.int m), some v, some (V.int ((lf : Int) - sh')), some (V.ref q), some (V.bl b), some (V.int sh')] = _
              rw [elf]
            · rw [newer_put hq4]
              exact WaysAt.app _ _ (WaysAt.keep (newer_up k59) _ _ hws) ⟨u, [], rfl, WayAt.keep (newer_sub (k45.trans k8.sub)) _ _ hu, rfl⟩
            · have : ws ≠ [] := fun e' => by have := hne e'; omega
              have : 0 < ws.length := List.length_pos_iff.mpr this
              rw [List.length_append]
              show 2 ≤ ws.length + 1
              omega
            · rw [esz]
              exact hP.put hqH (hP9.mono (by omega)) (k5.trans k59) (k59.lst hq5)
            · show slotN 4 _ < slotN 4 _
              have e1 : slotN 4 [some (V.ref p.d), some (V.str (tx z)), some (V.int m), some v, some (V.int ((lf : Int) - sh')), some (V.ref q), some (V.bl b), some (V.int sh')] = ((lf : Int) - sh').toNat := rfl
              have e2 : slotN 4 [some (V.ref p.d), some (V.str (tx z)), some (V.int m), some v, some (V.int lf), some (V.ref q), v6, v7] = (lf : Int).toNat := rfl
              rw [show slotN 4 _ = _ from e2]
              refine Nat.lt_of_le_of_lt (Nat.le_of_eq e1) ?_
              omega
          · have e4 : lf = 0 := by
              by_cases h : lf = 0
              · exact h
              · exact absurd (decide_eq_true (show (0 : Int) < lf by omega)) e4
            walk_at "nx"
            walk_at "rd"
            refine ⟨by show 2 ≤ sizeLine; decide, fun t ht => ?_⟩
            have s6 := Same.new ht (.tup [v, .ref q])
            have kf := k5.trans (.of s6)
            have ht' : newer H (upd H5 t (.tup [v, .ref q])) t = some (.tup [v, .ref q]) := by rw [newer_at (k5.free ht)]; exact upd_same
            have hq' : newer H (upd H5 t (.tup [v, .ref q])) q = some (.lst vs) := by rw [newer_at hqH]; exact s6 _ _ hq5
            have hw' : WaysAt (newer H (upd H5 t (.tup [v, .ref q]))) vs ws := WaysAt.keep ((newer_up (.of s6)).trans (newer_down k14)) _ _ hws
            have pf := (hP5.same s6).mono (show n + 2 + 4 * W.sizes ws ≤ n + (4 * m - 2) by omega)
            simp only [List.mem_cons, List.not_mem_nil, or_false] at hv
            rcases hv with rfl | rfl | rfl
            · exact k _ (.row ws) _ (by simp only [W.size]; omega) ⟨h0 e4, hwf⟩ ⟨t, q, vs, rfl, ht', hq', hw'⟩ kf pf
            · exact k _ (.row ws) _ (by simp only [W.size]; omega) ⟨h0 e4, hwf⟩ ⟨t, q, vs, rfl, ht', hq', hw'⟩ kf pf
            · exact k _ (.choice ws) _ (by simp only [W.size]; omega) ⟨h0 e4, hwf⟩ ⟨t, q, vs, rfl, ht', hq', hw'⟩ kf pf
theorem d_l_way_of (h : Here K mg "_law_way_of" s_l_way_of ["_law_pen_here", "_law_signs_here", "_law_size"]) (B : Bs mg) (G_l_draw : DefOk P w K mg base 1 "_law_draw" ["_law_pen_here", "_law_many"] (spDraw K)) (G_l_pick : DefOk P w K mg base 2 "_law_pick" ["_law_pen_here", "_law_items"] (spPick K))
    (G_l_leaf : DefOk P w K mg base 3 "_law_leaf" ["_law_pen_here", "_law_signs_here"] (spLeaf K)) : ∀ s, DefOk P w K mg base (3 + s) "_law_way_of" ["_law_pen_here", "_law_signs_here", "_law_size"] (spWayOf K s)
  | 0 => by
    obtain ⟨f, fd, F, m, b⟩ := h.ex
    exact ⟨f, fd, m, F.kp, b, none_way_of⟩
  | s + 1 => step_l_way_of s h B G_l_draw G_l_pick G_l_leaf (d_l_way_of h B G_l_draw G_l_pick G_l_leaf s)
end
end Wv
namespace Wv
open PySem PySem.Spec PyProof.Rows L2
/-! ### ways as objects of the program -/
structure Cs where
  lt : Addr
  on : Addr
  no : Addr
  ro : Addr
  ch : Addr
  ag : Addr
  ma : Addr
  ah : Addr
  un : Addr
  ca : Addr
/-- the class of a way -/
def Cs.of (c : Cs) : W → Addr
  | .one => c.on
  | .nothing => c.no
  | .letter _ => c.lt
  | .call _ => c.ca
  | .row _ => c.ro
  | .choice _ => c.ch
  | .again _ => c.ag
  | .maybe _ => c.ma
  | .ahead _ => c.ah
  | .unless _ => c.un
/-- what a way notes of itself: the name of its first call, how many Agains stand within one another -/
def fV : Option Str → V
  | none => .non
  | some x => .str x
mutual
def W.called : W → Option Str
  | .call x => some x
  | .row ws => W.calleds ws | .choice ws => W.calleds ws
  | .again w => w.called | .maybe w => w.called | .ahead w => w.called | .unless w => w.called
  | _ => none
def W.calleds : List W → Option Str
  | [] => none
  | w :: ws => match w.called with
    | some x => some x
    | none => W.calleds ws
end
mutual
def W.rounds : W → Nat
  | .row ws => W.roundss ws | .choice ws => W.roundss ws
  | .again w => w.rounds + 1 | .maybe w => w.rounds | .ahead w => w.rounds | .unless w => w.rounds
  | _ => 0
def W.roundss : List W → Nat
  | [] => 0
  | w :: ws => max w.rounds (W.roundss ws)
end
def nts (o : Option Str) (n : Nat) (r : List (Str × V)) : List (Str × V) := (Str.ofString "called", fV o) :: (Str.ofString "rounds", .int (n : Nat)) :: r
mutual
def ObjAt (c : Cs) (H : Hp) : V → W → Prop
  | v, .one => ∃ a d, v = .ref a ∧ H a = some (.ins c.on d (nts none 0 []))
  | v, .nothing => ∃ a d, v = .ref a ∧ H a = some (.ins c.no d (nts none 0 []))
  | v, .letter x => ∃ a d, v = .ref a ∧ H a = some (.ins c.lt d ((Str.ofString "letter", .str (sg x)) :: nts none 0 []))
  | v, .call x => ∃ a d, v = .ref a ∧ H a = some (.ins c.ca d ((Str.ofString "name", .str x) :: nts (some x) 0 []))
  | v, .row ws => ∃ a d t vs, v = .ref a ∧ H a = some (.ins c.ro d ((Str.ofString "ways", .ref t) :: nts (W.calleds ws) (W.roundss ws) [])) ∧ H t = some (.tup vs) ∧ ObjsAt c H vs ws
  | v, .choice ws => ∃ a d t vs, v = .ref a ∧ H a = some (.ins c.ch d ((Str.ofString "ways", .ref t) :: nts (W.calleds ws) (W.roundss ws) [])) ∧ H t = some (.tup vs) ∧ ObjsAt c H vs ws
  | v, .again w => ∃ a d u mk, v = .ref a ∧ H a = some (.ins c.ag d ((Str.ofString "part", u) :: nts w.called (w.rounds + 1) [(Str.ofString "mark", mk)])) ∧ ObjAt c H u w
  | v, .maybe w => ∃ a d u, ∃ _ : V, v = .ref a ∧ H a = some (.ins c.ma d ((Str.ofString "part", u) :: nts w.called w.rounds [])) ∧ ObjAt c H u w
  | v, .ahead w => ∃ a d u, ∃ _ : V, v = .ref a ∧ H a = some (.ins c.ah d ((Str.ofString "part", u) :: nts w.called w.rounds [])) ∧ ObjAt c H u w
  | v, .unless w => ∃ a d u, ∃ _ : V, v = .ref a ∧ H a = some (.ins c.un d ((Str.ofString "part", u) :: nts w.called w.rounds [])) ∧ ObjAt c H u w
def ObjsAt (c : Cs) (H : Hp) : List V → List W → Prop
  | vs, [] => vs = []
  | vs, w :: ws => ∃ u us, vs = u :: us ∧ ObjAt c H u w ∧ ObjsAt c H us ws
end
theorem ObjsAt.len {c : Cs} {H : Hp} : ∀ (ws : List W) (vs : List V), ObjsAt c H vs ws → vs.length = ws.length
  | [], vs, h => by rw [show vs = [] from h]; rfl
  | w :: ws, vs, ⟨u, us, e, _, h⟩ => by rw [e, List.length_cons, List.length_cons, ObjsAt.len ws us h]
theorem ObjsAt.app {c : Cs} {H : Hp} : ∀ (ws : List W) (vs : List V) {us : List V} {xs : List W}, ObjsAt c H vs ws → ObjsAt c H us xs → ObjsAt c H (vs ++ us) (ws ++ xs)
  | [], vs, us, xs, h, h2 => by rw [show vs = [] from h]; exact h2
  | w :: ws, vs, us, xs, ⟨u, r, e, hu, h⟩, h2 => by rw [e]; exact ⟨u, r ++ us, rfl, hu, ObjsAt.app ws r h h2⟩
theorem ObjsAt.at_ {c : Cs} {H : Hp} : ∀ (ws : List W) (vs : List V) (i : Nat) (w : W), ObjsAt c H vs ws → ws[i]? = some w → ∃ v, vs[i]? = some v ∧ ObjAt c H v w
  | [], vs, i, w, h, e => by simp at e
  | x :: ws, vs, 0, w, ⟨u, us, ev, hu, h⟩, e => by
    have q : x = w := by simpa using e
    subst q
    exact ⟨u, by rw [ev]; rfl, hu⟩
  | x :: ws, vs, i + 1, w, ⟨u, us, ev, hu, h⟩, e => by
    obtain ⟨v, h1, h2⟩ := ObjsAt.at_ ws us i w h (by simpa using e)
    exact ⟨v, by rw [ev]; simpa using h1, h2⟩
theorem ObjsAt.rev {c : Cs} {H : Hp} : ∀ (ws : List W) (vs : List V), ObjsAt c H vs ws → ObjsAt c H vs.reverse ws.reverse
  | [], vs, h => by rw [show vs = [] from h]; rfl
  | w :: ws, vs, ⟨u, us, e, hu, h⟩ => by
    rw [e, List.reverse_cons, List.reverse_cons]
    exact ObjsAt.app _ _ (ObjsAt.rev ws us h) ⟨u, [], rfl, hu, rfl⟩
/-- tuples and instances stay -/
structure Still (H H' : Hp) : Prop where
  tup : ∀ {a : Addr} {xs : List V}, H a = some (.tup xs) → H' a = some (.tup xs)
  ins : ∀ {a C d : Addr} {fs : List (Str × V)}, H a = some (.ins C d fs) → H' a = some (.ins C d fs)
theorem Still.refl (H : Hp) : Still H H := ⟨fun h => h, fun h => h⟩
theorem Still.trans {H H1 H2 : Hp} (a : Still H H1) (b : Still H1 H2) : Still H H2 := ⟨fun h => b.tup (a.tup h), fun h => b.ins (a.ins h)⟩
theorem Keep.still {H H' : Hp} (k : Keep H H') : Still H H' := ⟨fun h => k.tup h, fun h => k.ins h⟩
theorem stillS {H H' : Hp} (k : Same H H') : Still H H' := (Keep.of k).still
theorem Still.put {H : Hp} {q : Addr} {xs ys : List V} (h : H q = some (.lst xs)) : Still H (upd H q (.lst ys)) :=
  ⟨fun {a} _ e => by rw [upd_ne (ne_of e h (by intro z; cases z))]; exact e, fun {a} _ _ _ e => by rw [upd_ne (ne_of e h (by intro z; cases z))]; exact e⟩
mutual
theorem ObjAt.keep {c : Cs} {H H' : Hp} (k : Still H H') : ∀ (w : W) (v : V), ObjAt c H v w → ObjAt c H' v w
  | .one, v, ⟨a, d, e, h⟩ => ⟨a, d, e, k.ins h⟩
  | .nothing, v, ⟨a, d, e, h⟩ => ⟨a, d, e, k.ins h⟩
  | .letter _, v, ⟨a, d, e, h⟩ => ⟨a, d, e, k.ins h⟩
  | .call _, v, ⟨a, d, e, h⟩ => ⟨a, d, e, k.ins h⟩
  | .row ws, v, ⟨a, d, t, vs, e, h, h2, h3⟩ => ⟨a, d, t, vs, e, k.ins h, k.tup h2, ObjsAt.keep k ws vs h3⟩
  | .choice ws, v, ⟨a, d, t, vs, e, h, h2, h3⟩ => ⟨a, d, t, vs, e, k.ins h, k.tup h2, ObjsAt.keep k ws vs h3⟩
  | .again w, v, ⟨a, d, u, m, e, h, h2⟩ => ⟨a, d, u, m, e, k.ins h, ObjAt.keep k w u h2⟩
  | .maybe w, v, ⟨a, d, u, m, e, h, h2⟩ => ⟨a, d, u, m, e, k.ins h, ObjAt.keep k w u h2⟩
  | .ahead w, v, ⟨a, d, u, m, e, h, h2⟩ => ⟨a, d, u, m, e, k.ins h, ObjAt.keep k w u h2⟩
  | .unless w, v, ⟨a, d, u, m, e, h, h2⟩ => ⟨a, d, u, m, e, k.ins h, ObjAt.keep k w u h2⟩
theorem ObjsAt.keep {c : Cs} {H H' : Hp} (k : Still H H') : ∀ (ws : List W) (vs : List V), ObjsAt c H vs ws → ObjsAt c H' vs ws
  | [], _, h => h
  | w :: ws, vs, ⟨u, us, e, h, h2⟩ => ⟨u, us, e, ObjAt.keep k w u h, ObjsAt.keep k ws us h2⟩
end
/-- the ways of which a way is made -/
def W.inner : W → List W
  | .row ws => ws
  | .choice ws => ws
  | .again w => [w]
  | .maybe w => [w]
  | .ahead w => [w]
  | .unless w => [w]
  | _ => []
theorem W.size_inner (w : W) : w.size = 1 + W.sizes w.inner := by
  cases w <;> simp [W.size, W.inner, W.sizes]
theorem W.size_mem : ∀ {ws : List W} {i : Nat} {w : W}, ws[i]? = some w → w.size ≤ W.sizes ws
  | [], i, w, h => by simp at h
  | x :: ws, 0, w, h => by
    have q : x = w := by simpa using h
    subst q
    simp only [W.sizes]; omega
  | x :: ws, i + 1, w, h => by
    have q := W.size_mem (ws := ws) (i := i) (w := w) (by simpa using h)
    simp only [W.sizes]; omega
theorem take_more' {α : Type} : ∀ {l : List α} {i : Nat} {x : α}, l[i]? = some x → l.take (i + 1) = l.take i ++ [x]
  | [], i, x, h => by simp at h
  | a :: l, 0, x, h => by
    have e : a = x := Option.some.inj h
    subst e
    rfl
  | a :: l, i + 1, x, h => by
    have ih := take_more' (l := l) (i := i) (x := x) h
    show a :: l.take (i + 1) = a :: l.take i ++ [x]
    rw [ih]
    rfl
/-! ### tests by the tag -/
def W.is_lc : W → Bool
  | .letter _ => true
  | .call _ => true
  | _ => false
theorem in_lc (w : W) : inV (.str w.tag) [.str (Str.ofString "letter"), .str (Str.ofString "call")] = w.is_lc := by cases w <;> (simp only [W.tag, W.is_lc]; decide +kernel)
def W.is_on : W → Bool
  | .one => true
  | .nothing => true
  | _ => false
theorem in_on (w : W) : inV (.str w.tag) [.str (Str.ofString "one"), .str (Str.ofString "nothing")] = w.is_on := by cases w <;> (simp only [W.tag, W.is_on]; decide +kernel)
def W.is_rc : W → Bool
  | .row _ => true
  | .choice _ => true
  | _ => false
theorem in_rc (w : W) : inV (.str w.tag) [.str (Str.ofString "row"), .str (Str.ofString "choice")] = w.is_rc := by cases w <;> (simp only [W.tag, W.is_rc]; decide +kernel)
def W.is_am : W → Bool
  | .again _ => true
  | .maybe _ => true
  | _ => false
theorem in_am (w : W) : inV (.str w.tag) [.str (Str.ofString "again"), .str (Str.ofString "maybe")] = w.is_am := by cases w <;> (simp only [W.tag, W.is_am]; decide +kernel)
def W.is_un : W → Bool
  | .again _ => true
  | .maybe _ => true
  | .ahead _ => true
  | .unless _ => true
  | _ => false
theorem in_un (w : W) : inV (.str w.tag) [.str (Str.ofString "again"), .str (Str.ofString "maybe"), .str (Str.ofString "ahead"), .str (Str.ofString "unless")] = w.is_un := by cases w <;> (simp only [W.tag, W.is_un]; decide +kernel)
def W.is_nothing' : W → Bool
  | .nothing => true
  | _ => false
theorem eq_nothing (w : W) : decide (V.str w.tag = V.str (Str.ofString "nothing")) = w.is_nothing' := by
  cases w <;> first
    | exact decide_eq_true rfl
    | exact decide_eq_false (fun h => absurd (V.str.inj h) (by simp only [W.tag]; decide +kernel))
def W.is_one' : W → Bool
  | .one => true
  | _ => false
theorem eq_one (w : W) : decide (V.str w.tag = V.str (Str.ofString "one")) = w.is_one' := by
  cases w <;> first
    | exact decide_eq_true rfl
    | exact decide_eq_false (fun h => absurd (V.str.inj h) (by simp only [W.tag]; decide +kernel))
def W.is_letter' : W → Bool
  | .letter _ => true
  | _ => false
theorem eq_letter (w : W) : decide (V.str w.tag = V.str (Str.ofString "letter")) = w.is_letter' := by
  cases w <;> first
    | exact decide_eq_true rfl
    | exact decide_eq_false (fun h => absurd (V.str.inj h) (by simp only [W.tag]; decide +kernel))
def W.is_call' : W → Bool
  | .call _ => true
  | _ => false
theorem eq_call (w : W) : decide (V.str w.tag = V.str (Str.ofString "call")) = w.is_call' := by
  cases w <;> first
    | exact decide_eq_true rfl
    | exact decide_eq_false (fun h => absurd (V.str.inj h) (by simp only [W.tag]; decide +kernel))
def W.is_row' : W → Bool
  | .row _ => true
  | _ => false
theorem eq_row (w : W) : decide (V.str w.tag = V.str (Str.ofString "row")) = w.is_row' := by
  cases w <;> first
    | exact decide_eq_true rfl
    | exact decide_eq_false (fun h => absurd (V.str.inj h) (by simp only [W.tag]; decide +kernel))
def W.is_choice' : W → Bool
  | .choice _ => true
  | _ => false
theorem eq_choice (w : W) : decide (V.str w.tag = V.str (Str.ofString "choice")) = w.is_choice' := by
  cases w <;> first
    | exact decide_eq_true rfl
    | exact decide_eq_false (fun h => absurd (V.str.inj h) (by simp only [W.tag]; decide +kernel))
def W.is_again' : W → Bool
  | .again _ => true
  | _ => false
theorem eq_again (w : W) : decide (V.str w.tag = V.str (Str.ofString "again")) = w.is_again' := by
  cases w <;> first
    | exact decide_eq_true rfl
    | exact decide_eq_false (fun h => absurd (V.str.inj h) (by simp only [W.tag]; decide +kernel))
def W.is_maybe' : W → Bool
  | .maybe _ => true
  | _ => false
theorem eq_maybe (w : W) : decide (V.str w.tag = V.str (Str.ofString "maybe")) = w.is_maybe' := by
  cases w <;> first
    | exact decide_eq_true rfl
    | exact decide_eq_false (fun h => absurd (V.str.inj h) (by simp only [W.tag]; decide +kernel))
def W.is_ahead' : W → Bool
  | .ahead _ => true
  | _ => false
theorem eq_ahead (w : W) : decide (V.str w.tag = V.str (Str.ofString "ahead")) = w.is_ahead' := by
  cases w <;> first
    | exact decide_eq_true rfl
    | exact decide_eq_false (fun h => absurd (V.str.inj h) (by simp only [W.tag]; decide +kernel))
def W.is_unless' : W → Bool
  | .unless _ => true
  | _ => false
theorem eq_unless (w : W) : decide (V.str w.tag = V.str (Str.ofString "unless")) = w.is_unless' := by
  cases w <;> first
    | exact decide_eq_true rfl
    | exact decide_eq_false (fun h => absurd (V.str.inj h) (by simp only [W.tag]; decide +kernel))
theorem WayAt.head {H : Hp} {v : V} {w : W} (h : WayAt H v w) : ∃ a rest, v = .ref a ∧ H a = some (.tup (.str w.tag :: rest)) := by
  cases w <;> first
    | (obtain ⟨a, e, h⟩ := h; exact ⟨a, _, e, h⟩)
    | (obtain ⟨a, u, e, h, _⟩ := h; exact ⟨a, _, e, h⟩)
    | (obtain ⟨a, l, vs, e, h, _⟩ := h; exact ⟨a, _, e, h⟩)
theorem atI0 {x : V} {r : List V} : atI (x :: r) 0 = some x := atI_nat (j := 0) rfl
theorem atI1 {x y : V} {r : List V} : atI (x :: y :: r) 1 = some y := atI_nat (j := 1) rfl
/-! ### what the written part says of a class of ways -/
structure ClsF (K : PySem.W.Frag) (C : Addr) : Prop where
  cl : Cls K C
  nl : NoAttr K C "letter"
  nn : NoAttr K C "name"
  nw : NoAttr K C "ways"
  np : NoAttr K C "part"
  nc : NoAttr K C "called"
  nr : NoAttr K C "rounds"
  nm : NoAttr K C "mark"
  ha : PySem.W.findIn K (.ref C) "__class__" = some (some (.builtin "object.__class__"))
  hm : PySem.W.mroIn K C (.type "object") = some true
/-- what kind_of asks of the classes -/
structure AllF (K : PySem.W.Frag) (mg : Str → Option Value) (c : Cs) : Prop where
  f : ∀ w : W, ClsF K (c.of w)
  hn : PySem.W.specialIn K (.builtin "object.__class__") "__get__" = some (some (.builtin "getset_descriptor.__get__"))
  ht : PySem.W.takesIn K (.builtin "object.__class__") = some true
  kit : ∀ w u : W, PySem.W.kitOne K (.ref (c.of w)) (.ref (c.of u)) = some (decide (w.tag = u.tag))
  mLt : mg "Letter" = some (.ref c.lt)
  mOn : mg "One" = some (.ref c.on)
  mNo : mg "Nothing" = some (.ref c.no)
  mRo : mg "Row" = some (.ref c.ro)
  mCh : mg "Choice" = some (.ref c.ch)
  mAg : mg "Again" = some (.ref c.ag)
  mMa : mg "Maybe" = some (.ref c.ma)
  mAh : mg "Ahead" = some (.ref c.ah)
  mUn : mg "Unless" = some (.ref c.un)
  mCa : mg "Call" = some (.ref c.ca)
theorem ObjAt.head {c : Cs} {H : Hp} {v : V} {w : W} (h : ObjAt c H v w) : ∃ a d fs, v = .ref a ∧ H a = some (.ins (c.of w) d fs) := by
  cases w <;> first
    | (obtain ⟨a, d, e, h⟩ := h; exact ⟨a, d, _, e, h⟩)
    | (obtain ⟨a, d, u, m, e, h, _⟩ := h; exact ⟨a, d, _, e, h⟩)
/-- no attribute of a way has another name -/
def Names7 (m : Str) : Prop := m ≠ Str.ofString "letter" ∧ m ≠ Str.ofString "name" ∧ m ≠ Str.ofString "ways" ∧ m ≠ Str.ofString "part" ∧ m ≠ Str.ofString "called" ∧ m ≠ Str.ofString "rounds" ∧ m ≠ Str.ofString "mark"
theorem look_cons {f m : Str} {v : V} {r : List (Str × V)} (h : m ≠ f) : List.lookup m ((f, v) :: r) = List.lookup m r := by
  have q : (m == f) = false := by simpa using h
  simp [List.lookup, q]
theorem look_nts {o : Option Str} {n : Nat} {r : List (Str × V)} {m : Str} (h1 : m ≠ Str.ofString "called") (h2 : m ≠ Str.ofString "rounds") : List.lookup m (nts o n r) = List.lookup m r := by
  unfold nts
  rw [look_cons h1, look_cons h2]
theorem ObjAt.head' {c : Cs} {H : Hp} {v : V} {w : W} (h : ObjAt c H v w) : ∃ a d fs, v = .ref a ∧ H a = some (.ins (c.of w) d fs) ∧ ∀ m : Str, Names7 m → fs.lookup m = none := by
  cases w <;> first
    | (obtain ⟨a, d, e, h⟩ := h; exact ⟨a, d, _, e, h, fun m ⟨h1, h2, h3, h4, h5, h6, h7⟩ => by first | (rw [look_nts h5 h6]; rfl) | (rw [look_cons h1, look_nts h5 h6]; rfl) | (rw [look_cons h2, look_nts h5 h6]; rfl)⟩)
    | (obtain ⟨a, d, t, vs, e, h, _⟩ := h; exact ⟨a, d, _, e, h, fun m ⟨h1, h2, h3, h4, h5, h6, h7⟩ => by first | (rw [look_cons h3, look_nts h5 h6]; rfl) | (rw [look_cons h4, look_nts h5 h6]; rfl) | (rw [look_cons h4, look_nts h5 h6, look_cons h7]; rfl)⟩)
/-- what a way notes of itself, whatever its kind -/
theorem ObjAt.notes {c : Cs} {H : Hp} {v : V} {w : W} (h : ObjAt c H v w) : ∃ a d fs, v = .ref a ∧ H a = some (.ins (c.of w) d fs) ∧ fs.lookup (Str.ofString "called") = some (fV w.called) ∧ fs.lookup (Str.ofString "rounds") = some (.int (w.rounds : Nat)) := by
  cases w <;> first
    | (obtain ⟨a, d, e, h⟩ := h; exact ⟨a, d, _, e, h, rfl, rfl⟩)
    | (obtain ⟨a, d, t, vs, e, h, _⟩ := h; exact ⟨a, d, _, e, h, rfl, rfl⟩)
end Wv
namespace Wv
open PySem PySem.Spec PyProof.Rows L2
/-! ### the classes' __init__ -/
/-- what an __init__ leaves: the fields of the object at p; what was there ahead of the object stays -/
def Left (C p dx : Addr) (H0 : Hp) (fs : List (Str × V)) (Q : VK) : Prop := ∀ H' : Hp, H' p = some (.ins C dx fs) → Same H0 H' → Q .non H'
def At0 (C p dx : Addr) (H0 H : Hp) : Prop := H p = some (.ins C dx []) ∧ H0 p = none ∧ Same H0 H
def spInit0 (C : Addr) : Sp := fun vs H Q _ => ∃ (p dx : Addr) (H0 : Hp), vs = [.ref p] ∧ At0 C p dx H0 H ∧ Left C p dx H0 (nts none 0 []) Q
def spInitL (C : Addr) : Sp := fun vs H Q _ => ∃ (p dx : Addr) (v : V) (H0 : Hp), vs = [.ref p, v] ∧ At0 C p dx H0 H ∧ Left C p dx H0 ((Str.ofString "letter", v) :: nts none 0 []) Q
def spInitC (C : Addr) : Sp := fun vs H Q _ => ∃ (p dx : Addr) (v : V) (H0 : Hp), vs = [.ref p, v] ∧ At0 C p dx H0 H ∧ Left C p dx H0 ((Str.ofString "name", v) :: (Str.ofString "called", v) :: (Str.ofString "rounds", .int 0) :: []) Q
def spInitP (c : Cs) (C : Addr) : Sp := fun vs H Q _ => ∃ (p dx : Addr) (u : V) (w : W) (H0 : Hp), vs = [.ref p, u] ∧ At0 C p dx H0 H ∧ ObjAt c H0 u w ∧ Left C p dx H0 ((Str.ofString "part", u) :: nts w.called w.rounds []) Q
def spInitA (c : Cs) (C : Addr) : Sp := fun vs H Q _ => ∃ (p dx : Addr) (u : V) (w : W) (H0 : Hp), vs = [.ref p, u] ∧ At0 C p dx H0 H ∧ ObjAt c H0 u w ∧ ∀ mk : V, Left C p dx H0 ((Str.ofString "part", u) :: nts w.called (w.rounds + 1) [(Str.ofString "mark", mk)]) Q
def spInitT (K : PySem.W.Frag) (c : Cs) (C : Addr) : Sp := fun vs H Q _ => ∃ (p dx q : Addr) (xs : List V) (ws : List W) (H0 : Hp), vs = [.ref p, .ref q] ∧ At0 C p dx H0 H ∧ (H0 q = some (.lst xs) ∨ H0 q = some (.tup xs)) ∧ ObjsAt c H0 xs ws ∧ ws.length ≤ 1000000 ∧
  ∀ (t : Addr) (H' : Hp), H' t = some (.tup xs) → H' p = some (.ins C dx ((Str.ofString "ways", .ref t) :: nts (W.calleds ws) (W.roundss ws) [])) → Same H0 H' → Q .non H'
theorem at0 {H : Hp} {x dx C : Addr} (hx : H x = none) (hd : H dx = none) : At0 C x dx H (upd (upd H dx (.own x)) x (.ins C dx [])) :=
  ⟨upd_same, hx, fun b o e => by rw [upd_ne (ne_of_none e hx), upd_ne (ne_of_none e hd)]; exact e⟩
section
variable {c : Cs} {K : PySem.W.Frag} {C : Addr} {H : Hp} {Q : VK} {E : XK}
theorem make0 (h : ∀ x dx H', Same H H' → H' x = some (.ins C dx (nts none 0 [])) → Q (.ref x) H') :
    ∀ x dx, H x = none → H dx = none → dx ≠ x → spInit0 C (.ref x :: []) (upd (upd H dx (.own x)) x (.ins C dx [])) (fun v H2 => v = .non ∧ Q (.ref x) H2) E := fun x dx hx hd _ =>
  ⟨x, dx, H, rfl, at0 hx hd, fun H' e s => ⟨rfl, h x dx H' s e⟩⟩
theorem makeL {v : V} (h : ∀ x dx H', Same H H' → H' x = some (.ins C dx ((Str.ofString "letter", v) :: nts none 0 [])) → Q (.ref x) H') :
    ∀ x dx, H x = none → H dx = none → dx ≠ x → spInitL C (.ref x :: ([v] ++ [])) (upd (upd H dx (.own x)) x (.ins C dx [])) (fun v H2 => v = .non ∧ Q (.ref x) H2) E := fun x dx hx hd _ =>
  ⟨x, dx, v, H, rfl, at0 hx hd, fun H' e s => ⟨rfl, h x dx H' s e⟩⟩
theorem makeC {y : Str} (h : ∀ x dx H', Same H H' → H' x = some (.ins C dx ((Str.ofString "name", .str y) :: nts (some y) 0 [])) → Q (.ref x) H') :
    ∀ x dx, H x = none → H dx = none → dx ≠ x → spInitC C (.ref x :: ([.str y] ++ [])) (upd (upd H dx (.own x)) x (.ins C dx [])) (fun v H2 => v = .non ∧ Q (.ref x) H2) E := fun x dx hx hd _ =>
  ⟨x, dx, .str y, H, rfl, at0 hx hd, fun H' e s => ⟨rfl, h x dx H' s e⟩⟩
theorem makeP {u : V} {w : W} (hu : ObjAt c H u w) (h : ∀ x dx H', Same H H' → H' x = some (.ins C dx ((Str.ofString "part", u) :: nts w.called w.rounds [])) → Q (.ref x) H') :
    ∀ x dx, H x = none → H dx = none → dx ≠ x → spInitP c C (.ref x :: ([u] ++ [])) (upd (upd H dx (.own x)) x (.ins C dx [])) (fun v H2 => v = .non ∧ Q (.ref x) H2) E := fun x dx hx hd _ =>
  ⟨x, dx, u, w, H, rfl, at0 hx hd, hu, fun H' e s => ⟨rfl, h x dx H' s e⟩⟩
theorem makeA {u : V} {w : W} (hu : ObjAt c H u w) (h : ∀ x dx mk H', Same H H' → H' x = some (.ins C dx ((Str.ofString "part", u) :: nts w.called (w.rounds + 1) [(Str.ofString "mark", mk)])) → Q (.ref x) H') :
    ∀ x dx, H x = none → H dx = none → dx ≠ x → spInitA c C (.ref x :: ([u] ++ [])) (upd (upd H dx (.own x)) x (.ins C dx [])) (fun v H2 => v = .non ∧ Q (.ref x) H2) E := fun x dx hx hd _ =>
  ⟨x, dx, u, w, H, rfl, at0 hx hd, hu, fun mk H' e s => ⟨rfl, h x dx mk H' s e⟩⟩
theorem makeT {q : Addr} {xs : List V} {ws : List W} (hq : H q = some (.lst xs) ∨ H q = some (.tup xs)) (hw : ObjsAt c H xs ws) (hl : ws.length ≤ 1000000) (h : ∀ x dx t H', Same H H' → H' t = some (.tup xs) → H' x = some (.ins C dx ((Str.ofString "ways", .ref t) :: nts (W.calleds ws) (W.roundss ws) [])) → Q (.ref x) H') :
    ∀ x dx, H x = none → H dx = none → dx ≠ x → spInitT K c C (.ref x :: ([.ref q] ++ [])) (upd (upd H dx (.own x)) x (.ins C dx [])) (fun v H2 => v = .non ∧ Q (.ref x) H2) E := fun x dx hx hd _ =>
  ⟨x, dx, q, xs, ws, H, rfl, at0 hx hd, hq, hw, hl, fun t H' ht e s => ⟨rfl, h x dx t H' s ht e⟩⟩
end
def spFirst (c : Cs) : Sp := fun vs H Q _ => ∃ (t : Addr) (xs : List V) (ws : List W), vs = [.ref t] ∧ H t = some (.tup xs) ∧ ObjsAt c H xs ws ∧ ws.length ≤ 1000000 ∧ ∀ H', Same H H' → Q (fV (W.calleds ws)) H'
def spMost (c : Cs) : Sp := fun vs H Q _ => ∃ (t : Addr) (xs : List V) (ws : List W), vs = [.ref t] ∧ H t = some (.tup xs) ∧ ObjsAt c H xs ws ∧ ws.length ≤ 1000000 ∧ ∀ H', Same H H' → Q (.int (W.roundss ws : Nat)) H'
section
variable {P : Program} {w : World} {K : PySem.W.Frag} {mg : Str → Option Value} {base : Heap}
theorem calleds_map : ∀ ws : List W, W.calleds ws = (ws.filterMap W.called).head?
  | [] => rfl
  | w :: ws => by
    rw [W.calleds, List.filterMap_cons]
    cases h : w.called with
    | none => exact calleds_map ws
    | some x => rfl
theorem rounds_max : ∀ (ws : List W) (n : Nat), (ws.map fun w => ((w.rounds : Nat) : Int)).foldl max ((n : Nat) : Int) = ((max n (W.roundss ws) : Nat) : Int)
  | [], n => by rw [W.roundss, Nat.max_zero]; rfl
  | w :: ws, n => by
    rw [List.map_cons, List.foldl_cons, W.roundss]
    have e : max ((n : Nat) : Int) ((w.rounds : Nat) : Int) = ((max n w.rounds : Nat) : Int) := by omega
    rw [e, rounds_max ws, Nat.max_assoc]
theorem rounds_fold (ws : List W) : mx 0 (ws.map fun w => ((w.rounds : Nat) : Int)) = ((W.roundss ws : Nat) : Int) := by
  cases ws with
  | nil => rfl
  | cons w ws => exact rounds_max ws w.rounds
abbrev s_first_call : Stmt := top 31
theorem sc_first_call : FnScope ["ways", "calls", "way"] ["ways"] (defScope s_first_call) := ⟨rfl, rfl, rfl, by decide +kernel, rfl, by decide +kernel, by decide +kernel⟩
theorem d_first_call (h : Here K mg "first_call" s_first_call ["ways"]) {c : Cs} (hf : ∀ w : W, ClsF K (c.of w)) : DefOk P w K mg base 1 "first_call" ["ways"] (spFirst c) := by
  refine h.ok sc_first_call (fun vs H Q E h => by obtain ⟨_, _, _, rfl, _⟩ := h; rfl) (fun f cdv A outer s H vs Q E hr h => ?_)
  obtain ⟨t, xs, ws, rfl, ht, hw, hl, k⟩ := h
  refine ⟨_, (pss_cons (ps_setLc (i := 1) (own := [("way", 2)]) (g := (gName 2)) rfl sc_first_call.nd rfl rfl (sw_true rfl rfl rfl (by decide +kernel)) (pi_tup (pv 0)) (blkOk_by (own := [("way", 2)]) (N := ["ways", "calls", "way"]) (sc := defScope s_first_call) (by decide +kernel)) (fun _ _ _ _ _ => pg_name (i := 2) sc_first_call.nd rfl (Or.inl rfl)) (fun _ _ _ _ _ => pts_one (pt_cmpR op_notN (pe_fldK (K := K) rfl (pv 2) rfl) pe_non (nomark _))) (fun _ _ _ _ _ => (pe_fldK (K := K) rfl (pv 2) rfl)))
  (pss_one (ps_ret (pe_ifExp (pt_truth (pv 1) (by intro _; rfl)) (pe_ix ix_list (pv 1) pe_int (fun _ _ => rfl)) pe_non)))), ?_⟩
  have elen := ObjsAt.len _ _ hw
  refine ⟨_, rfl, t, rfl, ⟨xs, SqT.of ht⟩, fun D hD => ?_⟩
  refine lc_tup (K := K) (a := t) (xs := xs) (fun i H' => H' D = some (.lst (((ws.take i).filterMap W.called).map V.str)) ∧ Same H H') ?_ ?_ ?_ ?_
  · exact ⟨upd_same, Same.new hD _⟩
  · rintro i H' _ ⟨_, s1⟩
    exact SqT.of (s1 _ _ ht)
  · rintro i x H' hx ⟨hD', s1⟩
    have hi : i < xs.length := (List.getElem?_eq_some_iff.mp hx).1
    obtain ⟨wi, hwi⟩ : ∃ wi, ws[i]? = some wi := ⟨ws[i]'(by omega), List.getElem?_eq_getElem (by omega)⟩
    obtain ⟨x', hx', hxw⟩ := ObjsAt.at_ _ _ _ _ hw hwi
    have ex : x = x' := Option.some.inj (hx.symm.trans hx')
    subst ex
    obtain ⟨a, d, fs, ea, ha, l1, l2⟩ := (ObjAt.keep (stillS s1) _ _ hxw).notes
    refine ⟨rfl, _, rfl, a, _, d, fs, _, ea, ha, (hf wi).cl, (hf wi).nc, l1, rfl, _, rfl, ?_⟩
    rw [take_more' hwi, List.filterMap_append, List.map_append]
    cases hc : wi.called with
    | none =>
      rw [hc] at l1
      have e9 : (!decide (fV none = V.non)) = false := rfl
      rw [e9]
      refine iteF ⟨?_, s1⟩
      rw [List.filterMap_cons, hc, List.filterMap_nil, List.map_nil, List.append_nil]
      exact hD'
    | some y =>
      rw [hc] at l1
      have e9 : (!decide (fV (some y) = V.non)) = true := rfl
      rw [e9]
      have hlen := List.length_filterMap_le W.called (ws.take i)
      have hlen2 : (ws.take i).length ≤ ws.length := by rw [List.length_take]; omega
      refine iteT ⟨_, rfl, a, _, d, fs, _, ea, ha, (hf wi).cl, (hf wi).nc, l1, _, hD', small' (by rw [List.length_map]; omega), ?_, Same.put hD s1 _⟩
      rw [upd_same, List.filterMap_cons, hc, List.filterMap_nil]
      rfl
  · rintro H1 ⟨hD1, s1⟩
    rw [elen, List.take_length] at hD1
    walk_at "nx"
    refine ⟨_, rfl, _, .inl ⟨_, SqL.of hD1, rfl⟩, ?_⟩
    have e := calleds_map ws
    cases hl : ws.filterMap W.called with
    | nil =>
      rw [hl] at e hD1
      refine iteF ?_
      have k' := k H1 s1
      rw [e] at k'
      exact k'
    | cons y ys =>
      rw [hl] at e hD1
      refine iteT ⟨_, rfl, D, _, _, _, rfl, rfl, SqL.of hD1, atI0, ?_⟩
      have k' := k H1 s1
      rw [e] at k'
      exact k'
abbrev s_most_rounds : Stmt := top 32
theorem sc_most_rounds : FnScope ["ways", "way"] ["ways"] (defScope s_most_rounds) := ⟨rfl, rfl, rfl, by decide +kernel, rfl, by decide +kernel, by decide +kernel⟩
theorem d_most_rounds (h : Here K mg "most_rounds" s_most_rounds ["ways"]) (B : Bs mg) {c : Cs} (hf : ∀ w : W, ClsF K (c.of w)) : DefOk P w K mg base 1 "most_rounds" ["ways"] (spMost c) := by
  have B_max := B.max
  refine h.ok sc_most_rounds (fun vs H Q E h => by obtain ⟨_, _, _, rfl, _⟩ := h; rfl) (fun f cdv A outer s H vs Q E hr h => ?_)
  obtain ⟨t, xs, ws, rfl, ht, hw, hl, k⟩ := h
  refine ⟨_, (pss_one (ps_ret (pe_callBK (cr_maxDef rfl (Nat.lt_of_le_of_lt (Nat.add_le_add_left (by decide) _) hr.units)) rfl B_max (by decide +kernel) (pa_cons (pe_lc (own := [("way", 1)]) (g := (gName 1)) (tt := tYes) rfl sc_most_rounds.nd (pi_tup (pv 0)) (blkOk_by (own := [("way", 1)]) (N := ["ways", "way"]) (sc := defScope s_most_rounds) (by decide +kernel)) (fun _ _ _ _ _ => pg_name (i := 1) sc_most_rounds.nd rfl (Or.inl rfl)) (fun _ _ _ _ _ => pts_nil) (fun _ _ _ _ _ => (pe_fldK (K := K) rfl (pv 1) rfl))) pa_nil) (pk_cons pe_int pk_nil)))), ?_⟩
  have elen := ObjsAt.len _ _ hw
  refine ⟨_, rfl, t, rfl, ⟨xs, SqT.of ht⟩, fun D hD => ?_⟩
  refine lc_tup (K := K) (a := t) (xs := xs) (fun i H' => H' D = some (.lst ((ws.take i).map fun w => V.int ((w.rounds : Nat) : Int))) ∧ Same H H') ?_ ?_ ?_ ?_
  · exact ⟨upd_same, Same.new hD _⟩
  · rintro i H' _ ⟨_, s1⟩
    exact SqT.of (s1 _ _ ht)
  · rintro i x H' hx ⟨hD', s1⟩
    have hi : i < xs.length := (List.getElem?_eq_some_iff.mp hx).1
    obtain ⟨wi, hwi⟩ : ∃ wi, ws[i]? = some wi := ⟨ws[i]'(by omega), List.getElem?_eq_getElem (by omega)⟩
    obtain ⟨x', hx', hxw⟩ := ObjsAt.at_ _ _ _ _ hw hwi
    have ex : x = x' := Option.some.inj (hx.symm.trans hx')
    subst ex
    obtain ⟨a, d, fs, ea, ha, l1, l2⟩ := (ObjAt.keep (stillS s1) _ _ hxw).notes
    refine ⟨rfl, _, rfl, a, _, d, fs, _, ea, ha, (hf wi).cl, (hf wi).nr, l2, _, hD', small' (by rw [List.length_map, List.length_take]; omega), ?_, Same.put hD s1 _⟩
    rw [upd_same, take_more' hwi, List.map_append]
    rfl
  · rintro H1 ⟨hD1, s1⟩
    rw [elen, List.take_length] at hD1
    refine ⟨D, ws.map fun w => ((w.rounds : Nat) : Int), 0, rfl, rfl, SqL.of (by rw [List.map_map]; exact hD1), ?_⟩
    rw [rounds_fold]
    exact k H1 s1
abbrev s_One_init : Stmt := inClass (top 22) 0
theorem sc_One_init : FnScope ["self"] ["self"] (defScope s_One_init) := ⟨rfl, rfl, rfl, by decide +kernel, rfl, by decide +kernel, by decide +kernel⟩
theorem ok_One {f C : Addr} {fd : FuncData} (F : Fun K "__init__" "One.__init__" s_One_init f fd) (T : ClsF K C) : FnOk P w K mg base CX0 1 f fd ["self"] (spInit0 C) := by
  refine F.ok sc_One_init (fun vs H Q E h => by obtain ⟨_, _, _, rfl, _⟩ := h; rfl) (fun cdv A outer s H vs Q E hr h => ?_)
  obtain ⟨p, dx, H0, rfl, ⟨hp, h0, s0⟩, k⟩ := h
  refine ⟨_, (pss_cons (ps_fld (pv 0) pe_non rfl)
  (pss_one (ps_fld (pv 0) pe_int rfl))), ?_⟩
  refine ⟨_, rfl, p, C, dx, [], rfl, hp, T.cl, T.nc, (by show 0 < 1000; decide), ?_⟩
  refine ⟨_, rfl, p, C, dx, _, rfl, upd_same, T.cl, T.nr, (by show 1 < 1000; decide), ?_⟩
  exact k _ upd_same (Same.put h0 (Same.put h0 s0 _) _)
abbrev s_Nothing_init : Stmt := inClass (top 23) 0
theorem sc_Nothing_init : FnScope ["self"] ["self"] (defScope s_Nothing_init) := ⟨rfl, rfl, rfl, by decide +kernel, rfl, by decide +kernel, by decide +kernel⟩
theorem ok_Nothing {f C : Addr} {fd : FuncData} (F : Fun K "__init__" "Nothing.__init__" s_Nothing_init f fd) (T : ClsF K C) : FnOk P w K mg base CX0 1 f fd ["self"] (spInit0 C) := by
  refine F.ok sc_Nothing_init (fun vs H Q E h => by obtain ⟨_, _, _, rfl, _⟩ := h; rfl) (fun cdv A outer s H vs Q E hr h => ?_)
  obtain ⟨p, dx, H0, rfl, ⟨hp, h0, s0⟩, k⟩ := h
  refine ⟨_, (pss_cons (ps_fld (pv 0) pe_non rfl)
  (pss_one (ps_fld (pv 0) pe_int rfl))), ?_⟩
  refine ⟨_, rfl, p, C, dx, [], rfl, hp, T.cl, T.nc, (by show 0 < 1000; decide), ?_⟩
  refine ⟨_, rfl, p, C, dx, _, rfl, upd_same, T.cl, T.nr, (by show 1 < 1000; decide), ?_⟩
  exact k _ upd_same (Same.put h0 (Same.put h0 s0 _) _)
abbrev s_Letter_init : Stmt := inClass (top 21) 0
theorem sc_Letter_init : FnScope ["self", "letter"] ["self", "letter"] (defScope s_Letter_init) := ⟨rfl, rfl, rfl, by decide +kernel, rfl, by decide +kernel, by decide +kernel⟩
theorem ok_Letter {f C : Addr} {fd : FuncData} (F : Fun K "__init__" "Letter.__init__" s_Letter_init f fd) (T : ClsF K C) : FnOk P w K mg base CX0 1 f fd ["self", "letter"] (spInitL C) := by
  refine F.ok sc_Letter_init (fun vs H Q E h => by obtain ⟨_, _, _, _, rfl, _⟩ := h; rfl) (fun cdv A outer s H vs Q E hr h => ?_)
  obtain ⟨p, dx, v, H0, rfl, ⟨hp, h0, s0⟩, k⟩ := h
  refine ⟨_, (pss_cons (ps_fld (pv 0) (pv 1) rfl)
  (pss_cons (ps_fld (pv 0) pe_non rfl)
  (pss_one (ps_fld (pv 0) pe_int rfl)))), ?_⟩
  refine ⟨_, rfl, _, rfl, p, C, dx, [], rfl, hp, T.cl, T.nl, (by show 0 < 1000; decide), ?_⟩
  refine ⟨_, rfl, p, C, dx, _, rfl, upd_same, T.cl, T.nc, (by show 1 < 1000; decide), ?_⟩
  refine ⟨_, rfl, p, C, dx, _, rfl, upd_same, T.cl, T.nr, (by show 2 < 1000; decide), ?_⟩
  exact k _ upd_same (Same.put h0 (Same.put h0 (Same.put h0 s0 _) _) _)
abbrev s_Call_init : Stmt := inClass (top 30) 0
theorem sc_Call_init : FnScope ["self", "name"] ["self", "name"] (defScope s_Call_init) := ⟨rfl, rfl, rfl, by decide +kernel, rfl, by decide +kernel, by decide +kernel⟩
theorem ok_Call {f C : Addr} {fd : FuncData} (F : Fun K "__init__" "Call.__init__" s_Call_init f fd) (T : ClsF K C) : FnOk P w K mg base CX0 1 f fd ["self", "name"] (spInitC C) := by
  refine F.ok sc_Call_init (fun vs H Q E h => by obtain ⟨_, _, _, _, rfl, _⟩ := h; rfl) (fun cdv A outer s H vs Q E hr h => ?_)
  obtain ⟨p, dx, v, H0, rfl, ⟨hp, h0, s0⟩, k⟩ := h
  refine ⟨_, (pss_cons (ps_fld (pv 0) (pv 1) rfl)
  (pss_cons (ps_fld (pv 0) (pv 1) rfl)
  (pss_one (ps_fld (pv 0) pe_int rfl)))), ?_⟩
  refine ⟨_, rfl, _, rfl, p, C, dx, [], rfl, hp, T.cl, T.nn, (by show 0 < 1000; decide), ?_⟩
  refine ⟨_, rfl, _, rfl, p, C, dx, _, rfl, upd_same, T.cl, T.nc, (by show 1 < 1000; decide), ?_⟩
  refine ⟨_, rfl, p, C, dx, _, rfl, upd_same, T.cl, T.nr, (by show 2 < 1000; decide), ?_⟩
  exact k _ upd_same (Same.put h0 (Same.put h0 (Same.put h0 s0 _) _) _)
abbrev s_Maybe_init : Stmt := inClass (top 27) 0
theorem sc_Maybe_init : FnScope ["self", "part"] ["self", "part"] (defScope s_Maybe_init) := ⟨rfl, rfl, rfl, by decide +kernel, rfl, by decide +kernel, by decide +kernel⟩
theorem ok_Maybe {f C : Addr} {fd : FuncData} {c : Cs} (F : Fun K "__init__" "Maybe.__init__" s_Maybe_init f fd) (T : ClsF K C) (hf : ∀ w : W, ClsF K (c.of w)) : FnOk P w K mg base CX0 1 f fd ["self", "part"] (spInitP c C) := by
  refine F.ok sc_Maybe_init (fun vs H Q E h => by obtain ⟨_, _, _, _, _, rfl, _⟩ := h; rfl) (fun cdv A outer s H vs Q E hr h => ?_)
  obtain ⟨p, dx, u, w, H0, rfl, ⟨hp, h0, s0⟩, hu, k⟩ := h
  refine ⟨_, (pss_cons (ps_fld (pv 0) (pv 1) rfl)
  (pss_cons (ps_fld (pv 0) (pe_fld (pv 1) rfl) rfl)
  (pss_one (ps_fld (pv 0) (pe_fld (pv 1) rfl) rfl)))), ?_⟩
  refine ⟨_, rfl, _, rfl, p, C, dx, [], rfl, hp, T.cl, T.np, (by show 0 < 1000; decide), ?_⟩
  have s1 := Same.put h0 s0 (HO.ins C dx (putF (Str.ofString "part") u []))
  have g1 : upd H p (HO.ins C dx (putF (Str.ofString "part") u [])) p = some (HO.ins C dx (putF (Str.ofString "part") u [])) := upd_same
  generalize upd H p (HO.ins C dx (putF (Str.ofString "part") u [])) = H1 at *
  obtain ⟨a, d, fs, ea, ha, l1, l2⟩ := (ObjAt.keep (stillS s1) _ _ hu).notes
  refine ⟨_, rfl, a, _, d, fs, _, ea, ha, (hf w).cl, (hf w).nc, l1, _, rfl, p, C, dx, _, rfl, g1, T.cl, T.nc, (by show 1 < 1000; decide), ?_⟩
  have s2 := Same.put h0 s1 (HO.ins C dx (putF (Str.ofString "called") (fV w.called) (putF (Str.ofString "part") u [])))
  have g2 : upd H1 p (HO.ins C dx (putF (Str.ofString "called") (fV w.called) (putF (Str.ofString "part") u []))) p = some _ := upd_same
  generalize upd H1 p (HO.ins C dx (putF (Str.ofString "called") (fV w.called) (putF (Str.ofString "part") u []))) = H2 at *
  obtain ⟨a, d, fs, ea, ha, l1, l2⟩ := (ObjAt.keep (stillS s2) _ _ hu).notes
  refine ⟨_, rfl, a, _, d, fs, _, ea, ha, (hf w).cl, (hf w).nr, l2, _, rfl, p, C, dx, _, rfl, g2, T.cl, T.nr, (by show 2 < 1000; decide), ?_⟩
  exact k _ upd_same (Same.put h0 s2 _)
abbrev s_Ahead_init : Stmt := inClass (top 28) 0
theorem sc_Ahead_init : FnScope ["self", "part"] ["self", "part"] (defScope s_Ahead_init) := ⟨rfl, rfl, rfl, by decide +kernel, rfl, by decide +kernel, by decide +kernel⟩
theorem ok_Ahead {f C : Addr} {fd : FuncData} {c : Cs} (F : Fun K "__init__" "Ahead.__init__" s_Ahead_init f fd) (T : ClsF K C) (hf : ∀ w : W, ClsF K (c.of w)) : FnOk P w K mg base CX0 1 f fd ["self", "part"] (spInitP c C) := by
  refine F.ok sc_Ahead_init (fun vs H Q E h => by obtain ⟨_, _, _, _, _, rfl, _⟩ := h; rfl) (fun cdv A outer s H vs Q E hr h => ?_)
  obtain ⟨p, dx, u, w, H0, rfl, ⟨hp, h0, s0⟩, hu, k⟩ := h
  refine ⟨_, (pss_cons (ps_fld (pv 0) (pv 1) rfl)
  (pss_cons (ps_fld (pv 0) (pe_fld (pv 1) rfl) rfl)
  (pss_one (ps_fld (pv 0) (pe_fld (pv 1) rfl) rfl)))), ?_⟩
  refine ⟨_, rfl, _, rfl, p, C, dx, [], rfl, hp, T.cl, T.np, (by show 0 < 1000; decide), ?_⟩
  have s1 := Same.put h0 s0 (HO.ins C dx (putF (Str.ofString "part") u []))
  have g1 : upd H p (HO.ins C dx (putF (Str.ofString "part") u [])) p = some (HO.ins C dx (putF (Str.ofString "part") u [])) := upd_same
  generalize upd H p (HO.ins C dx (putF (Str.ofString "part") u [])) = H1 at *
  obtain ⟨a, d, fs, ea, ha, l1, l2⟩ := (ObjAt.keep (stillS s1) _ _ hu).notes
  refine ⟨_, rfl, a, _, d, fs, _, ea, ha, (hf w).cl, (hf w).nc, l1, _, rfl, p, C, dx, _, rfl, g1, T.cl, T.nc, (by show 1 < 1000; decide), ?_⟩
  have s2 := Same.put h0 s1 (HO.ins C dx (putF (Str.ofString "called") (fV w.called) (putF (Str.ofString "part") u [])))
  have g2 : upd H1 p (HO.ins C dx (putF (Str.ofString "called") (fV w.called) (putF (Str.ofString "part") u []))) p = some _ := upd_same
  generalize upd H1 p (HO.ins C dx (putF (Str.ofString "called") (fV w.called) (putF (Str.ofString "part") u []))) = H2 at *
  obtain ⟨a, d, fs, ea, ha, l1, l2⟩ := (ObjAt.keep (stillS s2) _ _ hu).notes
  refine ⟨_, rfl, a, _, d, fs, _, ea, ha, (hf w).cl, (hf w).nr, l2, _, rfl, p, C, dx, _, rfl, g2, T.cl, T.nr, (by show 2 < 1000; decide), ?_⟩
  exact k _ upd_same (Same.put h0 s2 _)
abbrev s_Unless_init : Stmt := inClass (top 29) 0
theorem sc_Unless_init : FnScope ["self", "part"] ["self", "part"] (defScope s_Unless_init) := ⟨rfl, rfl, rfl, by decide +kernel, rfl, by decide +kernel, by decide +kernel⟩
theorem ok_Unless {f C : Addr} {fd : FuncData} {c : Cs} (F : Fun K "__init__" "Unless.__init__" s_Unless_init f fd) (T : ClsF K C) (hf : ∀ w : W, ClsF K (c.of w)) : FnOk P w K mg base CX0 1 f fd ["self", "part"] (spInitP c C) := by
  refine F.ok sc_Unless_init (fun vs H Q E h => by obtain ⟨_, _, _, _, _, rfl, _⟩ := h; rfl) (fun cdv A outer s H vs Q E hr h => ?_)
  obtain ⟨p, dx, u, w, H0, rfl, ⟨hp, h0, s0⟩, hu, k⟩ := h
  refine ⟨_, (pss_cons (ps_fld (pv 0) (pv 1) rfl)
  (pss_cons (ps_fld (pv 0) (pe_fld (pv 1) rfl) rfl)
  (pss_one (ps_fld (pv 0) (pe_fld (pv 1) rfl) rfl)))), ?_⟩
  refine ⟨_, rfl, _, rfl, p, C, dx, [], rfl, hp, T.cl, T.np, (by show 0 < 1000; decide), ?_⟩
  have s1 := Same.put h0 s0 (HO.ins C dx (putF (Str.ofString "part") u []))
  have g1 : upd H p (HO.ins C dx (putF (Str.ofString "part") u [])) p = some (HO.ins C dx (putF (Str.ofString "part") u [])) := upd_same
  generalize upd H p (HO.ins C dx (putF (Str.ofString "part") u [])) = H1 at *
  obtain ⟨a, d, fs, ea, ha, l1, l2⟩ := (ObjAt.keep (stillS s1) _ _ hu).notes
  refine ⟨_, rfl, a, _, d, fs, _, ea, ha, (hf w).cl, (hf w).nc, l1, _, rfl, p, C, dx, _, rfl, g1, T.cl, T.nc, (by show 1 < 1000; decide), ?_⟩
  have s2 := Same.put h0 s1 (HO.ins C dx (putF (Str.ofString "called") (fV w.called) (putF (Str.ofString "part") u [])))
  have g2 : upd H1 p (HO.ins C dx (putF (Str.ofString "called") (fV w.called) (putF (Str.ofString "part") u []))) p = some _ := upd_same
  generalize upd H1 p (HO.ins C dx (putF (Str.ofString "called") (fV w.called) (putF (Str.ofString "part") u []))) = H2 at *
  obtain ⟨a, d, fs, ea, ha, l1, l2⟩ := (ObjAt.keep (stillS s2) _ _ hu).notes
  refine ⟨_, rfl, a, _, d, fs, _, ea, ha, (hf w).cl, (hf w).nr, l2, _, rfl, p, C, dx, _, rfl, g2, T.cl, T.nr, (by show 2 < 1000; decide), ?_⟩
  exact k _ upd_same (Same.put h0 s2 _)
abbrev s_Again_init : Stmt := inClass (top 26) 0
theorem sc_Again_init : FnScope ["self", "part"] ["self", "part"] (defScope s_Again_init) := ⟨rfl, rfl, rfl, by decide +kernel, rfl, by decide +kernel, by decide +kernel⟩
theorem ok_Again {f C : Addr} {fd : FuncData} {c : Cs} {mkC : Addr} (F : Fun K "__init__" "Again.__init__" s_Again_init f fd) (T : ClsF K C) (hf : ∀ w : W, ClsF K (c.of w)) (G_Mark : Mk0 K mg "Mark" mkC) : FnOk P w K mg base CX0 1 f fd ["self", "part"] (spInitA c C) := by
  refine F.ok sc_Again_init (fun vs H Q E h => by obtain ⟨_, _, _, _, _, rfl, _⟩ := h; rfl) (fun cdv A outer s H vs Q E hr h => ?_)
  obtain ⟨p, dx, u, w, H0, rfl, ⟨hp, h0, s0⟩, hu, k⟩ := h
  refine ⟨_, (pss_cons (ps_fld (pv 0) (pv 1) rfl)
  (pss_cons (ps_fld (pv 0) (pe_fld (pv 1) rfl) rfl)
  (pss_cons (ps_fld (pv 0) (pe_op op_add (pe_fld (pv 1) rfl) pe_int) rfl)
  (pss_one (ps_fld (pv 0) (pe_make00 G_Mark rfl) rfl))))), ?_⟩
  refine ⟨_, rfl, _, rfl, p, C, dx, [], rfl, hp, T.cl, T.np, (by show 0 < 1000; decide), ?_⟩
  have s1 := Same.put h0 s0 (HO.ins C dx (putF (Str.ofString "part") u []))
  have g1 : upd H p (HO.ins C dx (putF (Str.ofString "part") u [])) p = some (HO.ins C dx (putF (Str.ofString "part") u [])) := upd_same
  generalize upd H p (HO.ins C dx (putF (Str.ofString "part") u [])) = H1 at *
  obtain ⟨a, d, fs, ea, ha, l1, l2⟩ := (ObjAt.keep (stillS s1) _ _ hu).notes
  refine ⟨_, rfl, a, _, d, fs, _, ea, ha, (hf w).cl, (hf w).nc, l1, _, rfl, p, C, dx, _, rfl, g1, T.cl, T.nc, (by show 1 < 1000; decide), ?_⟩
  have s2 := Same.put h0 s1 (HO.ins C dx (putF (Str.ofString "called") (fV w.called) (putF (Str.ofString "part") u [])))
  have g2 : upd H1 p (HO.ins C dx (putF (Str.ofString "called") (fV w.called) (putF (Str.ofString "part") u []))) p = some _ := upd_same
  generalize upd H1 p (HO.ins C dx (putF (Str.ofString "called") (fV w.called) (putF (Str.ofString "part") u []))) = H2 at *
  obtain ⟨a, d, fs, ea, ha, l1, l2⟩ := (ObjAt.keep (stillS s2) _ _ hu).notes
  refine ⟨_, rfl, a, _, d, fs, _, ea, ha, (hf w).cl, (hf w).nr, l2, _, _, rfl, rfl, _, rfl, p, C, dx, _, rfl, g2, T.cl, T.nr, (by show 2 < 1000; decide), ?_⟩
  generalize e3 : putF (Str.ofString "rounds") (V.int ((w.rounds : Nat) + 1)) (putF (Str.ofString "called") (fV w.called) (putF (Str.ofString "part") u [])) = f3
  have s3 := Same.put h0 s2 (HO.ins C dx f3)
  have g3 : upd H2 p (HO.ins C dx f3) p = some (HO.ins C dx f3) := upd_same
  generalize upd H2 p (HO.ins C dx f3) = H3 at *
  intro m dm hm hdm hne
  have s4 := (at0 (C := mkC) hm hdm).2.2
  refine ⟨_, rfl, p, C, dx, _, rfl, s4 _ _ g3, T.cl, T.nm, (by rw [← e3]; show 3 < 1000; decide), ?_⟩
  refine k (.ref m) _ ?_ (Same.put h0 (s3.trans s4) _)
  rw [upd_same, ← e3]
  rfl
abbrev s_Row_init : Stmt := inClass (top 24) 0
theorem sc_Row_init : FnScope ["self", "ways"] ["self", "ways"] (defScope s_Row_init) := ⟨rfl, rfl, rfl, by decide +kernel, rfl, by decide +kernel, by decide +kernel⟩
theorem ok_Row {f C : Addr} {fd : FuncData} {c : Cs} (F : Fun K "__init__" "Row.__init__" s_Row_init f fd) (T : ClsF K C) (B : Bs mg) (G_first_call : DefOk P w K mg base 1 "first_call" ["ways"] (spFirst c)) (G_most_rounds : DefOk P w K mg base 1 "most_rounds" ["ways"] (spMost c)) : FnOk P w K mg base CX0 2 f fd ["self", "ways"] (spInitT K c C) := by
  have B_tuple := B.tuple
  refine F.ok sc_Row_init (fun vs H Q E h => by obtain ⟨_, _, _, _, _, _, rfl, _⟩ := h; rfl) (fun cdv A outer s H vs Q E hr h => ?_)
  obtain ⟨p, dx, q, xs, ws, H0, rfl, ⟨hp, h0, s0⟩, hq, hw, hl, k⟩ := h
  refine ⟨_, (pss_cons (ps_fld (pv 0) (pe_callTy call_tuple_of rfl B_tuple (by decide +kernel) (pa_cons (pv 1) pa_nil)) rfl)
  (pss_cons (ps_fld (pv 0) (pe_callD G_first_call (hr.mono (by first | decide | omega)) rfl (pa_cons (pe_fld (pv 0) rfl) pa_nil)) rfl)
  (pss_one (ps_fld (pv 0) (pe_callD G_most_rounds (hr.mono (by first | decide | omega)) rfl (pa_cons (pe_fld (pv 0) rfl) pa_nil)) rfl)))), ?_⟩
  have elen := ObjsAt.len _ _ hw
  have hq' := hq.imp (s0 _ _) (s0 _ _)
  refine ⟨_, rfl, q, xs, rfl, ?_⟩
  rcases hq' with hq' | hq'
  · refine .inl ⟨SqL.of hq', fun t ht0 => ?_⟩
    have npt : p ≠ t := ne_of_none hp ht0
    have s1 := s0.trans (Same.new ht0 (.tup xs))
    have ht : upd H t (.tup xs) t = some (.tup xs) := upd_same
    have hp1 : upd H t (.tup xs) p = some (.ins C dx []) := by rw [upd_ne npt]; exact hp
    generalize upd H t (.tup xs) = H1 at *
    refine ⟨_, rfl, p, C, dx, [], rfl, hp1, T.cl, T.nw, (by show 0 < 1000; decide), ?_⟩
    have s2 := Same.put h0 s1 (HO.ins C dx (putF (Str.ofString "ways") (.ref t) []))
    have g2 : upd H1 p (HO.ins C dx (putF (Str.ofString "ways") (.ref t) [])) p = some (HO.ins C dx (putF (Str.ofString "ways") (.ref t) [])) := upd_same
    have t2 : upd H1 p (HO.ins C dx (putF (Str.ofString "ways") (.ref t) [])) t = some (.tup xs) := by rw [upd_ne npt.symm]; exact ht
    generalize upd H1 p (HO.ins C dx (putF (Str.ofString "ways") (.ref t) [])) = H2 at *
    refine ⟨_, rfl, p, C, dx, _, _, rfl, g2, T.cl, T.nw, rfl, t, xs, ws, rfl, t2, ObjsAt.keep (stillS s2) _ _ hw, hl, fun H3 s3 => ?_⟩
    refine ⟨_, rfl, p, C, dx, _, rfl, s3 _ _ g2, T.cl, T.nc, (by show 1 < 1000; decide), ?_⟩
    generalize e4 : putF (Str.ofString "called") (fV (W.calleds ws)) (putF (Str.ofString "ways") (.ref t) []) = f4
    have s4 := Same.put h0 (s2.trans s3) (HO.ins C dx f4)
    have g4 : upd H3 p (HO.ins C dx f4) p = some (HO.ins C dx f4) := upd_same
    have t4 : upd H3 p (HO.ins C dx f4) t = some (.tup xs) := by rw [upd_ne npt.symm]; exact s3 _ _ t2
    generalize upd H3 p (HO.ins C dx f4) = H4 at *
    refine ⟨_, rfl, p, C, dx, _, _, rfl, g4, T.cl, T.nw, (by rw [← e4]; rfl), t, xs, ws, rfl, t4, ObjsAt.keep (stillS s4) _ _ hw, hl, fun H5 s5 => ?_⟩
    refine ⟨_, rfl, p, C, dx, _, rfl, s5 _ _ g4, T.cl, T.nr, (by rw [← e4]; show 2 < 1000; decide), ?_⟩
    refine k t _ (by rw [upd_ne npt.symm]; exact s5 _ _ t4) ?_ (Same.put h0 (s4.trans s5) _)
    rw [upd_same, ← e4]
    rfl
  · refine .inr ⟨SqT.of hq', ?_⟩
    have npt : p ≠ q := (ne_of hq' hp (by intro z; cases z)).symm
    have s1 := s0
    have ht := hq'
    have hp1 := hp
    refine ⟨_, rfl, p, C, dx, [], rfl, hp1, T.cl, T.nw, (by show 0 < 1000; decide), ?_⟩
    have s2 := Same.put h0 s1 (HO.ins C dx (putF (Str.ofString "ways") (.ref q) []))
    have g2 : upd H p (HO.ins C dx (putF (Str.ofString "ways") (.ref q) [])) p = some (HO.ins C dx (putF (Str.ofString "ways") (.ref q) [])) := upd_same
    have t2 : upd H p (HO.ins C dx (putF (Str.ofString "ways") (.ref q) [])) q = some (.tup xs) := by rw [upd_ne npt.symm]; exact ht
    generalize upd H p (HO.ins C dx (putF (Str.ofString "ways") (.ref q) [])) = H2 at *
    refine ⟨_, rfl, p, C, dx, _, _, rfl, g2, T.cl, T.nw, rfl, q, xs, ws, rfl, t2, ObjsAt.keep (stillS s2) _ _ hw, hl, fun H3 s3 => ?_⟩
    refine ⟨_, rfl, p, C, dx, _, rfl, s3 _ _ g2, T.cl, T.nc, (by show 1 < 1000; decide), ?_⟩
    generalize e4 : putF (Str.ofString "called") (fV (W.calleds ws)) (putF (Str.ofString "ways") (.ref q) []) = f4
    have s4 := Same.put h0 (s2.trans s3) (HO.ins C dx f4)
    have g4 : upd H3 p (HO.ins C dx f4) p = some (HO.ins C dx f4) := upd_same
    have t4 : upd H3 p (HO.ins C dx f4) q = some (.tup xs) := by rw [upd_ne npt.symm]; exact s3 _ _ t2
    generalize upd H3 p (HO.ins C dx f4) = H4 at *
    refine ⟨_, rfl, p, C, dx, _, _, rfl, g4, T.cl, T.nw, (by rw [← e4]; rfl), q, xs, ws, rfl, t4, ObjsAt.keep (stillS s4) _ _ hw, hl, fun H5 s5 => ?_⟩
    refine ⟨_, rfl, p, C, dx, _, rfl, s5 _ _ g4, T.cl, T.nr, (by rw [← e4]; show 2 < 1000; decide), ?_⟩
    refine k q _ (by rw [upd_ne npt.symm]; exact s5 _ _ t4) ?_ (Same.put h0 (s4.trans s5) _)
    rw [upd_same, ← e4]
    rfl
abbrev s_Choice_init : Stmt := inClass (top 25) 0
theorem sc_Choice_init : FnScope ["self", "ways"] ["self", "ways"] (defScope s_Choice_init) := ⟨rfl, rfl, rfl, by decide +kernel, rfl, by decide +kernel, by decide +kernel⟩
theorem ok_Choice {f C : Addr} {fd : FuncData} {c : Cs} (F : Fun K "__init__" "Choice.__init__" s_Choice_init f fd) (T : ClsF K C) (B : Bs mg) (G_first_call : DefOk P w K mg base 1 "first_call" ["ways"] (spFirst c)) (G_most_rounds : DefOk P w K mg base 1 "most_rounds" ["ways"] (spMost c)) : FnOk P w K mg base CX0 2 f fd ["self", "ways"] (spInitT K c C) := by
  have B_tuple := B.tuple
  refine F.ok sc_Choice_init (fun vs H Q E h => by obtain ⟨_, _, _, _, _, _, rfl, _⟩ := h; rfl) (fun cdv A outer s H vs Q E hr h => ?_)
  obtain ⟨p, dx, q, xs, ws, H0, rfl, ⟨hp, h0, s0⟩, hq, hw, hl, k⟩ := h
  refine ⟨_, (pss_cons (ps_fld (pv 0) (pe_callTy call_tuple_of rfl B_tuple (by decide +kernel) (pa_cons (pv 1) pa_nil)) rfl)
  (pss_cons (ps_fld (pv 0) (pe_callD G_first_call (hr.mono (by first | decide | omega)) rfl (pa_cons (pe_fld (pv 0) rfl) pa_nil)) rfl)
  (pss_one (ps_fld (pv 0) (pe_callD G_most_rounds (hr.mono (by first | decide | omega)) rfl (pa_cons (pe_fld (pv 0) rfl) pa_nil)) rfl)))), ?_⟩
  have elen := ObjsAt.len _ _ hw
  have hq' := hq.imp (s0 _ _) (s0 _ _)
  refine ⟨_, rfl, q, xs, rfl, ?_⟩
  rcases hq' with hq' | hq'
  · refine .inl ⟨SqL.of hq', fun t ht0 => ?_⟩
    have npt : p ≠ t := ne_of_none hp ht0
    have s1 := s0.trans (Same.new ht0 (.tup xs))
    have ht : upd H t (.tup xs) t = some (.tup xs) := upd_same
    have hp1 : upd H t (.tup xs) p = some (.ins C dx []) := by rw [upd_ne npt]; exact hp
    generalize upd H t (.tup xs) = H1 at *
    refine ⟨_, rfl, p, C, dx, [], rfl, hp1, T.cl, T.nw, (by show 0 < 1000; decide), ?_⟩
    have s2 := Same.put h0 s1 (HO.ins C dx (putF (Str.ofString "ways") (.ref t) []))
    have g2 : upd H1 p (HO.ins C dx (putF (Str.ofString "ways") (.ref t) [])) p = some (HO.ins C dx (putF (Str.ofString "ways") (.ref t) [])) := upd_same
    have t2 : upd H1 p (HO.ins C dx (putF (Str.ofString "ways") (.ref t) [])) t = some (.tup xs) := by rw [upd_ne npt.symm]; exact ht
    generalize upd H1 p (HO.ins C dx (putF (Str.ofString "ways") (.ref t) [])) = H2 at *
    refine ⟨_, rfl, p, C, dx, _, _, rfl, g2, T.cl, T.nw, rfl, t, xs, ws, rfl, t2, ObjsAt.keep (stillS s2) _ _ hw, hl, fun H3 s3 => ?_⟩
    refine ⟨_, rfl, p, C, dx, _, rfl, s3 _ _ g2, T.cl, T.nc, (by show 1 < 1000; decide), ?_⟩
    generalize e4 : putF (Str.ofString "called") (fV (W.calleds ws)) (putF (Str.ofString "ways") (.ref t) []) = f4
    have s4 := Same.put h0 (s2.trans s3) (HO.ins C dx f4)
    have g4 : upd H3 p (HO.ins C dx f4) p = some (HO.ins C dx f4) := upd_same
    have t4 : upd H3 p (HO.ins C dx f4) t = some (.tup xs) := by rw [upd_ne npt.symm]; exact s3 _ _ t2
    generalize upd H3 p (HO.ins C dx f4) = H4 at *
    refine ⟨_, rfl, p, C, dx, _, _, rfl, g4, T.cl, T.nw, (by rw [← e4]; rfl), t, xs, ws, rfl, t4, ObjsAt.keep (stillS s4) _ _ hw, hl, fun H5 s5 => ?_⟩
    refine ⟨_, rfl, p, C, dx, _, rfl, s5 _ _ g4, T.cl, T.nr, (by rw [← e4]; show 2 < 1000; decide), ?_⟩
    refine k t _ (by rw [upd_ne npt.symm]; exact s5 _ _ t4) ?_ (Same.put h0 (s4.trans s5) _)
    rw [upd_same, ← e4]
    rfl
  · refine .inr ⟨SqT.of hq', ?_⟩
    have npt : p ≠ q := (ne_of hq' hp (by intro z; cases z)).symm
    have s1 := s0
    have ht := hq'
    have hp1 := hp
    refine ⟨_, rfl, p, C, dx, [], rfl, hp1, T.cl, T.nw, (by show 0 < 1000; decide), ?_⟩
    have s2 := Same.put h0 s1 (HO.ins C dx (putF (Str.ofString "ways") (.ref q) []))
    have g2 : upd H p (HO.ins C dx (putF (Str.ofString "ways") (.ref q) [])) p = some (HO.ins C dx (putF (Str.ofString "ways") (.ref q) [])) := upd_same
    have t2 : upd H p (HO.ins C dx (putF (Str.ofString "ways") (.ref q) [])) q = some (.tup xs) := by rw [upd_ne npt.symm]; exact ht
    generalize upd H p (HO.ins C dx (putF (Str.ofString "ways") (.ref q) [])) = H2 at *
    refine ⟨_, rfl, p, C, dx, _, _, rfl, g2, T.cl, T.nw, rfl, q, xs, ws, rfl, t2, ObjsAt.keep (stillS s2) _ _ hw, hl, fun H3 s3 => ?_⟩
    refine ⟨_, rfl, p, C, dx, _, rfl, s3 _ _ g2, T.cl, T.nc, (by show 1 < 1000; decide), ?_⟩
    generalize e4 : putF (Str.ofString "called") (fV (W.calleds ws)) (putF (Str.ofString "ways") (.ref q) []) = f4
    have s4 := Same.put h0 (s2.trans s3) (HO.ins C dx f4)
    have g4 : upd H3 p (HO.ins C dx f4) p = some (HO.ins C dx f4) := upd_same
    have t4 : upd H3 p (HO.ins C dx f4) q = some (.tup xs) := by rw [upd_ne npt.symm]; exact s3 _ _ t2
    generalize upd H3 p (HO.ins C dx f4) = H4 at *
    refine ⟨_, rfl, p, C, dx, _, _, rfl, g4, T.cl, T.nw, (by rw [← e4]; rfl), q, xs, ws, rfl, t4, ObjsAt.keep (stillS s4) _ _ hw, hl, fun H5 s5 => ?_⟩
    refine ⟨_, rfl, p, C, dx, _, rfl, s5 _ _ g4, T.cl, T.nr, (by rw [← e4]; show 2 < 1000; decide), ?_⟩
    refine k q _ (by rw [upd_ne npt.symm]; exact s5 _ _ t4) ?_ (Same.put h0 (s4.trans s5) _)
    rw [upd_same, ← e4]
    rfl
end
end Wv
namespace Wv
open PySem PySem.Spec PyProof.Rows L2
/-! ### the law's inner, made, way -/
def spInner : Sp := fun vs H Q _ => ∃ (v : V) (w : W), vs = [v] ∧ WayAt H v w ∧ ∀ (q : Addr) (us : List V) (H' : Hp), Same H H' → H' q = some (.lst us) → WaysAt H' us w.inner → Q (.ref q) H'
def spMade (c : Cs) (s : Nat) : Sp := fun vs H Q _ => ∃ (v : V) (w : W), vs = [v] ∧ WayAt H v w ∧ w.size ≤ s ∧ w.size ≤ 1000 ∧ ∀ (u : V) (H' : Hp), Same H H' → ObjAt c H' u w → Q u H'
section
variable {P : Program} {w : World} {K : PySem.W.Frag} {mg : Str → Option Value} {base : Heap}
/-- the classes as they are made -/
structure Gs (P : Program) (w : World) (K : PySem.W.Frag) (mg : Str → Option Value) (base : Heap) (c : Cs) : Prop where
  lt : ClsOk P w K mg base 1 "Letter" c.lt ["self", "letter"] (spInitL c.lt)
  ca : ClsOk P w K mg base 1 "Call" c.ca ["self", "name"] (spInitC c.ca)
  ro : ClsOk P w K mg base 2 "Row" c.ro ["self", "ways"] (spInitT K c c.ro)
  ch : ClsOk P w K mg base 2 "Choice" c.ch ["self", "ways"] (spInitT K c c.ch)
  ag : ClsOk P w K mg base 1 "Again" c.ag ["self", "part"] (spInitA c c.ag)
  ma : ClsOk P w K mg base 1 "Maybe" c.ma ["self", "part"] (spInitP c c.ma)
  ah : ClsOk P w K mg base 1 "Ahead" c.ah ["self", "part"] (spInitP c c.ah)
  un : ClsOk P w K mg base 1 "Unless" c.un ["self", "part"] (spInitP c c.un)
  on : ClsOk P w K mg base 1 "One" c.on ["self"] (spInit0 c.on)
  no : ClsOk P w K mg base 1 "Nothing" c.no ["self"] (spInit0 c.no)
abbrev s_l_inner : Stmt := top 52
theorem sc_l_inner : FnScope ["_law_way_here"] ["_law_way_here"] (defScope s_l_inner) := ⟨rfl, rfl, rfl, by decide +kernel, rfl, by decide +kernel, by decide +kernel⟩
theorem d_l_inner (h : Here K mg "_law_inner" s_l_inner ["_law_way_here"]) : DefOk P w K mg base 1 "_law_inner" ["_law_way_here"] spInner := by
  refine h.ok sc_l_inner (fun vs H Q E h => by obtain ⟨p, v, rfl, _⟩ := h; rfl) (fun f cdv A outer s H vs Q E hr h => ?_)
  obtain ⟨v, w, rfl, hv, k⟩ := h
  refine ⟨_, (pss_cons (ps_if (pt_cmpR op_in_seq (pe_ix ix_tup (pv 0) pe_int (fun _ _ => rfl)) (pe_lst (pa_cons pe_str (pa_cons pe_str pa_nil))) (by rfl)) (pss_one (ps_ret (pe_ix ix_tup (pv 0) pe_int (fun _ _ => rfl)))) pss_nil)
  (pss_one (ps_ret (pe_ifExp (pt_cmpR op_in_seq (pe_ix ix_tup (pv 0) pe_int (fun _ _ => rfl)) (pe_lst (pa_cons pe_str (pa_cons pe_str (pa_cons pe_str (pa_cons pe_str pa_nil))))) (by rfl)) (pe_lst (pa_cons (pe_ix ix_tup (pv 0) pe_int (fun _ _ => rfl)) pa_nil)) (pe_lst pa_nil))))), ?_⟩
  obtain ⟨a, rest, rfl, ha⟩ := hv.head
  walk_at "rd"
  refine ⟨a, _, _, _, rfl, rfl, SqT.of ha, atI0, ?_⟩
  refine ⟨by show 2 ≤ sizeLine; decide, fun q hq => ?_⟩
  have s1 := Same.new hq (.lst [.str (Str.ofString "row"), .str (Str.ofString "choice")])
  refine ⟨q, _, rfl, .inl (SqL.of upd_same), rfl, by decide +kernel, ?_⟩
  rw [if_neg Bool.false_ne_true, in_rc]
  walk_at "rd"
  refine ite2 (fun e => ?_) (fun e => ?_)
  · have hv' := WayAt.keep (Keep.of s1) _ _ hv
    walk_at "rd"
    cases w <;> first | exact absurd e Bool.false_ne_true | skip
    all_goals
      obtain ⟨a', l, vs, e', h1, h2, h3⟩ := hv'
      cases e'
      refine ⟨a, _, _, _, rfl, rfl, SqT.of h1, atI1, ?_⟩
      exact k l vs _ s1 h2 h3
  · have hv' := WayAt.keep (Keep.of s1) _ _ hv
    walk_at "nx"
    walk_at "rd"
    refine ⟨a, _, _, _, rfl, rfl, SqT.of (s1 _ _ ha), atI0, ?_⟩
    refine ⟨by show 4 ≤ sizeLine; decide, fun q2 hq2 => ?_⟩
    have s2 := s1.trans (Same.new hq2 (.lst [.str (Str.ofString "again"), .str (Str.ofString "maybe"), .str (Str.ofString "ahead"), .str (Str.ofString "unless")]))
    refine ⟨q2, _, rfl, .inl (SqL.of upd_same), rfl, by decide +kernel, ?_⟩
    rw [if_neg Bool.false_ne_true, in_un]
    walk_at "rd"
    have hv2 := WayAt.keep (Keep.of s2) _ _ hv
    refine ite2 (fun e2 => ?_) (fun e2 => ?_)
    · cases w <;> first | exact absurd e2 Bool.false_ne_true | skip
      all_goals
        obtain ⟨a', u, e', h1, h2⟩ := hv2
        cases e'
        walk_at "rd"
        refine ⟨a, _, _, _, rfl, rfl, SqT.of h1, atI1, by show 1 ≤ sizeLine; decide, fun q3 hq3 => ?_⟩
        have s3 := Same.new hq3 (.lst [u])
        exact k q3 _ _ (s2.trans s3) upd_same ⟨u, [], rfl, WayAt.keep (Keep.of s3) _ _ h2, rfl⟩
    · refine ⟨Nat.zero_le _, fun q3 hq3 => ?_⟩
      have s3 := Same.new hq3 (.lst [])
      cases w <;> first | exact absurd rfl e2 | exact absurd rfl e | exact k q3 _ _ (s2.trans s3) upd_same rfl
abbrev s_l_made : Stmt := top 53
theorem sc_l_made : FnScope ["_law_way_here", "_law_ways", "_law_one"] ["_law_way_here"] (defScope s_l_made) := ⟨rfl, rfl, rfl, by decide +kernel, rfl, by decide +kernel, by decide +kernel⟩
theorem none_made (c : Cs) {f : Addr} {fd : FuncData} : FnOk P w K mg base CX0 3 f fd ["_law_way_here"] (spMade c 0) := by
  have no : ∀ vs H Q E, ¬ spMade c 0 vs H Q E := fun vs H Q E h => by
    obtain ⟨v, w, _, _, h1, _⟩ := h
    have := w.size_pos
    omega
  exact ⟨fun vs H Q E h => absurd h (no vs H Q E), fun A outer s H args us vs Q E _ _ _ _ h => absurd h (no vs H Q E)⟩
theorem step_l_made (c : Cs) (s : Nat) (h : Here K mg "_law_made" s_l_made ["_law_way_here"]) (g : Gs P w K mg base c) (G_l_inner : DefOk P w K mg base 1 "_law_inner" ["_law_way_here"] spInner) (G_l_made : DefOk P w K mg base (3 + s) "_law_made" ["_law_way_here"] (spMade c s)) :
    DefOk P w K mg base (3 + s + 1) "_law_made" ["_law_way_here"] (spMade c (s + 1)) := by
  have G_Letter := g.lt; have G_Call := g.ca; have G_Row := g.ro; have G_Choice := g.ch; have G_Again := g.ag; have G_Maybe := g.ma; have G_Ahead := g.ah; have G_Unless := g.un
  have G_One := g.on; have G_Nothing := g.no
  refine h.ok sc_l_made (fun vs H Q E h => by obtain ⟨p, v, rfl, _⟩ := h; rfl) (fun f cdv A outer s' H vs Q E hr h => ?_)
  obtain ⟨v, w, rfl, hv, hs, hs2, k⟩ := h
  refine ⟨_, (pss_cons (ps_if (pt_cmpR op_in_seq (pe_ix ix_tup (pv 0) pe_int (fun _ _ => rfl)) (pe_lst (pa_cons pe_str (pa_cons pe_str pa_nil))) (by rfl)) (pss_one (ps_ret (pe_ifExp (pt_cmpR op_eq (pe_ix ix_tup (pv 0) pe_int (fun _ _ => rfl)) pe_str (nomark _)) (pe_makeD G_Letter (hr.mono (by first | decide | omega)) rfl (pa_cons (pe_ix ix_tup (pv 0) pe_int (fun _ _ => rfl)) pa_nil)) (pe_makeD G_Call (hr.mono (by first | decide | omega)) rfl (pa_cons (pe_ix ix_tup (pv 0) pe_int (fun _ _ => rfl)) pa_nil))))) pss_nil)
  (pss_cons (ps_if (pt_cmpR op_in_seq (pe_ix ix_tup (pv 0) pe_int (fun _ _ => rfl)) (pe_lst (pa_cons pe_str (pa_cons pe_str pa_nil))) (by rfl)) (pss_one (ps_ret (pe_ifExp (pt_cmpR op_eq (pe_ix ix_tup (pv 0) pe_int (fun _ _ => rfl)) pe_str (nomark _)) (pe_makeD0 G_One (hr.mono (by first | decide | omega)) rfl) (pe_makeD0 G_Nothing (hr.mono (by first | decide | omega)) rfl)))) pss_nil)
  (pss_cons (ps_setLc (i := 1) (own := [("_law_one", 2)]) (g := (gName 2)) (tt := tYes) rfl sc_l_made.nd rfl rfl (sw_true rfl rfl rfl (by decide +kernel)) (pi_list (pe_callD G_l_inner (hr.mono (by first | decide | omega)) rfl (pa_cons (pv 0) pa_nil))) (blkOk_by (own := [("_law_one", 2)]) (N := ["_law_way_here", "_law_ways", "_law_one"]) (sc := defScope s_l_made) (by decide +kernel)) (fun _ _ _ _ _ => pg_name (i := 2) sc_l_made.nd rfl (Or.inl rfl)) (fun _ _ _ _ _ => pts_nil) (fun _ _ _ _ _ => (pe_callD G_l_made (hr.mono (by first | decide | omega)) rfl (pa_cons (pv 2) pa_nil))))
  (pss_cons (ps_if (pt_cmpR op_in_seq (pe_ix ix_tup (pv 0) pe_int (fun _ _ => rfl)) (pe_lst (pa_cons pe_str (pa_cons pe_str pa_nil))) (by rfl)) (pss_one (ps_ret (pe_ifExp (pt_cmpR op_eq (pe_ix ix_tup (pv 0) pe_int (fun _ _ => rfl)) pe_str (nomark _)) (pe_makeD G_Row (hr.mono (by first | decide | omega)) rfl (pa_cons (pv 1) pa_nil)) (pe_makeD G_Choice (hr.mono (by first | decide | omega)) rfl (pa_cons (pv 1) pa_nil))))) pss_nil)
  (pss_cons (ps_if (pt_cmpR op_in_seq (pe_ix ix_tup (pv 0) pe_int (fun _ _ => rfl)) (pe_lst (pa_cons pe_str (pa_cons pe_str pa_nil))) (by rfl)) (pss_one (ps_ret (pe_ifExp (pt_cmpR op_eq (pe_ix ix_tup (pv 0) pe_int (fun _ _ => rfl)) pe_str (nomark _)) (pe_makeD G_Again (hr.mono (by first | decide | omega)) rfl (pa_cons (pe_ix ix_list (pv 1) pe_int (fun _ _ => rfl)) pa_nil)) (pe_makeD G_Maybe (hr.mono (by first | decide | omega)) rfl (pa_cons (pe_ix ix_list (pv 1) pe_int (fun _ _ => rfl)) pa_nil))))) pss_nil)
  (pss_one (ps_ret (pe_ifExp (pt_cmpR op_eq (pe_ix ix_tup (pv 0) pe_int (fun _ _ => rfl)) pe_str (nomark _)) (pe_makeD G_Ahead (hr.mono (by first | decide | omega)) rfl (pa_cons (pe_ix ix_list (pv 1) pe_int (fun _ _ => rfl)) pa_nil)) (pe_makeD G_Unless (hr.mono (by first | decide | omega)) rfl (pa_cons (pe_ix ix_list (pv 1) pe_int (fun _ _ => rfl)) pa_nil)))))))))), ?_⟩
  obtain ⟨a, rest, rfl, ha⟩ := hv.head
  walk_at "rd"
  refine ⟨a, _, _, _, rfl, rfl, SqT.of ha, atI0, ?_⟩
  refine ⟨by show 2 ≤ sizeLine; decide, fun q hq => ?_⟩
  have s1 := Same.new hq (.lst [.str (Str.ofString "letter"), .str (Str.ofString "call")])
  refine ⟨q, _, rfl, .inl (SqL.of upd_same), rfl, by decide +kernel, ?_⟩
  rw [if_neg Bool.false_ne_true, in_lc]
  walk_at "rd"
  refine ite2 (fun e => ?_) (fun e => ?_)
  · have hv' := WayAt.keep (Keep.of s1) _ _ hv
    walk_at "rd"
    refine ⟨a, _, _, _, rfl, rfl, SqT.of (s1 _ _ ha), atI0, rfl, _, rfl, ?_⟩
    rw [eq_letter]
    cases w <;> first | exact absurd e Bool.false_ne_true | skip
    · obtain ⟨a', e', h1⟩ := hv'
      cases e'
      refine iteT ?_
      walk_at "rd"
      refine ⟨a, _, _, _, rfl, rfl, SqT.of h1, atI1, makeL fun x dx H' s2 h => ?_⟩
      exact k _ H' (s1.trans s2) ⟨x, dx, rfl, h⟩
    · obtain ⟨a', e', h1⟩ := hv'
      cases e'
      refine iteF ?_
      walk_at "rd"
      refine ⟨a, _, _, _, rfl, rfl, SqT.of h1, atI1, makeC fun x dx H' s2 h => ?_⟩
      exact k _ H' (s1.trans s2) ⟨x, dx, rfl, h⟩
  · walk_at "nx"
    walk_at "rd"
    refine ⟨a, _, _, _, rfl, rfl, SqT.of (s1 _ _ ha), atI0, ?_⟩
    refine ⟨by show 2 ≤ sizeLine; decide, fun q2 hq2 => ?_⟩
    have s2 := s1.trans (Same.new hq2 (.lst [.str (Str.ofString "one"), .str (Str.ofString "nothing")]))
    refine ⟨q2, _, rfl, .inl (SqL.of upd_same), rfl, by decide +kernel, ?_⟩
    rw [if_neg Bool.false_ne_true, in_on]
    walk_at "rd"
    refine ite2 (fun e2 => ?_) (fun e2 => ?_)
    · walk_at "rd"
      refine ⟨a, _, _, _, rfl, rfl, SqT.of (s2 _ _ ha), atI0, rfl, _, rfl, ?_⟩
      rw [eq_one]
      cases w <;> first | exact absurd e2 Bool.false_ne_true | skip
      · exact iteF (make0 fun x dx H' s3 h => k _ H' (s2.trans s3) ⟨x, dx, rfl, h⟩)
      · exact iteT (make0 fun x dx H' s3 h => k _ H' (s2.trans s3) ⟨x, dx, rfl, h⟩)
    · walk_at "nx"
      refine ⟨_, rfl, .ref a, w, rfl, WayAt.keep (Keep.of s2) _ _ hv, fun qi us Hi si hqi hus => ?_⟩
      have s3 := s2.trans si
      refine ⟨qi, rfl, ⟨us, SqL.of hqi⟩, fun D hD => ?_⟩
      have elen := WaysAt.len _ _ hus
      refine lc_list (K := K) (a := qi) (xs := us) (fun i H' => ∃ os, H' D = some (.lst os) ∧ os.length = i ∧ Same Hi H' ∧ ObjsAt c H' os (w.inner.take i)) ?_ ?_ ?_ ?_
      · exact ⟨[], upd_same, rfl, Same.new hD _, rfl⟩
      · rintro i H' _ ⟨os, _, _, s4, _⟩
        exact SqL.of (s4 _ _ hqi)
      · rintro i x H' hx ⟨os, hD', hlo, s4, hos⟩
        have hi : i < us.length := (List.getElem?_eq_some_iff.mp hx).1
        obtain ⟨wi, hwi⟩ : ∃ wi, w.inner[i]? = some wi := ⟨w.inner[i]'(by omega), List.getElem?_eq_getElem (by omega)⟩
        obtain ⟨x', hx', hxw⟩ := WaysAt.at_ _ _ _ _ hus hwi
        have ex : x = x' := Option.some.inj (hx.symm.trans hx')
        subst ex
        have hsz := W.size_mem hwi
        have hsi := w.size_inner
        refine ⟨rfl, _, rfl, x, wi, rfl, WayAt.keep (Keep.of s4) _ _ hxw, by omega, by omega, fun u H2 s5 hu => ?_⟩
        have hl := W.sizes_len w.inner
        refine ⟨os, s5 _ _ hD', small' (by omega), os ++ [u], upd_same, by rw [List.length_append, hlo]; rfl, Same.put hD (s4.trans s5) _, ?_⟩
        rw [take_more' hwi]
        have st : Still H2 (upd H2 D (.lst (os ++ [u]))) := Still.put (s5 _ _ hD')
        exact ObjsAt.app _ _ (ObjsAt.keep ((stillS s5).trans st) _ _ hos) ⟨u, [], rfl, ObjAt.keep st _ _ hu, rfl⟩
      · rintro H5 ⟨os, hD', hlo, s4, hos⟩
        rw [elen, List.take_length] at hos
        have hwl : w.inner.length ≤ 1000000 := by have := W.sizes_len w.inner; have := w.size_inner; omega
        have s5 := s3.trans s4
        have ha5 := s5 _ _ ha
        walk_at "nx"
        walk_at "rd"
        refine ⟨a, _, _, _, rfl, rfl, SqT.of ha5, atI0, ?_⟩
        refine ⟨by show 2 ≤ sizeLine; decide, fun q3 hq3 => ?_⟩
        have s6 := Same.new hq3 (.lst [.str (Str.ofString "row"), .str (Str.ofString "choice")])
        refine ⟨q3, _, rfl, .inl (SqL.of upd_same), rfl, by decide +kernel, ?_⟩
        rw [if_neg Bool.false_ne_true, in_rc]
        walk_at "rd"
        refine ite2 (fun e3 => ?_) (fun e3 => ?_)
        · walk_at "rd"
          refine ⟨a, _, _, _, rfl, rfl, SqT.of (s6 _ _ ha5), atI0, rfl, _, rfl, ?_⟩
          rw [eq_row]
          cases w <;> first | exact absurd e3 Bool.false_ne_true | skip
          · refine iteT ⟨_, rfl, makeT (.inl (s6 _ _ hD')) (ObjsAt.keep (stillS s6) _ _ hos) (by exact hwl) fun x dx t H' s7 ht h => ?_⟩
            exact k _ H' ((s5.trans s6).trans s7) ⟨x, dx, t, os, rfl, h, ht, ObjsAt.keep (stillS (s6.trans s7)) _ _ hos⟩
          · refine iteF ⟨_, rfl, makeT (.inl (s6 _ _ hD')) (ObjsAt.keep (stillS s6) _ _ hos) (by exact hwl) fun x dx t H' s7 ht h => ?_⟩
            exact k _ H' ((s5.trans s6).trans s7) ⟨x, dx, t, os, rfl, h, ht, ObjsAt.keep (stillS (s6.trans s7)) _ _ hos⟩
        · walk_at "nx"
          walk_at "rd"
          refine ⟨a, _, _, _, rfl, rfl, SqT.of (s6 _ _ ha5), atI0, ?_⟩
          refine ⟨by show 2 ≤ sizeLine; decide, fun q4 hq4 => ?_⟩
          have s7 := s6.trans (Same.new hq4 (.lst [.str (Str.ofString "again"), .str (Str.ofString "maybe")]))
          refine ⟨q4, _, rfl, .inl (SqL.of upd_same), rfl, by decide +kernel, ?_⟩
          rw [if_neg Bool.false_ne_true, in_am]
          walk_at "rd"
          refine ite2 (fun e4 => ?_) (fun e4 => ?_)
          · walk_at "rd"
            refine ⟨a, _, _, _, rfl, rfl, SqT.of (s7 _ _ ha5), atI0, rfl, _, rfl, ?_⟩
            rw [eq_again]
            cases w <;> first | exact absurd e4 Bool.false_ne_true | skip
            · obtain ⟨u, us', rfl, hu, hn⟩ := hos
              refine iteT ⟨_, rfl, D, _, _, _, rfl, rfl, SqL.of (s7 _ _ hD'), atI0, makeA (ObjAt.keep (stillS s7) _ _ hu) fun x dx mk H' s8 h => ?_⟩
              exact k _ H' ((s5.trans s7).trans s8) ⟨x, dx, u, mk, rfl, h, ObjAt.keep (stillS (s7.trans s8)) _ _ hu⟩
            · obtain ⟨u, us', rfl, hu, hn⟩ := hos
              refine iteF ⟨_, rfl, D, _, _, _, rfl, rfl, SqL.of (s7 _ _ hD'), atI0, makeP (ObjAt.keep (stillS s7) _ _ hu) fun x dx H' s8 h => ?_⟩
              exact k _ H' ((s5.trans s7).trans s8) ⟨x, dx, u, .non, rfl, h, ObjAt.keep (stillS (s7.trans s8)) _ _ hu⟩
          · walk_at "nx"
            walk_at "rd"
            refine ⟨a, _, _, _, rfl, rfl, SqT.of (s7 _ _ ha5), atI0, rfl, _, rfl, ?_⟩
            rw [eq_ahead]
            cases w <;> first | exact absurd rfl e | exact absurd rfl e2 | exact absurd rfl e3 | exact absurd rfl e4 | skip
            · obtain ⟨u, us', rfl, hu, hn⟩ := hos
              refine iteT ⟨_, rfl, D, _, _, _, rfl, rfl, SqL.of (s7 _ _ hD'), atI0, makeP (ObjAt.keep (stillS s7) _ _ hu) fun x dx H' s8 h => ?_⟩
              exact k _ H' ((s5.trans s7).trans s8) ⟨x, dx, u, .non, rfl, h, ObjAt.keep (stillS (s7.trans s8)) _ _ hu⟩
            · obtain ⟨u, us', rfl, hu, hn⟩ := hos
              refine iteF ⟨_, rfl, D, _, _, _, rfl, rfl, SqL.of (s7 _ _ hD'), atI0, makeP (ObjAt.keep (stillS s7) _ _ hu) fun x dx H' s8 h => ?_⟩
              exact k _ H' ((s5.trans s7).trans s8) ⟨x, dx, u, .non, rfl, h, ObjAt.keep (stillS (s7.trans s8)) _ _ hu⟩
theorem d_l_made (c : Cs) (h : Here K mg "_law_made" s_l_made ["_law_way_here"]) (g : Gs P w K mg base c) (G_l_inner : DefOk P w K mg base 1 "_law_inner" ["_law_way_here"] spInner) : ∀ s, DefOk P w K mg base (3 + s) "_law_made" ["_law_way_here"] (spMade c s)
  | 0 => by
    obtain ⟨f, fd, F, m, b⟩ := h.ex
    exact ⟨f, fd, m, F.kp, b, none_made c⟩
  | s + 1 => step_l_made c s h g G_l_inner (d_l_made c h g G_l_inner s)
abbrev s_l_way : Stmt := top 50
theorem sc_l_way : FnScope ["_law_pen_here", "_law_signs_here", "_law_most", "_law_size"] ["_law_pen_here", "_law_signs_here", "_law_most"] (defScope s_l_way) := ⟨rfl, rfl, rfl, by decide +kernel, rfl, by decide +kernel, by decide +kernel⟩
theorem d_l_way (h : Here K mg "_law_way" s_l_way ["_law_pen_here", "_law_signs_here", "_law_most"]) (G_l_draw : DefOk P w K mg base 1 "_law_draw" ["_law_pen_here", "_law_many"] (spDraw K)) (G_l_way_of : DefOk P w K mg base (3 + 30) "_law_way_of" ["_law_pen_here", "_law_signs_here", "_law_size"] (spWayOf K 30)) :
    DefOk P w K mg base 34 "_law_way" ["_law_pen_here", "_law_signs_here", "_law_most"] (spWay K) := by
  refine h.ok sc_l_way (fun vs H Q E h => by obtain ⟨p, v, m, n, rfl, _⟩ := h; rfl) (fun f cdv A outer s' H vs Q E hr h => ?_)
  obtain ⟨p, z, m, n, rfl, hP, hn, hz0, hz1, hz, hm0, hm1, k⟩ := h
  refine ⟨_, (pss_cons (ps_set (i := 3) sc_l_way.nd rfl (Or.inl rfl) (pe_op op_add pe_int (pe_callD G_l_draw (hr.mono (by first | decide | omega)) rfl (pa_cons (pv 0) (pa_cons (pv 2) pa_nil)))))
  (pss_one (ps_ret (pe_callD G_l_way_of (hr.mono (by first | decide | omega)) rfl (pa_cons (pv 0) (pa_cons (pv 1) (pa_cons (pv 3) pa_nil))))))), ?_⟩
  refine ⟨_, rfl, _, rfl, p, m, n, rfl, hP, by omega, by omega, by omega, fun d H1 d0 d1 k1 hP1 => ?_⟩
  walk_at "rd"
  have e1 : (1 + d) = ((d.toNat + 1 : Nat) : Int) := by omega
  refine ⟨p, z, d.toNat + 1, n + 1, by rw [← e1]; rfl, hP1, by omega, hz0, hz1, hz, by omega, by omega, by omega, fun v w H2 hs hw hv k2 hP2 => ?_⟩
  exact k v w H2 (by omega) hw (WayAt.keep (newer_down k1) _ _ hv) (k1.trans k2) (hP2.mono (by omega))
end
end Wv
/-! Rules of my own: t[::-1] of a tuple, xs.extend(t) of a tuple, constants of the module. -/
namespace Wv
open PySem PySem.Spec PyProof.Rows L2 HT
section
variable {prog : Program} {w : World} {A : Around} {E : Value → Shared → Prop} {s : Shared}
theorem adj_back (n : Nat) : Builtin.Slice.sliceAdjust none none (-1) (n : Int) = ((n : Int) - 1, -1) := by
  unfold Builtin.Slice.sliceAdjust
  simp
theorem places_back (n : Nat) : Builtin.Slice.slicePlaces ((n : Int) - 1) (-1) (-1) = n := by
  unfold Builtin.Slice.slicePlaces
  simp
  omega
theorem applied_back {sl : Addr} {n : Nat} {t : Tok} {Q : Int × Int × Nat → Shared → Prop} (hs : s.heap.IsSliceOf sl .none .none (.int (-1) t)) (h : Q ((n : Int) - 1, -1, n) s) :
    wpAny (model prog w) A (Builtin.Slice.sliceApplied (.ref sl) (pure (n : Int))) Q E s := by
  obtain ⟨os, hos, hcs, hds⟩ := id hs
  unfold Builtin.Slice.sliceApplied Builtin.Slice.sliceFields
  refine wpAny_bind (wpAny_bind (wpAny_field hos hds (x := Value.none) rfl (wpAny_bind (wpAny_field hos hds (x := Value.none) rfl (wpAny_bind (wpAny_field hos hds (x := Value.int (-1) t) rfl (wpAny_pure ?_)))))))
  refine wpAny_bind (slicePart_int ?_)
  show wpAny _ _ (if ((-1 : Int) == 0) = true then _ else _) _ _ s
  rw [if_neg (by decide)]
  refine wpAny_bind (slicePart_none (wpAny_bind (slicePart_none (wpAny_bind (wpAny_pure ?_)))))
  show wpAny _ _ (match Builtin.Slice.sliceAdjust none none (-1) (n : Int) with | (lo, hi) => pure (lo, (-1 : Int), Builtin.Slice.slicePlaces lo hi (-1))) _ _ s
  rw [adj_back n]
  show wpAny _ _ (pure ((n : Int) - 1, (-1 : Int), Builtin.Slice.slicePlaces ((n : Int) - 1) (-1) (-1))) _ _ s
  rw [places_back]
  exact wpAny_pure h
theorem pick_back (xs : Array Value) : ((List.range xs.size).filterMap fun (m : Nat) => xs[(((xs.size : Int) - 1) + (m : Int) * (-1)).toNat]?).toArray = xs.toList.reverse.toArray := by
  have e : (fun (m : Nat) => xs[(((xs.size : Int) - 1) + (m : Int) * (-1)).toNat]?) = (fun i => xs[i]?) ∘ fun m => xs.size - 1 - m := by
    funext m
    have : (((xs.size : Int) - 1) + (m : Int) * (-1)).toNat = xs.size - 1 - m := by omega
    rw [this]
    rfl
  rw [e, ← List.filterMap_map, PySem.W.krv_range, List.filterMap_reverse, PySem.W.krv_all]
theorem getItem_tuple_back {t sl : Addr} {items : Array Value} {tk : Tok} {Q : Value → Shared → Prop} (ht : IsTup s.heap t items) (hs : s.heap.IsSliceOf sl .none .none (.int (-1) tk))
    (h : Q (.ref s.heap.objs.size) { s with heap := s.heap.push { cls := .type "tuple", data := .seq items.toList.reverse.toArray } }) (hsz : items.size ≤ sizeLine) : wpAny (model prog w) A (getItem (.ref t) (.ref sl)) Q E s := by
  have htake : sizeOk (.seq items.toList.reverse.toArray) := by
    show items.toList.reverse.toArray.size ≤ sizeLine
    rw [List.size_toArray, List.length_reverse, Array.length_toList]
    exact hsz
  obtain ⟨os, hos, hcs, _⟩ := id hs
  have isSl : s.TypeIs (.ref sl) "slice" := ⟨os, hos, hcs⟩
  unfold getItem
  try with_reducible refine wpAny_holding ?_
  first | refine wpAny_bind (wpAny_pure ?_) | skip
  refine wpAny_bind (wpAny_sequenceKey ht.typeIs (by decide) ?_)
  refine wpAny_bind (wpAny_callSpecial?_slot (name := Str.ofString "__getitem__") ht.typeIs slot_tuple_getitem (wpAny_call_entry slot_tuple_getitem ht.typeIs entry_tuple_getitem ?_ (args_tuple_getitem _ _)))
  show wpAny _ _ (Builtin.Tuple.tupleItemsOf (.ref t) >>= _) _ _ s
  refine wpAny_bind (tupleItemsOf_ ht (wpAny_bind (wpAny_typeOf isSl ?_)))
  rw [if_pos (by decide)]
  refine wpAny_bind (applied_back hs ?_)
  show wpAny _ _ (if (((items.size : Int) - 1) == 0 && (-1 : Int) == 1 && items.size == items.size) = true then _ else _) _ _ s
  rw [if_neg (by simp), pick_back]
  first
    | exact wpAny_bind (m := Builtin.Tuple.tupleExact _) (wpAny_newObj_type (wpAny_pure ⟨_, rfl, wpAny_pure h⟩) htake)
    | exact wpAny_bind (wpAny_bind (m := Builtin.Tuple.tupleExact _) (wpAny_newObj_type (wpAny_pure (wpAny_pure ⟨_, rfl, wpAny_pure h⟩)) htake))
    | exact wpAny_bind (wpAny_bind (m := Builtin.Tuple.tupleExact _) (wpAny_newObj_type (wpAny_pure ⟨_, rfl, wpAny_pure h⟩) htake))
    | exact wpAny_bind (m := Builtin.Tuple.tupleExact _) (wpAny_newObj_type (wpAny_bind (wpAny_pure (wpAny_pure ⟨_, rfl, wpAny_pure h⟩))) htake)
end
/-! ### t[::-1] -/
def tRevT (K : PySem.W.Frag) (te : TE) : TE := fun σ H Q => te σ H fun x H1 => ∃ a xs, x = .ref a ∧ SqT K H1 a xs ∧ ∀ p, H1 p = none → Q (.ref p) (upd H1 p (.tup xs.reverse))
section
variable {X : Cx}
theorem pe_revT {e : Expr} {te : TE} {k : Nat} {p1 p2 p3 pos : Pos} (he : PE X e te) : PE X (.Subscript e (.Slice none none (some (.UnaryOp .USub (.Constant (.int 1) k p1) p2)) p3) pos) (tRevT X.K te) := by
  refine ⟨fun pins s σ H Q I h => ?_⟩
  refine Subscript_ (thn (he.run pins s σ H _ I h) fun v s1 ⟨x, H1, I1, r1, q1⟩ => ?_)
  obtain ⟨a, xs, ex, hx, q⟩ := q1
  subst ex
  cases r1
  have hst : PO X (some (.UnaryOp .USub (.Constant (.int 1) k p1) p2)) (tPart (tUn (rU fun i => .int (-i)) (tC (.int 1)))) := po_some (pe_un un_neg pe_int)
  refine wpAny_Slice (thn (po_none.run pins s1 σ H1 (fun o H2 => o = none ∧ H2 = H1) I1 ⟨rfl, rfl⟩) fun vl s2 ⟨l, H2, I2, pl, el, e2⟩ => ?_)
  subst el e2
  refine thn (po_none.run pins s2 σ H2 (fun o H3 => o = none ∧ H3 = H2) I2 ⟨rfl, rfl⟩) fun vu s3 ⟨u, H3, I3, pu, eu, e3⟩ => ?_
  subst eu e3
  refine thn (hst.run pins s3 σ H3 (fun o H4 => o = some (-1) ∧ H4 = H3) I3 ⟨1, rfl, -1, rfl, rfl, rfl⟩) fun vs s4 ⟨o, H4, I4, ps, eo, e4⟩ => ?_
  subst eo e4
  cases pl
  cases pu
  generalize hv : (-1 : Int) = mi at ps
  cases ps with
  | int i tk =>
    subst hv
    have I5 : Inv X pins σ H4 { s4 with heap := s4.heap.push { cls := .type "slice", data := .fields #[.none, .none, .int (-1) tk] } } := I4.kept (t' := s4.toks) fun b ob q => Heap.get?_push_of_some _ q
    obtain ⟨its, r, ht, hz⟩ := I5.tuple hx
    have hlen := r.length
    show wpAny (model X.prog X.w) X.A (subscriptTail e (.Slice none none (some (.UnaryOp .USub (.Constant (.int 1) k p1) p2)) p3) (.ref a) (.ref s4.heap.objs.size)) (EP X pins σ Q) X.xe { s4 with heap := s4.heap.push { cls := .type "slice", data := .fields #[.none, .none, .int (-1) tk] } }
    refine tail_any (ops := [.ref a, .ref s4.heap.objs.size]) ht.typeIs (PyProof.Rows.slot_tuple_getitem.lookup) ?_ (by with_unfolding_all rfl)
    refine getItem_tuple_back ht (Heap.IsSliceOf.new _ .none .none (.int (-1) tk)) ?_ (by rw [List.size_toArray]; omega)
    refine ⟨.ref _, _, I5.laid (t' := s4.toks) (o := .tup xs.reverse) (fun b ob q => Heap.get?_push_of_some _ q) (Nat.le_refl _) ?_, rfl, q _ (I5.hok.fresh (Nat.le_refl _))⟩
    exact ⟨by rw [List.length_reverse]; exact hz, _, r.reverse, IsTup.new _ _⟩
/-! ### xs.extend(t), t a tuple -/
theorem ext_tup (l : Addr) (items : Array Value) (n : Nat) (b : Addr) (items2 : Array Value) (n2 : Nat) (dd : Option Addr) (sl : Array (Option Value)) (hs0 : ¬(!items.isEmpty && Builtin.List.listTooLong (items.size + items2.size)) = true) (hs1 : items.size ≤ sizeLine) (hs2 : items.size + items2.size ≤ sizeLine + 1) :
    Meets (Builtin.«list.extend» ⟨[.ref l, .ref b], []⟩) (fun _ R s => s.heap.get? l = some { cls := .type "list", dict := none, data := .seq items n, slots := #[] } ∧ s.heap.get? b = some { cls := .type "tuple", dict := dd, data := .seq items2 n2, slots := sl } ∧
      R (.ok (.ret Value.none)) { s with heap := s.heap.update l (Obj.mapSeq fun x => x ++ items2), toks := s.toks }) :=
  .of_wp fun prog w A R s h => by
    obtain ⟨hp, g, d, tk, os⟩ := s
    obtain ⟨hl, hb, h⟩ := h
    have f1 := AutoSeq1.idx_int; have f2 := AutoSeq1.sub_tuple_tuple; have f3 := AutoSeq1.sub_list_list; have f4 := AutoSeq1.sub_tuple_list; have f5 := AutoSeq1.sub_list_tuple
    have hz' : (items ++ items2).size ≤ sizeLine + 1 := by rw [Array.size_append]; omega
    wp_walk using (wpAny_updateSeq hl rfl (hz := hs1) (_hz' := hz')), wpAny_loadPart' hl, wpAny_loadPart' hb
    exact ⟨_, rfl, h⟩
def rExtT (K : PySem.W.Frag) : V → List V → Hp → VK → Prop := fun x vs H Q => ∃ l b xs zs, x = .ref l ∧ vs = [.ref b] ∧ H l = some (.lst xs) ∧ SqT K H b zs ∧ xs.length + zs.length ≤ sizeLine ∧ Q .non (upd H l (.lst (xs ++ zs)))
theorem mt_extendT : MtR X "list.extend" (rExtT X.K) := by
  intro pins s σ H x vs v us Q I rx rv h
  obtain ⟨l, b, xs, zs, rfl, rfl, hH, hB, hz, q⟩ := h
  cases rx
  obtain ⟨u, rfl, ru⟩ := rv.one
  cases ru
  obtain ⟨z, its, n, r, hl, e⟩ := I.lstM hH
  obtain ⟨its2, r2, ht2, hl2⟩ := I.tuple hB
  obtain ⟨⟨cls2, dd2, data2, sl2⟩, e2, hc2, n2, hd2⟩ := id ht2
  simp only at hc2 hd2
  subst hc2 hd2
  have hsz : its.toArray.size + its2.toArray.size ≤ sizeLine := by rw [List.size_toArray, List.size_toArray, ← r.length, ← r2.length]; exact hz
  have hlong : ¬ (!its.toArray.isEmpty && Builtin.List.listTooLong (its.toArray.size + its2.toArray.size)) = true := by
    rw [notLongL hsz, Bool.and_false]
    exact Bool.false_ne_true
  refine call_meets PySem.F.slot_list_extend ⟨_, e, rfl⟩ PySem.F.entry_list_extend (PySem.F.args_list_extend_2 _ _) (ext_tup l its.toArray n b its2.toArray n2 dd2 sl2 hlong (by omega) (by omega)) ⟨e, e2, ?_⟩
  refine ⟨.non, _, I.lset (its' := its ++ its2) hH e (by simp) (r.append r2) ?_, rfl, q⟩
  rw [List.length_append]
  exact hz
/-! ### a constant of the module -/
theorem pe_globI {x : Str} {i : Int} {pos : Pos} (hg : Gl X x) (hm : ∃ t, X.mg x = some (.int i t)) (hd : (x == ("__debug__" : Str)) = false := by decide) : PE X (.Name x pos) (tC (.int i)) := by
  obtain ⟨t, e⟩ := hm
  exact pe_glob hg e ⟨t, rfl⟩ hd
/-- a class of the module as a value -/
theorem pe_globC {x : Str} {C : Addr} {pos : Pos} (hg : Gl X x) (hm : X.mg x = some (.ref C)) (hd : (x == ("__debug__" : Str)) = false := by decide) : PE X (.Name x pos) (tC (.ref C)) := pe_glob hg hm rfl hd
/-- t + u, also of empty ones -/
def rCatA (K : PySem.W.Frag) : R2 := fun x y H Q => ∃ a b xs ys, x = .ref a ∧ y = .ref b ∧ SqT K H a xs ∧ SqT K H b ys ∧ xs.length + ys.length ≤ sizeLine ∧
  (xs = [] → Q (.ref b) H) ∧ (xs ≠ [] → ys = [] → Q (.ref a) H) ∧ (xs ≠ [] → ys ≠ [] → ∀ p, H p = none → Q (.ref p) (upd H p (.tup (xs ++ ys))))
theorem op_catA : OpR X (binaryOp .Add) (rCatA X.K) := by
  intro pins s σ H x y v u Q I rx ry h
  obtain ⟨a, b, xs, ys, rfl, rfl, ha, hb, hz, q0, q1, q2⟩ := h
  by_cases hx : xs = []
  · subst hx
    cases rx
    cases ry
    obtain ⟨its, r1, p1, _⟩ := I.tuple ha
    obtain ⟨its2, r2, p2, _⟩ := I.tuple hb
    cases r1
    obtain ⟨⟨cls, dd, data, sl⟩, ho, hc, n, hd⟩ := id p1
    obtain ⟨⟨cls2, dd2, data2, sl2⟩, ho2, hc2, n2, hd2⟩ := id p2
    simp only at hc hd hc2 hd2
    subst hc hd hc2 hd2
    exact concat_meets ⟨_, ho, rfl⟩ ⟨_, ho2, rfl⟩ noFill_tuple_add seq_tuple_add PySem.F.slot_tuple_add PySem.F.entry_tuple_add (PySem.F.args_tuple_add_2 _ _)
      (tuple_addW0 a b #[] its2.toArray n n2 dd dd2 sl sl2 (by rfl)) ⟨ho, ho2, ⟨.ref b, H, I, rfl, q0 rfl⟩⟩
  · exact op_catT pins s σ H _ _ v u Q I rx ry ⟨a, b, xs, ys, rfl, rfl, ha, hb, hx, hz, q1 hx, q2 hx⟩
/-- what does not name the part around it: for a comprehension's block -/
theorem op_catTK {K : PySem.W.Frag} (e : X.K = K) : OpR X (binaryOp .Add) (rCatT K) := e ▸ op_catT
theorem pg_tupK {K : PySem.W.Frag} {es : List Expr} {k : Nat} {t : TGs} {n : Nat} {pos : Pos} (e : X.K = K) (hc : X.calm = true) (h : PGs X es t)
    (hn : (assignEach es X.env).length = n := by rfl) (hst : (assignEach es X.env).findIdx? (·.1) = none := by rfl) : PG X (.Tuple es k pos) (gTup K n t) := e ▸ pg_tup hc h hn hst
end
end Wv
/-! list(zip(s, t)) of two tuples of one length: the pairs are kept, so that each turn makes its own. -/
namespace Wz
open PySem
open Sem (wp)
open PySem.W (kdx_alive)
section
variable {prog : Program} {w : World} {A : Around} {E : Value → Shared → Prop} {s : Shared}
theorem held_item {z TI TO T i1 i2 l1 l2 : Addr} {f : Bool} {oT : Obj} {k1 k2 : Nat} {xs ys : Array Value} {x y : Value} {Q : Value → Shared → Prop} (D : ZipApart z TI TO i1 i2 l1 l2)
    (zh : IsZipHeld s.heap z TI TO T f) (hT : s.heap.get? T = some oT) (hTI : IsPair s.heap TI (.ref i1) (.ref i2)) (t1 : s.heap.IsTupleIter i1 l1 k1) (t2 : s.heap.IsTupleIter i2 l2 k2) (u1 : s.heap.IsTuple l1 xs) (u2 : s.heap.IsTuple l2 ys)
    (hx : xs[k1]? = some x) (hy : ys[k2]? = some y)
    (go : ∀ h', IsZipHeld h' z TI TO T true → h'.IsTupleIter i1 l1 (k1 + 1) → h'.IsTupleIter i2 l2 (k2 + 1) → IsPair h' s.heap.objs.size x y → h'.objs.size = s.heap.objs.size + 1 → (∀ c o, c ≠ z → c ≠ i1 → c ≠ i2 → s.heap.get? c = some o → h'.get? c = some o) →
      Q (.ref s.heap.objs.size) { s with heap := h' }) : wpAny (model prog w) A (Builtin.«zip.__next__» ⟨[.ref z], []⟩) (fun fin s' => ∃ v, fin = .done (.ret v) ∧ Q v s') E s := by
  show wpAny _ _ (field (.ref z) 2 >>= _) _ _ _
  refine wpAny_bind (wpAny_field zh rfl (x := .bool false) rfl ?_); show wpAny _ _ (field (.ref z) 3 >>= _) _ _ _
  refine wpAny_bind (wpAny_field zh rfl (x := .ref TI) rfl (wpAny_bind (wpAny_seqItems hTI rfl ?_)))
  show wpAny _ _ (Builtin.SmallTypes.ownedTupleIsFree (.ref z) >>= _) _ _ _
  refine wpAny_bind (wpAny_tupleHeld_zip zh hT fun ha za sa => ?_)
  simp only [Bool.false_eq_true, if_false]
  refine wpAny_bind ?_
  rw [← Array.forIn_toList]; simp only [List.forIn_cons, List.forIn_nil]
  refine wpAny_bind (wpAny_bind (wpAny_holding ?_)); show wpAny _ _ (Builtin.SmallTypes.nextOf (.ref i1) >>= _) _ _ _
  refine wpAny_bind (RZ.nextOf_tuple_item (s := { s with heap := ha }) (t1.extBut sa.extBut D.i1z) (u1.extBut sa.extBut D.l1z) hx fun hb tb sb => wpAny_pure (wpAny_pure ?_))
  refine wpAny_bind (wpAny_bind (wpAny_holding ?_)); show wpAny _ _ (Builtin.SmallTypes.nextOf (.ref i2) >>= _) _ _ _
  refine wpAny_bind (RZ.nextOf_tuple_item (s := { s with heap := hb }) ((t2.extBut sa.extBut D.i2z).extBut sb.extBut D.i12.symm) ((u2.extBut sa.extBut D.l2z).extBut sb.extBut D.l2i1) hy fun hc tc sc => wpAny_pure (wpAny_pure (wpAny_pure ?_)))
  show wpAny _ _ (newTuple [x, y] >>= _) _ _ _
  refine wpAny_bind (wpAny_newTuple ?_)
  have ez : hc.objs.size = s.heap.objs.size := by rw [sc.1, sb.1, sa.1]
  have zc : IsZipHeld hc z TI TO T true := sc.extBut _ _ D.i2z.symm (sb.extBut _ _ D.i1z.symm za)
  have kc : ∀ c o, c ≠ z → c ≠ i1 → c ≠ i2 → s.heap.get? c = some o → hc.get? c = some o := fun c o c1 c2 c3 e => sc.extBut _ _ c3 (sb.extBut _ _ c2 (sa.extBut _ _ c1 e))
  have td : hc.IsTupleIter i1 l1 (k1 + 1) := tb.extBut sc.extBut D.i12
  refine wpAny_pure ⟨_, rfl, ?_⟩
  show Q (.ref hc.objs.size) _
  have pn : IsPair (hc.push { cls := .type "tuple", data := .seq #[x, y] }) hc.objs.size x y := Heap.get?_push_size _ rfl
  have sn : (hc.push { cls := .type "tuple", data := .seq #[x, y] }).objs.size = hc.objs.size + 1 := Heap.size_push ..
  rw [ez] at pn sn ⊢
  exact go _ (Heap.get?_push_of_some _ zc) (td.at fun o e => Heap.get?_push_of_some _ e) (tc.at fun o e => Heap.get?_push_of_some _ e) pn sn fun c o c1 c2 c3 e => Heap.get?_push_of_some _ (kc c o c1 c2 c3 e)
theorem held_end {z TI TO T i1 i2 l1 l2 : Addr} {f : Bool} {oT : Obj} {k1 : Nat} {xs : Array Value} {Q : Fin → Shared → Prop} (hh : A.handled = none) (D : ZipApart z TI TO i1 i2 l1 l2)
    (zh : IsZipHeld s.heap z TI TO T f) (hT : s.heap.get? T = some oT) (hTI : IsPair s.heap TI (.ref i1) (.ref i2)) (t1 : s.heap.IsTupleIter i1 l1 k1) (u1 : s.heap.IsTuple l1 xs) (hx : xs[k1]? = none)
    (go : ∀ h' e, (∀ c o, c ≠ z → c ≠ i1 → c ≠ i2 → s.heap.get? c = some o → h'.get? c = some o) → (∃ o, h'.get? e = some o ∧ o.cls = .type "StopIteration") → E (.ref e) { s with heap := h' }) :
    wpAny (model prog w) A (Builtin.«zip.__next__» ⟨[.ref z], []⟩) Q E s := by
  show wpAny _ _ (field (.ref z) 2 >>= _) _ _ _
  refine wpAny_bind (wpAny_field zh rfl (x := .bool false) rfl ?_); show wpAny _ _ (field (.ref z) 3 >>= _) _ _ _
  refine wpAny_bind (wpAny_field zh rfl (x := .ref TI) rfl (wpAny_bind (wpAny_seqItems hTI rfl ?_)))
  show wpAny _ _ (Builtin.SmallTypes.ownedTupleIsFree (.ref z) >>= _) _ _ _
  refine wpAny_bind (wpAny_tupleHeld_zip zh hT fun ha za sa => ?_)
  simp only [Bool.false_eq_true, if_false]
  refine wpAny_bind ?_
  rw [← Array.forIn_toList]; simp only [List.forIn_cons, List.forIn_nil]
  refine wpAny_bind (wpAny_bind (wpAny_holding ?_)); show wpAny _ _ (Builtin.SmallTypes.nextOf (.ref i1) >>= _) _ _ _
  refine wpAny_bind (RZ.nextOf_tuple_end (s := { s with heap := ha }) hh (t1.extBut sa.extBut D.i1z) (u1.extBut sa.extBut D.l1z) hx fun hb e sb he => ?_)
  exact go hb e (fun c o c1 c2 _ x => sb _ _ c2 (sa.extBut _ _ c1 x)) he
theorem next_held {z TI TO T i1 i2 l1 l2 : Addr} {f : Bool} {oT : Obj} {k1 k2 : Nat} {xs ys : Array Value} {x y : Value} {Q : Option Value → Shared → Prop} (D : ZipApart z TI TO i1 i2 l1 l2)
    (zh : IsZipHeld s.heap z TI TO T f) (hT : s.heap.get? T = some oT) (hTI : IsPair s.heap TI (.ref i1) (.ref i2)) (t1 : s.heap.IsTupleIter i1 l1 k1) (t2 : s.heap.IsTupleIter i2 l2 k2) (u1 : s.heap.IsTuple l1 xs) (u2 : s.heap.IsTuple l2 ys)
    (hx : xs[k1]? = some x) (hy : ys[k2]? = some y)
    (go : ∀ h', IsZipHeld h' z TI TO T true → h'.IsTupleIter i1 l1 (k1 + 1) → h'.IsTupleIter i2 l2 (k2 + 1) → IsPair h' s.heap.objs.size x y → h'.objs.size = s.heap.objs.size + 1 → (∀ c o, c ≠ z → c ≠ i1 → c ≠ i2 → s.heap.get? c = some o → h'.get? c = some o) →
      Q (some (.ref s.heap.objs.size)) { s with heap := h' }) : wpAny (model prog w) A (pyNext (.ref z)) Q E s := by
  have ty : s.TypeIs (.ref z) "zip" := ⟨_, zh, rfl⟩
  unfold pyNext
  exact wpAny_bind (wpAny_attempt (wpAny_callSpecial?_slot (name := Str.ofString "__next__") ty F.slot_zip_next (wpAny_call_entry F.slot_zip_next ty F.entry_zip_next
    (held_item D zh hT hTI t1 t2 u1 u2 hx hy fun h' a1 a3 a4 a5 a6 a7 => wpAny_pure (go h' a1 a3 a4 a5 a6 a7)) (F.args_zip_next_1 _))))
theorem next_held_end {z TI TO T i1 i2 l1 l2 : Addr} {f : Bool} {oT : Obj} {k1 : Nat} {xs : Array Value} {Q : Option Value → Shared → Prop} (hh : A.handled = none) (D : ZipApart z TI TO i1 i2 l1 l2)
    (zh : IsZipHeld s.heap z TI TO T f) (hT : s.heap.get? T = some oT) (hTI : IsPair s.heap TI (.ref i1) (.ref i2)) (t1 : s.heap.IsTupleIter i1 l1 k1) (u1 : s.heap.IsTuple l1 xs) (hx : xs[k1]? = none)
    (go : ∀ h', (∀ c o, c ≠ z → c ≠ i1 → c ≠ i2 → s.heap.get? c = some o → h'.get? c = some o) → Q none { s with heap := h' }) : wpAny (model prog w) A (pyNext (.ref z)) Q E s := by
  have ty : s.TypeIs (.ref z) "zip" := ⟨_, zh, rfl⟩
  unfold pyNext
  refine wpAny_bind (wpAny_attempt (wpAny_callSpecial?_slot (name := Str.ofString "__next__") ty F.slot_zip_next (wpAny_call_entry F.slot_zip_next ty F.entry_zip_next (held_end hh D zh hT hTI t1 u1 hx fun h' e hk he => ?_) (F.args_zip_next_1 _))))
  obtain ⟨o, ho, hc⟩ := he
  exact wpAny_bind (wpAny_isInstance (T := "StopIteration") (b := true) ⟨o, ho, hc⟩ isSubtype_stop (wpAny_pure (go _ hk)))
end
/-- the five records of a zip and its tuples, the list at S behind them -/
structure Apart (z TI TO i1 i2 l1 l2 S : Addr) : Prop where
  D : ZipApart z TI TO i1 i2 l1 l2
  zS : z < S
  TIS : TI < S
  TOS : TO < S
  i1S : i1 < S
  i2S : i2 < S
  l1S : l1 < S
  l2S : l2 < S
/-- the zip ahead of turn i -/
structure St (h : Heap) (z TI TO i1 i2 l1 l2 S : Addr) (xs ys : Array Value) (i : Nat) : Prop where
  ti : IsPair h TI (.ref i1) (.ref i2)
  t1 : h.IsTupleIter i1 l1 i
  t2 : h.IsTupleIter i2 l2 i
  u1 : h.IsTuple l1 xs
  u2 : h.IsTuple l2 ys
  own : (IsZip h z TI TO .none ∧ ∃ a b, IsPair h TO a b) ∨ ∃ T f oT, IsZipHeld h z TI TO T f ∧ h.get? T = some oT ∧ S < T
theorem St.keep {h h' : Heap} {z TI TO i1 i2 l1 l2 S : Addr} {xs ys : Array Value} {i : Nat} (A : Apart z TI TO i1 i2 l1 l2 S) (st : St h z TI TO i1 i2 l1 l2 S xs ys i) (k : ∀ b o, b ≠ S → h.get? b = some o → h'.get? b = some o) : St h' z TI TO i1 i2 l1 l2 S xs ys i where
  ti := k _ _ (Nat.ne_of_lt A.TIS) st.ti
  t1 := st.t1.at fun o e => k _ o (Nat.ne_of_lt A.i1S) e
  t2 := st.t2.at fun o e => k _ o (Nat.ne_of_lt A.i2S) e
  u1 := let ⟨o, e, r⟩ := st.u1; ⟨o, k _ _ (Nat.ne_of_lt A.l1S) e, r⟩
  u2 := let ⟨o, e, r⟩ := st.u2; ⟨o, k _ _ (Nat.ne_of_lt A.l2S) e, r⟩
  own := by
    rcases st.own with ⟨h1, a, b, h2⟩ | ⟨T, f, oT, h1, h2, h3⟩
    · exact .inl ⟨k _ _ (Nat.ne_of_lt A.zS) h1, a, b, k _ _ (Nat.ne_of_lt A.TOS) h2⟩
    · exact .inr ⟨T, f, oT, k _ _ (Nat.ne_of_lt A.zS) h1, k _ _ (Nat.ne_of_gt h3) h2, h3⟩
section
variable {prog : Program} {w : World} {A : Around} {E : Value → Shared → Prop} {s : Shared}
theorem far_ne {c m S i1 : Nat} (h : c < i1 ∨ S ≤ c) (a : i1 ≤ m) (b : m < S) : c ≠ m := by omega
theorem low_ne {c S i1 : Nat} (h : c < i1) (b : i1 < S) : c ≠ S := by omega
theorem turn_item {z TI TO i1 i2 l1 l2 S : Addr} {i : Nat} {xs ys : Array Value} {x y : Value} {Q : Option Value → Shared → Prop} (B : Apart z TI TO i1 i2 l1 l2 S) (hS : S < s.heap.objs.size) (st : St s.heap z TI TO i1 i2 l1 l2 S xs ys i) (hx : xs[i]? = some x) (hy : ys[i]? = some y)
    (go : ∀ h', St h' z TI TO i1 i2 l1 l2 S xs ys (i + 1) → IsPair h' s.heap.objs.size x y → h'.objs.size = s.heap.objs.size + 1 → (∀ c o, (c < i1 ∨ S ≤ c) → s.heap.get? c = some o → h'.get? c = some o) → Q (some (.ref s.heap.objs.size)) { s with heap := h' })
    (low : i1 ≤ i2 ∧ i1 ≤ TI ∧ i1 ≤ TO ∧ i1 ≤ z ∧ l1 < i1 ∧ l2 < i1) : wpAny (model prog w) A (pyNext (.ref z)) Q E s := by
  obtain ⟨b1, b2, b3, b4, b5, b6⟩ := low
  have D := B.D
  have zS := B.zS; have TOS := B.TOS; have i1S := B.i1S; have i2S := B.i2S; have TIS := B.TIS
  rcases st.own with ⟨h1, a, b, h2⟩ | ⟨T, f, oT, h1, h2, h3⟩
  · refine RZ.pyNext_zipT_item D h1 st.ti h2 st.t1 st.t2 st.u1 st.u2 hx hy fun h' z' TO' t1' t2' pn sz k => ?_
    refine go h' ⟨k _ _ D.TIz D.TITO D.TIi1 D.TIi2 st.ti, t1', t2', ?_, ?_, .inr ⟨_, false, _, z', pn, hS⟩⟩ pn sz fun c o hc e => k c o (far_ne hc b4 zS) (far_ne hc b3 TOS) (far_ne hc (Nat.le_refl _) i1S) (far_ne hc b1 i2S) e
    · obtain ⟨o, e, r⟩ := st.u1; exact ⟨o, k _ _ D.l1z D.l1TO D.l1i1 D.l1i2 e, r⟩
    · obtain ⟨o, e, r⟩ := st.u2; exact ⟨o, k _ _ D.l2z D.l2TO D.l2i1 D.l2i2 e, r⟩
  · refine next_held D h1 h2 st.ti st.t1 st.t2 st.u1 st.u2 hx hy fun h' z' t1' t2' pn sz k => ?_
    refine go h' ⟨k _ _ D.TIz D.TIi1 D.TIi2 st.ti, t1', t2', ?_, ?_, .inr ⟨T, true, oT, z', k _ _ (Nat.ne_of_gt (Nat.lt_trans zS h3)) (Nat.ne_of_gt (Nat.lt_trans i1S h3)) (Nat.ne_of_gt (Nat.lt_trans i2S h3)) h2, h3⟩⟩ pn sz fun c o hc e => k c o (far_ne hc b4 zS) (far_ne hc (Nat.le_refl _) i1S) (far_ne hc b1 i2S) e
    · obtain ⟨o, e, r⟩ := st.u1; exact ⟨o, k _ _ D.l1z D.l1i1 D.l1i2 e, r⟩
    · obtain ⟨o, e, r⟩ := st.u2; exact ⟨o, k _ _ D.l2z D.l2i1 D.l2i2 e, r⟩
theorem turn_end {z TI TO i1 i2 l1 l2 S : Addr} {i : Nat} {xs ys : Array Value} {Q : Option Value → Shared → Prop} (hh : A.handled = none) (B : Apart z TI TO i1 i2 l1 l2 S) (st : St s.heap z TI TO i1 i2 l1 l2 S xs ys i) (hx : xs[i]? = none)
    (go : ∀ h', (∀ c o, (c < i1 ∨ S ≤ c) → s.heap.get? c = some o → h'.get? c = some o) → Q none { s with heap := h' })
    (low : i1 ≤ i2 ∧ i1 ≤ TI ∧ i1 ≤ TO ∧ i1 ≤ z ∧ l1 < i1 ∧ l2 < i1) : wpAny (model prog w) A (pyNext (.ref z)) Q E s := by
  obtain ⟨b1, b2, b3, b4, b5, b6⟩ := low
  have D := B.D
  have zS := B.zS; have TOS := B.TOS; have i1S := B.i1S; have i2S := B.i2S; have TIS := B.TIS
  rcases st.own with ⟨h1, a, b, h2⟩ | ⟨T, f, oT, h1, h2, h3⟩
  · refine RZ.pyNext_zipT_end hh D h1 st.ti h2 st.t1 st.t2 st.u1 st.u2 (.inl hx) fun h' k => go h' fun c o hc e => k c o (far_ne hc b4 zS) (far_ne hc b3 TOS) (far_ne hc (Nat.le_refl _) i1S) (far_ne hc b1 i2S) e
  · refine next_held_end hh D h1 h2 st.ti st.t1 st.u1 hx fun h' k => go h' fun c o hc e => k c o (far_ne hc b4 zS) (far_ne hc (Nat.le_refl _) i1S) (far_ne hc b1 i2S) e
end
/-- the pairs made so far -/
structure Gv (xs ys : Array Value) (lo : Addr) (h : Heap) (as : List Addr) : Prop where
  rise : as.Pairwise (· < ·)
  above : ∀ a ∈ as, lo < a
  pairs : ∀ (j : Nat) (a : Addr), as[j]? = some a → ∃ x y, xs[j]? = some x ∧ ys[j]? = some y ∧ IsPair h a x y
theorem Gv.there {xs ys : Array Value} {lo : Addr} {h : Heap} {as : List Addr} (g : Gv xs ys lo h as) {a : Addr} (ha : a ∈ as) : a < h.objs.size := by
  obtain ⟨j, hj⟩ := List.mem_iff_getElem?.mp ha
  obtain ⟨_, _, _, _, e⟩ := g.pairs j a hj
  exact Heap.lt_size e
theorem Gv.keep {xs ys : Array Value} {lo : Addr} {h h' : Heap} {as : List Addr} (g : Gv xs ys lo h as) (k : ∀ b o, lo < b → h.get? b = some o → h'.get? b = some o) : Gv xs ys lo h' as := ⟨g.rise, g.above, fun j a hj => by
  obtain ⟨x, y, e1, e2, e3⟩ := g.pairs j a hj
  exact ⟨x, y, e1, e2, k a _ (g.above a (List.mem_of_getElem? hj)) e3⟩⟩
section
variable {prog : Program} {w : World} {A : Around} {s : Shared} {R : Result → Shared → Prop}
theorem z_loop {z TI TO i1 i2 l1 l2 S : Addr} {xs ys : Array Value} (hh : A.handled = none) (B : Apart z TI TO i1 i2 l1 l2 S) (low : i1 ≤ i2 ∧ i1 ≤ TI ∧ i1 ≤ TO ∧ i1 ≤ z ∧ l1 < i1 ∧ l2 < i1) (hl : xs.size = ys.size) (hn : xs.size ≤ sizeLine) (res : Value) {h0 : Heap}
    (go : ∀ h' tk acc c as, (∀ b o, b < i1 → h0.get? b = some o → h'.get? b = some o) → h'.get? S = some { cls := .type "list", dict := none, data := .seq acc c, slots := #[] } → as.length = xs.size → Gv xs ys S h' as → acc.toList = as.map Value.ref → R (.ok (.ret res)) { s with heap := h', toks := tk }) :
    ∀ (k i : Nat) (h : Heap) (tk c : Nat) (acc : Array Value) (as : List Addr), xs.size - i = k → i ≤ xs.size → St h z TI TO i1 i2 l1 l2 S xs ys i → (∀ b o, b < i1 → h0.get? b = some o → h.get? b = some o) →
      h.get? S = some { cls := .type "list", dict := none, data := .seq acc c, slots := #[] } → acc.toList = as.map Value.ref → as.length = i → Gv xs ys S h as →
      codeAny (model prog w) A (.builtin "list.extend.loop" ⟨[.ref S, .ref z, res], []⟩) R { s with heap := h, toks := tk } := by
  have i1S := B.i1S
  intro k
  induction k with
  | zero =>
    intro i h tk c acc as hk hi st keep hS hacc hal hG
    refine codeAny_builtin PySem.F.entry_extend_loop ?_
    rw [Around.under_plainId PySem.F.plain_extend_loop _]; show wpAny _ A.in1 (pyNext (.ref z) >>= _) _ _ _
    refine wpAny_bind (turn_end (s := { s with heap := h, toks := tk }) (A := A.in1) hh B st (Array.getElem?_eq_none (by omega)) (fun h' he => ?_) low)
    exact wpAny_pure (go h' tk acc c as (fun b o hb e => he b o (.inl hb) (keep b o hb e)) (he S _ (.inr (Nat.le_refl _)) hS) (by omega) (hG.keep fun b o hb e => he b o (.inr (Nat.le_of_lt hb)) e) hacc)
  | succ k ih =>
    intro i h tk c acc as hk hi st keep hS hacc hal hG
    have hlt : i < xs.size := by omega
    have hx : xs[i]? = some xs[i] := Array.getElem?_eq_getElem hlt
    have hy : ys[i]? = some (ys[i]'(by omega)) := Array.getElem?_eq_getElem (by omega)
    have hsz : acc.size = i := by rw [← Array.length_toList, hacc, List.length_map, hal]
    have hSl : S < h.objs.size := Heap.lt_size hS
    refine codeAny_builtin PySem.F.entry_extend_loop ?_
    rw [Around.under_plainId PySem.F.plain_extend_loop _]; show wpAny _ A.in1 (pyNext (.ref z) >>= _) _ _ _
    refine wpAny_bind (turn_item (s := { s with heap := h, toks := tk }) B hSl st hx hy (fun h' st' pn sz kp => ?_) low)
    dsimp only at pn sz kp ⊢
    have hS' := kp S _ (.inr (Nat.le_refl _)) hS
    have up : ∀ b o, b ≠ S → h'.get? b = some o → (h'.update S (Obj.mapSeq (·.push (Value.ref h.objs.size)))).get? b = some o := fun b o hb e => (Heap.get?_update_other _ _ (Ne.symm hb)).trans e
    show wpAny _ A.in1 (updateSeq S (·.push (Value.ref h.objs.size)) >>= _) _ _ _
    refine wpAny_bind (wpAny_updateSeq hS' rfl (wpAny_pure ⟨plainId_quiet PySem.F.plain_extend_loop _, ih (i + 1) _ tk _ (acc.push (Value.ref h.objs.size)) (as ++ [h.objs.size]) (by omega) hlt (st'.keep B up) (fun b o hb e => up b o (low_ne hb i1S) (kp b o (.inl hb) (keep b o hb e)))
      (Heap.get?_update_self _ hS' rfl) (by rw [Array.toList_push, hacc, List.map_append]; rfl) (by rw [List.length_append, hal]; rfl) ⟨?_, ?_, ?_⟩⟩) (by rw [hsz]; omega) (by show (acc.push (Value.ref h.objs.size)).size ≤ sizeLine + 1; rw [Array.size_push, hsz]; omega))
    · refine List.pairwise_append.mpr ⟨hG.rise, List.pairwise_singleton _ _, fun a ha b hb => ?_⟩
      rw [List.mem_singleton.mp hb]; exact hG.there ha
    · intro a ha
      rcases List.mem_append.mp ha with ha | ha
      · exact hG.above a ha
      · rw [List.mem_singleton.mp ha]; exact hSl
    · intro j b hj
      rcases Nat.lt_trichotomy j as.length with q | q | q
      · rw [List.getElem?_append_left q] at hj
        obtain ⟨x', y', e1, e2, e3⟩ := hG.pairs j b hj
        have hb := hG.above b (List.mem_of_getElem? hj)
        exact ⟨x', y', e1, e2, up b _ (Nat.ne_of_gt hb) (kp b _ (.inr (Nat.le_of_lt hb)) e3)⟩
      · subst q
        have hb : h.objs.size = b := by simpa using hj
        subst hb
        exact ⟨_, _, by rw [hal]; exact hx, by rw [hal]; exact hy, up _ _ (Nat.ne_of_gt hSl) pn⟩
      · have no : (as ++ [h.objs.size])[j]? = none := List.getElem?_eq_none (by rw [List.length_append, List.length_singleton]; omega)
        rw [no] at hj; cases hj
end
theorem zip_no_len : typeLookup (.type "zip") "__len__" = pure none := by rw [typeLookup_type, builtinLookup_eq_fast]; kernel_rfl
theorem zip_no_hint : typeLookup (.type "zip") "__length_hint__" = pure none := by rw [typeLookup_type, builtinLookup_eq_fast]; kernel_rfl
section
variable {prog : Program} {w : World} {A : Around} {E : Value → Shared → Prop} {s : Shared}
theorem z_extend {z TI TO i1 i2 l1 l2 S : Addr} {xs ys : Array Value} {c₀ : Nat} {R : Result → Shared → Prop} (hh : A.handled = none) (B : Apart z TI TO i1 i2 l1 l2 S) (low : i1 ≤ i2 ∧ i1 ≤ TI ∧ i1 ≤ TO ∧ i1 ≤ z ∧ l1 < i1 ∧ l2 < i1) (hl : xs.size = ys.size) (hn : xs.size ≤ sizeLine) (res : Value)
    (st : St s.heap z TI TO i1 i2 l1 l2 S xs ys 0) (hz : IsZip s.heap z TI TO .none) (hS : s.heap.get? S = some { cls := .type "list", data := .seq #[] c₀ })
    (go : ∀ h' tk acc c as, (∀ b o, b < i1 → s.heap.get? b = some o → h'.get? b = some o) → h'.get? S = some { cls := .type "list", dict := none, data := .seq acc c, slots := #[] } → as.length = xs.size → Gv xs ys S h' as → acc.toList = as.map Value.ref → R (.ok (.ret res)) { s with heap := h', toks := tk }) :
    wpAny (model prog w) A.in1 (Builtin.List.listExtendWith (.ref S) (.ref z) res)
      (fun fin s' => match fin with | .done f => R (.ok f) s' | .again c' => c'.quiet = true ∧ codeAny (model prog w) A c' R s') (fun e s' => R (.error e) s') s := by
  have i1S := B.i1S
  have ty : s.TypeIs (.ref z) "zip" := ⟨_, hz, rfl⟩
  have key : ∀ (h : Heap) (c₁ tk : Nat), (∀ b o, b ≠ S → s.heap.get? b = some o → h.get? b = some o) → h.get? S = some { cls := .type "list", data := .seq #[] c₁ } →
      codeAny (model prog w) A (.builtin "list.extend.loop" ⟨[.ref S, .ref z, res], []⟩) R { s with heap := h, toks := tk } := fun h c₁ tk hk hS₁ =>
    z_loop (s := s) (h0 := s.heap) hh B low hl hn res go xs.size 0 h tk c₁ #[] [] (Nat.sub_zero _) (Nat.zero_le _) (st.keep B hk) (fun b o hb e => hk b o (low_ne hb i1S) e) hS₁ rfl rfl ⟨List.Pairwise.nil, (fun _ ha => nomatch ha), (fun j a hj => by simp at hj)⟩
  unfold Builtin.List.listExtendWith
  refine wpAny_bind (wpAny_typeOf (T := "zip") ty ?_)
  have e1 : Builtin.List.listSameRef (.ref S) (.ref z) = false := by simp [Builtin.List.listSameRef, Nat.ne_of_gt B.zS]
  have e2 : (Value.type "zip" == Value.type "list") = false := by decide
  have e3 : (Value.type "zip" == Value.type "tuple") = false := by decide
  simp only [e1, e2, e3, Bool.or_false, Bool.false_eq_true, if_false]
  refine wpAny_bind (wpAny_pyIter_zip hz (wpAny_bind (wpAny_holding ?_)))
  unfold Builtin.List.listLengthHint
  refine wpAny_bind (wpAny_specialOf ty zip_no_len ?_)
  show wpAny _ A.in1 (specialOf (Value.ref z) (Str.ofString "__length_hint__") >>= _) _ _ _
  refine wpAny_bind (wpAny_specialOf ty zip_no_hint (wpAny_pure ?_))
  show wpAny _ A.in1 (rule "list.extend.makes-room" >>= fun _ => Builtin.List.listTouch (.ref S) >>= fun _ => again (.builtin "list.extend.loop" ⟨[.ref S, .ref z, res], []⟩)) _ _ _
  refine wpAny_bind (wpAny_rule (wpAny_bind ?_))
  show wpAny _ A.in1 (updateSeq S (·.push .none) >>= fun _ => updateSeq S (·.pop)) _ _ _
  refine wpAny_bind (wpAny_updateSeq hS rfl ?_)
  have g1 := Heap.get?_update_self (Obj.mapSeq (·.push Value.none)) hS rfl
  refine wpAny_updateSeq (hz := by seq_fits) g1 rfl ?_
  have g2 := Heap.get?_update_self (Obj.mapSeq (·.pop)) g1 rfl
  refine wpAny_pure ⟨plainId_quiet PySem.F.plain_extend_loop _, key _ _ _ (fun b o hb e => ?_) g2⟩
  exact (Heap.get?_update_other _ _ (Ne.symm hb)).trans ((Heap.get?_update_other _ _ (Ne.symm hb)).trans e)
theorem z_init {z TI TO i1 i2 l1 l2 S : Addr} {xs ys : Array Value} {R : Result → Shared → Prop} (hh : A.handled = none) (B : Apart z TI TO i1 i2 l1 l2 S) (low : i1 ≤ i2 ∧ i1 ≤ TI ∧ i1 ≤ TO ∧ i1 ≤ z ∧ l1 < i1 ∧ l2 < i1) (hl : xs.size = ys.size) (hn : xs.size ≤ sizeLine)
    (st : St s.heap z TI TO i1 i2 l1 l2 S xs ys 0) (hz : IsZip s.heap z TI TO .none) (hS : s.heap.get? S = some { cls := .type "list", data := .seq #[] })
    (go : ∀ h' tk acc c as, (∀ b o, b < i1 → s.heap.get? b = some o → h'.get? b = some o) → h'.get? S = some { cls := .type "list", dict := none, data := .seq acc c, slots := #[] } → as.length = xs.size → Gv xs ys S h' as → acc.toList = as.map Value.ref → R (.ok (.ret .none)) { s with heap := h', toks := tk }) :
    wpAny (model prog w) A.in1 (Builtin.«list.__init__» ⟨[.ref S, .ref z], []⟩)
      (fun fin s' => match fin with | .done f => R (.ok f) s' | .again c' => c'.quiet = true ∧ codeAny (model prog w) A c' R s') (fun e s' => R (.error e) s') s := by
  show wpAny _ _ (do let old ← Builtin.List.listItems (.ref S); Builtin.List.listUpdate (.ref S) (fun _ => #[]); letGo old.toList.reverse; Builtin.List.listExtendWith (.ref S) (.ref z) .none) _ _ s
  refine wpAny_bind ?_
  unfold Builtin.List.listItems
  refine wpAny_bind (wpAny_seqItems hS rfl (wpAny_pure ?_))
  show wpAny _ _ (updateSeq S (fun _ => #[]) >>= fun _ => letGo (#[] : Array Value).toList.reverse >>= fun _ => Builtin.List.listExtendWith (.ref S) (.ref z) .none) _ _ s
  refine wpAny_bind (wpAny_updateSeq hS rfl ?_)
  have g2 := Heap.get?_update_self (Obj.mapSeq (fun _ => (#[] : Array Value))) hS rfl
  have oth : ∀ b o, b ≠ S → s.heap.get? b = some o → (s.heap.update S (Obj.mapSeq (fun _ => (#[] : Array Value)))).get? b = some o := fun b o hb e => (Heap.get?_update_other _ _ (Ne.symm hb)).trans e
  refine wpAny_bind (wpAny_letGo ?_)
  exact z_extend hh B low hl hn .none (st.keep B oth) (oth _ _ (Nat.ne_of_lt B.zS) hz) g2 fun h' tk acc c as hk => go h' tk acc c as fun b o hb e => hk b o hb (oth b o (low_ne hb B.i1S) e)
theorem z_call {z TI TO i1 i2 l1 l2 : Addr} {xs ys : Array Value} {Q : Value → Shared → Prop} (hh : A.handled = none) (D : ZipApart z TI TO i1 i2 l1 l2) (low : i1 ≤ i2 ∧ i1 ≤ TI ∧ i1 ≤ TO ∧ i1 ≤ z ∧ l1 < i1 ∧ l2 < i1) (hl : xs.size = ys.size) (hn : xs.size ≤ sizeLine)
    (hz : IsZip s.heap z TI TO .none) (hTI : IsPair s.heap TI (.ref i1) (.ref i2)) (hTO : ∃ a b, IsPair s.heap TO a b) (t1 : s.heap.IsTupleIter i1 l1 0) (t2 : s.heap.IsTupleIter i2 l2 0) (u1 : s.heap.IsTuple l1 xs) (u2 : s.heap.IsTuple l2 ys)
    (go : ∀ h' tk acc c as, (∀ b o, b < i1 → s.heap.get? b = some o → h'.get? b = some o) → h'.get? s.heap.objs.size = some { cls := .type "list", dict := none, data := .seq acc c, slots := #[] } → as.length = xs.size → Gv xs ys s.heap.objs.size h' as → acc.toList = as.map Value.ref →
      Q (.ref s.heap.objs.size) { s with heap := h', toks := tk }) : wpAny (model prog w) A (call (.type "list") [.ref z]) Q E s := by
  refine callType_codes (Q₁ := fun obj s₁ => obj = .ref s.heap.objs.size ∧ s₁ = { s with heap := s.heap.push { cls := .type "list", data := .seq #[] } }) PySem.F.called_list (PySem.F.typeCall_list_1 _) PySem.F.entry_list_init
    (code_list_new _ ⟨rfl, rfl⟩) fun obj s₁ h₁ => ?_
  obtain ⟨rfl, rfl⟩ := h₁
  have hS : (s.heap.push { cls := .type "list", data := .seq #[] }).get? s.heap.objs.size = some { cls := .type "list", data := .seq #[] } := Heap.get?_push_size _ rfl
  have up : ∀ b o, s.heap.get? b = some o → (s.heap.push { cls := .type "list", data := .seq #[] }).get? b = some o := fun b o e => Heap.get?_push_of_some _ e
  obtain ⟨a, b, hTO⟩ := hTO
  have B : Apart z TI TO i1 i2 l1 l2 s.heap.objs.size := ⟨D, Heap.lt_size hz, Heap.lt_size hTI, Heap.lt_size hTO, (let ⟨_, e, _⟩ := t1; Heap.lt_size e), (let ⟨_, e, _⟩ := t2; Heap.lt_size e), (let ⟨_, e, _⟩ := u1; Heap.lt_size e), (let ⟨_, e, _⟩ := u2; Heap.lt_size e)⟩
  refine ⟨⟨_, hS, rfl⟩, PySem.F.args_list_init_2 _ _, z_init (A := A.in1) (xs := xs) (ys := ys) hh B low hl hn ⟨up _ _ hTI, t1.at fun o e => up _ o e, t2.at fun o e => up _ o e, (let ⟨o, e, r⟩ := u1; ⟨o, up _ _ e, r⟩), (let ⟨o, e, r⟩ := u2; ⟨o, up _ _ e, r⟩), .inl ⟨up _ _ hz, a, b, up _ _ hTO⟩⟩ (up _ _ hz) hS
    fun h' tk acc c as hk hS' hl' hG hacc => ?_⟩
  exact ⟨rfl, go h' tk acc c as (fun b o hb e => hk b o hb (up _ _ e)) hS' hl' hG hacc⟩
end
end Wz
namespace Wz
open PySem PySem.Spec PyProof.Rows L2
/-! ### the rule -/
def putP : Hp → List Addr → List (V × V) → Hp
  | H, a :: as, p :: ps => putP (upd H a (.tup [p.1, p.2])) as ps
  | H, _, _ => H
theorem putP_off {b : Addr} : ∀ (as : List Addr) (ps : List (V × V)) (H : Hp), b ∉ as → putP H as ps b = H b
  | [], _, _, _ => rfl
  | _ :: _, [], _, _ => rfl
  | a :: as, p :: ps, H, h => by
    show putP (upd H a (.tup [p.1, p.2])) as ps b = H b
    rw [putP_off as ps _ (fun q => h (List.mem_cons_of_mem _ q)), upd_ne (fun q => h (by rw [q]; exact List.mem_cons_self))]
theorem putP_at : ∀ (as : List Addr) (ps : List (V × V)) (H : Hp), as.length = ps.length → as.Nodup → ∀ (j : Nat) (a : Addr) (p : V × V), as[j]? = some a → ps[j]? = some p → putP H as ps a = some (.tup [p.1, p.2])
  | [], _, _, _, _, j, a, p, h, _ => by simp at h
  | _ :: _, [], _, _, _, j, a, p, _, h => by simp at h
  | b :: as, q :: ps, H, hl, hn, 0, a, p, h1, h2 => by
    have hn' := List.nodup_cons.mp hn
    have e1 : b = a := by simpa using h1
    have e2 : q = p := by simpa using h2
    subst e1 e2
    show putP (upd H b (.tup [q.1, q.2])) as ps b = _
    rw [putP_off as ps _ hn'.1, upd_same]
  | b :: as, q :: ps, H, hl, hn, j + 1, a, p, h1, h2 => putP_at as ps _ (Nat.succ.inj hl) (List.nodup_cons.mp hn).2 j a p (by simpa using h1) (by simpa using h2)
/-- pairs of values at addresses -/
structure PairsAt (H : Hp) (ts : List Addr) (xs ys : List V) : Prop where
  len : ts.length = xs.length
  at_ : ∀ (j : Nat) (t : Addr), ts[j]? = some t → ∃ x y, xs[j]? = some x ∧ ys[j]? = some y ∧ H t = some (.tup [x, y])
def rListZip (K : PySem.W.Frag) : List V → Hp → VK → Prop := fun vs H Q => ∃ (a b : Addr) (xs ys : List V), vs = [.ref a, .ref b] ∧ SqT K H a xs ∧ SqT K H b ys ∧ xs.length = ys.length ∧
  ∀ (H' : Hp) (p : Addr) (ts : List Addr), Same H H' → H p = none → H' p = some (.lst (ts.map V.ref)) → PairsAt H' ts xs ys → Q (.ref p) H'
def tListZip (K : PySem.W.Frag) (ta : TA) : TE := fun σ H Q => ta σ H fun vs H1 => rListZip K vs H1 Q
section
variable {X : Cx}
theorem pairs_laid {pins : List (Addr × Obj)} {σ : L2.St} {H : Hp} {s : Shared} {h' : Heap} {tk S : Nat} {xs ys : List V} {its its2 : List Value} {acc : Array Value} {c : Nat} {as : List Addr} (I : Inv X pins σ H s) (hz : xs.length ≤ sizeLine) (r : Vals xs its) (r2 : Vals ys its2) (el : xs.length = ys.length) (hSz : s.heap.objs.size ≤ S)
    (hk : ∀ b o, s.heap.get? b = some o → h'.get? b = some o) (hS : h'.get? S = some { cls := .type "list", dict := none, data := .seq acc c, slots := #[] }) (hl : as.length = its.length) (hG : Gv its.toArray its2.toArray S h' as) (hacc : acc.toList = as.map Value.ref) :
    ∃ H' : Hp, Same H H' ∧ H S = none ∧ H' S = some (.lst (as.map V.ref)) ∧ PairsAt H' as xs ys ∧ Inv X pins σ H' { s with heap := h', toks := tk } := by
  have l1 := r.length
  have l2 := r2.length
  have hSn : S ∉ as := fun q => Nat.lt_irrefl _ (hG.above _ q)
  have nd : as.Nodup := List.Pairwise.imp (fun {a b} (h : a < b) => Nat.ne_of_lt h) hG.rise
  have fresh : ∀ t ∈ as, H t = none := fun t ht => I.hok.fresh (Nat.le_trans hSz (Nat.le_of_lt (hG.above t ht)))
  have freshS : H S = none := I.hok.fresh hSz
  have lz : as.length = (xs.zip ys).length := by rw [List.length_zip]; omega
  have off : ∀ b, b ∉ as → b ≠ S → putP (upd H S (.lst (as.map V.ref))) as (xs.zip ys) b = H b := fun b h1 h2 => by rw [putP_off as _ _ h1, upd_ne h2]
  have kp : Same H (putP (upd H S (.lst (as.map V.ref))) as (xs.zip ys)) := fun b u e => by
    rw [off b (fun q => by rw [fresh b q] at e; cases e) (fun q => by rw [q, freshS] at e; cases e)]
    exact e
  have eS : putP (upd H S (.lst (as.map V.ref))) as (xs.zip ys) S = some (.lst (as.map V.ref)) := by rw [putP_off as _ _ hSn, upd_same]
  have at2 : ∀ (j : Nat) (t : Addr), as[j]? = some t → ∃ x y, xs[j]? = some x ∧ ys[j]? = some y ∧ putP (upd H S (.lst (as.map V.ref))) as (xs.zip ys) t = some (.tup [x, y]) := fun j t ht => by
    have hj : j < as.length := (List.getElem?_eq_some_iff.mp ht).1
    refine ⟨xs[j]'(by omega), ys[j]'(by omega), List.getElem?_eq_getElem (by omega), List.getElem?_eq_getElem (by omega), ?_⟩
    exact putP_at as (xs.zip ys) _ lz nd j t (xs[j]'(by omega), ys[j]'(by omega)) ht (by rw [List.getElem?_zip_eq_some]; exact ⟨List.getElem?_eq_getElem (by omega), List.getElem?_eq_getElem (by omega)⟩)
  have low : ∀ b o, s.heap.get? b = some o → b ∉ as ∧ b ≠ S := fun b o e => ⟨fun q => absurd (Heap.lt_size e) (Nat.not_lt.mpr (Nat.le_trans hSz (Nat.le_of_lt (hG.above b q)))), Nat.ne_of_lt (Nat.lt_of_lt_of_le (Heap.lt_size e) hSz)⟩
  refine ⟨putP (upd H S (.lst (as.map V.ref))) as (xs.zip ys), kp, freshS, eS, ⟨by omega, at2⟩, ?_⟩
  refine I.call' (ch := []) rfl ⟨fun b o q _ _ _ => hk b o q, fun b o q _ _ _ => ⟨o.slots, hk b o q⟩, fun b o q n _ => ?_, fun b o q _ => ⟨o, hk b o q⟩, fun b xs q => kp b _ q, fun b o u q => kp b _ q, fun b ps q => ⟨#[], by rw [kp b _ q]; simp⟩⟩ (fun b u q => ?_) I.bare fun b q => by simp at q
  · obtain ⟨z1, z2⟩ := low b o q
    rw [off b z1 z2]
    exact n
  · by_cases hb : b ∈ as
    · obtain ⟨j, hj⟩ := List.mem_iff_getElem?.mp hb
      obtain ⟨x, y, e1, e2, e3⟩ := at2 j b hj
      rw [e3] at q
      cases q
      obtain ⟨u, v, f1, f2, f3⟩ := hG.pairs j b hj
      obtain ⟨u', g1, ru⟩ := r.get e1
      obtain ⟨v', g2, rv⟩ := r2.get e2
      have q1 : u = u' := Option.some.inj ((by simpa using f1.symm : some u = its[j]?).trans g1)
      have q2 : v = v' := Option.some.inj ((by simpa using f2.symm : some v = its2[j]?).trans g2)
      subst q1 q2
      exact ⟨by show 2 ≤ sizeLine; decide, [u, v], .cons ru (.cons rv .nil), ⟨_, f3, rfl, _, rfl⟩⟩
    · by_cases hb2 : b = S
      · rw [hb2] at q ⊢
        rw [eS] at q
        cases q
        refine ⟨by rw [List.length_map]; omega, acc.toList, c, by rw [hacc]; exact LiI.vals_refs as, ?_⟩
        rw [Array.toArray_toList]
        exact hS
      · rw [off b hb hb2] at q
        exact (I.hok b u q).stay (fun d v _ y => hk d v y) (fun d y => kp d _ y) fun d xs y => kp d _ y
/-- list(zip(e, e2)) -/
theorem pe_listZip {e e2 : Expr} {ta : TA} {p p2 pos pos2 : Pos} (hc : X.calm = true) (hg : Gl X "list") (hm : X.mg "list" = none) (hg2 : Gl X "zip") (hm2 : X.mg "zip" = none) (ha : PA X [e, e2] ta)
    (hs : starEach [.Call (.Name "zip" p2) [e, e2] [] pos2] X.env = (false, eval (.Call (.Name "zip" p2) [e, e2] [] pos2) X.env) :: starEach [] X.env := by rfl)
    (hs2 : starEach [e, e2] X.env = (false, eval e X.env) :: starEach [e2] X.env := by rfl) (hpl : (backTo pos2 (starEach [e2] X.env)).any (·.1) = false := by rfl) :
    PE X (.Call (.Name "list" p) [.Call (.Name "zip" p2) [e, e2] [] pos2] [] pos) (tListZip X.K ta) := by
  refine ⟨fun pins s σ H Q I hq => ?_⟩
  refine wpAny_Call_Name_kw (ld_blt I hg hm (by decide +kernel : bootBuiltins "list" = some (.type "list")) ?_)
  refine PyProof.Rows.callWith_type1 ?_ hs rfl
  rw [hs]
  show wpAny _ _ (spliced ((false, eval (.Call (.Name "zip" p2) [e, e2] [] pos2) X.env) :: backTo pos (starEach [] X.env))) _ _ s
  refine Calls.spliced_cons ?_
  refine Call_ (ld_blt I hg2 hm2 PyProof.Rows.boot_zip (PyProof.Rows.callWith_type1 (thn (ha.run pos2 pins s σ H _ I hq) fun us s1 ⟨vs, H1, I1, r1, q1⟩ => ?_) hs2 hpl))
  obtain ⟨a, b, xs, ys, ex, hqx, hqy, el, q⟩ := q1
  subst ex
  cases r1 with
  | cons r rr =>
    cases rr with
    | cons r' rr =>
      cases rr
      cases r
      cases r'
      obtain ⟨its, rv, u1, hz1⟩ := I1.tuple hqx
      obtain ⟨its2, rv2, u2, hz2⟩ := I1.tuple hqy
      obtain ⟨o1, ho1, _⟩ := id u1
      obtain ⟨o2, ho2, _⟩ := id u2
      refine RZ.call_zipT (show s1.heap.IsTuple a its.toArray from u1) (show s1.heap.IsTuple b its2.toArray from u2) fun h' hz hTI hTO t1 t2 hsz hk => ?_
      have n1 : a < s1.heap.objs.size := Heap.lt_size ho1
      have n2 : b < s1.heap.objs.size := Heap.lt_size ho2
      refine Calls.spliced_nil ?_
      have e1 := rv.length
      have e2 := rv2.length
      refine z_call (s := { s1 with heap := h' }) (xs := its.toArray) (ys := its2.toArray) (I1.ok.hd hc) (PySem.W.ktu_apart s1.heap.objs.size a b n1 n2) ⟨Nat.le_succ _, Nat.le_add_right _ _, Nat.le_add_right _ _, Nat.le_add_right _ _, n1, n2⟩
        (by rw [List.size_toArray, List.size_toArray]; omega) (by rw [List.size_toArray]; omega) hz hTI ⟨_, _, hTO⟩ t1 t2 (let ⟨o, q1, r⟩ := u1; ⟨o, hk _ _ q1, r⟩) (let ⟨o, q1, r⟩ := u2; ⟨o, hk _ _ q1, r⟩) fun h'' tk acc c as k2 hS hl hG hacc => ?_
      obtain ⟨H', j1, j2, j3, j4, J⟩ := pairs_laid (tk := tk) I1 (by omega) rv rv2 el (show s1.heap.objs.size ≤ h'.objs.size by omega) (fun b o q1 => k2 b o (Heap.lt_size q1) (hk b o q1)) hS (by rw [hl, List.size_toArray]) hG hacc
      exact ⟨.ref _, H', J, rfl, q H' _ as j1 j2 j3 j4⟩
end
end Wz
/-! == and len of ways, by the text's own __eq__ and __len__ -/
namespace Wv
open PySem PySem.Spec PyProof.Rows L2
/-- both are the same way -/
def DW (c : Cs) : Eqv := fun x y H => ∃ w : W, w.size ≤ 1000 ∧ ObjAt c H x w ∧ ObjAt c H y w
structure EqOk (P : Program) (w : World) (K : PySem.W.Frag) (mg : Str → Option Value) (base : Heap) (c : Cs) (n : Nat) : Prop where
  ex : ∃ (f : Addr) (fd : FuncData) (ps : List Str), FnOk P w K mg base CX0 n f fd ps (spEq fun a b H => DW c (.ref a) (.ref b) H) ∧ (∀ u : W, PySem.W.findIn K (.ref (c.of u)) "__eq__" = some (some (.ref f))) ∧ PySem.W.isFn K (.ref f) = true ∧ Binds K fd ps []
structure LenOk (P : Program) (w : World) (K : PySem.W.Frag) (mg : Str → Option Value) (base : Heap) (c : Cs) (n : Nat) (sp : Sp) : Prop where
  ex : ∃ (f : Addr) (fd : FuncData) (ps : List Str), FnOk P w K mg base CX0 n f fd ps sp ∧ (∀ u : W, PySem.W.findIn K (.ref (c.of u)) "__len__" = some (some (.ref f))) ∧ PySem.W.isFn K (.ref f) = true ∧ Binds K fd ps []
section
variable {X : Cx} {c : Cs} {n : Nat} {sp : Sp}
theorem op_way (G : EqOk X.prog X.w X.K X.mg X.base c n) (hr : Room n X.A) : OpR X (compareOp .Eq) (rEqG (DW c)) := by
  obtain ⟨f, fd, ps, F, hs, hf, hb⟩ := G.ex
  refine op_eqG (n := n) (fun A pins s σ H x y u v sb I rx ry d => ?_) hr
  obtain ⟨w, _, hx, hy⟩ := id d
  obtain ⟨a, da, fa, ea, ha⟩ := hx.head
  obtain ⟨b, db, fb, eb, hb'⟩ := hy.head
  subst ea eb
  exact rcG_ins (C := c.of w) (R := fun a b H => DW c (.ref a) (.ref b) H) F (hs w) hf hb pass0 A pins s σ H _ _ u v sb I rx ry ⟨a, b, da, db, fa, fb, rfl, rfl, ha, hb', d⟩
/-- len(x) of a way -/
def rLenW (c : Cs) (sp : Sp) : List V → Hp → VK → Prop := fun xs H Q => ∃ (v : V) (w : W), xs = [v] ∧ ObjAt c H v w ∧ sp [v] H (fun z H' => ∃ i : Int, z = .int i ∧ 0 ≤ i ∧ i < 2 ^ 63 ∧ Q (.int i) H') E0
theorem call_lenW (G : LenOk X.prog X.w X.K X.mg X.base c n sp) (hr : Room (n + 1) X.A) : CallR X (.builtin "len") (rLenW c sp) := by
  obtain ⟨f, fd, ps, F, hs, hf, hb⟩ := G.ex
  intro pins s σ H xs us Q I r h
  obtain ⟨v, w, rfl, hv, hsp⟩ := h
  obtain ⟨u, rfl, ru⟩ := r.one
  obtain ⟨a, d, fs, ev, ha⟩ := hv.head
  subst ev
  cases ru
  obtain ⟨mA, J, _⟩ := ins_get I.hok ha
  obtain ⟨od, J, _⟩ := J.look
  obtain ⟨m, hF⟩ := I.fr
  have hl := F.len _ _ _ _ hsp
  have r2 : Vals [V.ref a] [Value.ref a] := .cons rfl .nil
  refine PySem.W.len_K hF I.ok.mod.kin J (hs w) hf (wpAny_call (codeAny_mono (F.run X.A.in1 X.stack s H ⟨[.ref a], []⟩ [.ref a] [.ref a] _ E0 hr.in1 (I.env0.in1) (by
    have q := hb s [.ref a] I.kIn (by simpa using hl)
    simpa using q) r2 hsp) fun r s' hq => ?_))
  cases r with
  | error e => exact (pass0 (X := X) pins σ H s e s' I hq)
  | ok fl =>
    cases fl with
    | ret x =>
      obtain ⟨z, H', I', rz, i, ez, h0, h1, q⟩ := I.after hq
      subst ez
      obtain ⟨t, ex⟩ := rz
      subst ex
      exact ⟨⟨h0, h1⟩, ⟨.int i, H', I'.tok _, ⟨_, rfl⟩, q⟩⟩
    | next => exact False.elim hq
    | brk => exact False.elim hq
    | cont => exact False.elim hq
/-! ### a method of a way, called -/
structure MethOk (P : Program) (w : World) (K : PySem.W.Frag) (mg : Str → Option Value) (base : Heap) (c : Cs) (n : Nat) (m : Str) (ps : List Str) (sp : Sp) : Prop where
  ex : ∃ (f : Addr) (fd : FuncData), FnOk P w K mg base CX0 n f fd ps sp ∧ (∀ u : W, Meth K (c.of u) m f) ∧ (∀ u : W, Cls K (c.of u)) ∧ Binds K fd ps []
def tMethW (c : Cs) (m : Str) (sp : Sp) (ta : TE) (t : TA) : TE := fun σ H Q => ta σ H fun x H1 => ∃ w, ObjAt c H1 x w ∧ t σ H1 fun vs H2 => sp (x :: vs) H2 Q E0
theorem pe_methW {pl : Sem Bool} {m : Str} {ps : List Str} {o e : Expr} {es : List Expr} {ta : TE} {t : TA} {apos pos : Pos} (G : MethOk X.prog X.w X.K X.mg X.base c n m ps sp) (hr : Room n X.A) (he : PE X o ta) (ha : PA X (e :: es) t)
    (nl : Names7 m := by unfold Names7; decide +kernel)
    (hst : starEach (e :: es) X.env = (false, eval e X.env) :: starEach es X.env := by rfl) (hpl : (backTo pos (starEach es X.env)).any (·.1) = false := by rfl)
    (ht : eval (.Call (.Attribute o m apos) (e :: es) [] pos) X.env = (do
      let ov ← eval o X.env
      standAt apos.atName
      let (f, first) ← holding [ov] (getMethod ov m pl)
      callWith pos f first (backTo pos (starEach (e :: es) X.env)) (backToKw pos (keywordEach [] X.env))) := by rfl) :
    PE X (.Call (.Attribute o m apos) (e :: es) [] pos) (tMethW c m sp ta t) := by
  obtain ⟨f, fd, F, hm, hc, hb⟩ := G.ex
  refine ⟨fun pins s σ H Q I h => ?_⟩
  refine PySem.W.methodCall_KW (pl := pl) (thn (he.run pins s σ H _ I h) fun u s1 ⟨x, H1, I1, rx, w, hx, q⟩ => ?_) ht
  obtain ⟨a, dx, fs, ex, ea, l⟩ := hx.head'
  subst ex
  obtain rfl : u = Value.ref a := rx
  refine getmeth_ok I1 ea (hc w) (hm w) (l m nl) ?_
  refine PySem.W.callWith_K (first := [.ref a]) (h₀ := X.base) I.ok.mod.kin (hm w).kp (thn (ha.run pos pins s1 σ H1 _ I1 q) fun us s2 ⟨vs, H2, I2, r, q2⟩ => ⟨I2.kIn, ?_⟩) hst hpl
  exact run_fn (us := .ref a :: us) (vs := .ref a :: vs) (dvs := []) (ds := []) F hr hb .nil pass0 I2 (.cons rfl r) (by simpa using q2)
end
end Wv
namespace Wv
open PySem PySem.Spec PyProof.Rows L2
/-! ### kind, word and inner ways of a way -/
def W.kind : W → Nat
  | .letter _ => 0 | .one => 1 | .nothing => 2 | .row _ => 3 | .choice _ => 4 | .again _ => 5 | .maybe _ => 6 | .ahead _ => 7 | .unless _ => 8 | .call _ => 9
def W.word : W → Str
  | .letter x => sg x
  | .call x => x
  | _ => Str.ofString ""
def spKind (c : Cs) : Sp := fun vs H Q _ => ∃ (v : V) (w : W), vs = [v] ∧ ObjAt c H v w ∧ Q (.int w.kind) H
def spWord (c : Cs) : Sp := fun vs H Q _ => ∃ (v : V) (w : W), vs = [v] ∧ ObjAt c H v w ∧ Q (.str w.word) H
def spMadeOf (c : Cs) : Sp := fun vs H Q _ => ∃ (v : V) (w : W), vs = [v] ∧ ObjAt c H v w ∧ ∀ (t : Addr) (us : List V) (H' : Hp), Same H H' → H' t = some (.tup us) → ObjsAt c H' us w.inner → Q (.ref t) H'
structure Kc (mg : Str → Option Value) : Prop where
  k0 : ∃ t, mg "LETTER" = some (.int 0 t)
  k1 : ∃ t, mg "ONE" = some (.int 1 t)
  k2 : ∃ t, mg "NOTHING" = some (.int 2 t)
  k3 : ∃ t, mg "ROW" = some (.int 3 t)
  k4 : ∃ t, mg "CHOICE" = some (.int 4 t)
  k5 : ∃ t, mg "AGAIN" = some (.int 5 t)
  k6 : ∃ t, mg "MAYBE" = some (.int 6 t)
  k7 : ∃ t, mg "AHEAD" = some (.int 7 t)
  k8 : ∃ t, mg "UNLESS" = some (.int 8 t)
  k9 : ∃ t, mg "CALL" = some (.int 9 t)
section
variable {P : Program} {w : World} {K : PySem.W.Frag} {mg : Str → Option Value} {base : Heap} {c : Cs} {H : Hp} {v : V} {x : W} {Q : VK}
theorem ObjAt.ty (A : AllF K mg c) (h : ObjAt c H v x) : TyX K H v (.ref (c.of x)) := by
  obtain ⟨a, d, fs, e, ha⟩ := h.head
  subst e
  have f := A.f x
  exact .base (.ins ha f.cl f.ha A.hn A.ht f.hm)
theorem st_isi (A : AllF K mg c) (h : ObjAt c H v x) (u : W) {tb r : TS} {D : Ends} (hy : x.tag = u.tag → tb { D with nx := r D } [some v] H) (hn : x.tag ≠ u.tag → r D [some v] H) :
    (tSeq (tIfS (tB (tCB (rIsi K) (tCons (tVar 0) (tCons (tC (V.ref (c.of u))) tNil)))) tb tNext) r) D [some v] H := by
  refine ⟨v, rfl, v, .ref (c.of u), _, _, _, rfl, .own _, h.ty A, A.kit x u, _, rfl, ?_⟩
  refine ite2 (fun e => hy (of_decide_eq_true e)) (fun e => hn fun e2 => e (decide_eq_true e2))
theorem kitAny2 (A : AllF K mg c) (x : W) : ∀ us : List W, PySem.W.kitAny K (.ref (c.of x)) (us.map fun u => .ref (c.of u)) = some (us.any fun u => decide (x.tag = u.tag))
  | [] => kitAny_nil
  | u :: us => by
    refine kitAny_cons (A.kit x u) (fun e => ?_) (fun e => ?_)
    · rw [List.any_cons, e, Bool.false_or]; exact kitAny2 A x us
    · rw [List.any_cons, e]; rfl
def fRc (t : Str) : Bool := decide (t = Str.ofString "row") || (decide (t = Str.ofString "choice") || false)
def fUn (t : Str) : Bool := decide (t = Str.ofString "again") || (decide (t = Str.ofString "maybe") || (decide (t = Str.ofString "ahead") || (decide (t = Str.ofString "unless") || false)))
theorem any_rc (x : W) : ([W.row [], .choice []].any fun u => decide (x.tag = u.tag)) = x.is_rc := by
  show fRc x.tag = x.is_rc
  cases x <;> (simp only [W.tag, W.is_rc]; decide +kernel)
theorem any_un (x : W) : ([W.again .one, .maybe .one, .ahead .one, .unless .one].any fun u => decide (x.tag = u.tag)) = x.is_un := by
  show fUn x.tag = x.is_un
  cases x <;> (simp only [W.tag, W.is_un]; decide +kernel)
theorem kit_rc (A : AllF K mg c) (x : W) : PySem.W.kitAny K (.ref (c.of x)) [.ref c.ro, .ref c.ch] = some x.is_rc := by rw [← any_rc]; exact kitAny2 A x [.row [], .choice []]
theorem kit_un (A : AllF K mg c) (x : W) : PySem.W.kitAny K (.ref (c.of x)) [.ref c.ag, .ref c.ma, .ref c.ah, .ref c.un] = some x.is_un := by rw [← any_un]; exact kitAny2 A x [.again .one, .maybe .one, .ahead .one, .unless .one]
theorem clsv (c : Cs) : ∀ us : List W, Paired ClsV (us.map fun u => V.ref (c.of u)) (us.map fun u => Value.ref (c.of u))
  | [] => .nil
  | u :: us => .cons (.own _) (clsv c us)
abbrev s_kind_of : Stmt := top 33
theorem sc_kind_of : FnScope ["way"] ["way"] (defScope s_kind_of) := ⟨rfl, rfl, rfl, by decide +kernel, rfl, by decide +kernel, by decide +kernel⟩
theorem d_kind_of (h : Here K mg "kind_of" s_kind_of ["way"]) (A : AllF K mg c) (B : Bs mg) (C : Kc mg) : DefOk P w K mg base 1 "kind_of" ["way"] (spKind c) := by
  have B_isinstance := B.isinstance
  have GK_Letter := A.mLt; have GK_One := A.mOn; have GK_Nothing := A.mNo; have GK_Row := A.mRo; have GK_Choice := A.mCh; have GK_Again := A.mAg; have GK_Maybe := A.mMa; have GK_Ahead := A.mAh; have GK_Unless := A.mUn
  have GC_LETTER := C.k0; have GC_ONE := C.k1; have GC_NOTHING := C.k2; have GC_ROW := C.k3; have GC_CHOICE := C.k4; have GC_AGAIN := C.k5; have GC_MAYBE := C.k6; have GC_AHEAD := C.k7; have GC_UNLESS := C.k8; have GC_CALL := C.k9
  refine h.ok sc_kind_of (fun vs H Q E h => by obtain ⟨v, w, rfl, _⟩ := h; rfl) (fun f cdv A' outer s H vs Q E hr h => ?_)
  obtain ⟨v, x, rfl, hv, k⟩ := h
  refine ⟨_, (pss_cons (ps_if (pt_val (pe_callB call_isi rfl B_isinstance (by decide +kernel) (pa_cons (pv 0) (pa_cons (pe_globC rfl GK_Letter) pa_nil)))) (pss_one (ps_ret (pe_globI rfl GC_LETTER))) pss_nil)
  (pss_cons (ps_if (pt_val (pe_callB call_isi rfl B_isinstance (by decide +kernel) (pa_cons (pv 0) (pa_cons (pe_globC rfl GK_One) pa_nil)))) (pss_one (ps_ret (pe_globI rfl GC_ONE))) pss_nil)
  (pss_cons (ps_if (pt_val (pe_callB call_isi rfl B_isinstance (by decide +kernel) (pa_cons (pv 0) (pa_cons (pe_globC rfl GK_Nothing) pa_nil)))) (pss_one (ps_ret (pe_globI rfl GC_NOTHING))) pss_nil)
  (pss_cons (ps_if (pt_val (pe_callB call_isi rfl B_isinstance (by decide +kernel) (pa_cons (pv 0) (pa_cons (pe_globC rfl GK_Row) pa_nil)))) (pss_one (ps_ret (pe_globI rfl GC_ROW))) pss_nil)
  (pss_cons (ps_if (pt_val (pe_callB call_isi rfl B_isinstance (by decide +kernel) (pa_cons (pv 0) (pa_cons (pe_globC rfl GK_Choice) pa_nil)))) (pss_one (ps_ret (pe_globI rfl GC_CHOICE))) pss_nil)
  (pss_cons (ps_if (pt_val (pe_callB call_isi rfl B_isinstance (by decide +kernel) (pa_cons (pv 0) (pa_cons (pe_globC rfl GK_Again) pa_nil)))) (pss_one (ps_ret (pe_globI rfl GC_AGAIN))) pss_nil)
  (pss_cons (ps_if (pt_val (pe_callB call_isi rfl B_isinstance (by decide +kernel) (pa_cons (pv 0) (pa_cons (pe_globC rfl GK_Maybe) pa_nil)))) (pss_one (ps_ret (pe_globI rfl GC_MAYBE))) pss_nil)
  (pss_cons (ps_if (pt_val (pe_callB call_isi rfl B_isinstance (by decide +kernel) (pa_cons (pv 0) (pa_cons (pe_globC rfl GK_Ahead) pa_nil)))) (pss_one (ps_ret (pe_globI rfl GC_AHEAD))) pss_nil)
  (pss_cons (ps_if (pt_val (pe_callB call_isi rfl B_isinstance (by decide +kernel) (pa_cons (pv 0) (pa_cons (pe_globC rfl GK_Unless) pa_nil)))) (pss_one (ps_ret (pe_globI rfl GC_UNLESS))) pss_nil)
  (pss_one (ps_ret (pe_globI rfl GC_CALL)))))))))))), ?_⟩
  refine st_isi A hv (.letter 0) (fun e => ?_) (fun e0 => ?_)
  · cases x <;> first | exact k | exact absurd e (by simp only [W.tag]; decide +kernel)
  refine st_isi A hv .one (fun e => ?_) (fun e1 => ?_)
  · cases x <;> first | exact k | exact absurd e (by simp only [W.tag]; decide +kernel)
  refine st_isi A hv .nothing (fun e => ?_) (fun e2 => ?_)
  · cases x <;> first | exact k | exact absurd e (by simp only [W.tag]; decide +kernel)
  refine st_isi A hv (.row []) (fun e => ?_) (fun e3 => ?_)
  · cases x <;> first | exact k | exact absurd e (by simp only [W.tag]; decide +kernel)
  refine st_isi A hv (.choice []) (fun e => ?_) (fun e4 => ?_)
  · cases x <;> first | exact k | exact absurd e (by simp only [W.tag]; decide +kernel)
  refine st_isi A hv (.again .one) (fun e => ?_) (fun e5 => ?_)
  · cases x <;> first | exact k | exact absurd e (by simp only [W.tag]; decide +kernel)
  refine st_isi A hv (.maybe .one) (fun e => ?_) (fun e6 => ?_)
  · cases x <;> first | exact k | exact absurd e (by simp only [W.tag]; decide +kernel)
  refine st_isi A hv (.ahead .one) (fun e => ?_) (fun e7 => ?_)
  · cases x <;> first | exact k | exact absurd e (by simp only [W.tag]; decide +kernel)
  refine st_isi A hv (.unless .one) (fun e => ?_) (fun e8 => ?_)
  · cases x <;> first | exact k | exact absurd e (by simp only [W.tag]; decide +kernel)
  cases x <;> first | exact absurd rfl e0 | exact absurd rfl e1 | exact absurd rfl e2 | exact absurd rfl e3 | exact absurd rfl e4 | exact absurd rfl e5 | exact absurd rfl e6 | exact absurd rfl e7 | exact absurd rfl e8 | exact k
abbrev s_word_of : Stmt := top 34
theorem sc_word_of : FnScope ["way"] ["way"] (defScope s_word_of) := ⟨rfl, rfl, rfl, by decide +kernel, rfl, by decide +kernel, by decide +kernel⟩
theorem d_word_of (h : Here K mg "word_of" s_word_of ["way"]) (A : AllF K mg c) (B : Bs mg) : DefOk P w K mg base 1 "word_of" ["way"] (spWord c) := by
  have B_isinstance := B.isinstance
  have GK_Letter := A.mLt; have GK_Call := A.mCa
  refine h.ok sc_word_of (fun vs H Q E h => by obtain ⟨v, w, rfl, _⟩ := h; rfl) (fun f cdv A' outer s H vs Q E hr h => ?_)
  obtain ⟨v, x, rfl, hv, k⟩ := h
  refine ⟨_, (pss_cons (ps_if (pt_val (pe_callB call_isi rfl B_isinstance (by decide +kernel) (pa_cons (pv 0) (pa_cons (pe_globC rfl GK_Letter) pa_nil)))) (pss_one (ps_ret (pe_fld (pv 0) rfl))) pss_nil)
  (pss_cons (ps_if (pt_val (pe_callB call_isi rfl B_isinstance (by decide +kernel) (pa_cons (pv 0) (pa_cons (pe_globC rfl GK_Call) pa_nil)))) (pss_one (ps_ret (pe_fld (pv 0) rfl))) pss_nil)
  (pss_one (ps_ret pe_str)))), ?_⟩
  refine st_isi A hv (.letter 0) (fun e => ?_) (fun e0 => ?_)
  · cases x <;> first | exact absurd e (by simp only [W.tag]; decide +kernel) | skip
    obtain ⟨a, d, ev, ha⟩ := id hv
    exact ⟨_, rfl, a, c.lt, d, _, _, ev, ha, (A.f (.letter 0)).cl, (A.f (.letter 0)).nl, rfl, k⟩
  refine st_isi A hv (.call (Str.ofString "")) (fun e => ?_) (fun e1 => ?_)
  · cases x <;> first | exact absurd e (by simp only [W.tag]; decide +kernel) | skip
    obtain ⟨a, d, ev, ha⟩ := id hv
    exact ⟨_, rfl, a, c.ca, d, _, _, ev, ha, (A.f (.call (Str.ofString ""))).cl, (A.f (.call (Str.ofString ""))).nn, rfl, k⟩
  cases x <;> first | exact absurd rfl e0 | exact absurd rfl e1 | exact k
abbrev s_made_of : Stmt := top 35
theorem sc_made_of : FnScope ["way"] ["way"] (defScope s_made_of) := ⟨rfl, rfl, rfl, by decide +kernel, rfl, by decide +kernel, by decide +kernel⟩
theorem d_made_of (h : Here K mg "made_of" s_made_of ["way"]) (A : AllF K mg c) (B : Bs mg) : DefOk P w K mg base 1 "made_of" ["way"] (spMadeOf c) := by
  have B_isinstance := B.isinstance
  have GK_Row := A.mRo; have GK_Choice := A.mCh; have GK_Again := A.mAg; have GK_Maybe := A.mMa; have GK_Ahead := A.mAh; have GK_Unless := A.mUn
  refine h.ok sc_made_of (fun vs H Q E h => by obtain ⟨v, w, rfl, _⟩ := h; rfl) (fun f cdv A' outer s H vs Q E hr h => ?_)
  obtain ⟨v, x, rfl, hv, k⟩ := h
  refine ⟨_, (pss_cons (ps_if (pt_val (pe_callB call_isiT rfl B_isinstance (by decide +kernel) (pa_cons (pv 0) (pa_cons (pe_tup (pa_cons (pe_globC rfl GK_Row) (pa_cons (pe_globC rfl GK_Choice) pa_nil))) pa_nil)))) (pss_one (ps_ret (pe_fld (pv 0) rfl))) pss_nil)
  (pss_cons (ps_if (pt_val (pe_callB call_isiT rfl B_isinstance (by decide +kernel) (pa_cons (pv 0) (pa_cons (pe_tup (pa_cons (pe_globC rfl GK_Again) (pa_cons (pe_globC rfl GK_Maybe) (pa_cons (pe_globC rfl GK_Ahead) (pa_cons (pe_globC rfl GK_Unless) pa_nil))))) pa_nil)))) (pss_one (ps_ret (pe_tup (pa_cons (pe_fld (pv 0) rfl) pa_nil)))) pss_nil)
  (pss_one (ps_ret (pe_tup pa_nil))))), ?_⟩
  walk_at "rd"
  refine ⟨by show 2 ≤ sizeLine; decide, fun tp htp => ?_⟩
  have s1 := Same.new htp (.tup [.ref c.ro, .ref c.ch])
  have hv1 := ObjAt.keep (stillS s1) _ _ hv
  refine ⟨v, tp, _, _, _, _, rfl, upd_same, clsv c [.row [], .choice []], hv1.ty A, kit_rc A x, _, rfl, ?_⟩
  refine ite2 (fun e => ?_) (fun e0 => ?_)
  · cases x <;> first | exact absurd e Bool.false_ne_true | skip
    all_goals
      obtain ⟨a, d, t, us, ev, ha, ht, hus⟩ := id hv1
      refine ⟨_, rfl, a, _, d, _, _, ev, ha, ?_, ?_, rfl, k t us _ s1 ht hus⟩
      · first | exact (A.f (.row [])).cl | exact (A.f (.choice [])).cl
      · first | exact (A.f (.row [])).nw | exact (A.f (.choice [])).nw
  walk_at "nx"
  walk_at "rd"
  refine ⟨by show 4 ≤ sizeLine; decide, fun tq htq => ?_⟩
  have s2 := s1.trans (Same.new htq (.tup [.ref c.ag, .ref c.ma, .ref c.ah, .ref c.un]))
  have hv2 := ObjAt.keep (stillS s2) _ _ hv
  refine ⟨v, tq, _, _, _, _, rfl, upd_same, clsv c [.again .one, .maybe .one, .ahead .one, .unless .one], hv2.ty A, kit_un A x, _, rfl, ?_⟩
  refine ite2 (fun e => ?_) (fun e1 => ?_)
  · cases x <;> first | exact absurd e Bool.false_ne_true | skip
    all_goals
      obtain ⟨a, d, u, mk, ev, ha, hu⟩ := id hv2
      refine ⟨_, rfl, a, _, d, _, _, ev, ha, ?_, ?_, rfl, by show 1 ≤ sizeLine; decide, fun p hp => ?_⟩
      · first | exact (A.f (.again .one)).cl | exact (A.f (.maybe .one)).cl | exact (A.f (.ahead .one)).cl | exact (A.f (.unless .one)).cl
      · first | exact (A.f (.again .one)).np | exact (A.f (.maybe .one)).np | exact (A.f (.ahead .one)).np | exact (A.f (.unless .one)).np
      have s3 := s2.trans (Same.new hp (.tup [u]))
      exact k p _ _ s3 upd_same ⟨u, [], rfl, ObjAt.keep (stillS (Same.new hp _)) _ _ hu, rfl⟩
  walk_at "nx"
  walk_at "rd"
  refine ⟨Nat.zero_le _, fun p hp => ?_⟩
  have s3 := s2.trans (Same.new hp (.tup []))
  cases x <;> first | exact absurd rfl e0 | exact absurd rfl e1 | exact k p _ _ s3 upd_same rfl
end
end Wv
namespace Wv
open PySem PySem.Spec PyProof.Rows L2
/-! ### the parts of a way, == and len -/
theorem while_m {c : TT} {tb : TS} {D : Ends} {σ : L2.St} {H : Hp} (Pv : Nat → L2.St → Hp → Prop) (m : Nat) (h0 : Pv m σ H)
    (hs : ∀ m σ H, Pv m σ H → c σ H fun b H1 => if b = true then tb { D with nx := fun σ' H' => ∃ m', m' < m ∧ Pv m' σ' H', ct := fun σ' H' => ∃ m', m' < m ∧ Pv m' σ' H', bk := D.nx } σ H1 else D.nx σ H1)
    (mono : ∀ σ H Q Q', (∀ b H1, Q b H1 → Q' b H1) → c σ H Q → c σ H Q') : tWhile c tb D σ H := by
  refine ⟨Pv, ⟨m, h0⟩, fun m σ H p => mono σ H _ _ (fun b H1 q => ?_) (hs m σ H p)⟩
  cases b with
  | true => exact ⟨_, fun _ _ h => h, q⟩
  | false => exact q
theorem ObjsAt.split {c : Cs} {H : Hp} : ∀ (a : List W) (w : W) (vs : List V), ObjsAt c H vs (a ++ [w]) → ∃ us u, vs = us ++ [u] ∧ ObjsAt c H us a ∧ ObjAt c H u w
  | [], w, vs, ⟨u, us, e, h, h2⟩ => ⟨[], u, by rw [e, show us = [] from h2]; rfl, rfl, h⟩
  | x :: a, w, vs, ⟨u, us, e, h, h2⟩ => by
    obtain ⟨us', u', e', h3, h4⟩ := ObjsAt.split a w us h2
    exact ⟨u :: us', u', by rw [e, e']; rfl, ⟨u, us', rfl, h, h3⟩, h4⟩
theorem W.sizes_rev : ∀ ws : List W, W.sizes ws.reverse = W.sizes ws
  | [] => rfl
  | w :: ws => by rw [List.reverse_cons, W.sizes_app, W.sizes_rev ws]; simp only [W.sizes]; omega
theorem last_get {α : Type} (us : List α) (u : α) : (us ++ [u])[(us ++ [u]).length - 1]? = some u := by
  rw [List.length_append, List.length_singleton, Nat.add_sub_cancel, List.getElem?_append_right (Nat.le_refl _), Nat.sub_self]; rfl
theorem tru_lst {K : PySem.W.Frag} {H : Hp} {t : Addr} {xs : List V} (h : H t = some (.lst xs)) : TruV K (.ref t) H (!xs.isEmpty) := .inl ⟨xs, SqL.of h, rfl⟩
theorem iteT' {b : Bool} {T F : Prop} (h : b = true) (t : T) : if b = true then T else F := by rw [h]; exact t
mutual
/-- all parts of a way, one after the other -/
def W.parts : W → List W
  | .nothing => [.nothing] | .one => [.one] | .letter x => [.letter x] | .call x => [.call x]
  | .row ws => .row ws :: W.partss ws
  | .choice ws => .choice ws :: W.partss ws
  | .again w => .again w :: (W.parts w ++ [])
  | .maybe w => .maybe w :: (W.parts w ++ [])
  | .ahead w => .ahead w :: (W.parts w ++ [])
  | .unless w => .unless w :: (W.parts w ++ [])
def W.partss : List W → List W
  | [] => []
  | w :: ws => W.parts w ++ W.partss ws
end
theorem W.parts_eq (w : W) : w.parts = w :: W.partss w.inner := by cases w <;> rfl
theorem W.partss_app : ∀ a b : List W, W.partss (a ++ b) = W.partss a ++ W.partss b
  | [], b => rfl
  | x :: a, b => by rw [List.cons_append, W.partss, W.partss_app a b, W.partss, List.append_assoc]
def spParts (c : Cs) : Sp := fun vs H Q _ => ∃ (v : V) (w : W), vs = [v] ∧ ObjAt c H v w ∧ w.size ≤ 1000 ∧ ∀ (p : Addr) (ps : List V) (H' : Hp), Same H H' → H' p = some (.lst ps) → ps.length = w.size → ObjsAt c H' ps w.parts → Q (.ref p) H'
section
variable {P : Program} {w : World} {K : PySem.W.Frag} {mg : Str → Option Value} {base : Heap} {c : Cs} {H : Hp} {v : V} {x : W} {Q : VK}
abbrev s_parts_of : Stmt := top 36
theorem sc_parts_of : FnScope ["way", "parts", "todo", "part"] ["way"] (defScope s_parts_of) := ⟨rfl, rfl, rfl, by decide +kernel, rfl, by decide +kernel, by decide +kernel⟩
theorem d_parts_of (h : Here K mg "parts_of" s_parts_of ["way"]) (G_made_of : DefOk P w K mg base 1 "made_of" ["way"] (spMadeOf c)) : DefOk P w K mg base 2 "parts_of" ["way"] (spParts c) := by
  refine h.ok sc_parts_of (fun vs H Q E h => by obtain ⟨v, w, rfl, _⟩ := h; rfl) (fun f cdv A' outer s H vs Q E hr h => ?_)
  obtain ⟨v, x, rfl, hv, hx, k⟩ := h
  refine ⟨_, (pss_cons (ps_set (i := 1) sc_parts_of.nd rfl (Or.inl rfl) (pe_lst pa_nil))
  (pss_cons (ps_set (i := 2) sc_parts_of.nd rfl (Or.inl rfl) (pe_lst (pa_cons (pv 0) pa_nil)))
  (pss_cons (ps_while PassesOwn.never (pt_truth (pv 2) (by intro _; rfl)) (pss_cons (ps_set (i := 3) sc_parts_of.nd rfl (Or.inl rfl) (pe_bm0 PySem.F.plainAttrs_list PySem.F.slot_list_pop PySem.F.type_list_pop mt_pop (pv 2)))
  (pss_cons (ps_expr (pe_bm PySem.F.plainAttrs_list PySem.F.slot_list_append PySem.F.type_list_append mt_append (pv 1) (pa_cons (pv 3) pa_nil)))
  (pss_one (ps_expr (pe_bm PySem.F.plainAttrs_list PySem.F.slot_list_extend PySem.F.type_list_extend mt_extendT (pv 2) (pa_cons (pe_revT (pe_callD G_made_of (hr.mono (by first | decide | omega)) rfl (pa_cons (pv 3) pa_nil))) pa_nil)))))))
  (pss_one (ps_ret (pv 1)))))), ?_⟩
  refine ⟨Nat.zero_le _, fun p hp => ?_⟩
  have s1 := Same.new hp (.lst [])
  walk_at "nx"
  walk_at "rd"
  refine ⟨by show 1 ≤ sizeLine; decide, fun t ht => ?_⟩
  have s2 := s1.trans (Same.new ht (.lst [v]))
  have npt : p ≠ t := ne_of_none upd_same ht
  have htH : H t = none := by rw [upd_ne npt.symm] at ht; exact ht
  walk_at "nx"
  refine while_m (fun m σ H' => ∃ (ps ts : List V) (ws : List W) (x3 : Option V), σ = [some v, some (.ref p), some (.ref t), x3] ∧ H' p = some (.lst ps) ∧ H' t = some (.lst ts) ∧ ObjsAt c H' ts ws ∧ W.sizes ws = m ∧ ps.length + m = x.size ∧ (∃ dn : List W, ObjsAt c H' ps dn ∧ dn ++ W.partss ws.reverse = x.parts) ∧ Same H H') x.size ?_ ?_
    (fun σ H Q Q' hq ⟨v, e, b, tv, h⟩ => ⟨v, e, b, tv, hq _ _ h⟩)
  · exact ⟨[], [v], [x], none, rfl, by rw [upd_ne npt]; exact upd_same, upd_same, ⟨v, [], rfl, ObjAt.keep (stillS s2) _ _ hv, rfl⟩, by simp only [W.sizes]; omega, by simp, ⟨[], rfl, by simp [W.partss]⟩, s2⟩
  · rintro m σ H1 ⟨ps, ts, ws, x3, rfl, hp1, ht1, hts, hm, hlen, ⟨dn, hdn, edn⟩, s3⟩
    refine ⟨_, rfl, _, tru_lst ht1, ?_⟩
    rcases List.eq_nil_or_concat ws with e | ⟨wa, wl, e⟩
    · subst e
      have e2 : ts = [] := hts
      subst e2
      refine iteF ?_
      walk_at "nx"
      walk_at "rd"
      have : m = 0 := hm.symm
      exact k p ps H1 s3 hp1 (by omega) (by rw [← edn]; simpa [W.partss] using hdn)
    · have e' : ws = wa ++ [wl] := by rw [e]; simp
      clear e
      subst e'
      obtain ⟨ta, tl, e2, hta, htl⟩ := ObjsAt.split _ _ _ hts
      subst e2
      have hsz : W.sizes wa + wl.size = m := by rw [← hm, W.sizes_app]; simp only [W.sizes]; omega
      have hin := wl.size_inner
      refine iteT' (by simp) ?_
      walk_at "nx"
      refine ⟨_, rfl, .inl ⟨rfl, _, SqL.of ht1⟩, t, _, _, rfl, rfl, ht1, last_get _ _, ?_⟩
      rw [List.dropLast_concat]
      walk_at "nx"
      have hp2 : upd H1 t (.lst ta) p = some (.lst ps) := by rw [upd_ne npt]; exact hp1
      refine ⟨_, rfl, .inl ⟨rfl, _, SqL.of hp2⟩, _, rfl, p, _, _, rfl, rfl, hp2, small' (by omega), ?_⟩
      walk_at "nx"
      have k1 : Still H1 (upd H1 t (.lst ta)) := Still.put ht1
      have k2 : Still (upd H1 t (.lst ta)) (upd (upd H1 t (.lst ta)) p (.lst (ps ++ [tl]))) := Still.put hp2
      have k12 := k1.trans k2
      have ht3 : upd (upd H1 t (.lst ta)) p (.lst (ps ++ [tl])) t = some (.lst ta) := by rw [upd_ne npt.symm]; exact upd_same
      have hp3 : upd (upd H1 t (.lst ta)) p (.lst (ps ++ [tl])) p = some (.lst (ps ++ [tl])) := upd_same
      have s4 : Same H (upd (upd H1 t (.lst ta)) p (.lst (ps ++ [tl]))) := Same.put hp (Same.put htH s3 _) _
      generalize upd (upd H1 t (.lst ta)) p (.lst (ps ++ [tl])) = H2 at *
      refine ⟨_, rfl, .inl ⟨rfl, _, SqL.of ht3⟩, _, rfl, tl, wl, rfl, ObjAt.keep k12 _ _ htl, fun u us H3 s5 hu hus => ?_⟩
      refine ⟨u, us, rfl, SqT.of hu, fun r hr => ?_⟩
      have s6 := Same.new hr (.tup us.reverse)
      have ll := ObjsAt.len _ _ hta
      have l2 := W.sizes_len wa
      have l3 := ObjsAt.len _ _ hus
      have l4 := W.sizes_len wl.inner
      have ht4 := s6 _ _ (s5 _ _ ht3)
      refine ⟨t, r, _, _, rfl, rfl, ht4, SqT.of upd_same, ?_, ?_⟩
      · rw [List.length_reverse]
        exact Nat.le_of_lt (small' (by omega))
      · walk_at "nx"
        have k7 : Still _ (upd (upd H3 r (.tup us.reverse)) t (.lst (ta ++ us.reverse))) := Still.put ht4
        have k36 := (stillS s6).trans k7
        refine ⟨W.sizes (wa ++ wl.inner.reverse), ?_, ps ++ [tl], _, wa ++ wl.inner.reverse, _, rfl, ?_, upd_same, ?_, rfl, ?_, ?_⟩
        · rw [W.sizes_app, W.sizes_rev]; omega
        · rw [upd_ne npt]; exact s6 _ _ (s5 _ _ hp3)
        · exact ObjsAt.app _ _ (ObjsAt.keep ((k12.trans (stillS s5)).trans k36) _ _ hta) (ObjsAt.keep k36 _ _ (ObjsAt.rev _ _ hus))
        · rw [W.sizes_app, W.sizes_rev, List.length_append, List.length_singleton]; omega
        · refine ⟨⟨dn ++ [wl], ?_, ?_⟩, Same.put htH ((s4.trans s5).trans s6) _⟩
          · exact ObjsAt.app _ _ (ObjsAt.keep ((k12.trans (stillS s5)).trans k36) _ _ hdn) ⟨tl, [], rfl, ObjAt.keep ((k12.trans (stillS s5)).trans k36) _ _ htl, rfl⟩
          · rw [← edn, List.reverse_append, List.reverse_append, List.reverse_reverse, W.partss_app, List.reverse_singleton, List.singleton_append, W.partss, W.parts_eq wl]
            simp
/-- pairs of two ways that are the same -/
def TwoAt (c : Cs) (H : Hp) : List V → List W → Prop
  | ts, [] => ts = []
  | ts, w :: ws => ∃ r a b us, ts = V.ref r :: us ∧ H r = some (.tup [a, b]) ∧ ObjAt c H a w ∧ ObjAt c H b w ∧ TwoAt c H us ws
theorem TwoAt.keep {H H' : Hp} (k : Still H H') : ∀ (ws : List W) (ts : List V), TwoAt c H ts ws → TwoAt c H' ts ws
  | [], _, h => h
  | w :: ws, ts, ⟨r, a, b, us, e, h, h1, h2, h3⟩ => ⟨r, a, b, us, e, k.tup h, ObjAt.keep k _ _ h1, ObjAt.keep k _ _ h2, TwoAt.keep k ws us h3⟩
theorem TwoAt.len : ∀ (ws : List W) (ts : List V), TwoAt c H ts ws → ts.length = ws.length
  | [], ts, h => by rw [show ts = [] from h]; rfl
  | w :: ws, ts, ⟨r, a, b, us, e, _, _, _, h3⟩ => by rw [e, List.length_cons, List.length_cons, TwoAt.len ws us h3]
theorem TwoAt.app : ∀ (ws : List W) (ts : List V) {us : List V} {xs : List W}, TwoAt c H ts ws → TwoAt c H us xs → TwoAt c H (ts ++ us) (ws ++ xs)
  | [], ts, us, xs, h, h2 => by rw [show ts = [] from h]; exact h2
  | w :: ws, ts, us, xs, ⟨r, a, b, r', e, h, h1, h3, h4⟩, h2 => by rw [e]; exact ⟨r, a, b, r' ++ us, rfl, h, h1, h3, TwoAt.app ws r' h4 h2⟩
theorem TwoAt.split : ∀ (a : List W) (w : W) (vs : List V), TwoAt c H vs (a ++ [w]) → ∃ us r x y, vs = us ++ [V.ref r] ∧ TwoAt c H us a ∧ H r = some (.tup [x, y]) ∧ ObjAt c H x w ∧ ObjAt c H y w
  | [], w, vs, ⟨r, a, b, us, e, h, h1, h2, h3⟩ => ⟨[], r, a, b, by rw [e, show us = [] from h3]; rfl, rfl, h, h1, h2⟩
  | x :: a, w, vs, ⟨r, y, z, us, e, h, h1, h2, h3⟩ => by
    obtain ⟨us', r', x', y', e', g1, g2, g3, g4⟩ := TwoAt.split a w us h3
    exact ⟨V.ref r :: us', r', x', y', by rw [e, e']; rfl, ⟨r, y, z, us', rfl, h, h1, h2, g1⟩, g2, g3, g4⟩
theorem TwoAt.of : ∀ (ws : List W) (ts : List Addr) (xs ys : List V), Wz.PairsAt H ts xs ys → ObjsAt c H xs ws → ObjsAt c H ys ws → TwoAt c H (ts.map V.ref) ws
  | [], ts, xs, ys, p, hx, hy => by
    have e : xs = [] := hx
    have l := p.len
    rw [e] at l
    rw [List.eq_nil_of_length_eq_zero l]
    rfl
  | w :: ws, ts, xs, ys, p, ⟨u, us, e, hu, hus⟩, ⟨u2, us2, e2, hu2, hus2⟩ => by
    subst e e2
    have l := p.len
    cases ts with
    | nil => cases l
    | cons t ts =>
      obtain ⟨x, y, h1, h2, h3⟩ := p.at_ 0 t rfl
      have e1 : u = x := Option.some.inj h1
      have e2 : u2 = y := Option.some.inj h2
      subst e1 e2
      exact ⟨t, u, u2, _, rfl, h3, hu, hu2, TwoAt.of ws ts us us2 ⟨by simpa using l, fun j t' hj => p.at_ (j + 1) t' (by simpa using hj)⟩ hus hus2⟩
def spSameW (c : Cs) : Sp := fun vs H Q _ => ∃ (a b : V) (w : W), vs = [a, b] ∧ ObjAt c H a w ∧ ObjAt c H b w ∧ w.size ≤ 1000 ∧ ∀ H', Same H H' → Q (.bl true) H'
abbrev s_same_ways : Stmt := top 37
theorem sc_same_ways : FnScope ["one", "other", "todo", "left", "right"] ["one", "other"] (defScope s_same_ways) := ⟨rfl, rfl, rfl, by decide +kernel, rfl, by decide +kernel, by decide +kernel⟩
theorem ok_same_ways {f : Addr} {fd : FuncData} (F : Fun K "same_ways" "same_ways" s_same_ways f fd) (B : Bs mg) (G_made_of : DefOk P w K mg base 1 "made_of" ["way"] (spMadeOf c)) (G_kind_of : DefOk P w K mg base 1 "kind_of" ["way"] (spKind c)) (G_word_of : DefOk P w K mg base 1 "word_of" ["way"] (spWord c)) :
    FnOk P w K mg base CX0 2 f fd ["one", "other"] (spSameW c) := by
  have B_len := B.len; have B_list := B.list; have B_zip := B.zip
  refine F.ok sc_same_ways (fun vs H Q E h => by obtain ⟨a, b, w, rfl, _⟩ := h; rfl) (fun cdv A' outer s H vs Q E hr h => ?_)
  obtain ⟨a, b, x, rfl, ha, hb, hx, k⟩ := h
  refine ⟨_, (pss_cons (ps_set (i := 2) sc_same_ways.nd rfl (Or.inl rfl) (pe_lst (pa_cons (pe_tup (pa_cons (pv 0) (pa_cons (pv 1) pa_nil))) pa_nil)))
  (pss_cons (ps_while PassesOwn.never (pt_truth (pv 2) (by intro _; rfl)) (pss_cons (ps_asg (pe_bm0 PySem.F.plainAttrs_list PySem.F.slot_list_pop PySem.F.type_list_pop mt_pop (pv 2)) (pg_tup rfl (pgs_cons (pg_name (i := 3) sc_same_ways.nd rfl (Or.inl rfl)) (pgs_cons (pg_name (i := 4) sc_same_ways.nd rfl (Or.inl rfl)) pgs_nil))))
  (pss_cons (ps_if (PW.pt (pw_or (pt_cmpR op_ne (pe_callD G_kind_of (hr.mono (by first | decide | omega)) rfl (pa_cons (pv 3) pa_nil)) (pe_callD G_kind_of (hr.mono (by first | decide | omega)) rfl (pa_cons (pv 4) pa_nil)) (nomark _)) (pw_or1 (pt_cmpR op_ne (pe_callD G_word_of (hr.mono (by first | decide | omega)) rfl (pa_cons (pv 3) pa_nil)) (pe_callD G_word_of (hr.mono (by first | decide | omega)) rfl (pa_cons (pv 4) pa_nil)) (nomark _))))) (pss_one (ps_ret pe_bl)) pss_nil)
  (pss_cons (ps_if (pt_cmpR op_ne (pe_callB call_len_seq rfl B_len PySem.boot_len (pa_cons (pe_callD G_made_of (hr.mono (by first | decide | omega)) rfl (pa_cons (pv 3) pa_nil)) pa_nil)) (pe_callB call_len_seq rfl B_len PySem.boot_len (pa_cons (pe_callD G_made_of (hr.mono (by first | decide | omega)) rfl (pa_cons (pv 4) pa_nil)) pa_nil)) (nomark _)) (pss_one (ps_ret pe_bl)) pss_nil)
  (pss_one (ps_expr (pe_bm PySem.F.plainAttrs_list PySem.F.slot_list_extend PySem.F.type_list_extend mt_extend (pv 2) (pa_cons (Wz.pe_listZip rfl rfl B_list rfl B_zip (pa_cons (pe_callD G_made_of (hr.mono (by first | decide | omega)) rfl (pa_cons (pv 3) pa_nil)) (pa_cons (pe_callD G_made_of (hr.mono (by first | decide | omega)) rfl (pa_cons (pv 4) pa_nil)) pa_nil))) pa_nil))))))))
  (pss_one (ps_ret pe_bl)))), ?_⟩
  walk_at "rd"
  refine ⟨by show 2 ≤ sizeLine; decide, fun r hr => ?_⟩
  have s1 := Same.new hr (.tup [a, b])
  refine ⟨by show 1 ≤ sizeLine; decide, fun t ht => ?_⟩
  have s2 := s1.trans (Same.new ht (.lst [.ref r]))
  have nrt : r ≠ t := ne_of_none upd_same ht
  have htH : H t = none := by rw [upd_ne nrt.symm] at ht; exact ht
  walk_at "nx"
  refine while_m (fun m σ H' => ∃ (ts : List V) (ws : List W) (x3 x4 : Option V), σ = [some a, some b, some (.ref t), x3, x4] ∧ H' t = some (.lst ts) ∧ TwoAt c H' ts ws ∧ W.sizes ws = m ∧ m ≤ 1000 ∧ Same H H') x.size ?_ ?_
    (fun σ H Q Q' hq ⟨v, e, b, tv, h⟩ => ⟨v, e, b, tv, hq _ _ h⟩)
  · exact ⟨_, [x], none, none, rfl, upd_same, ⟨r, a, b, [], rfl, by rw [upd_ne nrt]; exact upd_same, ObjAt.keep (stillS s2) _ _ ha, ObjAt.keep (stillS s2) _ _ hb, rfl⟩, by simp only [W.sizes]; omega, hx, s2⟩
  · rintro m σ H1 ⟨ts, ws, x3, x4, rfl, ht1, hts, hm, hmx, s3⟩
    refine ⟨_, rfl, _, tru_lst ht1, ?_⟩
    rcases List.eq_nil_or_concat ws with e | ⟨wa, wl, e⟩
    · subst e
      have e2 : ts = [] := hts
      subst e2
      refine iteF ?_
      walk_at "nx"
      walk_at "rd"
      exact k H1 s3
    · have e' : ws = wa ++ [wl] := by rw [e]; simp
      clear e
      subst e'
      obtain ⟨ta, tl, y, z, e2, hta, htl, hy, hz⟩ := TwoAt.split _ _ _ hts
      subst e2
      have hsz : W.sizes wa + wl.size = m := by rw [← hm, W.sizes_app]; simp only [W.sizes]; omega
      have hin := wl.size_inner
      refine iteT' (by simp) ?_
      walk_at "nx"
      refine ⟨_, rfl, .inl ⟨rfl, _, SqL.of ht1⟩, t, _, _, rfl, rfl, ht1, last_get _ _, ?_⟩
      rw [List.dropLast_concat]
      have k1 : Still H1 (upd H1 t (.lst ta)) := Still.put ht1
      have s4 : Same H (upd H1 t (.lst ta)) := Same.put htH s3 _
      have ht2 : upd H1 t (.lst ta) t = some (.lst ta) := upd_same
      generalize upd H1 t (.lst ta) = H2 at *
      refine ⟨tl, [y, z], rfl, SqT.of (k1.tup htl), rfl, ?_⟩
      have hy2 := ObjAt.keep k1 _ _ hy
      have hz2 := ObjAt.keep k1 _ _ hz
      refine ⟨y, [z], rfl, ?_⟩
      walk_at "nx"
      refine ⟨z, [], rfl, ?_⟩
      walk_at "nx"
      refine ⟨rfl, ?_⟩
      walk_at "nx"
      refine ⟨_, rfl, y, wl, rfl, hy2, _, rfl, z, wl, rfl, hz2, rfl, ?_⟩
      rw [decide_eq_true rfl]
      refine ⟨_, rfl, iteF ?_⟩
      refine ⟨_, rfl, y, wl, rfl, hy2, _, rfl, z, wl, rfl, hz2, rfl, ?_⟩
      rw [decide_eq_true rfl]
      refine ⟨_, rfl, iteF ?_⟩
      walk_at "nx"
      refine ⟨_, rfl, y, wl, rfl, hy2, fun u1 us1 H3 s5 hu1 hus1 => ?_⟩
      have hz3 := ObjAt.keep (stillS s5) _ _ hz2
      refine ⟨u1, us1, rfl, .inr (SqT.of hu1), ?_⟩
      refine ⟨_, rfl, z, wl, rfl, hz3, fun u2 us2 H4 s6 hu2 hus2 => ?_⟩
      refine ⟨u2, us2, rfl, .inr (SqT.of hu2), ?_⟩
      have l1 := ObjsAt.len _ _ hus1
      have l2 := ObjsAt.len _ _ hus2
      rw [l1, l2]
      refine ⟨rfl, ?_⟩
      rw [decide_eq_true rfl]
      refine ⟨_, rfl, iteF ?_⟩
      walk_at "nx"
      have s24 := s5.trans s6
      have ht4 := s24 _ _ ht2
      have hy4 := ObjAt.keep (stillS s24) _ _ hy2
      have hz4 := ObjAt.keep (stillS s24) _ _ hz2
      refine ⟨_, rfl, .inl ⟨rfl, _, SqL.of ht4⟩, ?_⟩
      refine ⟨_, rfl, y, wl, rfl, hy4, fun u3 us3 H5 s7 hu3 hus3 => ?_⟩
      have hz5 := ObjAt.keep (stillS s7) _ _ hz4
      refine ⟨_, rfl, z, wl, rfl, hz5, fun u4 us4 H6 s8 hu4 hus4 => ?_⟩
      have l3 := ObjsAt.len _ _ hus3
      have l4 := ObjsAt.len _ _ hus4
      refine ⟨u3, u4, us3, us4, rfl, SqT.of (s8 _ _ hu3), SqT.of hu4, by omega, fun H7 p ts s9 hp7 hl7 hpr => ?_⟩
      have s69 := (s7.trans s8).trans s9
      have s29 := s24.trans s69
      have ht7 := s69 _ _ ht4
      have lp := hpr.len
      have la := TwoAt.len _ _ hta
      have lb := W.sizes_len wa
      have lc := W.sizes_len wl.inner
      refine ⟨t, p, _, _, rfl, rfl, ht7, hl7, by rw [List.length_map]; exact Nat.le_of_lt (small' (by omega)), ?_⟩
      walk_at "nx"
      have k8 : Still H7 (upd H7 t (.lst (ta ++ ts.map V.ref))) := Still.put ht7
      refine ⟨W.sizes (wa ++ wl.inner), by rw [W.sizes_app]; omega, _, wa ++ wl.inner, _, _, rfl, upd_same, ?_, rfl, by rw [W.sizes_app]; omega, Same.put htH (s4.trans s29) _⟩
      have hx7 := ObjsAt.keep (stillS (s8.trans s9)) _ _ hus3
      have hy7 := ObjsAt.keep (stillS s9) _ _ hus4
      exact TwoAt.app _ _ (TwoAt.keep ((k1.trans (stillS s29)).trans k8) _ _ hta) (TwoAt.keep k8 _ _ (TwoAt.of _ _ _ _ hpr hx7 hy7))
theorem d_same_ways (h : Here K mg "same_ways" s_same_ways ["one", "other"]) (B : Bs mg) (G_made_of : DefOk P w K mg base 1 "made_of" ["way"] (spMadeOf c)) (G_kind_of : DefOk P w K mg base 1 "kind_of" ["way"] (spKind c)) (G_word_of : DefOk P w K mg base 1 "word_of" ["way"] (spWord c)) :
    DefOk P w K mg base 2 "same_ways" ["one", "other"] (spSameW c) := by
  obtain ⟨f, fd, F, m, b⟩ := h.ex
  exact ⟨f, fd, m, F.kp, b, ok_same_ways F B G_made_of G_kind_of G_word_of⟩
end
end Wv
namespace Wv
open PySem PySem.Spec PyProof.Rows L2
/-! ### Way.__len__, Way.__eq__, Way.at -/
def W.at? : W → List Int → Option W
  | w, [] => some w
  | w, i :: is => match w.inner[i.toNat]? with
    | some u => W.at? u is
    | none => none
def Told (c : Cs) (H : Hp) (r : V) : Option W → Prop
  | some u => ObjAt c H r u
  | none => r = .non
def spLenW (c : Cs) : Sp := fun vs H Q _ => ∃ (v : V) (w : W), vs = [v] ∧ ObjAt c H v w ∧ w.size ≤ 1000 ∧ ∀ H', Same H H' → Q (.int w.size) H'
def spAt (c : Cs) : Sp := fun vs H Q _ => ∃ (v : V) (w : W) (pa : Addr) (is : List Int), vs = [v, .ref pa] ∧ ObjAt c H v w ∧ H pa = some (.tup (is.map V.int)) ∧ (∀ i ∈ is, 0 ≤ i) ∧ ∀ (r : V) (H' : Hp), Same H H' → Told c H' r (w.at? is) → Q r H'
section
variable {P : Program} {w : World} {K : PySem.W.Frag} {mg : Str → Option Value} {base : Heap} {c : Cs}
abbrev s_Way_len : Stmt := inClass (top 20) 4
theorem sc_Way_len : FnScope ["self"] ["self"] (defScope s_Way_len) := ⟨rfl, rfl, rfl, by decide +kernel, rfl, by decide +kernel, by decide +kernel⟩
theorem ok_Way_len {f : Addr} {fd : FuncData} (F : Fun K "__len__" "Way.__len__" s_Way_len f fd) (B : Bs mg) (G_parts_of : DefOk P w K mg base 2 "parts_of" ["way"] (spParts c)) : FnOk P w K mg base CX0 3 f fd ["self"] (spLenW c) := by
  have B_len := B.len
  refine F.ok sc_Way_len (fun vs H Q E h => by obtain ⟨v, w, rfl, _⟩ := h; rfl) (fun cdv A outer s H vs Q E hr h => ?_)
  obtain ⟨v, x, rfl, hv, hx, k⟩ := h
  refine ⟨_, (pss_one (ps_ret (pe_callB call_len_seq rfl B_len PySem.boot_len (pa_cons (pe_callD G_parts_of (hr.mono (by first | decide | omega)) rfl (pa_cons (pv 0) pa_nil)) pa_nil)))), ?_⟩
  refine ⟨_, rfl, v, x, rfl, hv, hx, fun p ps H' s1 hp hl _ => ?_⟩
  refine ⟨p, ps, rfl, .inl (SqL.of hp), ?_⟩
  rw [hl]
  exact k H' s1
abbrev s_Way_eq : Stmt := inClass (top 20) 3
theorem sc_Way_eq : FnScope ["self", "other"] ["self", "other"] (defScope s_Way_eq) := ⟨rfl, rfl, rfl, by decide +kernel, rfl, by decide +kernel, by decide +kernel⟩
theorem ok_Way_eq {f wy : Addr} {fd : FuncData} (F : Fun K "__eq__" "Way.__eq__" s_Way_eq f fd) (A : AllF K mg c) (GK_Way : mg "Way" = some (.ref wy)) (hW : ∀ x : W, PySem.W.kitOne K (.ref (c.of x)) (.ref wy) = some true) (B : Bs mg)
    (G_same_ways : DefOk P w K mg base 2 "same_ways" ["one", "other"] (spSameW c)) : FnOk P w K mg base CX0 3 f fd ["self", "other"] (spEq fun a b H => DW c (.ref a) (.ref b) H) := by
  have B_isinstance := B.isinstance
  refine F.ok sc_Way_eq (fun vs H Q E h => by obtain ⟨a, b, rfl, _⟩ := h; rfl) (fun cdv A' outer s H vs Q E hr h => ?_)
  obtain ⟨a, b, rfl, ⟨x, hx, ha, hb⟩, k⟩ := h
  refine ⟨_, (pss_one (ps_ret (pe_and (pe_callB call_isi rfl B_isinstance (by decide +kernel) (pa_cons (pv 1) (pa_cons (pe_globC rfl GK_Way) pa_nil))) (pe_one (pe_callD G_same_ways (hr.mono (by first | decide | omega)) rfl (pa_cons (pv 0) (pa_cons (pv 1) pa_nil))))))), ?_⟩
  refine ⟨_, rfl, .ref b, .ref wy, _, _, _, rfl, .own _, hb.ty A, hW x, _, rfl, ?_⟩
  refine iteT ?_
  exact ⟨_, rfl, _, rfl, .ref a, .ref b, x, rfl, ha, hb, hx, fun H' s => k H' s⟩
abbrev s_Way_at : Stmt := inClass (top 20) 2
theorem sc_Way_at : FnScope ["self", "path", "part", "index", "inner"] ["self", "path"] (defScope s_Way_at) := ⟨rfl, rfl, rfl, by decide +kernel, rfl, by decide +kernel, by decide +kernel⟩
theorem ok_Way_at {f : Addr} {fd : FuncData} (F : Fun K "at" "Way.at" s_Way_at f fd) (B : Bs mg) (G_made_of : DefOk P w K mg base 1 "made_of" ["way"] (spMadeOf c)) : FnOk P w K mg base CX0 2 f fd ["self", "path"] (spAt c) := by
  have B_len := B.len
  refine F.ok sc_Way_at (fun vs H Q E h => by obtain ⟨v, w, pa, is, rfl, _⟩ := h; rfl) (fun cdv A' outer s H vs Q E hr h => ?_)
  obtain ⟨v, x, pa, is, rfl, hv, hp, hn, k⟩ := h
  refine ⟨_, (pss_cons (ps_set (i := 2) sc_Way_at.nd rfl (Or.inl rfl) (pv 0))
  (pss_cons (ps_for PassesOwn.never rfl (pi_tup (pv 1)) (pg_name (i := 3) sc_Way_at.nd rfl (Or.inl rfl))
   (pss_cons (ps_set (i := 4) sc_Way_at.nd rfl (Or.inl rfl) (pe_callD G_made_of (hr.mono (by first | decide | omega)) rfl (pa_cons (pv 2) pa_nil)))
  (pss_cons (ps_if (pt_cmpR op_ge (pv 3) (pe_callB call_len_seq rfl B_len PySem.boot_len (pa_cons (pv 4) pa_nil)) (nomark _)) (pss_one (ps_ret pe_non)) pss_nil)
  (pss_one (ps_set (i := 2) sc_Way_at.nd rfl (Or.inl rfl) (pe_ix ix_tup (pv 4) (pv 3) (fun _ _ => rfl)))))))
  (pss_one (ps_ret (pv 2))))), ?_⟩
  walk_at "rd"
  walk_at "nx"
  refine ⟨⟨_, SqT.of hp⟩, ?_⟩
  refine for_tup (K := K) (a := pa) (xs := is.map V.int) (fun i σ H' => ∃ (part : V) (u : W) (x3 x4 : Option V), σ = [some v, some (.ref pa), some part, x3, x4] ∧ ObjAt c H' part u ∧ u.at? (is.drop i) = x.at? is ∧ Same H H') ?_ ?_ ?_ ?_
  · exact ⟨v, x, none, none, rfl, hv, rfl, fun _ _ h => h⟩
  · rintro i σ H' _ ⟨part, u, x3, x4, rfl, _, _, s1⟩
    exact SqT.of (s1 _ _ hp)
  · rintro i y σ H1 hy ⟨part, u, x3, x4, rfl, hu, ha, s1⟩
    obtain ⟨j, hj, rfl⟩ : ∃ j, is[i]? = some j ∧ V.int j = y := by simpa using hy
    have hj0 : 0 ≤ j := hn j (List.mem_of_getElem? hj)
    have hd : is.drop i = j :: is.drop (i + 1) := by
      obtain ⟨hi, e⟩ := List.getElem?_eq_some_iff.mp hj
      rw [List.drop_eq_getElem_cons hi, e]
    rw [hd] at ha
    walk_at "nx"
    refine ⟨_, rfl, part, u, rfl, hu, fun t us H2 s2 ht hus => ?_⟩
    have hl := ObjsAt.len _ _ hus
    have s12 := s1.trans s2
    walk_at "nx"
    refine ⟨_, rfl, _, rfl, t, us, rfl, .inr (SqT.of ht), _, _, rfl, rfl, _, rfl, ?_⟩
    refine ite2 (fun e => ?_) (fun e => ?_)
    · have e : ((us.length : Nat) : Int) ≤ j := of_decide_eq_true e
      walk_at "nx"
      walk_at "rd"
      refine k _ H2 s12 ?_
      rw [← ha]
      have q : u.inner[j.toNat]? = none := List.getElem?_eq_none (by omega)
      show Told c H2 .non (match u.inner[j.toNat]? with | some u => W.at? u (is.drop (i + 1)) | none => none)
      rw [q]
      rfl
    · have e : j < (us.length : Nat) := by
        by_cases h : j < (us.length : Nat)
        · exact h
        · exact absurd (decide_eq_true (show ((us.length : Nat) : Int) ≤ j by omega)) e
      walk_at "nx"
      have hjn : j.toNat < u.inner.length := by omega
      have q : u.inner[j.toNat]? = some (u.inner[j.toNat]) := List.getElem?_eq_getElem hjn
      obtain ⟨z, hz, hzw⟩ := ObjsAt.at_ _ _ _ _ hus q
      obtain ⟨z', hz', hat⟩ := atI_of (xs := us) hj0 e
      have ez : z = z' := Option.some.inj (hz.symm.trans hz')
      subst ez
      refine ⟨_, rfl, _, rfl, t, _, _, z, rfl, rfl, SqT.of ht, hat, ?_⟩
      refine ⟨z, _, _, _, rfl, hzw, ?_, s12⟩
      rw [← ha]
      show _ = (match u.inner[j.toNat]? with | some u => W.at? u (is.drop (i + 1)) | none => none)
      rw [q]
  · rintro σ H' ⟨part, u, x3, x4, rfl, hu, ha, s1⟩
    rw [List.length_map, List.drop_length] at ha
    walk_at "nx"
    walk_at "rd"
    refine k part H' s1 ?_
    rw [← ha]
    exact hu
end
end Wv
namespace Wv
open PySem PySem.Spec PyProof.Rows L2
/-! ### all paths of a way -/
mutual
def W.paths : W → List (List Int × W)
  | .nothing => [([], .nothing)] | .one => [([], .one)] | .letter x => [([], .letter x)] | .call x => [([], .call x)]
  | .row ws => ([], .row ws) :: W.lower 0 ws
  | .choice ws => ([], .choice ws) :: W.lower 0 ws
  | .again w => ([], .again w) :: ((W.paths w).map (fun p => (0 :: p.1, p.2)) ++ [])
  | .maybe w => ([], .maybe w) :: ((W.paths w).map (fun p => (0 :: p.1, p.2)) ++ [])
  | .ahead w => ([], .ahead w) :: ((W.paths w).map (fun p => (0 :: p.1, p.2)) ++ [])
  | .unless w => ([], .unless w) :: ((W.paths w).map (fun p => (0 :: p.1, p.2)) ++ [])
def W.lower : Nat → List W → List (List Int × W)
  | _, [] => []
  | k, w :: ws => (W.paths w).map (fun p => ((k : Int) :: p.1, p.2)) ++ W.lower (k + 1) ws
end
theorem W.paths_eq (w : W) : w.paths = ([], w) :: W.lower 0 w.inner := by
  cases w <;> simp [W.paths, W.lower, W.inner]
theorem W.lower_app : ∀ (a : List W) (k : Nat) (u : W), W.lower k (a ++ [u]) = W.lower k a ++ u.paths.map (fun p => (((k + a.length : Nat) : Int) :: p.1, p.2))
  | [], k, u => by simp [W.lower]
  | x :: a, k, u => by
    simp only [List.cons_append, W.lower, W.lower_app a (k + 1) u, List.append_assoc, List.length_cons]
    congr 4
    funext p
    congr 2
    omega
theorem W.mem_lower : ∀ (ws : List W) (k : Nat) (p : List Int × W), p ∈ W.lower k ws ↔ ∃ i u q, ws[i]? = some u ∧ q ∈ u.paths ∧ p = (((k + i : Nat) : Int) :: q.1, q.2)
  | [], k, p => by simp [W.lower]
  | w :: ws, k, p => by
    simp only [W.lower, List.mem_append, List.mem_map, W.mem_lower ws (k + 1) p]
    constructor
    · rintro (⟨q, hq, rfl⟩ | ⟨i, u, q, hu, hq, rfl⟩)
      · exact ⟨0, w, q, rfl, hq, rfl⟩
      · exact ⟨i + 1, u, q, by simpa using hu, hq, by rw [show k + 1 + i = k + (i + 1) by omega]⟩
    · rintro ⟨i, u, q, hu, hq, rfl⟩
      cases i with
      | zero => 
        have e : w = u := by simpa using hu
        subst e
        exact .inl ⟨q, hq, rfl⟩
      | succ i => exact .inr ⟨i, u, q, by simpa using hu, hq, by rw [show k + 1 + i = k + (i + 1) by omega]⟩
/-- what a path tells -/
theorem W.path_at : ∀ (n : Nat) (w : W), w.size ≤ n → ∀ p ∈ w.paths, w.at? p.1 = some p.2 ∧ (∀ i ∈ p.1, 0 ≤ i) ∧ p.1.length + p.2.size ≤ w.size
  | 0, w, h, _, _ => by have := w.size_pos; omega
  | n + 1, w, h, p, hp => by
    rw [W.paths_eq] at hp
    rcases List.mem_cons.mp hp with rfl | hp
    · exact ⟨rfl, fun i hi => by simp at hi, by simp⟩
    · obtain ⟨i, u, q, hu, hq, rfl⟩ := (W.mem_lower _ _ _).mp hp
      have h1 := W.size_mem hu
      have h2 := w.size_inner
      obtain ⟨e1, e2, e3⟩ := W.path_at n u (by omega) q hq
      rw [Nat.zero_add]
      refine ⟨?_, ?_, ?_⟩
      · show (match w.inner[((i : Nat) : Int).toNat]? with | some u => W.at? u q.1 | none => none) = _
        rw [Int.toNat_natCast, hu]
        exact e1
      · intro j hj
        rcases List.mem_cons.mp hj with rfl | hj
        · omega
        · exact e2 j hj
      · simp only [List.length_cons]; omega
/-- each part has its path -/
theorem W.at_path : ∀ (is : List Int) (w u : W), (∀ i ∈ is, 0 ≤ i) → w.at? is = some u → (is, u) ∈ w.paths
  | [], w, u, _, h => by
    have e : w = u := Option.some.inj h
    subst e
    rw [W.paths_eq]
    exact List.mem_cons_self
  | i :: is, w, u, hn, h => by
    have h' : (match w.inner[i.toNat]? with | some u => W.at? u is | none => none) = some u := h
    cases q : w.inner[i.toNat]? with
    | none => rw [q] at h'; cases h'
    | some x =>
      rw [q] at h'
      have ih := W.at_path is x u (fun j hj => hn j (List.mem_cons_of_mem _ hj)) h'
      have hi := hn i List.mem_cons_self
      rw [W.paths_eq]
      refine List.mem_cons_of_mem _ ((W.mem_lower _ _ _).mpr ⟨i.toNat, x, _, q, ih, ?_⟩)
      rw [Nat.zero_add, Int.toNat_of_nonneg hi]
mutual
theorem W.paths_len : ∀ w : W, w.paths.length = w.size
  | .nothing => rfl | .one => rfl | .letter _ => rfl | .call _ => rfl
  | .row ws => by simp only [W.paths, W.size, List.length_cons, W.lower_len ws]; omega
  | .choice ws => by simp only [W.paths, W.size, List.length_cons, W.lower_len ws]; omega
  | .again w => by simp only [W.paths, W.size, List.length_cons, List.length_append, List.length_map, List.length_nil, W.paths_len w]; omega
  | .maybe w => by simp only [W.paths, W.size, List.length_cons, List.length_append, List.length_map, List.length_nil, W.paths_len w]; omega
  | .ahead w => by simp only [W.paths, W.size, List.length_cons, List.length_append, List.length_map, List.length_nil, W.paths_len w]; omega
  | .unless w => by simp only [W.paths, W.size, List.length_cons, List.length_append, List.length_map, List.length_nil, W.paths_len w]; omega
theorem W.lower_len : ∀ {k : Nat} (ws : List W), (W.lower k ws).length = W.sizes ws
  | _, [] => rfl
  | _, w :: ws => by simp only [W.lower, W.sizes, List.length_append, List.length_map, W.paths_len w, W.lower_len ws]
end
/-- paths and parts as pairs; the parts stand in the heap B -/
def PathsAt (B H : Hp) : List V → List (List Int × W) → Prop
  | vs, [] => vs = []
  | vs, p :: ps => ∃ r t u us, vs = V.ref r :: us ∧ H r = some (.tup [.ref t, u]) ∧ H t = some (.tup (p.1.map V.int)) ∧ WayAt B u p.2 ∧ PathsAt B H us ps
theorem PathsAt.keep {B B' H H' : Hp} (kb : Keep B B') (k : Still H H') : ∀ (ps : List (List Int × W)) (vs : List V), PathsAt B H vs ps → PathsAt B' H' vs ps
  | [], _, h => h
  | p :: ps, vs, ⟨r, t, u, us, e, h, h1, h2, h3⟩ => ⟨r, t, u, us, e, k.tup h, k.tup h1, WayAt.keep kb _ _ h2, PathsAt.keep kb k ps us h3⟩
theorem PathsAt.len {B H : Hp} : ∀ (ps : List (List Int × W)) (vs : List V), PathsAt B H vs ps → vs.length = ps.length
  | [], vs, h => by rw [show vs = [] from h]; rfl
  | p :: ps, vs, ⟨r, t, u, us, e, _, _, _, h⟩ => by rw [e, List.length_cons, List.length_cons, PathsAt.len ps us h]
theorem PathsAt.app {B H : Hp} : ∀ (ps : List (List Int × W)) (vs : List V) {us : List V} {qs : List (List Int × W)}, PathsAt B H vs ps → PathsAt B H us qs → PathsAt B H (vs ++ us) (ps ++ qs)
  | [], vs, us, qs, h, h2 => by rw [show vs = [] from h]; exact h2
  | p :: ps, vs, us, qs, ⟨r, t, u, vs', e, h, h1, h3, h4⟩, h2 => by rw [e]; exact ⟨r, t, u, vs' ++ us, rfl, h, h1, h3, PathsAt.app ps vs' h4 h2⟩
theorem PathsAt.at_ {B H : Hp} : ∀ (ps : List (List Int × W)) (vs : List V) (i : Nat) (v : V), PathsAt B H vs ps → vs[i]? = some v → ∃ r t u p, v = .ref r ∧ ps[i]? = some p ∧ H r = some (.tup [.ref t, u]) ∧ H t = some (.tup (p.1.map V.int)) ∧ WayAt B u p.2
  | [], vs, i, v, h, e => by rw [show vs = [] from h] at e; simp at e
  | p :: ps, vs, 0, v, ⟨r, t, u, us, e, h, h1, h2, h3⟩, ev => by
    rw [e] at ev
    have q : V.ref r = v := by simpa using ev
    subst q
    exact ⟨r, t, u, p, rfl, rfl, h, h1, h2⟩
  | p :: ps, vs, i + 1, v, ⟨r, t, u, us, e, h, h1, h2, h3⟩, ev => by
    rw [e] at ev
    obtain ⟨r', t', u', p', a1, a2, a3, a4, a5⟩ := PathsAt.at_ ps us i v h3 (by simpa using ev)
    exact ⟨r', t', u', p', a1, by simpa using a2, a3, a4, a5⟩
theorem yesI {σ : L2.St} {H : Hp} {Q : Bool → Hp → Prop} (h : Q true H) : tYes σ H Q := h
def spPaths (s : Nat) : Sp := fun vs H Q _ => ∃ (v : V) (w : W), vs = [v] ∧ WayAt H v w ∧ w.size ≤ s ∧ w.size ≤ 1000 ∧ ∀ (q : Addr) (us : List V) (H' : Hp), Same H H' → H' q = some (.lst us) → PathsAt H' H' us w.paths → Q (.ref q) H'
section
variable {P : Program} {w : World} {K : PySem.W.Frag} {mg : Str → Option Value} {base : Heap}
end
end Wv
/-! del xs[i:] of a list -/
namespace Wv
open PySem PySem.Spec PyProof.Rows L2 HT
section
variable {prog : Program} {w : World} {A : Around} {E : Value → Shared → Prop} {s : Shared}
theorem fm_congr {α β : Type} {f g : α → Option β} : ∀ {l : List α}, (∀ x ∈ l, f x = g x) → l.filterMap f = l.filterMap g
  | [], _ => rfl
  | x :: l, h => by
    rw [List.filterMap_cons, List.filterMap_cons, h x List.mem_cons_self, fm_congr fun y hy => h y (List.mem_cons_of_mem _ hy)]
theorem cut_from : ∀ (l : List Value) (j m : Nat), (l.zipIdx j).filterMap (fun x => if decide (m ≤ x.2) = true then none else some x.1) = l.take (m - j)
  | [], j, m => by simp
  | x :: l, j, m => by
    rw [List.zipIdx_cons, List.filterMap_cons]
    have ih := cut_from l (j + 1) m
    by_cases h : m ≤ j
    · have e : m - j = 0 := by omega
      have e2 : m - (j + 1) = 0 := by omega
      rw [e2, List.take_zero] at ih
      rw [e, List.take_zero]
      simp only [h, decide_true, if_true]
      exact ih
    · have e : m - j = (m - (j + 1)) + 1 := by omega
      simp only [h, decide_false, Bool.false_eq_true, if_false]
      rw [e, List.take_succ_cons, ih]
theorem delItem_cut {l sl : Addr} {its : Array Value} {n : Nat} {i : Int} {t : Tok} {Q : Unit → Shared → Prop} (hl : s.heap.get? l = some { cls := .type "list", data := .seq its n }) (hs : s.heap.IsSliceOf sl (.int i t) .none .none) (hz : its.size ≤ sizeLine)
    (h : ∀ f : Array Value → Array Value, (0 ≤ i → i ≤ (its.size : Int) → f its = (its.toList.take i.toNat).toArray) → Q () { s with heap := s.heap.update l (Obj.mapSeq f) }) : wpAny (model prog w) A (delItem (.ref l) (.ref sl)) Q E s := by
  have hT : s.TypeIs (.ref l) "list" := ⟨_, hl, rfl⟩
  obtain ⟨os, hos, hcs, hds⟩ := id hs
  have hTs : s.TypeIs (.ref sl) "slice" := ⟨os, hos, hcs⟩
  refine wpAny_delItem_slot hT (by decide) F.slot_list_delitem ?_
  refine wpAny_call_entry F.slot_list_delitem hT F.entry_list_delitem ?_ (F.args_list_delitem_2 _ _)
  show wpAny _ _ (Builtin.List.listSubscript? (.ref sl) >>= _) _ _ s
  refine wpAny_bind ?_
  unfold Builtin.List.listSubscript?
  refine wpAny_bind (wpAny_specialOf hTs slice_no_index ?_)
  simp only [Option.isNone_none, if_true]
  refine wpAny_pure ?_
  show wpAny _ _ (typeOf (.ref sl) >>= _) _ _ s
  refine wpAny_bind (wpAny_typeOf hTs ?_)
  rw [if_neg (by decide)]
  rw [listSliceParts_eq]
  refine wpAny_bind (wpAny_bind (wpAny_field hos hds (x := Value.none) rfl (wpAny_bind (wpAny_listPart .none ?_))))
  have hstep : ¬ ((rawPart none == rawInt 0) = true) := Bool.false_ne_true
  rw [if_neg hstep]
  refine wpAny_bind (wpAny_field hos hds (x := Value.int i t) rfl (wpAny_bind (wpAny_listPart (.int i t) ?_)))
  refine wpAny_bind (wpAny_field hos hds (x := Value.none) rfl (wpAny_bind (wpAny_listPart .none (wpAny_pure ?_))))
  refine wpAny_bind (m := Builtin.List.listItems (.ref l)) ?_
  unfold Builtin.List.listItems
  refine wpAny_bind (wpAny_seqItems hl rfl (wpAny_pure ?_))
  refine wpAny_bind (wpAny_of_eq (sliceIndices_raw (some i) none none its.size (by intro q; cases q)) ?_)
  refine wpAny_bind ?_
  refine wpAny_rule ?_
  refine wpAny_bind (wpAny_updateSeq hl rfl ?_ (hz := hz) (_hz' := ?_))
  · refine wpAny_bind (wpAny_letGo ?_)
    exact wpAny_pure ⟨_, rfl, h _ fun h0 h1 => by
      refine congrArg List.toArray ((fm_congr (g := fun x : Value × Nat => if decide (i.toNat ≤ x.2) = true then none else some x.1) fun x hx => ?_).trans (cut_from its.toList 0 i.toNat))
      have hk : x.2 < its.size := by
        have := List.snd_lt_of_mem_zipIdx hx
        simpa using this
      have e1 : (sliceBounds (some i) none none its.size).1 = i := by
        unfold sliceBounds
        simp only [Option.getD_none]
        rw [if_pos (by decide), if_neg (by omega)]
        omega
      have e2 : (sliceBounds (some i) none none its.size).2.1 = (its.size : Int) := by
        unfold sliceBounds
        simp
      have e3 : (sliceBounds (some i) none none its.size).2.2 = 1 := rfl
      rw [e1, e2, e3]
      have e4 : decide (i ≤ (x.2 : Int)) = decide (i.toNat ≤ x.2) := decide_eq_decide.mpr (by omega)
      have e5 : (if (1 : Int) > 0 then decide (i ≤ (x.2 : Int)) && decide ((x.2 : Int) < (its.size : Int)) && (((x.2 : Int) - i) % 1 == 0) else decide ((its.size : Int) < (x.2 : Int)) && decide ((x.2 : Int) ≤ i) && ((i - (x.2 : Int)) % (-1) == 0)) = decide (i.toNat ≤ x.2) := by
        rw [if_pos (by decide), decide_eq_true (show (x.2 : Int) < (its.size : Int) by omega), Int.emod_one, Bool.and_true, e4]
        simp
      show (if (if (1 : Int) > 0 then decide (i ≤ (x.2 : Int)) && decide ((x.2 : Int) < (its.size : Int)) && (((x.2 : Int) - i) % 1 == 0) else decide ((its.size : Int) < (x.2 : Int)) && decide ((x.2 : Int) ≤ i) && ((i - (x.2 : Int)) % (-1) == 0)) = true then none else some x.1) = _
      rw [e5]⟩
  · refine Nat.le_succ_of_le (Nat.le_trans ?_ hz)
    rw [List.size_toArray]
    refine Nat.le_trans (List.length_filterMap_le _ _) ?_
    simp
end
def tDelS (to ti : TE) : TS := fun D σ H => to σ H fun x H1 => tPart ti σ H1 fun o H2 => ∃ (l : Addr) (xs : List V) (i : Int), o = some i ∧ x = .ref l ∧ H2 l = some (.lst xs) ∧ 0 ≤ i ∧ i ≤ xs.length ∧ D.nx σ (upd H2 l (.lst (xs.take i.toNat)))
section
variable {X : Cx}
/-- del o[lo:] -/
theorem ps_delS {o lo : Expr} {to ti : TE} {tpos pos p2 : Pos} (ho : PE X o to) (hi : PE X lo ti) : PS X (.Delete [.Subscript o (.Slice (some lo) none none p2) tpos] pos) (tDelS to ti) := by
  refine ⟨fun pins s σ H D I h => ?_⟩
  refine wpAny_Delete (wpAny_deleteEach_cons (wpAny_delete_Subscript (thn (ho.run pins s σ H _ I h) fun u s1 ⟨x, H1, I1, rx, q1⟩ => ?_)))
  refine wpAny_Slice (thn ((po_some hi).run pins s1 σ H1 _ I1 q1) fun vl s2 ⟨lo', H2, I2, pl, l, xs, i, e1, e2, hH, h0, h1, q2⟩ => ?_)
  subst e1 e2
  refine thn (po_none.run pins s2 σ H2 (fun o H3 => o = none ∧ H3 = H2) I2 ⟨rfl, rfl⟩) fun vu s3 ⟨u', H3, I3, pu, eu, e3⟩ => ?_
  subst eu e3
  cases pu
  cases (show u = Value.ref l from rx)
  rw [evalPart_none]
  refine wpAny_pure ?_
  generalize hi' : i = i' at pl
  cases pl with
  | int i' t =>
    subst hi'
    have I4 : Inv X pins σ H3 { s3 with heap := s3.heap.push { cls := .type "slice", data := .fields #[.int i t, .none, .none] } } := I3.kept (t' := s3.toks) fun b ob q => Heap.get?_push_of_some _ q
    obtain ⟨z, its, n, r, hl, e⟩ := I4.lstM hH
    have hsz : its.toArray.size ≤ sizeLine := by rw [List.size_toArray, ← r.length]; exact z
    refine delItem_cut e (Heap.IsSliceOf.new ..) hsz fun f hf => ?_
    refine wpAny_deleteEach_nil ⟨σ, _, I4.lset (its' := its.take i.toNat) hH e (hf h0 (by rw [List.size_toArray, ← r.length]; exact h1)) (r.take i.toNat) ?_, q2⟩
    rw [List.length_take]
    have := z
    omega
end
end Wv
/-! str(x) of a way, by the text's own __str__ -/
namespace Wv
open PySem PySem.Spec PyProof.Rows L2
structure StrOk (P : Program) (w : World) (K : PySem.W.Frag) (mg : Str → Option Value) (base : Heap) (c : Cs) (n : Nat) (sp : Sp) : Prop where
  ex : ∃ (f : Addr) (fd : FuncData) (ps : List Str), FnOk P w K mg base CX0 n f fd ps sp ∧ (∀ u : W, PySem.W.findIn K (.ref (c.of u)) "__str__" = some (some (.ref f))) ∧ PySem.W.isFn K (.ref f) = true ∧ Binds K fd ps []
section
variable {X : Cx} {c : Cs} {n : Nat} {sp : Sp}
def rStrW (c : Cs) (sp : Sp) : List V → Hp → VK → Prop := fun xs H Q => ∃ (v : V) (w : W), xs = [v] ∧ ObjAt c H v w ∧ sp [v] H (fun z H' => ∃ y : Str, z = .str y ∧ Q (.str y) H') E0
theorem call_strW (G : StrOk X.prog X.w X.K X.mg X.base c n sp) (hr : Room (n + 2) X.A) : CallR X (.type "str") (rStrW c sp) := by
  obtain ⟨f, fd, ps, F, hs, hf, hb⟩ := G.ex
  intro pins s σ H xs us Q I r h
  obtain ⟨v, w, rfl, hv, hsp⟩ := h
  obtain ⟨u, rfl, ru⟩ := r.one
  obtain ⟨a, d, fs, ev, ha⟩ := hv.head
  subst ev
  cases ru
  obtain ⟨mA, J, _⟩ := ins_get I.hok ha
  obtain ⟨od, J, _⟩ := J.look
  have hl := F.len _ _ _ _ hsp
  have r2 : Vals [V.ref a] [Value.ref a] := .cons rfl .nil
  have hu : X.A.in1.in1.units < cLine := hr.in1.in1.units0
  refine PySem.W.kso_call hu I.kIn J (hs w) hf (wpAny_call (codeAny_mono (F.run X.A.in1.in1 X.stack s H ⟨[.ref a], []⟩ [.ref a] [.ref a] _ E0 hr.in1.in1 (I.env0.in1.in1) (by
    have q := hb s [.ref a] I.kIn (by simpa using hl)
    simpa using q) r2 hsp) fun r s' hq => ?_))
  cases r with
  | error e => exact (pass0 (X := X) pins σ H s e s' I hq)
  | ok fl =>
    cases fl with
    | ret x =>
      obtain ⟨z, H', I', rz, y, ez, q⟩ := I.after hq
      subst ez
      obtain ⟨t, ex⟩ := rz
      subst ex
      exact ⟨.str y, H', I', ⟨_, rfl⟩, q⟩
    | next => exact False.elim hq
    | brk => exact False.elim hq
    | cont => exact False.elim hq
end
end Wv
namespace Ws
open PySem PySem.Spec PyProof.Rows L2 Wv
/-! ### the scanner as data, and as an object -/
structure Sc where
  z : List Nat
  ln : Int
  pl : Nat
  steps : List (Nat × Str × Nat)
  rows : List Nat
  many : List Nat
  looks : List (List Nat)
def Sc.cur (s : Sc) : Option Nat := s.z[s.pl]?
/-- a sign as text -/
def sgn : Option Nat → Str
  | some c => sg c
  | none => Str.ofString ""
def blanks : List Nat → Nat
  | [] => 0
  | c :: r => if c = 32 then blanks r + 1 else 0
def Sc.skip (s : Sc) : Sc := { s with pl := s.pl + blanks (s.z.drop s.pl) }
def Sc.go (s : Sc) : Sc := { s with pl := s.pl + 1 }
/-- all that it keeps -/
def Sc.size (s : Sc) : Nat := s.steps.length + s.rows.length + s.many.length + s.looks.length + s.looks.flatten.length
structure ScF (K : PySem.W.Frag) (C : Addr) : Prop where
  cl : Cls K C
  n1 : NoAttr K C "text"
  n2 : NoAttr K C "line"
  n3 : NoAttr K C "place"
  n4 : NoAttr K C "steps"
  n5 : NoAttr K C "rows"
  n6 : NoAttr K C "many"
  n7 : NoAttr K C "looks"
structure At where
  a : Addr
  st : Addr
  ro : Addr
  ma : Addr
  lo : Addr
  lk : List Addr
def At.fs (p : At) (s : Sc) : List (Str × V) := [(Str.ofString "text", .str (tx s.z)), (Str.ofString "line", .int s.ln), (Str.ofString "place", .int (s.pl : Nat)), (Str.ofString "steps", .ref p.st), (Str.ofString "rows", .ref p.ro), (Str.ofString "many", .ref p.ma), (Str.ofString "looks", .ref p.lo)]
def At.all (p : At) : List Addr := p.a :: p.st :: p.ro :: p.ma :: p.lo :: p.lk
abbrev iV (l : List Nat) : List V := l.map fun n => V.int (n : Nat)
def StepsAt (H : Hp) : List V → List (Nat × Str × Nat) → Prop
  | vs, [] => vs = []
  | vs, x :: xs => ∃ r us, vs = V.ref r :: us ∧ H r = some (.tup [.int (x.1 : Nat), .str x.2.1, .int (x.2.2 : Nat)]) ∧ StepsAt H us xs
def LooksAt (H : Hp) : List Addr → List (List Nat) → Prop
  | as, [] => as = []
  | as, l :: ls => ∃ q us, as = q :: us ∧ H q = some (.lst (iV l)) ∧ LooksAt H us ls
structure ScAt (C : Addr) (H0 H : Hp) (p : At) (s : Sc) : Prop where
  ins : ∃ dx, H p.a = some (.ins C dx (p.fs s))
  steps : ∃ vs, H p.st = some (.lst vs) ∧ StepsAt H vs s.steps
  rows : H p.ro = some (.lst (iV s.rows))
  many : H p.ma = some (.lst (iV s.many))
  looks : H p.lo = some (.lst (p.lk.map V.ref)) ∧ LooksAt H p.lk s.looks
  nd : p.all.Nodup
  fresh : ∀ b ∈ p.all, H0 b = none
  same : Same H0 H
  low : s.z.length ≤ 10000 ∧ s.pl ≤ s.z.length
theorem StepsAt.keep {H H' : Hp} (k : ∀ {a : Addr} {xs : List V}, H a = some (.tup xs) → H' a = some (.tup xs)) : ∀ (xs : List (Nat × Str × Nat)) (vs : List V), StepsAt H vs xs → StepsAt H' vs xs
  | [], _, h => h
  | x :: xs, vs, ⟨r, us, e, h, h2⟩ => ⟨r, us, e, k h, StepsAt.keep k xs us h2⟩
theorem StepsAt.len {H : Hp} : ∀ (xs : List (Nat × Str × Nat)) (vs : List V), StepsAt H vs xs → vs.length = xs.length
  | [], vs, h => by rw [show vs = [] from h]; rfl
  | x :: xs, vs, ⟨r, us, e, _, h2⟩ => by rw [e, List.length_cons, List.length_cons, StepsAt.len xs us h2]
theorem StepsAt.snoc {H : Hp} {r : Addr} {x : Nat × Str × Nat} (hr : H r = some (.tup [.int (x.1 : Nat), .str x.2.1, .int (x.2.2 : Nat)])) : ∀ (xs : List (Nat × Str × Nat)) (vs : List V), StepsAt H vs xs → StepsAt H (vs ++ [.ref r]) (xs ++ [x])
  | [], vs, h => by rw [show vs = [] from h]; exact ⟨r, [], rfl, hr, rfl⟩
  | y :: xs, vs, ⟨q, us, e, h, h2⟩ => by rw [e]; exact ⟨q, us ++ [.ref r], rfl, h, StepsAt.snoc hr xs us h2⟩
theorem LooksAt.keep {H H' : Hp} : ∀ (ls : List (List Nat)) (as : List Addr), (∀ a ∈ as, ∀ o, H a = some o → H' a = some o) → LooksAt H as ls → LooksAt H' as ls
  | [], _, _, h => h
  | l :: ls, as, k, ⟨q, us, e, h, h2⟩ => by
    subst e
    exact ⟨q, us, rfl, k q List.mem_cons_self _ h, LooksAt.keep ls us (fun a ha => k a (List.mem_cons_of_mem _ ha)) h2⟩
theorem LooksAt.len {H : Hp} : ∀ (ls : List (List Nat)) (as : List Addr), LooksAt H as ls → as.length = ls.length
  | [], as, h => by rw [show as = [] from h]; rfl
  | l :: ls, as, ⟨q, us, e, _, h2⟩ => by rw [e, List.length_cons, List.length_cons, LooksAt.len ls us h2]
section
variable {C : Addr} {H0 H H' : Hp} {p : At} {s : Sc}
/-- what an update at one of the lists leaves -/
theorem ScAt.tups (h : ScAt C H0 H p s) {b : Addr} {o : HO} (hb : ∀ xs, H b ≠ some (.tup xs)) {a : Addr} {xs : List V} (e : H a = some (.tup xs)) : upd H b o a = some (.tup xs) := by
  rw [upd_ne (fun q => hb xs (by rw [← q]; exact e))]; exact e
theorem ScAt.of_same (h : ScAt C H0 H p s) (k : Same H H') : ScAt C H0 H' p s := by
  obtain ⟨dx, e⟩ := h.ins
  obtain ⟨vs, e1, e2⟩ := h.steps
  exact ⟨⟨dx, k _ _ e⟩, ⟨vs, k _ _ e1, StepsAt.keep (fun q => k _ _ q) _ _ e2⟩, k _ _ h.rows, k _ _ h.many, ⟨k _ _ h.looks.1, LooksAt.keep _ _ (fun _ _ _ q => k _ _ q) h.looks.2⟩, h.nd, h.fresh, h.same.trans k, h.low⟩
/-- another place -/
theorem ScAt.place (h : ScAt C H0 H p s) (n : Nat) (hn : n ≤ s.z.length) {dx : Addr} : ScAt C H0 (upd H p.a (.ins C dx (p.fs { s with pl := n }))) p { s with pl := n } := by
  obtain ⟨d, e⟩ := h.ins
  have nd := h.nd
  unfold At.all at nd
  rw [List.nodup_cons] at nd
  have ne : ∀ b, b ∈ p.st :: p.ro :: p.ma :: p.lo :: p.lk → b ≠ p.a := fun b hb q => nd.1 (by rw [← q]; exact hb)
  have k : ∀ b, b ∈ p.st :: p.ro :: p.ma :: p.lo :: p.lk → upd H p.a (.ins C dx (p.fs { s with pl := n })) b = H b := fun b hb => upd_ne (ne b hb)
  have tp : ∀ {a : Addr} {xs : List V}, H a = some (.tup xs) → upd H p.a (.ins C dx (p.fs { s with pl := n })) a = some (.tup xs) := fun {a xs} q => h.tups (fun xs q => by rw [e] at q; cases q) q
  obtain ⟨vs, e1, e2⟩ := h.steps
  refine ⟨⟨dx, upd_same⟩, ⟨vs, by rw [k _ (by simp)]; exact e1, StepsAt.keep tp _ _ e2⟩, by rw [k _ (by simp)]; exact h.rows, by rw [k _ (by simp)]; exact h.many, ⟨by rw [k _ (by simp)]; exact h.looks.1, LooksAt.keep _ _ (fun a ha o q => by rw [k _ (by simp [ha])]; exact q) h.looks.2⟩, h.nd, h.fresh, ?_, ⟨h.low.1, hn⟩⟩
  exact Same.put (h.fresh p.a (by simp [At.all])) h.same _
structure Ne (p : At) : Prop where
  a1 : p.a ≠ p.st
  a2 : p.a ≠ p.ro
  a3 : p.a ≠ p.ma
  a4 : p.a ≠ p.lo
  s1 : p.st ≠ p.ro
  s2 : p.st ≠ p.ma
  s3 : p.st ≠ p.lo
  r1 : p.ro ≠ p.ma
  r2 : p.ro ≠ p.lo
  m1 : p.ma ≠ p.lo
  l0 : ∀ q ∈ p.lk, q ≠ p.a
  l1 : ∀ q ∈ p.lk, q ≠ p.st
  l2 : ∀ q ∈ p.lk, q ≠ p.ro
  l3 : ∀ q ∈ p.lk, q ≠ p.ma
  l4 : ∀ q ∈ p.lk, q ≠ p.lo
  nd : p.lk.Nodup
theorem ne_of_nd (h : p.all.Nodup) : Ne p := by
  unfold At.all at h
  simp only [List.nodup_cons, List.mem_cons, not_or] at h
  obtain ⟨⟨a1, a2, a3, a4, a5⟩, ⟨s1, s2, s3, s4⟩, ⟨r1, r2, r3⟩, ⟨m1, m2⟩, l1, nd⟩ := h
  have no : ∀ {x : Addr}, x ∉ p.lk → ∀ q ∈ p.lk, q ≠ x := fun hx q hq e => hx (by rw [← e]; exact hq)
  exact ⟨a1, a2, a3, a4, s1, s2, s3, r1, r2, m1, no a5, no s4, no r3, no m2, no l1, nd⟩
theorem ScAt.listy (h : ScAt C H0 H p s) {b : Addr} (hb : b ∈ p.all) (xs : List V) : H b ≠ some (.tup xs) := by
  obtain ⟨dx, e⟩ := h.ins
  obtain ⟨vs, e1, _⟩ := h.steps
  have lk : ∀ (ls : List (List Nat)) (as : List Addr), LooksAt H as ls → ∀ a ∈ as, ∃ l, H a = some (.lst l) := by
    intro ls
    induction ls with
    | nil => intro as h a ha; rw [show as = [] from h] at ha; cases ha
    | cons l ls ih =>
      rintro as ⟨q, us, e, h, h2⟩ a ha
      rw [e] at ha
      rcases List.mem_cons.mp ha with rfl | ha
      · exact ⟨_, h⟩
      · exact ih us h2 a ha
  unfold At.all at hb
  simp only [List.mem_cons] at hb
  rcases hb with rfl | rfl | rfl | rfl | rfl | hb
  · rw [e]; intro q; cases q
  · rw [e1]; intro q; cases q
  · rw [h.rows]; intro q; cases q
  · rw [h.many]; intro q; cases q
  · rw [h.looks.1]; intro q; cases q
  · obtain ⟨l, q⟩ := lk _ _ h.looks.2 b hb
    rw [q]; intro q; cases q
/-- what is tracked of it is not free -/
theorem ScAt.there (h : ScAt C H0 H p s) {b : Addr} (hb : b ∈ p.all) : H b ≠ none := by
  obtain ⟨dx, e⟩ := h.ins
  obtain ⟨vs, e1, _⟩ := h.steps
  have lk : ∀ (ls : List (List Nat)) (as : List Addr), LooksAt H as ls → ∀ a ∈ as, ∃ l, H a = some (.lst l) := by
    intro ls
    induction ls with
    | nil => intro as h a ha; rw [show as = [] from h] at ha; cases ha
    | cons l ls ih =>
      rintro as ⟨q, us, e, h, h2⟩ a ha
      rw [e] at ha
      rcases List.mem_cons.mp ha with rfl | ha
      · exact ⟨_, h⟩
      · exact ih us h2 a ha
  unfold At.all at hb
  simp only [List.mem_cons] at hb
  rcases hb with rfl | rfl | rfl | rfl | rfl | hb
  · rw [e]; intro q; cases q
  · rw [e1]; intro q; cases q
  · rw [h.rows]; intro q; cases q
  · rw [h.many]; intro q; cases q
  · rw [h.looks.1]; intro q; cases q
  · obtain ⟨l, q⟩ := lk _ _ h.looks.2 b hb
    rw [q]; intro q; cases q
/-- a new list is apart from all of it, and new in the first heap, too -/
theorem ScAt.apart (h : ScAt C H0 H p s) {q : Addr} (hq : H q = none) : H0 q = none ∧ q ∉ p.all := by
  refine ⟨?_, fun hm => h.there hm hq⟩
  cases z : H0 q with
  | none => rfl
  | some o => rw [h.same _ _ z] at hq; cases hq
/-- so it may stand behind the looks -/
theorem ScAt.newLook (h : ScAt C H0 H p s) {q : Addr} (hq : H q = none) {as : List Addr} (hs : ∀ a ∈ as, a ∈ p.lk) (hn : as.Nodup) :
    (as ++ [q]).Nodup ∧ ∀ a ∈ as ++ [q], H0 a = none ∧ a ≠ p.a ∧ a ≠ p.st ∧ a ≠ p.ro ∧ a ≠ p.ma ∧ a ≠ p.lo := by
  obtain ⟨h1, h2⟩ := h.apart hq
  have n := ne_of_nd h.nd
  have fr := h.fresh
  simp only [At.all, List.mem_cons, not_or] at h2
  refine ⟨List.nodup_append.mpr ⟨hn, by simp, fun a ha b hb => by simp at hb; subst hb; exact fun z => h2.2.2.2.2.2 (z ▸ hs a ha)⟩, fun a ha => ?_⟩
  rcases List.mem_append.mp ha with ha | ha
  · have hm := hs a ha
    exact ⟨fr a (by simp [At.all, hm]), n.l0 a hm, n.l1 a hm, n.l2 a hm, n.l3 a hm, n.l4 a hm⟩
  · have e : a = q := by simpa using ha
    subst e
    exact ⟨h1, h2.1, h2.2.1, h2.2.2.1, h2.2.2.2.1, h2.2.2.2.2.1⟩
theorem ScAt.tups' (h : ScAt C H0 H p s) {b : Addr} {o : HO} (hb : b ∈ p.all) {a : Addr} {xs : List V} (e : H a = some (.tup xs)) : upd H b o a = some (.tup xs) := h.tups (h.listy hb) e
theorem ScAt.same' (h : ScAt C H0 H p s) {b : Addr} {o : HO} (hb : b ∈ p.all) : Same H0 (upd H b o) := Same.put (h.fresh b hb) h.same _
/-- one more step -/
theorem ScAt.step (h : ScAt C H0 H p s) {vs : List V} {r : Addr} {x : Nat × Str × Nat} (hv : H p.st = some (.lst vs)) (hr : H r = some (.tup [.int (x.1 : Nat), .str x.2.1, .int (x.2.2 : Nat)])) :
    ScAt C H0 (upd H p.st (.lst (vs ++ [.ref r]))) p { s with steps := s.steps ++ [x] } := by
  have n := ne_of_nd h.nd
  obtain ⟨dx, e⟩ := h.ins
  obtain ⟨us, e1, e2⟩ := h.steps
  have ev : us = vs := by rw [hv] at e1; injection e1 with q; injection q with q; exact q.symm
  subst ev
  have hb : p.st ∈ p.all := by simp [At.all]
  refine ⟨⟨dx, by rw [upd_ne n.a1]; exact e⟩, ⟨_, upd_same, StepsAt.snoc (h.tups' hb hr) _ _ (StepsAt.keep (fun q => h.tups' hb q) _ _ e2)⟩, by rw [upd_ne n.s1.symm]; exact h.rows, by rw [upd_ne n.s2.symm]; exact h.many,
    ⟨by rw [upd_ne n.s3.symm]; exact h.looks.1, LooksAt.keep _ _ (fun a ha o q => by rw [upd_ne (n.l1 a ha)]; exact q) h.looks.2⟩, h.nd, h.fresh, h.same' hb, h.low⟩
theorem ScAt.setRows (h : ScAt C H0 H p s) (l : List Nat) : ScAt C H0 (upd H p.ro (.lst (iV l))) p { s with rows := l } := by
  have n := ne_of_nd h.nd
  obtain ⟨dx, e⟩ := h.ins
  obtain ⟨us, e1, e2⟩ := h.steps
  have hb : p.ro ∈ p.all := by simp [At.all]
  refine ⟨⟨dx, by rw [upd_ne n.a2]; exact e⟩, ⟨us, by rw [upd_ne n.s1]; exact e1, StepsAt.keep (fun q => h.tups' hb q) _ _ e2⟩, upd_same, by rw [upd_ne n.r1.symm]; exact h.many,
    ⟨by rw [upd_ne n.r2.symm]; exact h.looks.1, LooksAt.keep _ _ (fun a ha o q => by rw [upd_ne (n.l2 a ha)]; exact q) h.looks.2⟩, h.nd, h.fresh, h.same' hb, h.low⟩
theorem ScAt.setMany (h : ScAt C H0 H p s) (l : List Nat) : ScAt C H0 (upd H p.ma (.lst (iV l))) p { s with many := l } := by
  have n := ne_of_nd h.nd
  obtain ⟨dx, e⟩ := h.ins
  obtain ⟨us, e1, e2⟩ := h.steps
  have hb : p.ma ∈ p.all := by simp [At.all]
  refine ⟨⟨dx, by rw [upd_ne n.a3]; exact e⟩, ⟨us, by rw [upd_ne n.s2]; exact e1, StepsAt.keep (fun q => h.tups' hb q) _ _ e2⟩, by rw [upd_ne n.r1]; exact h.rows, upd_same,
    ⟨by rw [upd_ne n.m1.symm]; exact h.looks.1, LooksAt.keep _ _ (fun a ha o q => by rw [upd_ne (n.l3 a ha)]; exact q) h.looks.2⟩, h.nd, h.fresh, h.same' hb, h.low⟩
theorem LooksAt.snoc {q : Addr} {l : List Nat} (hq : H q = some (.lst (iV l))) : ∀ (ls : List (List Nat)) (as : List Addr), LooksAt H as ls → LooksAt H (as ++ [q]) (ls ++ [l])
  | [], as, h => by rw [show as = [] from h]; exact ⟨q, [], rfl, hq, rfl⟩
  | y :: ls, as, ⟨r, us, e, h, h2⟩ => by rw [e]; exact ⟨r, us ++ [q], rfl, h, LooksAt.snoc hq ls us h2⟩
theorem LooksAt.split : ∀ (ls : List (List Nat)) (l : List Nat) (as : List Addr), LooksAt H as (ls ++ [l]) → ∃ us q, as = us ++ [q] ∧ LooksAt H us ls ∧ H q = some (.lst (iV l))
  | [], l, as, ⟨r, us, e, h, h2⟩ => ⟨[], r, by rw [e, show us = [] from h2]; rfl, rfl, h⟩
  | y :: ls, l, as, ⟨r, us, e, h, h2⟩ => by
    obtain ⟨us', q, e', h3, h4⟩ := LooksAt.split ls l us h2
    exact ⟨r :: us', q, by rw [e, e']; rfl, ⟨r, us', rfl, h, h3⟩, h4⟩
/-- another list for the last looks, or one more, or one less: the list of lists is written -/
theorem ScAt.setLooks (h : ScAt C H0 H p s) (as : List Addr) (ls : List (List Nat)) (hl : LooksAt H as ls) (hn : as.Nodup) (hf : ∀ a ∈ as, H0 a = none ∧ a ≠ p.a ∧ a ≠ p.st ∧ a ≠ p.ro ∧ a ≠ p.ma ∧ a ≠ p.lo) :
    ScAt C H0 (upd H p.lo (.lst (as.map V.ref))) { p with lk := as } { s with looks := ls } := by
  have n := ne_of_nd h.nd
  obtain ⟨dx, e⟩ := h.ins
  obtain ⟨us, e1, e2⟩ := h.steps
  have hb : p.lo ∈ p.all := by simp [At.all]
  have fr := h.fresh
  simp only [At.all, List.mem_cons] at fr
  refine ⟨⟨dx, by show upd H p.lo _ p.a = _; rw [upd_ne n.a4]; exact e⟩, ⟨us, by show upd H p.lo _ p.st = _; rw [upd_ne n.s3]; exact e1, StepsAt.keep (fun q => h.tups' hb q) _ _ e2⟩, by show upd H p.lo _ p.ro = _; rw [upd_ne n.r2]; exact h.rows, by show upd H p.lo _ p.ma = _; rw [upd_ne n.m1]; exact h.many,
    ⟨upd_same, LooksAt.keep _ _ (fun a ha o q => by rw [upd_ne (hf a ha).2.2.2.2.2]; exact q) hl⟩, ?_, ?_, h.same' hb, h.low⟩
  · have no : ∀ {x : Addr}, (∀ q ∈ as, q ≠ x) → x ∉ as := fun k hx => k _ hx rfl
    simp only [At.all, List.nodup_cons, List.mem_cons, not_or]
    exact ⟨⟨n.a1, n.a2, n.a3, n.a4, no fun q hq => (hf q hq).2.1⟩, ⟨n.s1, n.s2, n.s3, no fun q hq => (hf q hq).2.2.1⟩, ⟨n.r1, n.r2, no fun q hq => (hf q hq).2.2.2.1⟩, ⟨n.m1, no fun q hq => (hf q hq).2.2.2.2.1⟩, no fun q hq => (hf q hq).2.2.2.2.2, hn⟩
  · intro b hb
    simp only [At.all, List.mem_cons] at hb
    rcases hb with rfl | rfl | rfl | rfl | rfl | hb
    · exact fr _ (by simp)
    · exact fr _ (by simp)
    · exact fr _ (by simp)
    · exact fr _ (by simp)
    · exact fr _ (by simp)
    · exact (hf b hb).1
/-- the last looks' list grows -/
theorem ScAt.lastLook (h : ScAt C H0 H p s) {ls : List (List Nat)} {l l' : List Nat} {us : List Addr} {q : Addr} (e : s.looks = ls ++ [l]) (el : p.lk = us ++ [q]) (hu : LooksAt H us ls) :
    ScAt C H0 (upd H q (.lst (iV l'))) p { s with looks := ls ++ [l'] } := by
  have n := ne_of_nd h.nd
  obtain ⟨dx, e0⟩ := h.ins
  obtain ⟨ss, e1, e2⟩ := h.steps
  have hq : q ∈ p.lk := by rw [el]; simp
  have hb : q ∈ p.all := by simp [At.all, hq]
  have nq : ∀ a ∈ us, a ≠ q := by
    intro a ha z
    have := n.nd
    rw [el] at this
    exact (List.nodup_append.mp this).2.2 a ha q (by simp) z
  refine ⟨⟨dx, by rw [upd_ne (n.l0 q hq).symm]; exact e0⟩, ⟨ss, by rw [upd_ne (n.l1 q hq).symm]; exact e1, StepsAt.keep (fun q => h.tups' hb q) _ _ e2⟩, by rw [upd_ne (n.l2 q hq).symm]; exact h.rows, by rw [upd_ne (n.l3 q hq).symm]; exact h.many,
    ⟨by rw [upd_ne (n.l4 q hq).symm]; exact h.looks.1, ?_⟩, h.nd, h.fresh, h.same' hb, h.low⟩
  rw [el]
  exact LooksAt.snoc upd_same _ _ (LooksAt.keep _ _ (fun a ha o k => by rw [upd_ne (nq a ha)]; exact k) hu)
end
/-! ### a method of the scanner -/
structure ScOk (P : Program) (w : World) (K : PySem.W.Frag) (mg : Str → Option Value) (base : Heap) (C : Addr) (n : Nat) (m : Str) (ps : List Str) (sp : Sp) : Prop where
  cl : Cls K C
  ex : ∃ (f : Addr) (fd : FuncData), FnOk P w K mg base CX0 n f fd ps sp ∧ Meth K C m f ∧ Binds K fd ps []
section
variable {X : Cx} {C : Addr} {n : Nat} {sp : Sp} {m : Str} {ps : List Str} {o e : Expr} {es : List Expr} {ta : TE} {t : TA} {apos pos : Pos}
theorem pe_methS {pl : Sem Bool} (G : ScOk X.prog X.w X.K X.mg X.base C n m ps sp) (hr : Room n X.A) (he : PE X o ta) (ha : PA X (e :: es) t)
    (hst : starEach (e :: es) X.env = (false, eval e X.env) :: starEach es X.env := by rfl) (hpl : (backTo pos (starEach es X.env)).any (·.1) = false := by rfl)
    (ht : eval (.Call (.Attribute o m apos) (e :: es) [] pos) X.env = (do
      let ov ← eval o X.env
      standAt apos.atName
      let (f, first) ← holding [ov] (getMethod ov m pl)
      callWith pos f first (backTo pos (starEach (e :: es) X.env)) (backToKw pos (keywordEach [] X.env))) := by rfl) :
    PE X (.Call (.Attribute o m apos) (e :: es) [] pos) (tMeth C m sp [] E0 ta t) := by
  obtain ⟨f, fd, F, hm, hb⟩ := G.ex
  exact pe_meth he G.cl hm F hr hb .nil pass0 ha hst hpl ht
theorem pe_methS0 {pl : Sem Bool} (G : ScOk X.prog X.w X.K X.mg X.base C n m ps sp) (hr : Room n X.A) (he : PE X o ta)
    (ht : eval (.Call (.Attribute o m apos) [] [] pos) X.env = (do
      let ov ← eval o X.env
      standAt apos.atName
      let (f, first) ← holding [ov] (getMethod ov m pl)
      callWith pos f first (backTo pos (starEach [] X.env)) (backToKw pos (keywordEach [] X.env))) := by rfl) :
    PE X (.Call (.Attribute o m apos) [] [] pos) (tMeth C m sp [] E0 ta tNil) := by
  obtain ⟨f, fd, F, hm, hb⟩ := G.ex
  exact pe_meth0 he G.cl hm F hr hb .nil pass0 ht
/-- xs[i] of a list, for an augmented one -/
def rGetL (K : PySem.W.Frag) : V → V → Hp → VK → Prop := fun o i H Q => ∃ p xs k z, o = .ref p ∧ i = .int k ∧ SqL K H p xs ∧ atI xs k = some z ∧ Q z H
theorem get_list : PGet X (rGetL X.K) := by
  intro pins s σ H x y v u Q I rx ry h
  obtain ⟨p, xs, i, z, rfl, rfl, hq, he, q⟩ := h
  cases rx
  obtain ⟨t, rfl⟩ := ry
  obtain ⟨its, r, pl, hz⟩ := I.list hq
  obtain ⟨j, h1, h2, h3, h4, h5⟩ := atI_get he
  obtain ⟨w, ew, rw'⟩ := r.get h2
  have hl := r.length
  have hn := line63
  have fin : EP X pins σ Q w s := ⟨z, H, I, rw', q⟩
  by_cases h0 : 0 ≤ i
  · have hj : i.toNat = j := by
      rw [seqIndex_of h0 h5] at h1
      exact Option.some.inj h1
    exact wpAny_getItem_list pl.isList h0 (by omega) (by rw [hj]; simpa using ew) fin
  · have hj : (i + (its.toArray.size : Int)).toNat = j := by
      rw [seqIndex_neg (by omega) h4] at h1
      rw [List.size_toArray, ← hl]
      exact Option.some.inj h1
    exact wpAny_getItem_list_neg pl.isList (by omega) (by rw [List.size_toArray] <;> omega) (by omega) (by rw [hj]; simpa using ew) fin
end
end Ws
namespace Ws
open PySem PySem.Spec PyProof.Rows L2 Wv
/-! ### the scanner's methods, one by one -/
theorem while_m {c : TT} {tb : TS} {D : Ends} {σ : L2.St} {H : Hp} (Pv : Nat → L2.St → Hp → Prop) (m : Nat) (h0 : Pv m σ H)
    (hs : ∀ m σ H, Pv m σ H → c σ H fun b H1 => if b = true then tb { D with nx := fun σ' H' => ∃ m', m' < m ∧ Pv m' σ' H', ct := fun σ' H' => ∃ m', m' < m ∧ Pv m' σ' H', bk := D.nx } σ H1 else D.nx σ H1)
    (mono : ∀ σ H Q Q', (∀ b H1, Q b H1 → Q' b H1) → c σ H Q → c σ H Q') : tWhile c tb D σ H := by
  refine ⟨Pv, ⟨m, h0⟩, fun m σ H p => mono σ H _ _ (fun b H1 q => ?_) (hs m σ H p)⟩
  cases b with
  | true => exact ⟨_, fun _ _ h => h, q⟩
  | false => exact q
def SA (C : Addr) (H0 H : Hp) (a : Addr) (s : Sc) : Prop := ∃ p : At, p.a = a ∧ ScAt C H0 H p s
theorem cut1 (z : List Nat) (i : Nat) : cutS (tx z) (some ((i : Nat) : Int)) (some ((i : Int) + 1)) = sgn z[i]? := by
  unfold cutS
  have e : ((i : Int) + 1) = ((i + 1 : Nat) : Int) := by omega
  rw [e, HT.sIx_nat, HT.sIx_nat]
  have hl : (tx z).length = z.length := by simp [Str.length, tx]
  rw [hl]
  have ez : (tx z).cps.toList = z := by simp [tx]
  rw [ez]
  by_cases h : i < z.length
  · rw [Nat.min_eq_left (by omega), Nat.min_eq_left (by omega), show i + 1 - i = 1 by omega, List.getElem?_eq_getElem h, List.drop_eq_getElem_cons h]
    rfl
  · rw [Nat.min_eq_right (by omega), Nat.min_eq_right (by omega), List.getElem?_eq_none (by omega), Nat.sub_self]
    rfl
theorem sgn_eq (o : Option Nat) (c : Nat) : decide (V.str (sgn o) = V.str (sg c)) = decide (o = some c) := by
  cases o with
  | none =>
    rw [decide_eq_false (fun h => by have := V.str.inj h; revert this; show ¬ (Str.ofString "" = sg c); intro h; have := congrArg (fun s => s.cps.size) h; revert this; show ¬ ((Str.ofString "").cps.size = 1); decide +kernel), decide_eq_false (fun h => by cases h)]
  | some d =>
    by_cases h : d = c
    · subst h; exact (decide_eq_true rfl).trans (decide_eq_true rfl).symm
    · rw [decide_eq_false (fun e => h (by have := V.str.inj e; have := congrArg (fun s => s.cps[0]?) this; simpa [sgn, sg] using this)), decide_eq_false (fun e => h (Option.some.inj e))]
theorem sgn_nil (o : Option Nat) : decide (V.str (sgn o) = V.str (Str.ofString "")) = decide (o = none) := by
  cases o with
  | none => exact (decide_eq_true rfl).trans (decide_eq_true rfl).symm
  | some d =>
    rw [decide_eq_false (fun h => by have := V.str.inj h; revert this; show ¬ (sg d = Str.ofString ""); intro h; have := congrArg (fun s => s.cps.size) h; revert this; show ¬ (1 = (Str.ofString "").cps.size); decide +kernel), decide_eq_false (fun h => by cases h)]
theorem c32 : Str.ofString " " = sg 32 := by decide +kernel
theorem c40 : Str.ofString "(" = sg 40 := by decide +kernel
theorem c41 : Str.ofString ")" = sg 41 := by decide +kernel
theorem c42 : Str.ofString "*" = sg 42 := by decide +kernel
theorem c63 : Str.ofString "?" = sg 63 := by decide +kernel
theorem c38 : Str.ofString "&" = sg 38 := by decide +kernel
theorem c33 : Str.ofString "!" = sg 33 := by decide +kernel
theorem c46 : Str.ofString "." = sg 46 := by decide +kernel
theorem c60 : Str.ofString "<" = sg 60 := by decide +kernel
theorem c62 : Str.ofString ">" = sg 62 := by decide +kernel
theorem c47 : Str.ofString "/" = sg 47 := by decide +kernel
def isL : Option Nat → Bool
  | some c => decide (97 ≤ c) && decide (c ≤ 122)
  | none => false
def spHere (C : Addr) : Sp := fun vs H Q _ => ∃ (a : Addr) (H0 : Hp) (s : Sc), vs = [.ref a] ∧ SA C H0 H a s ∧ Q (.str (sgn s.cur)) H
def spSign (C : Addr) : Sp := fun vs H Q _ => ∃ (a : Addr) (H0 : Hp) (s : Sc), vs = [.ref a] ∧ SA C H0 H a s ∧ ∀ H', SA C H0 H' a s.skip → Q (.str (sgn s.skip.cur)) H'
def spIsL : Sp := fun vs H Q _ => ∃ (o : Option Nat), vs = [.str (sgn o)] ∧ Q (.bl (isL o)) H
theorem zA : (Str.ofString "a").cps.toList = [97] := by decide +kernel
theorem zZ : (Str.ofString "z").cps.toList = [122] := by decide +kernel
theorem zE : (Str.ofString "").cps.toList = [] := by decide +kernel
theorem sgnL (o : Option Nat) : (sgn o).cps.toList = o.toList := by
  cases o with
  | none => exact zE
  | some c => rfl
theorem isL1 (o : Option Nat) : (!decide ((sgn o).cps.toList < (Str.ofString "a").cps.toList)) = (match o with | some c => decide (97 ≤ c) | none => false) := by
  rw [sgnL, zA]
  cases o with
  | none => rw [decide_eq_true (by simp)]; rfl
  | some c =>
    have e : ([c] < [97]) ↔ c < 97 := by simp [List.cons_lt_cons_iff]
    show (!decide ([c] < [97])) = decide (97 ≤ c)
    by_cases h : 97 ≤ c
    · rw [decide_eq_false (fun q => by have := e.mp q; omega), decide_eq_true h]; rfl
    · rw [decide_eq_true (e.mpr (by omega)), decide_eq_false h]; rfl
theorem isL2 (o : Option Nat) : (!decide ((Str.ofString "z").cps.toList < (sgn o).cps.toList)) = (match o with | some c => decide (c ≤ 122) | none => true) := by
  rw [sgnL, zZ]
  cases o with
  | none => rw [decide_eq_false (by simp)]; rfl
  | some c =>
    have e : ([122] < [c]) ↔ 122 < c := by simp [List.cons_lt_cons_iff]
    show (!decide ([122] < [c])) = decide (c ≤ 122)
    by_cases h : c ≤ 122
    · rw [decide_eq_false (fun q => by have := e.mp q; omega), decide_eq_true h]; rfl
    · rw [decide_eq_true (e.mpr (by omega)), decide_eq_false h]; rfl
theorem blanks_drop : ∀ l : List Nat, blanks (l.drop (blanks l)) = 0
  | [] => rfl
  | c :: r => by
    by_cases h : c = 32
    · have e : blanks (c :: r) = blanks r + 1 := if_pos h
      rw [e, List.drop_succ_cons]
      exact blanks_drop r
    · have e : blanks (c :: r) = 0 := if_neg h
      rw [e, List.drop_zero, e]
theorem Sc.skip_skip (s : Sc) : s.skip.skip = s.skip := by
  have h : blanks (s.z.drop (s.pl + blanks (s.z.drop s.pl))) = 0 := by rw [← List.drop_drop]; exact blanks_drop _
  show ({ s with pl := s.pl + blanks (s.z.drop s.pl) + blanks (s.z.drop (s.pl + blanks (s.z.drop s.pl))) } : Sc) = _
  rw [h]
  rfl
theorem Sc.skip_at (s : Sc) (h : s.cur = some 32) : s.go.skip = s.skip := by
  have h' : s.z[s.pl]? = some 32 := h
  obtain ⟨hl, e⟩ := List.getElem?_eq_some_iff.mp h'
  have e2 : s.z.drop s.pl = 32 :: s.z.drop (s.pl + 1) := by rw [List.drop_eq_getElem_cons hl, e]
  show ({ s with pl := s.pl + 1 + blanks (s.z.drop (s.pl + 1)) } : Sc) = { s with pl := s.pl + blanks (s.z.drop s.pl) }
  rw [e2]
  show _ = ({ s with pl := s.pl + (if (32 : Nat) = 32 then blanks (s.z.drop (s.pl + 1)) + 1 else 0) } : Sc)
  rw [if_pos rfl]
  congr 1
  omega
theorem Sc.skip_no (s : Sc) (h : s.cur ≠ some 32) : s.skip = s := by
  have e : blanks (s.z.drop s.pl) = 0 := by
    cases q : s.z.drop s.pl with
    | nil => rfl
    | cons c r =>
      have hc : s.z[s.pl]? = some c := by
        have : (s.z.drop s.pl)[0]? = some c := by rw [q]; rfl
        rw [List.getElem?_drop] at this
        simpa using this
      have : c ≠ 32 := fun e => h (by show s.z[s.pl]? = _; rw [hc, e])
      exact if_neg this
  show ({ s with pl := s.pl + blanks (s.z.drop s.pl) } : Sc) = s
  rw [e]
  rfl
theorem Sc.cur_lt {s : Sc} {c : Nat} (h : s.cur = some c) : s.pl < s.z.length := (List.getElem?_eq_some_iff.mp h).1
theorem blanks_le : ∀ l : List Nat, blanks l ≤ l.length
  | [] => Nat.le_refl _
  | c :: r => by
    have := blanks_le r
    show (if c = 32 then blanks r + 1 else 0) ≤ r.length + 1
    by_cases h : c = 32
    · rw [if_pos h]; omega
    · rw [if_neg h]; omega
theorem Sc.skip_le (s : Sc) (h : s.pl ≤ s.z.length) : s.skip.pl ≤ s.z.length := by
  have := blanks_le (s.z.drop s.pl)
  rw [List.length_drop] at this
  show s.pl + blanks (s.z.drop s.pl) ≤ _
  omega
section
variable {P : Program} {w : World} {K : PySem.W.Frag} {mg : Str → Option Value} {base : Heap} {C : Addr}
abbrev s_is_letter : Stmt := top 16
theorem sc_is_letter : FnScope ["sign"] ["sign"] (defScope s_is_letter) := ⟨rfl, rfl, rfl, by decide +kernel, rfl, by decide +kernel, by decide +kernel⟩
theorem d_is_letter (h : Here K mg "is_letter" s_is_letter ["sign"]) : DefOk P w K mg base 1 "is_letter" ["sign"] spIsL := by
  refine h.ok sc_is_letter (fun vs H Q E h => by obtain ⟨o, rfl, _⟩ := h; rfl) (fun f cdv A outer s' H vs Q E hr h => ?_)
  obtain ⟨o, rfl, k⟩ := h
  refine ⟨_, (pss_one (ps_ret (pe_chain op_le_str op_le_str pe_str (pv 0) pe_str))), ?_⟩
  walk_at "rd"
  rw [isL1]
  cases o with
  | none => exact iteF k
  | some c =>
    refine ite2 (fun e => ?_) (fun e => ?_)
    · walk_at "rd"
      rw [isL2]
      have e1 : decide (97 ≤ c) = true := e
      have k' : Q (.bl (decide (97 ≤ c) && decide (c ≤ 122))) H := k
      rw [e1, Bool.true_and] at k'
      exact k'
    · have e1 : decide (97 ≤ c) = false := by simpa using e
      have k' : Q (.bl (decide (97 ≤ c) && decide (c ≤ 122))) H := k
      rw [e1, Bool.false_and] at k'
      exact k'
abbrev s_Scan_sign_here : Stmt := inClass (top 17) 1
theorem sc_Scan_sign_here : FnScope ["self"] ["self"] (defScope s_Scan_sign_here) := ⟨rfl, rfl, rfl, by decide +kernel, rfl, by decide +kernel, by decide +kernel⟩
theorem ok_sign_here {f : Addr} {fd : FuncData} (F : Fun K "sign_here" "Scan.sign_here" s_Scan_sign_here f fd) (T : ScF K C) : FnOk P w K mg base CX0 1 f fd ["self"] (spHere C) := by
  refine F.ok sc_Scan_sign_here (fun vs H Q E h => by obtain ⟨a, _, _, rfl, _⟩ := h; rfl) (fun cdv A outer s' H vs Q E hr h => ?_)
  obtain ⟨a, H0, s, rfl, ⟨p, rfl, h⟩, k⟩ := h
  refine ⟨_, (pss_one (ps_ret (pe_slice sl_str (pe_fld (pv 0) rfl) (po_some (pe_fld (pv 0) rfl)) (po_some (pe_op op_add (pe_fld (pv 0) rfl) pe_int))))), ?_⟩
  obtain ⟨dx, e⟩ := h.ins
  refine ⟨_, rfl, p.a, C, dx, _, _, rfl, e, T.cl, T.n1, rfl, ?_⟩
  refine ⟨_, rfl, p.a, C, dx, _, _, rfl, e, T.cl, T.n3, rfl, ?_⟩
  refine ⟨_, rfl, _, rfl, p.a, C, dx, _, _, rfl, e, T.cl, T.n3, rfl, ?_⟩
  refine ⟨_, _, rfl, rfl, _, rfl, _, rfl, ?_, ?_⟩
  · have hl : (tx s.z).length = s.z.length := by simp [Str.length, tx]
    rw [hl]
    exact Nat.le_of_lt (small' (by have := h.low.1; omega))
  · rw [cut1]
    exact k
/-- what a changed place leaves -/
theorem SA.put {H0 H : Hp} {p : At} {s : Sc} (h : ScAt C H0 H p s) (n : Nat) (hn : n ≤ s.z.length) {dx : Addr} {fs : List (Str × V)} (e : fs = p.fs { s with pl := n }) : ScAt C H0 (upd H p.a (.ins C dx fs)) p { s with pl := n } := by
  rw [e]; exact h.place n hn
abbrev s_Scan_sign : Stmt := inClass (top 17) 2
theorem sc_Scan_sign : FnScope ["self"] ["self"] (defScope s_Scan_sign) := ⟨rfl, rfl, rfl, by decide +kernel, rfl, by decide +kernel, by decide +kernel⟩
theorem ok_sign {f : Addr} {fd : FuncData} (F : Fun K "sign" "Scan.sign" s_Scan_sign f fd) (T : ScF K C) (G_sign_here : ScOk P w K mg base C 1 "sign_here" ["self"] (spHere C)) : FnOk P w K mg base CX0 2 f fd ["self"] (spSign C) := by
  refine F.ok sc_Scan_sign (fun vs H Q E h => by obtain ⟨a, _, _, rfl, _⟩ := h; rfl) (fun cdv A outer s' H vs Q E hr h => ?_)
  obtain ⟨a, H0, s, rfl, ⟨p, rfl, h⟩, k⟩ := h
  refine ⟨_, (pss_cons (ps_while PassesOwn.never (pt_cmpR op_eq (pe_methS0 G_sign_here (hr.mono (by first | decide | omega)) (pv 0)) pe_str (nomark _)) (pss_one (ps_fldaug (pv 0) pe_int in_add)))
  (pss_one (ps_ret (pe_methS0 G_sign_here (hr.mono (by first | decide | omega)) (pv 0))))), ?_⟩
  refine while_m (fun m σ H' => ∃ s1 : Sc, σ = [some (.ref p.a)] ∧ ScAt C H0 H' p s1 ∧ s1.skip = s.skip ∧ m = s1.z.length - s1.pl) (s.z.length - s.pl) ?_ ?_ ?_
  · exact ⟨s, rfl, h, rfl, rfl⟩
  · rintro m σ H1 ⟨s1, rfl, h1, e1, rfl⟩
    obtain ⟨dx, e⟩ := h1.ins
    refine ⟨_, rfl, p.a, dx, _, rfl, e, rfl, p.a, H0, s1, rfl, ⟨p, rfl, h1⟩, rfl, _, rfl, ?_⟩
    rw [c32, sgn_eq]
    refine ite2 (fun t => ?_) (fun t => ?_)
    · have t : s1.cur = some 32 := of_decide_eq_true t
      have hl := Sc.cur_lt t
      refine ⟨_, rfl, p.a, C, dx, _, _, rfl, e, T.cl, T.n3, rfl, _, _, rfl, rfl, dx, _, e, by show 7 < 1000; decide, ?_⟩
      have h2 := SA.put (dx := dx) (fs := putF (Str.ofString "place") (.int ((s1.pl : Int) + 1)) (p.fs s1)) h1 (s1.pl + 1) (by omega) (by rfl)
      exact ⟨s1.z.length - (s1.pl + 1), by omega, s1.go, rfl, h2, (Sc.skip_at s1 t).trans e1, rfl⟩
    · have t : s1.cur ≠ some 32 := fun q => t (decide_eq_true q)
      have e2 := Sc.skip_no s1 t
      rw [e2] at e1
      subst e1
      walk_at "nx"
      refine ⟨_, rfl, p.a, dx, _, rfl, e, rfl, p.a, H0, _, rfl, ⟨p, rfl, h1⟩, k H1 ⟨p, rfl, h1⟩⟩
  · rintro σ H Q Q' hq ⟨x, ex, b, dx, fs, eb, hb, hl, a, H0, s1, ev, hs, sc, b', eb', q⟩
    exact ⟨x, ex, b, dx, fs, eb, hb, hl, a, H0, s1, ev, hs, sc, b', eb', hq _ _ q⟩
end
end Ws
namespace Ws
open PySem PySem.Spec PyProof.Rows L2 Wv
/-! ### brackets, rows and choices of the scanner -/
theorem last_get {α : Type} (us : List α) (u : α) : (us ++ [u])[(us ++ [u]).length - 1]? = some u := by
  rw [List.length_append, List.length_singleton, Nat.add_sub_cancel, List.getElem?_append_right (Nat.le_refl _), Nat.sub_self]; rfl
def lastD (l : List Nat) : Nat := l.getLast?.getD 0
def setLast {α : Type} (l : List α) (v : α) : List α := l.dropLast ++ [v]
theorem lastD_snoc (l : List Nat) (v : Nat) : lastD (l ++ [v]) = v := by simp [lastD]
theorem setLast_snoc {α : Type} (l : List α) (v u : α) : setLast (l ++ [v]) u = l ++ [u] := by simp [setLast]
theorem snoc_of {α : Type} {l : List α} (h : l ≠ []) : ∃ a v, l = a ++ [v] := by
  rcases List.eq_nil_or_concat l with e | ⟨a, v, e⟩
  · exact absurd e h
  · exact ⟨a, v, by rw [e]; simp⟩
theorem iV_snoc (l : List Nat) (v : Nat) : iV (l ++ [v]) = iV l ++ [.int (v : Nat)] := by simp [iV]
theorem at_last (l : List V) (v : V) : atI (l ++ [v]) (-1) = some v := by
  unfold atI ixN
  rw [if_neg (by decide), if_pos (by simp; omega), Option.bind_some]
  have e : ((-1 : Int) + ((l ++ [v]).length : Nat)).toNat = l.length := by simp; omega
  rw [e, List.getElem?_append_right (Nat.le_refl _), Nat.sub_self]
  rfl
theorem ix_last (l : List V) (v : V) : ixN (l ++ [v]).length (-1) = some l.length := by
  unfold ixN
  rw [if_neg (by decide), if_pos (by simp; omega)]
  congr 1
  simp; omega
theorem set_last (l : List V) (v u : V) : (l ++ [v]).set l.length u = l ++ [u] := by
  rw [List.set_append_right _ _ (Nat.le_refl _), Nat.sub_self]; rfl
def Sc.add (s : Sc) (k : Nat) (x : Str) (n : Nat) : Sc := { s with steps := s.steps ++ [(k, x, n)] }
def eS : Str := Str.ofString ""
def Sc.enter (s : Sc) : Sc := { s with rows := s.rows ++ [0], many := s.many ++ [0], looks := s.looks ++ [[]] }
def Sc.leave (s : Sc) : Sc := { s with rows := s.rows.dropLast, many := s.many.dropLast, looks := s.looks.dropLast }
def Sc.row1 (s : Sc) : Sc := if 1 < lastD s.many then s.add 3 eS (lastD s.many) else s
def Sc.endRow (s : Sc) : Sc := { s.row1 with many := setLast s.row1.many 0, rows := setLast s.row1.rows (lastD s.row1.rows + 1) }
def Sc.endChoice (s : Sc) : Sc := if 1 < lastD s.endRow.rows then s.endRow.add 4 eS (lastD s.endRow.rows) else s.endRow
theorem st_cut {X Y : TS} {D : Ends} {σ : L2.St} {H : Hp} (Cn : L2.St → Hp → Prop) (h1 : ∀ nx', (∀ σ' H', Cn σ' H' → nx' σ' H') → X { D with nx := nx' } σ H) (h2 : ∀ σ' H', Cn σ' H' → Y D σ' H') : tSeq X Y D σ H := h1 _ h2
structure Kc (mg : Str → Option Value) : Prop where
  k0 : ∃ t, mg "LETTER" = some (.int 0 t)
  k1 : ∃ t, mg "ONE" = some (.int 1 t)
  k2 : ∃ t, mg "NOTHING" = some (.int 2 t)
  k3 : ∃ t, mg "ROW" = some (.int 3 t)
  k4 : ∃ t, mg "CHOICE" = some (.int 4 t)
  k5 : ∃ t, mg "AGAIN" = some (.int 5 t)
  k6 : ∃ t, mg "MAYBE" = some (.int 6 t)
  k7 : ∃ t, mg "AHEAD" = some (.int 7 t)
  k8 : ∃ t, mg "UNLESS" = some (.int 8 t)
  k9 : ∃ t, mg "CALL" = some (.int 9 t)
  kN : ∃ t, mg "LONGEST_NAME" = some (.int 12 t)
structure Sc.Ok (s : Sc) : Prop where
  r : s.rows ≠ []
  m : s.many ≠ []
  l : s.looks ≠ []
  z : s.size ≤ 600000
def spTo (C : Addr) (f : Sc → Sc) : Sp := fun vs H Q _ => ∃ (a : Addr) (H0 : Hp) (s : Sc), vs = [.ref a] ∧ SA C H0 H a s ∧ s.Ok ∧ ∀ H', SA C H0 H' a (f s) → Q .non H'
theorem size_steps (s : Sc) : s.steps.length ≤ s.size := by unfold Sc.size; omega
theorem size_rows (s : Sc) : s.rows.length ≤ s.size := by unfold Sc.size; omega
theorem size_many (s : Sc) : s.many.length ≤ s.size := by unfold Sc.size; omega
theorem size_looks (s : Sc) : s.looks.length ≤ s.size := by unfold Sc.size; omega
/-- a step is told: the tuple, and the list -/
theorem add_step {C : Addr} {H0 H : Hp} {p : At} {s : Sc} (h : ScAt C H0 H p s) (hz : s.steps.length ≤ 900000) (k : Nat) (x : Str) (n : Nat) {r : Addr} (hr : H r = none) :
    ∃ vs, (upd H r (.tup [.int (k : Nat), .str x, .int (n : Nat)])) p.st = some (.lst vs) ∧ vs.length < sizeLine ∧ ScAt C H0 (upd (upd H r (.tup [.int (k : Nat), .str x, .int (n : Nat)])) p.st (.lst (vs ++ [.ref r]))) p (s.add k x n) := by
  have h1 := h.of_same (Same.new hr (.tup [.int (k : Nat), .str x, .int (n : Nat)]))
  obtain ⟨vs, e1, e2⟩ := h1.steps
  have hl := StepsAt.len _ _ e2
  exact ⟨vs, e1, small' (by omega), h1.step (x := (k, x, n)) e1 upd_same⟩
section
variable {P : Program} {w : World} {K : PySem.W.Frag} {mg : Str → Option Value} {base : Heap} {C : Addr}
abbrev s_Scan_enter_bracket : Stmt := inClass (top 17) 12
theorem sc_Scan_enter_bracket : FnScope ["self"] ["self"] (defScope s_Scan_enter_bracket) := ⟨rfl, rfl, rfl, by decide +kernel, rfl, by decide +kernel, by decide +kernel⟩
theorem ok_enter {f : Addr} {fd : FuncData} (F : Fun K "enter_bracket" "Scan.enter_bracket" s_Scan_enter_bracket f fd) (T : ScF K C) : FnOk P w K mg base CX0 1 f fd ["self"] (spTo C Sc.enter) := by
  refine F.ok sc_Scan_enter_bracket (fun vs H Q E h => by obtain ⟨a, _, _, rfl, _⟩ := h; rfl) (fun cdv A outer s' H vs Q E hr h => ?_)
  obtain ⟨a, H0, s, rfl, ⟨p, rfl, h⟩, ok, k⟩ := h
  refine ⟨_, (pss_cons (ps_expr (pe_bm PySem.F.plainAttrs_list PySem.F.slot_list_append PySem.F.type_list_append mt_append (pe_fld (pv 0) rfl) (pa_cons pe_int pa_nil)))
  (pss_cons (ps_expr (pe_bm PySem.F.plainAttrs_list PySem.F.slot_list_append PySem.F.type_list_append mt_append (pe_fld (pv 0) rfl) (pa_cons pe_int pa_nil)))
  (pss_one (ps_expr (pe_bm PySem.F.plainAttrs_list PySem.F.slot_list_append PySem.F.type_list_append mt_append (pe_fld (pv 0) rfl) (pa_cons (pe_lst pa_nil) pa_nil)))))), ?_⟩
  obtain ⟨dx, e⟩ := h.ins
  have hz := ok.z
  have z1 := size_rows s
  have z2 := size_many s
  have z3 := size_looks s
  refine ⟨_, rfl, p.a, C, dx, _, _, rfl, e, T.cl, T.n5, rfl, .inl ⟨rfl, _, SqL.of h.rows⟩, p.ro, _, _, rfl, rfl, h.rows, small' (by simp [iV]; omega), ?_⟩
  have h1 := h.setRows (s.rows ++ [0])
  rw [iV_snoc] at h1
  walk_at "nx"
  obtain ⟨dx1, e1⟩ := h1.ins
  refine ⟨_, rfl, p.a, C, dx1, _, _, rfl, e1, T.cl, T.n6, rfl, .inl ⟨rfl, _, SqL.of h1.many⟩, p.ma, _, _, rfl, rfl, h1.many, small' (by simp [iV]; omega), ?_⟩
  have h2 := h1.setMany (s.many ++ [0])
  rw [iV_snoc] at h2
  walk_at "nx"
  obtain ⟨dx2, e2⟩ := h2.ins
  refine ⟨_, rfl, p.a, C, dx2, _, _, rfl, e2, T.cl, T.n7, rfl, .inl ⟨rfl, _, SqL.of h2.looks.1⟩, Nat.zero_le _, fun q hq => ?_⟩
  have s3 := Same.new hq (.lst [])
  have h3 := h2.of_same s3
  have ll := LooksAt.len _ _ h2.looks.2
  obtain ⟨nd, fr⟩ := h2.newLook hq (fun _ ha => ha) (ne_of_nd h2.nd).nd
  have h4 := h3.setLooks (p.lk ++ [q]) (s.looks ++ [[]]) (LooksAt.snoc (q := q) (l := []) (show _ = some (HO.lst (iV [])) from upd_same) _ _ h3.looks.2) nd fr
  rw [List.map_append] at h4
  refine ⟨p.lo, _, _, rfl, rfl, h3.looks.1, small' (by rw [List.length_map, ll]; show s.looks.length ≤ _; omega), ?_⟩
  exact k _ ⟨{ p with lk := p.lk ++ [q] }, rfl, h4⟩
theorem drop_map {α β : Type} (f : α → β) (l : List α) : (l.map f).dropLast = l.dropLast.map f := by
  induction l with
  | nil => rfl
  | cons x l ih =>
    cases l with
    | nil => rfl
    | cons y l =>
      show f x :: ((y :: l).map f).dropLast = f x :: ((y :: l).dropLast).map f
      rw [ih]
abbrev s_Scan_leave_bracket : Stmt := inClass (top 17) 13
theorem sc_Scan_leave_bracket : FnScope ["self"] ["self"] (defScope s_Scan_leave_bracket) := ⟨rfl, rfl, rfl, by decide +kernel, rfl, by decide +kernel, by decide +kernel⟩
theorem ok_leave {f : Addr} {fd : FuncData} (F : Fun K "leave_bracket" "Scan.leave_bracket" s_Scan_leave_bracket f fd) (T : ScF K C) : FnOk P w K mg base CX0 1 f fd ["self"] (spTo C Sc.leave) := by
  refine F.ok sc_Scan_leave_bracket (fun vs H Q E h => by obtain ⟨a, _, _, rfl, _⟩ := h; rfl) (fun cdv A outer s' H vs Q E hr h => ?_)
  obtain ⟨a, H0, s, rfl, ⟨p, rfl, h⟩, ok, k⟩ := h
  refine ⟨_, (pss_cons (ps_expr (pe_bm0 PySem.F.plainAttrs_list PySem.F.slot_list_pop PySem.F.type_list_pop mt_pop (pe_fld (pv 0) rfl)))
  (pss_cons (ps_expr (pe_bm0 PySem.F.plainAttrs_list PySem.F.slot_list_pop PySem.F.type_list_pop mt_pop (pe_fld (pv 0) rfl)))
  (pss_one (ps_expr (pe_bm0 PySem.F.plainAttrs_list PySem.F.slot_list_pop PySem.F.type_list_pop mt_pop (pe_fld (pv 0) rfl)))))), ?_⟩
  obtain ⟨dx, e⟩ := h.ins
  obtain ⟨rs, r, er⟩ := snoc_of ok.r
  obtain ⟨ms, m, em⟩ := snoc_of ok.m
  obtain ⟨ls, l, el⟩ := snoc_of ok.l
  have hr' := h.rows
  rw [er, iV_snoc] at hr'
  refine ⟨_, rfl, p.a, C, dx, _, _, rfl, e, T.cl, T.n5, rfl, .inl ⟨rfl, _, SqL.of hr'⟩, p.ro, _, _, rfl, rfl, hr', last_get _ _, ?_⟩
  have h1 := h.setRows rs
  rw [List.dropLast_concat]
  walk_at "nx"
  obtain ⟨dx1, e1⟩ := h1.ins
  have hm' := h1.many
  rw [show ({ s with rows := rs } : Sc).many = ms ++ [m] from em, iV_snoc] at hm'
  refine ⟨_, rfl, p.a, C, dx1, _, _, rfl, e1, T.cl, T.n6, rfl, .inl ⟨rfl, _, SqL.of hm'⟩, p.ma, _, _, rfl, rfl, hm', last_get _ _, ?_⟩
  have h2 := h1.setMany ms
  rw [List.dropLast_concat]
  walk_at "nx"
  obtain ⟨dx2, e2⟩ := h2.ins
  have hl2 := h2.looks.2
  rw [show ({ s with rows := rs, many := ms } : Sc).looks = ls ++ [l] from el] at hl2
  obtain ⟨us, q, eu, hu, hq⟩ := LooksAt.split _ _ _ hl2
  have hl' := h2.looks.1
  rw [eu, List.map_append] at hl'
  refine ⟨_, rfl, p.a, C, dx2, _, _, rfl, e2, T.cl, T.n7, rfl, .inl ⟨rfl, _, SqL.of hl'⟩, p.lo, _, _, rfl, rfl, hl', last_get _ _, ?_⟩
  rw [show List.map V.ref [q] = [V.ref q] from rfl, List.dropLast_concat]
  have sub : ∀ a ∈ us, a ∈ p.lk := fun a ha => by rw [eu]; simp [ha]
  have n := ne_of_nd h2.nd
  have h3 := h2.setLooks us ls hu (List.Nodup.sublist (by rw [eu]; exact List.sublist_append_left _ _) n.nd) (fun a ha => ⟨h2.fresh a (by simp [At.all, sub a ha]), n.l0 a (sub a ha), n.l1 a (sub a ha), n.l2 a (sub a ha), n.l3 a (sub a ha), n.l4 a (sub a ha)⟩)
  walk_at "nx"
  refine k _ ⟨{ p with lk := us }, rfl, ?_⟩
  have ef : s.leave = { s with rows := rs, many := ms, looks := ls } := by
    unfold Sc.leave
    rw [er, em, el, List.dropLast_concat, List.dropLast_concat, List.dropLast_concat]
  rw [ef]
  exact h3
abbrev s_Scan_end_row : Stmt := inClass (top 17) 10
theorem sc_Scan_end_row : FnScope ["self"] ["self"] (defScope s_Scan_end_row) := ⟨rfl, rfl, rfl, by decide +kernel, rfl, by decide +kernel, by decide +kernel⟩
theorem ok_end_row {f : Addr} {fd : FuncData} (F : Fun K "end_row" "Scan.end_row" s_Scan_end_row f fd) (T : ScF K C) (CN : Kc mg) : FnOk P w K mg base CX0 1 f fd ["self"] (spTo C Sc.endRow) := by
  have GC_ROW := CN.k3
  refine F.ok sc_Scan_end_row (fun vs H Q E h => by obtain ⟨a, _, _, rfl, _⟩ := h; rfl) (fun cdv A outer s' H vs Q E hr h => ?_)
  obtain ⟨a, H0, s, rfl, ⟨p, rfl, h⟩, ok, k⟩ := h
  refine ⟨_, (pss_cons (ps_if (pt_cmpR op_gt (pe_ix ix_list (pe_fld (pv 0) rfl) (pe_un un_neg pe_int) (fun _ _ => rfl)) pe_int (nomark _)) (pss_one (ps_expr (pe_bm PySem.F.plainAttrs_list PySem.F.slot_list_append PySem.F.type_list_append mt_append (pe_fld (pv 0) rfl) (pa_cons (pe_tup (pa_cons (pe_globI rfl GC_ROW) (pa_cons pe_str (pa_cons (pe_ix ix_list (pe_fld (pv 0) rfl) (pe_un un_neg pe_int) (fun _ _ => rfl)) pa_nil)))) pa_nil)))) pss_nil)
  (pss_cons (ps_asg pe_int (pg_sub (pe_fld (pv 0) rfl) (pe_un un_neg pe_int) set_list))
  (pss_one (ps_augS (pe_fld (pv 0) rfl) (pe_un un_neg pe_int) get_list pe_int ip_add set_list)))), ?_⟩
  obtain ⟨ms, m, em⟩ := snoc_of ok.m
  obtain ⟨rs, r, er⟩ := snoc_of ok.r
  have hz := ok.z
  refine st_cut (fun σ' H1 => σ' = [some (.ref p.a)] ∧ ScAt C H0 H1 p s.row1) (fun nx' go => ?_) ?_
  · obtain ⟨dx, e⟩ := h.ins
    have hm' := h.many
    rw [em, iV_snoc] at hm'
    refine ⟨_, rfl, p.a, C, dx, _, _, rfl, e, T.cl, T.n6, rfl, _, rfl, p.ma, _, _, _, rfl, rfl, SqL.of hm', at_last _ _, _, _, rfl, rfl, _, rfl, ?_⟩
    refine ite2 (fun t => ?_) (fun t => ?_)
    · have t : (1 : Int) < (m : Nat) := of_decide_eq_true t
      have er1 : s.row1 = s.add 3 eS m := by
        unfold Sc.row1
        rw [em, lastD_snoc, if_pos (by omega)]
      refine ⟨_, rfl, p.a, C, dx, _, _, rfl, e, T.cl, T.n4, rfl, ?_⟩
      obtain ⟨vs0, v1, v2⟩ := h.steps
      refine ⟨.inl ⟨rfl, _, SqL.of v1⟩, ?_⟩
      refine ⟨_, rfl, p.a, C, dx, _, _, rfl, e, T.cl, T.n6, rfl, _, rfl, p.ma, _, _, _, rfl, rfl, SqL.of hm', at_last _ _, by show 3 ≤ sizeLine; decide, fun r hr => ?_⟩
      obtain ⟨vs, w1, w2, w3⟩ := add_step h (by have := size_steps s; omega) 3 eS m hr
      refine ⟨p.st, vs, _, rfl, rfl, w1, w2, ?_⟩
      rw [← er1] at w3
      exact go _ _ ⟨rfl, w3⟩
    · have t : ¬ (1 : Int) < (m : Nat) := fun q => t (decide_eq_true q)
      have er1 : s.row1 = s := by
        unfold Sc.row1
        rw [em, lastD_snoc, if_neg (by omega)]
      exact go _ _ ⟨rfl, by rw [er1]; exact h⟩
  · rintro σ' H1 ⟨rfl, h1⟩
    have em1 : s.row1.many = ms ++ [m] := by unfold Sc.row1; split <;> exact em
    have er1 : s.row1.rows = rs ++ [r] := by unfold Sc.row1; split <;> exact er
    have ef : s.endRow = { s.row1 with many := ms ++ [0], rows := rs ++ [r + 1] } := by
      unfold Sc.endRow
      rw [em1, er1, setLast_snoc, setLast_snoc, lastD_snoc]
    generalize s.row1 = s1 at *
    obtain ⟨dx, e⟩ := h1.ins
    have hm' := h1.many
    rw [em1, iV_snoc] at hm'
    refine ⟨_, rfl, p.a, C, dx, _, _, rfl, e, T.cl, T.n6, rfl, _, rfl, p.ma, _, _, _, rfl, rfl, hm', ix_last _ _, ?_⟩
    rw [set_last]
    have h2 := h1.setMany (ms ++ [0])
    rw [iV_snoc] at h2
    obtain ⟨dx2, e2⟩ := h2.ins
    have hr' := h2.rows
    rw [show ({ s1 with many := ms ++ [0] } : Sc).rows = rs ++ [r] from er1, iV_snoc] at hr'
    refine ⟨_, rfl, p.a, C, dx2, _, _, rfl, e2, T.cl, T.n5, rfl, _, rfl, p.ro, _, _, _, rfl, rfl, SqL.of hr', at_last _ _, _, _, rfl, rfl, p.ro, _, _, _, rfl, rfl, hr', ix_last _ _, ?_⟩
    rw [set_last]
    have h3 := h2.setRows (rs ++ [r + 1])
    rw [iV_snoc] at h3
    refine k _ ⟨p, rfl, ?_⟩
    rw [ef]
    exact h3
abbrev s_Scan_end_choice : Stmt := inClass (top 17) 11
theorem sc_Scan_end_choice : FnScope ["self"] ["self"] (defScope s_Scan_end_choice) := ⟨rfl, rfl, rfl, by decide +kernel, rfl, by decide +kernel, by decide +kernel⟩
theorem ok_end_choice {f : Addr} {fd : FuncData} (F : Fun K "end_choice" "Scan.end_choice" s_Scan_end_choice f fd) (T : ScF K C) (CN : Kc mg) (G_end_row : ScOk P w K mg base C 1 "end_row" ["self"] (spTo C Sc.endRow)) : FnOk P w K mg base CX0 2 f fd ["self"] (spTo C Sc.endChoice) := by
  have GC_CHOICE := CN.k4
  refine F.ok sc_Scan_end_choice (fun vs H Q E h => by obtain ⟨a, _, _, rfl, _⟩ := h; rfl) (fun cdv A outer s' H vs Q E hr h => ?_)
  obtain ⟨a, H0, s, rfl, ⟨p, rfl, h⟩, ok, k⟩ := h
  refine ⟨_, (pss_cons (ps_expr (pe_methS0 G_end_row (hr.mono (by first | decide | omega)) (pv 0)))
  (pss_one (ps_if (pt_cmpR op_gt (pe_ix ix_list (pe_fld (pv 0) rfl) (pe_un un_neg pe_int) (fun _ _ => rfl)) pe_int (nomark _)) (pss_one (ps_expr (pe_bm PySem.F.plainAttrs_list PySem.F.slot_list_append PySem.F.type_list_append mt_append (pe_fld (pv 0) rfl) (pa_cons (pe_tup (pa_cons (pe_globI rfl GC_CHOICE) (pa_cons pe_str (pa_cons (pe_ix ix_list (pe_fld (pv 0) rfl) (pe_un un_neg pe_int) (fun _ _ => rfl)) pa_nil)))) pa_nil)))) pss_nil))), ?_⟩
  obtain ⟨dx, e⟩ := h.ins
  refine ⟨_, rfl, p.a, dx, _, rfl, e, rfl, p.a, H0, s, rfl, ⟨p, rfl, h⟩, ok, fun H1 ⟨p1, ep, h1⟩ => ?_⟩
  rw [← ep]
  have hz := ok.z
  have hz1 : s.endRow.size ≤ 900000 := by
    unfold Sc.size Sc.endRow Sc.row1 Sc.add setLast
    unfold Sc.size at hz
    split <;> simp only [List.length_append, List.length_dropLast, List.length_singleton] <;> omega
  have en : s.endRow.rows ≠ [] := by unfold Sc.endRow setLast; simp
  obtain ⟨rs, r, er⟩ := snoc_of en
  have ef : s.endChoice = if 1 < r then s.endRow.add 4 eS r else s.endRow := by
    unfold Sc.endChoice
    rw [er, lastD_snoc]
  generalize s.endRow = s1 at *
  obtain ⟨dx1, e1⟩ := h1.ins
  have hr' := h1.rows
  rw [er, iV_snoc] at hr'
  refine ⟨_, rfl, p1.a, C, dx1, _, _, rfl, e1, T.cl, T.n5, rfl, _, rfl, p1.ro, _, _, _, rfl, rfl, SqL.of hr', at_last _ _, _, _, rfl, rfl, _, rfl, ?_⟩
  refine ite2 (fun t => ?_) (fun t => ?_)
  · have t : (1 : Int) < (r : Nat) := of_decide_eq_true t
    rw [if_pos (by omega)] at ef
    obtain ⟨vs0, v1, v2⟩ := h1.steps
    refine ⟨_, rfl, p1.a, C, dx1, _, _, rfl, e1, T.cl, T.n4, rfl, .inl ⟨rfl, _, SqL.of v1⟩, ?_⟩
    refine ⟨_, rfl, p1.a, C, dx1, _, _, rfl, e1, T.cl, T.n5, rfl, _, rfl, p1.ro, _, _, _, rfl, rfl, SqL.of hr', at_last _ _, by show 3 ≤ sizeLine; decide, fun q hq => ?_⟩
    obtain ⟨vs, w1, w2, w3⟩ := add_step h1 (Nat.le_trans (size_steps s1) hz1) 4 eS r hq
    refine ⟨p1.st, vs, _, rfl, rfl, w1, w2, ?_⟩
    refine k _ ⟨p1, ep, ?_⟩
    rw [ef]
    exact w3
  · have t : ¬ (1 : Int) < (r : Nat) := fun q => t (decide_eq_true q)
    rw [if_neg (by omega)] at ef
    refine k _ ⟨p1, ep, ?_⟩
    rw [ef]
    exact h1
end
end Ws
namespace Ws
open PySem PySem.Spec PyProof.Rows L2 Wv
/-! ### the end of a way: * and ?, then the looks that wait -/
theorem take_more {α : Type} : ∀ {l : List α} {i : Nat} {x : α}, l[i]? = some x → l.take (i + 1) = l.take i ++ [x]
  | [], i, x, h => by simp at h
  | a :: l, 0, x, h => by
    have e : a = x := Option.some.inj h
    subst e
    rfl
  | a :: l, i + 1, x, h => by
    have ih := take_more (l := l) (i := i) (x := x) h
    show a :: l.take (i + 1) = a :: l.take i ++ [x]
    rw [ih]
    rfl
def Sc.marksK : Nat → Sc → Sc
  | 0, s => s
  | f + 1, s => if s.cur = some 42 then Sc.marksK f ((s.go.add 5 eS 1).skip) else if s.cur = some 63 then Sc.marksK f ((s.go.add 6 eS 1).skip) else s
def lastL (l : List (List Nat)) : List Nat := l.getLast?.getD []
theorem lastL_snoc (l : List (List Nat)) (v : List Nat) : lastL (l ++ [v]) = v := by simp [lastL]
def Sc.fin (s : Sc) : Sc := { s with steps := s.steps ++ (lastL s.looks).reverse.map (fun k => (k, eS, 1)), looks := setLast s.looks [], many := setLast s.many (lastD s.many + 1) }
def Sc.marks (s : Sc) : Sc := Sc.marksK (s.z.length + 1) s.skip
def Sc.endWay (s : Sc) : Sc := s.marks.fin
def isMark (o : Option Nat) : Bool := decide (o = some 42) || decide (o = some 63)
theorem eqV_sgn (o : Option Nat) (c : Nat) : eqV (.str (sg c)) (.str (sgn o)) = decide (o = some c) := by
  have e : eqV (.str (sg c)) (.str (sgn o)) = decide (V.str (sgn o) = V.str (sg c)) := by
    by_cases h : sgn o = sg c
    · rw [h, decide_eq_true rfl]; simp [eqV]
    · rw [decide_eq_false (fun q => h (V.str.inj q))]
      have h' : ¬ sg c = sgn o := fun q => h q.symm
      simp [eqV, h']
  rw [e, sgn_eq]
theorem in_mark (o : Option Nat) : inV (.str (sgn o)) [.str (Str.ofString "*"), .str (Str.ofString "?")] = isMark o := by
  rw [c42, c63]
  show ([V.str (sg 42), V.str (sg 63)].any fun y => eqV y (.str (sgn o))) = isMark o
  rw [List.any_cons, List.any_cons, List.any_nil, eqV_sgn, eqV_sgn, Bool.or_false]
  rfl
theorem Sc.skip_z (s : Sc) : s.skip.z = s.z ∧ s.skip.rows = s.rows ∧ s.skip.many = s.many ∧ s.skip.looks = s.looks ∧ s.skip.steps = s.steps ∧ s.pl ≤ s.skip.pl := ⟨rfl, rfl, rfl, rfl, rfl, Nat.le_add_right _ _⟩
theorem Sc.marksK_keep : ∀ (f : Nat) (s : Sc), (Sc.marksK f s).rows = s.rows ∧ (Sc.marksK f s).many = s.many ∧ (Sc.marksK f s).looks = s.looks ∧ (Sc.marksK f s).z = s.z
  | 0, s => ⟨rfl, rfl, rfl, rfl⟩
  | f + 1, s => by
    unfold Sc.marksK
    split
    · exact Sc.marksK_keep f _
    · split
      · exact Sc.marksK_keep f _
      · exact ⟨rfl, rfl, rfl, rfl⟩
section
variable {P : Program} {w : World} {K : PySem.W.Frag} {mg : Str → Option Value} {base : Heap} {C : Addr}
theorem SA.same {H0 H H' : Hp} {a : Addr} {s : Sc} (h : SA C H0 H a s) (k : Same H H') : SA C H0 H' a s := by
  obtain ⟨p, e, h⟩ := h
  exact ⟨p, e, h.of_same k⟩
abbrev s_Scan_end_way : Stmt := inClass (top 17) 9
theorem sc_Scan_end_way : FnScope ["self", "sign", "kind"] ["self"] (defScope s_Scan_end_way) := ⟨rfl, rfl, rfl, by decide +kernel, rfl, by decide +kernel, by decide +kernel⟩
theorem ok_end_way {f : Addr} {fd : FuncData} (F : Fun K "end_way" "Scan.end_way" s_Scan_end_way f fd) (T : ScF K C) (CN : Kc mg) (G_sign : ScOk P w K mg base C 2 "sign" ["self"] (spSign C)) : FnOk P w K mg base CX0 3 f fd ["self"] (spTo C Sc.endWay) := by
  have GC_AGAIN := CN.k5
  have GC_MAYBE := CN.k6
  refine F.ok sc_Scan_end_way (fun vs H Q E h => by obtain ⟨a, _, _, rfl, _⟩ := h; rfl) (fun cdv A outer s' H vs Q E hr h => ?_)
  obtain ⟨a, H0, s, rfl, ⟨p, rfl, h⟩, ok, k⟩ := h
  refine ⟨_, (pss_cons (ps_set (i := 1) sc_Scan_end_way.nd rfl (Or.inl rfl) (pe_methS0 G_sign (hr.mono (by first | decide | omega)) (pv 0)))
  (pss_cons (ps_while PassesOwn.never (pt_cmpR op_in_seq (pv 1) (pe_tup (pa_cons pe_str (pa_cons pe_str pa_nil))) (by rfl)) (pss_cons (ps_fldaug (pv 0) pe_int in_add)
  (pss_cons (ps_expr (pe_bm PySem.F.plainAttrs_list PySem.F.slot_list_append PySem.F.type_list_append mt_append (pe_fld (pv 0) rfl) (pa_cons (pe_tup (pa_cons (pe_ifExp (pt_cmpR op_eq (pv 1) pe_str (nomark _)) (pe_globI rfl GC_AGAIN) (pe_globI rfl GC_MAYBE)) (pa_cons pe_str (pa_cons pe_int pa_nil)))) pa_nil)))
  (pss_one (ps_set (i := 1) sc_Scan_end_way.nd rfl (Or.inl rfl) (pe_methS0 G_sign (hr.mono (by first | decide | omega)) (pv 0)))))))
  (pss_cons (ps_for PassesOwn.never rfl (pi_list (pe_revL (pe_ix ix_list (pe_fld (pv 0) rfl) (pe_un un_neg pe_int) (fun _ _ => rfl)))) (pg_name (i := 2) sc_Scan_end_way.nd rfl (Or.inl rfl))
   (pss_one (ps_expr (pe_bm PySem.F.plainAttrs_list PySem.F.slot_list_append PySem.F.type_list_append mt_append (pe_fld (pv 0) rfl) (pa_cons (pe_tup (pa_cons (pv 2) (pa_cons pe_str (pa_cons pe_int pa_nil)))) pa_nil)))))
  (pss_cons (ps_asg (pe_lst pa_nil) (pg_sub (pe_fld (pv 0) rfl) (pe_un un_neg pe_int) set_list))
  (pss_one (ps_augS (pe_fld (pv 0) rfl) (pe_un un_neg pe_int) get_list pe_int ip_add set_list)))))), ?_⟩
  obtain ⟨dx, e⟩ := h.ins
  have hz := ok.z
  generalize ea : p.a = a at *
  refine ⟨_, rfl, a, dx, _, rfl, e, rfl, a, H0, s, rfl, ⟨p, ea, h⟩, fun H1 h1 => ?_⟩
  refine Wv.gset ?_
  with_reducible refine st_cut (fun σ' H' => ∃ x1 x2, σ' = [some (.ref a), x1, x2] ∧ SA C H0 H' a s.marks ∧ s.marks.size ≤ 700000) (fun nx' go => ?_) ?_
  · refine while_m (fun m σ H' => ∃ (s1 : Sc) (fu : Nat) (x2 : Option V), σ = [some (.ref a), some (.str (sgn s1.cur)), x2] ∧ SA C H0 H' a s1 ∧ Sc.marksK fu s1 = s.marks ∧ m = s1.z.length - s1.pl ∧ s1.z.length - s1.pl < fu ∧ s1.size ≤ 600000 + s1.pl) (s.skip.z.length - s.skip.pl) ?_ ?_ ?_
    · exact ⟨s.skip, s.z.length + 1, none, rfl, h1, rfl, rfl, by show s.z.length - _ < _; omega, by show s.size ≤ _; omega⟩
    · rintro m σ H2 ⟨s1, fu, x2, rfl, ⟨p1, ep1, h2⟩, em, rfl, hfu, hsz⟩
      refine ⟨_, rfl, by show 2 ≤ sizeLine; decide, fun tp htp => ?_⟩
      have st := Same.new htp (.tup [.str (Str.ofString "*"), .str (Str.ofString "?")])
      refine ⟨tp, _, rfl, .inr (SqT.of upd_same), rfl, by decide +kernel, ?_⟩
      rw [if_neg Bool.false_ne_true, in_mark]
      refine ⟨_, rfl, ?_⟩
      have h3 := h2.of_same st
      generalize upd H2 tp (.tup [.str (Str.ofString "*"), .str (Str.ofString "?")]) = H3 at *
      have hlow := h2.low
      obtain ⟨fu, rfl⟩ : ∃ g, fu = g + 1 := ⟨fu - 1, by omega⟩
      refine ite2 (fun t => ?_) (fun t => ?_)
      · obtain ⟨c, hc⟩ : ∃ c, s1.cur = some c := by
          cases q : s1.cur with
          | none => rw [q] at t; exact absurd t (by decide)
          | some c => exact ⟨c, rfl⟩
        have hl := Sc.cur_lt hc
        obtain ⟨dx3, e3⟩ := h3.ins
        rw [ep1] at e3
        refine ⟨_, rfl, a, C, dx3, _, _, rfl, e3, T.cl, T.n3, rfl, _, _, rfl, rfl, dx3, _, e3, by show 7 < 1000; decide, ?_⟩
        have h4 := SA.put (dx := dx3) (fs := putF (Str.ofString "place") (.int ((s1.pl : Int) + 1)) (p1.fs s1)) h3 (s1.pl + 1) (by omega) (by rfl)
        rw [ep1] at h4
        generalize upd H3 a (.ins C dx3 (putF (Str.ofString "place") (.int ((s1.pl : Int) + 1)) (p1.fs s1))) = H4 at *
        obtain ⟨dx4, e4⟩ := h4.ins
        rw [ep1] at e4
        obtain ⟨vs0, v1, v2⟩ := h4.steps
        walk_at "nx"
        refine ⟨_, rfl, a, C, dx4, _, _, rfl, e4, T.cl, T.n4, rfl, .inl ⟨rfl, _, SqL.of v1⟩, ?_⟩
        refine withQ (E := tIf _ _ _) (fun y H' => ∃ kk : Nat, y = .int (kk : Nat) ∧ H' = H4 ∧ Sc.marksK (fu + 1) s1 = Sc.marksK fu ((s1.go.add kk eS 1).skip)) (fun Q' go' => ?_) ?_
        · refine ⟨_, rfl, rfl, _, rfl, ?_⟩
          rw [c42, sgn_eq]
          refine ite2 (fun t2 => ?_) (fun t2 => ?_)
          · exact go' _ _ ⟨5, rfl, rfl, if_pos (of_decide_eq_true t2)⟩
          · have t3 : s1.cur ≠ some 42 := fun q => t2 (decide_eq_true q)
            have t4 : s1.cur = some 63 := by
              unfold isMark at t
              rw [decide_eq_false t3, Bool.false_or] at t
              exact of_decide_eq_true t
            exact go' _ _ ⟨6, rfl, rfl, (if_neg t3).trans (if_pos t4)⟩
        · rintro _ _ ⟨kk, rfl, rfl, ek⟩
          refine ⟨by show 3 ≤ sizeLine; decide, fun r hr => ?_⟩
          obtain ⟨vs, w1, w2, w3⟩ := add_step h4 (by show s1.steps.length ≤ _; have := size_steps s1; omega) kk eS 1 hr
          refine ⟨p1.st, vs, _, rfl, rfl, w1, w2, ?_⟩
          walk_at "nx"
          obtain ⟨dx5, e5⟩ := w3.ins
          rw [ep1] at e5
          refine ⟨_, rfl, a, dx5, _, rfl, e5, rfl, a, H0, _, rfl, ⟨p1, ep1, w3⟩, fun H6 h6 => ?_⟩
          have sz : (s1.go.add kk eS 1).size = s1.size + 1 := by
            unfold Sc.size Sc.add Sc.go
            simp only [List.length_append, List.length_singleton]
            omega
          have hpl : s1.pl + 1 ≤ ((s1.go.add kk eS 1).skip).pl := Nat.le_add_right _ _
          refine ⟨(s1.go.add kk eS 1).skip.z.length - (s1.go.add kk eS 1).skip.pl, ?_, (s1.go.add kk eS 1).skip, fu, _, rfl, h6, ?_, rfl, ?_, ?_⟩
          · show s1.z.length - _ < _; omega
          · rw [← ek]; exact em
          · show s1.z.length - _ < _; omega
          · show (s1.go.add kk eS 1).size ≤ _; rw [sz]; omega
      · have e0 : Sc.marksK (fu + 1) s1 = s1 := by
          have t' : isMark s1.cur = false := by simpa using t
          unfold isMark at t'
          rw [Bool.or_eq_false_iff] at t'
          have n1 := of_decide_eq_false t'.1
          have n2 := of_decide_eq_false t'.2
          exact (if_neg n1).trans (if_neg n2)
        rw [e0] at em
        subst em
        have hlow := h3.low
        exact go _ _ ⟨_, _, rfl, ⟨p1, ep1, h3⟩, by omega⟩
    · rintro σ H Q Q' hq ⟨x, ex, le, g⟩
      refine ⟨x, ex, le, fun p hp => ?_⟩
      obtain ⟨q, xs, e, sq, f1, f2, b, eb, h⟩ := g p hp
      exact ⟨q, xs, e, sq, f1, f2, b, eb, hq _ _ h⟩
  · rintro σ' H1 ⟨x1, x2, rfl, ⟨p1, ep1, h1⟩, hsz⟩
    have kp := Sc.marksK_keep (s.z.length + 1) s.skip
    have el : s.marks.looks ≠ [] := by unfold Sc.marks; rw [kp.2.2.1]; exact ok.l
    have em : s.marks.many ≠ [] := by unfold Sc.marks; rw [kp.2.1]; exact ok.m
    have ef : s.endWay = s.marks.fin := rfl
    rw [ef] at k
    generalize s.marks = s1 at *
    obtain ⟨ls, l, el⟩ := snoc_of el
    obtain ⟨ms, m, em⟩ := snoc_of em
    have ef : s1.fin = { s1 with steps := s1.steps ++ l.reverse.map (fun k => (k, eS, 1)), looks := ls ++ [[]], many := ms ++ [m + 1] } := by
      unfold Sc.fin
      rw [el, em, lastL_snoc, setLast_snoc, lastD_snoc, setLast_snoc]
    rw [ef] at k
    have hl2 := h1.looks.2
    rw [el] at hl2
    obtain ⟨us, q, eu, hu, hq⟩ := LooksAt.split _ _ _ hl2
    have hl1 := h1.looks.1
    rw [eu, List.map_append] at hl1
    obtain ⟨dx1, e1⟩ := h1.ins
    rw [ep1] at e1
    refine ⟨_, rfl, a, C, dx1, _, _, rfl, e1, T.cl, T.n7, rfl, _, rfl, p1.lo, _, _, _, rfl, rfl, SqL.of hl1, at_last _ _, q, _, rfl, SqL.of hq, fun rv hrv => ?_⟩
    have ap := h1.apart hrv
    have sl : s1.steps.length + l.length ≤ s1.size := by
      unfold Sc.size
      rw [el, List.flatten_append]
      simp only [List.length_append, List.flatten_cons, List.flatten_nil, List.append_nil]
      omega
    have h2 := h1.of_same (Same.new hrv (.lst (iV l).reverse))
    have hr2 : upd H1 rv (.lst (iV l).reverse) rv = some (.lst (iV l).reverse) := upd_same
    generalize upd H1 rv (.lst (iV l).reverse) = H2 at *
    have nst : rv ≠ p1.st := fun z => ap.2 (by rw [z]; simp [At.all])
    refine ⟨rv, rfl, ⟨_, SqL.of hr2⟩, ?_⟩
    refine for_list (K := K) (a := rv) (xs := (iV l).reverse) (fun i σ H' => ∃ x1 x2, σ = [some (.ref a), x1, x2] ∧ ScAt C H0 H' p1 { s1 with steps := s1.steps ++ (l.reverse.take i).map (fun k => (k, eS, 1)) } ∧ H' rv = some (.lst (iV l).reverse)) ?_ ?_ ?_ ?_
    · exact ⟨_, _, rfl, by simpa using h2, hr2⟩
    · rintro i σ H' _ ⟨_, _, rfl, _, hr⟩
      exact SqL.of hr
    · rintro i y σ H3 hy ⟨y1, y2, rfl, h3, hr3⟩
      have erv : (iV l).reverse = iV l.reverse := by simp [iV, List.map_reverse]
      rw [erv] at hy
      obtain ⟨kk, hk, ey⟩ : ∃ kk, l.reverse[i]? = some kk ∧ V.int (kk : Nat) = y := by
        have : (l.reverse.map fun n => V.int (n : Nat))[i]? = some y := hy
        rw [List.getElem?_map] at this
        cases q : l.reverse[i]? with
        | none => rw [q] at this; cases this
        | some kk => rw [q] at this; exact ⟨kk, rfl, Option.some.inj this⟩
      subst ey
      obtain ⟨dx3, e3⟩ := h3.ins
      rw [ep1] at e3
      obtain ⟨vs0, v1, v2⟩ := h3.steps
      have hil : i < l.length := by have := (List.getElem?_eq_some_iff.mp hk).1; rw [List.length_reverse] at this; exact this
      walk_at "nx"
      refine ⟨_, rfl, a, C, dx3, _, _, rfl, e3, T.cl, T.n4, rfl, .inl ⟨rfl, _, SqL.of v1⟩, ?_⟩
      refine ⟨_, rfl, by show 3 ≤ sizeLine; decide, fun r hr => ?_⟩
      obtain ⟨vs, w1, w2, w3⟩ := add_step h3 (by show (s1.steps ++ _).length ≤ _; rw [List.length_append, List.length_map, List.length_take, List.length_reverse]; omega) kk eS 1 hr
      refine ⟨p1.st, vs, _, rfl, rfl, w1, w2, ?_⟩
      walk_at "nx"
      refine ⟨_, _, rfl, ?_, ?_⟩
      · rw [take_more hk, List.map_append, ← List.append_assoc]
        exact w3
      · rw [upd_ne nst, upd_ne (ne_of_none hr3 hr)]
        exact hr3
    · rintro σ H3 ⟨y1, y2, rfl, h3, _⟩
      rw [List.length_reverse, show (iV l).length = l.reverse.length by simp [iV], List.take_length] at h3
      -- the looks are new
      walk_at "nx"
      refine ⟨Nat.zero_le _, fun q2 hq2 => ?_⟩
      have h4 := h3.of_same (Same.new hq2 (.lst []))
      have hq4 : upd H3 q2 (.lst []) q2 = some (.lst (iV [])) := upd_same
      have nl := h3.newLook hq2 (as := us) (fun b hb => by rw [eu]; simp [hb]) ?_
      rotate_left
      · have := (ne_of_nd h3.nd).nd
        rw [eu] at this
        exact (List.nodup_append.mp this).1
      have hu4 : LooksAt (upd H3 q2 (.lst [])) us ls := by
        have hl := h4.looks.2
        rw [show ({ s1 with steps := s1.steps ++ l.reverse.map (fun k => (k, eS, 1)) } : Sc).looks = ls ++ [l] from el, eu] at hl
        obtain ⟨us', q', eu', hu', _⟩ := LooksAt.split _ _ _ hl
        have : us = us' := (List.append_inj eu' (by have := congrArg List.length eu'; simp at this; exact this)).1
        rw [this]; exact hu'
      have hlo4 := h4.looks.1
      rw [eu, List.map_append] at hlo4
      generalize upd H3 q2 (.lst []) = H4 at *
      obtain ⟨dx4, e4⟩ := h4.ins
      rw [ep1] at e4
      refine ⟨_, rfl, a, C, dx4, _, _, rfl, e4, T.cl, T.n7, rfl, _, rfl, p1.lo, _, _, _, rfl, rfl, hlo4, ix_last _ _, ?_⟩
      rw [show List.map V.ref [q] = [V.ref q] from rfl, set_last]
      have h5 := h4.setLooks (us ++ [q2]) (ls ++ [[]]) (LooksAt.snoc hq4 _ _ hu4) nl.1 nl.2
      rw [List.map_append] at h5
      -- one way more
      obtain ⟨dx5, e5⟩ := h5.ins
      rw [show ({ p1 with lk := us ++ [q2] } : At).a = a from ep1] at e5
      have hm5 := h5.many
      rw [show ({ s1 with steps := s1.steps ++ l.reverse.map (fun k => (k, eS, 1)), looks := ls ++ [[]] } : Sc).many = ms ++ [m] from em, iV_snoc] at hm5
      refine ⟨_, rfl, a, C, dx5, _, _, rfl, e5, T.cl, T.n6, rfl, _, rfl, p1.ma, _, _, _, rfl, rfl, SqL.of hm5, at_last _ _, _, _, rfl, rfl, p1.ma, _, _, _, rfl, rfl, hm5, ix_last _ _, ?_⟩
      rw [set_last]
      have h6 := h5.setMany (ms ++ [m + 1])
      rw [iV_snoc] at h6
      exact k _ ⟨{ p1 with lk := us ++ [q2] }, ep1, h6⟩
end
end Ws
namespace Ws
open PySem PySem.Spec PyProof.Rows L2 Wv
/-! ### names, and what is expected -/
theorem while_r {c : TT} {tb : TS} {D : Ends} {σ : L2.St} {H : Hp} (Pv : Nat → L2.St → Hp → Prop) (m : Nat) (h0 : Pv m σ H)
    (hs : ∀ m σ H, Pv m σ H → ∃ R : Bool → Hp → Prop, (∀ Q : Bool → Hp → Prop, (∀ b H1, R b H1 → Q b H1) → c σ H Q) ∧ ∀ b H1, R b H1 →
      if b = true then tb { D with nx := fun σ' H' => ∃ m', m' < m ∧ Pv m' σ' H', ct := fun σ' H' => ∃ m', m' < m ∧ Pv m' σ' H', bk := D.nx } σ H1 else D.nx σ H1) : tWhile c tb D σ H := by
  refine ⟨Pv, ⟨m, h0⟩, fun m σ H p => ?_⟩
  obtain ⟨R, h1, h2⟩ := hs m σ H p
  refine h1 _ fun b H1 r => ?_
  have q := h2 b H1 r
  cases b with
  | true => exact ⟨_, fun _ _ h => h, q⟩
  | false => exact q
def nmLen : Nat → List Nat → Nat
  | 0, _ => 0
  | _ + 1, [] => 0
  | n + 1, c :: r => if isL (some c) = true then nmLen n r + 1 else 0
theorem nmLen_le : ∀ (n : Nat) (l : List Nat), nmLen n l ≤ n ∧ nmLen n l ≤ l.length
  | 0, _ => ⟨Nat.le_refl _, Nat.zero_le _⟩
  | _ + 1, [] => ⟨Nat.zero_le _, Nat.le_refl _⟩
  | n + 1, c :: r => by
    have := nmLen_le n r
    unfold nmLen
    split
    · exact ⟨by omega, by simp only [List.length_cons]; omega⟩
    · exact ⟨Nat.zero_le _, Nat.zero_le _⟩
theorem nmLen_more {z : List Nat} {i n : Nat} (h : isL z[i]? = true) : nmLen (n + 1) (z.drop i) = nmLen n (z.drop (i + 1)) + 1 := by
  cases q : z[i]? with
  | none => rw [q] at h; cases h
  | some c =>
    obtain ⟨hl, e⟩ := List.getElem?_eq_some_iff.mp q
    rw [List.drop_eq_getElem_cons hl, e]
    rw [q] at h
    show (if isL (some c) = true then nmLen n (z.drop (i + 1)) + 1 else 0) = _
    rw [if_pos h]
theorem nmLen_end {z : List Nat} {i n : Nat} (h : isL z[i]? = false ∨ n = 0) : nmLen n (z.drop i) = 0 := by
  rcases h with h | rfl
  · cases n with
    | zero => rfl
    | succ n =>
      cases q : z[i]? with
      | none =>
        have : z.drop i = [] := List.drop_eq_nil_of_le (List.getElem?_eq_none_iff.mp q)
        rw [this]; rfl
      | some c =>
        obtain ⟨hl, e⟩ := List.getElem?_eq_some_iff.mp q
        rw [List.drop_eq_getElem_cons hl, e]
        rw [q] at h
        show (if isL (some c) = true then _ else 0) = 0
        rw [h]; rfl
  · rfl
def Sc.nm (s : Sc) : Nat := nmLen 12 (s.z.drop s.pl)
def Sc.named (s : Sc) : Sc := { s with pl := s.pl + s.nm }
def Sc.word (s : Sc) : Str := tx ((s.z.drop s.pl).take s.nm)
theorem cutn (z : List Nat) (i n : Nat) (h : i + n ≤ z.length) : cutS (tx z) (some ((i : Nat) : Int)) (some ((i + n : Nat) : Int)) = tx ((z.drop i).take n) := by
  unfold cutS
  rw [HT.sIx_nat, HT.sIx_nat]
  have hl : (tx z).length = z.length := by simp [Str.length, tx]
  have ez : (tx z).cps.toList = z := by simp [tx]
  rw [hl, ez, Nat.min_eq_left h, Nat.min_eq_left (show i ≤ z.length by omega), show i + n - i = n by omega]
  rfl
def spNo : Sp := fun _ _ _ _ => False
theorem ok_no {P : Program} {w : World} {K : PySem.W.Frag} {mg : Str → Option Value} {base : Heap} {n : Nat} {f : Addr} {fd : FuncData} {ps : List Str} : FnOk P w K mg base CX0 n f fd ps spNo :=
  ⟨fun _ _ _ _ h => h.elim, fun _ _ _ _ _ _ _ _ _ _ _ _ _ h => h.elim⟩
def spExpect (C : Addr) : Sp := fun vs H Q _ => ∃ (a : Addr) (H0 : Hp) (s : Sc) (c : Nat), vs = [.ref a, .str (sg c)] ∧ SA C H0 H a s ∧ s.skip.cur = some c ∧ ∀ H', SA C H0 H' a s.skip.go → Q .non H'
def spName (C : Addr) : Sp := fun vs H Q _ => ∃ (a : Addr) (H0 : Hp) (s : Sc), vs = [.ref a] ∧ SA C H0 H a s ∧ isL s.skip.cur = true ∧ ∀ H', SA C H0 H' a s.skip.named → Q (.str s.skip.word) H'
section
variable {P : Program} {w : World} {K : PySem.W.Frag} {mg : Str → Option Value} {base : Heap} {C : Addr}
abbrev s_Scan_expect : Stmt := inClass (top 17) 4
theorem sc_Scan_expect : FnScope ["self", "sign"] ["self", "sign"] (defScope s_Scan_expect) := ⟨rfl, rfl, rfl, by decide +kernel, rfl, by decide +kernel, by decide +kernel⟩
theorem ok_expect {f : Addr} {fd : FuncData} (F : Fun K "expect" "Scan.expect" s_Scan_expect f fd) (T : ScF K C) (G_sign : ScOk P w K mg base C 2 "sign" ["self"] (spSign C)) (G_refuse : ScOk P w K mg base C 1 "refuse" ["self"] spNo) : FnOk P w K mg base CX0 3 f fd ["self", "sign"] (spExpect C) := by
  refine F.ok sc_Scan_expect (fun vs H Q E h => by obtain ⟨a, _, _, _, rfl, _⟩ := h; rfl) (fun cdv A outer s' H vs Q E hr h => ?_)
  obtain ⟨a, H0, s, c, rfl, ⟨p, rfl, h⟩, hc, k⟩ := h
  refine ⟨_, (pss_cons (ps_if (pt_cmpR op_ne (pe_methS0 G_sign (hr.mono (by first | decide | omega)) (pv 0)) (pv 1) (nomark _)) (pss_one (ps_expr (pe_methS0 G_refuse (hr.mono (by first | decide | omega)) (pv 0)))) pss_nil)
  (pss_one (ps_fldaug (pv 0) pe_int in_add))), ?_⟩
  obtain ⟨dx, e⟩ := h.ins
  refine ⟨_, rfl, p.a, dx, _, rfl, e, rfl, p.a, H0, s, rfl, ⟨p, rfl, h⟩, fun H1 ⟨p1, ep, h1⟩ => ?_⟩
  rw [← ep]
  refine ⟨_, rfl, rfl, _, rfl, ?_⟩
  rw [sgn_eq, hc, decide_eq_true rfl]
  refine iteF ?_
  walk_at "nx"
  obtain ⟨dx1, e1⟩ := h1.ins
  have hl := Sc.cur_lt hc
  refine ⟨_, rfl, p1.a, C, dx1, _, _, rfl, e1, T.cl, T.n3, rfl, _, _, rfl, rfl, dx1, _, e1, by show 7 < 1000; decide, ?_⟩
  have h2 := SA.put (dx := dx1) (fs := putF (Str.ofString "place") (.int ((s.skip.pl : Int) + 1)) (p1.fs s.skip)) h1 (s.skip.pl + 1) (by omega) (by rfl)
  exact k _ ⟨p1, ep, h2⟩
abbrev s_Scan_read_name : Stmt := inClass (top 17) 5
theorem sc_Scan_read_name : FnScope ["self", "first"] ["self"] (defScope s_Scan_read_name) := ⟨rfl, rfl, rfl, by decide +kernel, rfl, by decide +kernel, by decide +kernel⟩
theorem ok_read_name {f : Addr} {fd : FuncData} (F : Fun K "read_name" "Scan.read_name" s_Scan_read_name f fd) (T : ScF K C) (CN : Kc mg) (G_is_letter : DefOk P w K mg base 1 "is_letter" ["sign"] spIsL) (G_sign_here : ScOk P w K mg base C 1 "sign_here" ["self"] (spHere C))
    (G_sign : ScOk P w K mg base C 2 "sign" ["self"] (spSign C)) (G_refuse : ScOk P w K mg base C 1 "refuse" ["self"] spNo) : FnOk P w K mg base CX0 3 f fd ["self"] (spName C) := by
  have GC_LONGEST_NAME := CN.kN
  refine F.ok sc_Scan_read_name (fun vs H Q E h => by obtain ⟨a, _, _, rfl, _⟩ := h; rfl) (fun cdv A outer s' H vs Q E hr h => ?_)
  obtain ⟨a, H0, s, rfl, ⟨p, rfl, h⟩, hc, k⟩ := h
  refine ⟨_, (pss_cons (ps_if (pt_not (pt_val (pe_callD G_is_letter (hr.mono (by first | decide | omega)) rfl (pa_cons (pe_methS0 G_sign (hr.mono (by first | decide | omega)) (pv 0)) pa_nil)))) (pss_one (ps_expr (pe_methS0 G_refuse (hr.mono (by first | decide | omega)) (pv 0)))) pss_nil)
  (pss_cons (ps_set (i := 1) sc_Scan_read_name.nd rfl (Or.inl rfl) (pe_fld (pv 0) rfl))
  (pss_cons (ps_while PassesOwn.never (PW.pt (pw_and (pt_val (pe_callD G_is_letter (hr.mono (by first | decide | omega)) rfl (pa_cons (pe_methS0 G_sign_here (hr.mono (by first | decide | omega)) (pv 0)) pa_nil))) (pw_and1 (pt_cmpR op_lt (pe_op op_sub (pe_fld (pv 0) rfl) (pv 1)) (pe_globI rfl GC_LONGEST_NAME) (nomark _))))) (pss_one (ps_fldaug (pv 0) pe_int in_add)))
  (pss_one (ps_ret (pe_slice sl_str (pe_fld (pv 0) rfl) (po_some (pv 1)) (po_some (pe_fld (pv 0) rfl)))))))), ?_⟩
  obtain ⟨dx, e⟩ := h.ins
  refine ⟨_, rfl, p.a, dx, _, rfl, e, rfl, p.a, H0, s, rfl, ⟨p, rfl, h⟩, fun H1 ⟨p1, ep, h1⟩ => ?_⟩
  rw [← ep]
  rw [← ep] at k
  refine ⟨_, rfl, _, rfl, ?_⟩
  rw [hc]
  refine iteF ?_
  walk_at "nx"
  generalize s.skip = s0 at *
  obtain ⟨dx1, e1⟩ := h1.ins
  refine ⟨_, rfl, p1.a, C, dx1, _, _, rfl, e1, T.cl, T.n3, rfl, ?_⟩
  refine Wv.gset ?_
  with_reducible refine st_cut (fun σ' H' => σ' = [some (.ref p1.a), some (.int (s0.pl : Nat))] ∧ ScAt C H0 H' p1 s0.named) (fun nx' go => ?_) ?_
  · refine while_r (fun m σ H' => ∃ n : Nat, σ = [some (.ref p1.a), some (.int (s0.pl : Nat))] ∧ ScAt C H0 H' p1 { s0 with pl := s0.pl + n } ∧ n ≤ 12 ∧ n + nmLen (12 - n) (s0.z.drop (s0.pl + n)) = s0.nm ∧ m = 12 - n) 12 ?_ ?_
    · exact ⟨0, rfl, h1, by omega, by show 0 + nmLen 12 _ = _; rw [Nat.zero_add]; rfl, rfl⟩
    · rintro m σ H2 ⟨n, rfl, h2, hn, en, rfl⟩
      obtain ⟨dx2, e2⟩ := h2.ins
      refine ⟨fun b H' => b = (isL ({ s0 with pl := s0.pl + n } : Sc).cur && decide (n < 12)) ∧ H' = H2, fun Q' hq => ?_, ?_⟩
      · refine ⟨_, rfl, p1.a, dx2, _, rfl, e2, rfl, p1.a, H0, _, rfl, ⟨p1, rfl, h2⟩, _, rfl, _, rfl, ?_⟩
        refine ite2 (fun t => ?_) (fun t => ?_)
        · refine ⟨_, rfl, p1.a, C, dx2, _, _, rfl, e2, T.cl, T.n3, rfl, _, rfl, _, _, rfl, rfl, _, _, rfl, rfl, _, rfl, hq _ _ ⟨?_, rfl⟩⟩
          rw [show isL ({ s0 with pl := s0.pl + n } : Sc).cur = true from t, Bool.true_and]
          have : (((s0.pl + n : Nat) : Int) - (s0.pl : Nat) < 12) ↔ n < 12 := by omega
          exact decide_eq_decide.mpr this
        · have t' : isL ({ s0 with pl := s0.pl + n } : Sc).cur = false := by simpa using t
          exact hq _ _ ⟨by rw [t']; rfl, rfl⟩
      · rintro b _ ⟨rfl, rfl⟩
        refine ite2 (fun t => ?_) (fun t => ?_)
        · rw [Bool.and_eq_true] at t
          have t1 : isL s0.z[s0.pl + n]? = true := t.1
          have t2 : n < 12 := of_decide_eq_true t.2
          have hl : s0.pl + n < s0.z.length := by
            cases q : s0.z[s0.pl + n]? with
            | none => rw [q] at t1; cases t1
            | some c => exact (List.getElem?_eq_some_iff.mp q).1
          refine ⟨_, rfl, p1.a, C, dx2, _, _, rfl, e2, T.cl, T.n3, rfl, _, _, rfl, rfl, dx2, _, e2, by show 7 < 1000; decide, ?_⟩
          have h3 := SA.put (dx := dx2) (fs := putF (Str.ofString "place") (.int (((s0.pl + n : Nat) : Int) + 1)) (p1.fs { s0 with pl := s0.pl + n })) h2 (s0.pl + n + 1) hl (by rfl)
          refine ⟨12 - (n + 1), by omega, n + 1, rfl, h3, by omega, ?_, rfl⟩
          rw [show 12 - n = (12 - (n + 1)) + 1 by omega, nmLen_more t1] at en
          rw [show s0.pl + (n + 1) = s0.pl + n + 1 by omega]
          omega
        · have e0 : nmLen (12 - n) (s0.z.drop (s0.pl + n)) = 0 := by
            apply nmLen_end
            by_cases q : n < 12
            · left
              have t' : (isL ({ s0 with pl := s0.pl + n } : Sc).cur && decide (n < 12)) = false := by simpa using t
              rw [decide_eq_true q, Bool.and_true] at t'
              exact t'
            · right; omega
          refine go _ _ ⟨rfl, ?_⟩
          have : s0.named = { s0 with pl := s0.pl + n } := by unfold Sc.named; rw [← en, e0, Nat.add_zero]
          rw [this]
          exact h2
  · rintro σ' H2 ⟨rfl, h2⟩
    obtain ⟨dx2, e2⟩ := h2.ins
    refine ⟨_, rfl, p1.a, C, dx2, _, _, rfl, e2, T.cl, T.n1, rfl, _, rfl, _, rfl, _, rfl, p1.a, C, dx2, _, _, rfl, e2, T.cl, T.n3, rfl, _, rfl, _, rfl, ?_, ?_⟩
    · have hl : (tx s0.named.z).length = s0.named.z.length := by simp [Str.length, tx]
      rw [hl]
      exact Nat.le_of_lt (small' (by have := h2.low.1; omega))
    · have hh := nmLen_le 12 (s0.z.drop s0.pl)
      rw [List.length_drop] at hh
      have hw : cutS (tx s0.named.z) (some ((s0.pl : Nat) : Int)) (some ((s0.named.pl : Nat) : Int)) = s0.word := cutn s0.z s0.pl s0.nm (by have := h1.low.2; unfold Sc.nm; omega)
      rw [hw]
      exact k _ ⟨p1, rfl, h2⟩
end
end Ws
namespace Ws
open PySem PySem.Spec PyProof.Rows L2 Wv
/-! ### the beginning of a way -/
theorem iteT' {b : Bool} {T F : Prop} (h : b = true) (t : T) : if b = true then T else F := by rw [h]; exact t
def Sc.single (s : Sc) : Option Sc :=
  if s.cur = some 46 then some (s.go.add 1 eS 0)
  else if s.cur = some 60 then
    if isL s.go.skip.cur = true ∧ s.go.skip.named.skip.cur = some 62 then some (s.go.skip.named.skip.go.add 9 s.go.skip.word 0) else none
  else if isL s.cur = true then some (s.go.add 0 (sgn s.cur) 0) else none
def Sc.look (s : Sc) (k : Nat) : Sc := { s with looks := setLast s.looks (lastL s.looks ++ [k]) }
def Sc.beginK : Nat → Sc → Option Sc
  | 0, _ => none
  | f + 1, s =>
    if s.cur = some 40 then (if s.go.skip.cur = some 41 then some (s.go.skip.go.add 2 eS 0) else Sc.beginK f (s.go.skip.enter.skip))
    else if s.cur = some 38 then Sc.beginK f ((s.go.look 7).skip)
    else if s.cur = some 33 then Sc.beginK f ((s.go.look 8).skip)
    else s.single
def Sc.begin (s : Sc) : Option Sc := Sc.beginK (s.z.length + 1) s.skip
def spSingle (C : Addr) : Sp := fun vs H Q _ => ∃ (a : Addr) (H0 : Hp) (s s' : Sc), vs = [.ref a, .str (sgn s.cur)] ∧ SA C H0 H a s ∧ s.steps.length ≤ 800000 ∧ s.single = some s' ∧ ∀ H', SA C H0 H' a s' → Q .non H'
def spBegin (C : Addr) : Sp := fun vs H Q _ => ∃ (a : Addr) (H0 : Hp) (s s' : Sc), vs = [.ref a] ∧ SA C H0 H a s ∧ s.Ok ∧ s.size ≤ 500000 ∧ s.begin = some s' ∧ ∀ H', SA C H0 H' a s' → Q .non H'
theorem in_single (o : Option Nat) : inV (.str (sgn o)) [.str (Str.ofString "."), .str (Str.ofString "<")] = (decide (o = some 46) || decide (o = some 60)) := by
  rw [c46, c60]
  show ([V.str (sg 46), V.str (sg 60)].any fun y => eqV y (.str (sgn o))) = _
  rw [List.any_cons, List.any_cons, List.any_nil, eqV_sgn, eqV_sgn, Bool.or_false]
theorem in_begin (o : Option Nat) : inV (.str (sgn o)) [.str (Str.ofString "&"), .str (Str.ofString "!"), .str (Str.ofString "(")] = (decide (o = some 38) || (decide (o = some 33) || decide (o = some 40))) := by
  rw [c38, c33, c40]
  show ([V.str (sg 38), V.str (sg 33), V.str (sg 40)].any fun y => eqV y (.str (sgn o))) = _
  rw [List.any_cons, List.any_cons, List.any_cons, List.any_nil, eqV_sgn, eqV_sgn, eqV_sgn, Bool.or_false]
section
variable {P : Program} {w : World} {K : PySem.W.Frag} {mg : Str → Option Value} {base : Heap} {C : Addr}
theorem goAt {H0 H : Hp} {p : At} {s : Sc} {c : Nat} (h : ScAt C H0 H p s) (hc : s.cur = some c) {dx : Addr} : ScAt C H0 (upd H p.a (.ins C dx (putF (Str.ofString "place") (.int ((s.pl : Int) + 1)) (p.fs s)))) p s.go :=
  SA.put (dx := dx) (fs := putF (Str.ofString "place") (.int ((s.pl : Int) + 1)) (p.fs s)) h (s.pl + 1) (Sc.cur_lt hc) (by rfl)
theorem single_cur {s s' : Sc} (h : s.single = some s') : ∃ c, s.cur = some c := by
  cases q : s.cur with
  | some c => exact ⟨c, rfl⟩
  | none => unfold Sc.single at h; rw [q] at h; simp [isL] at h
abbrev s_Scan_read_single : Stmt := inClass (top 17) 8
theorem sc_Scan_read_single : FnScope ["self", "sign", "name"] ["self", "sign"] (defScope s_Scan_read_single) := ⟨rfl, rfl, rfl, by decide +kernel, rfl, by decide +kernel, by decide +kernel⟩
theorem ok_read_single {f : Addr} {fd : FuncData} (F : Fun K "read_single" "Scan.read_single" s_Scan_read_single f fd) (T : ScF K C) (CN : Kc mg) (G_is_letter : DefOk P w K mg base 1 "is_letter" ["sign"] spIsL) (G_read_name : ScOk P w K mg base C 3 "read_name" ["self"] (spName C))
    (G_expect : ScOk P w K mg base C 3 "expect" ["self", "sign"] (spExpect C)) (G_refuse : ScOk P w K mg base C 1 "refuse" ["self"] spNo) : FnOk P w K mg base CX0 4 f fd ["self", "sign"] (spSingle C) := by
  have GC_ONE := CN.k1
  have GC_CALL := CN.k9
  have GC_LETTER := CN.k0
  refine F.ok sc_Scan_read_single (fun vs H Q E h => by obtain ⟨a, _, _, _, rfl, _⟩ := h; rfl) (fun cdv A outer s' H vs Q E hr h => ?_)
  obtain ⟨a, H0, s, s2, rfl, ⟨p, rfl, h⟩, hz, hs, k⟩ := h
  refine ⟨_, (pss_cons (ps_if (PW.pt (pw_and (pt_not (pt_val (pe_callD G_is_letter (hr.mono (by first | decide | omega)) rfl (pa_cons (pv 1) pa_nil)))) (pw_and1 (pt_cmpR op_notIn_seq (pv 1) (pe_tup (pa_cons pe_str (pa_cons pe_str pa_nil))) (by rfl))))) (pss_one (ps_expr (pe_methS0 G_refuse (hr.mono (by first | decide | omega)) (pv 0)))) pss_nil)
  (pss_cons (ps_fldaug (pv 0) pe_int in_add)
  (pss_one (ps_if (pt_cmpR op_eq (pv 1) pe_str (nomark _)) (pss_one (ps_expr (pe_bm PySem.F.plainAttrs_list PySem.F.slot_list_append PySem.F.type_list_append mt_append (pe_fld (pv 0) rfl) (pa_cons (pe_tup (pa_cons (pe_globI rfl GC_ONE) (pa_cons pe_str (pa_cons pe_int pa_nil)))) pa_nil)))) (pss_one (ps_if (pt_cmpR op_eq (pv 1) pe_str (nomark _)) (pss_cons (ps_set (i := 2) sc_Scan_read_single.nd rfl (Or.inl rfl) (pe_methS0 G_read_name (hr.mono (by first | decide | omega)) (pv 0)))
  (pss_cons (ps_expr (pe_methS G_expect (hr.mono (by first | decide | omega)) (pv 0) (pa_cons pe_str pa_nil)))
  (pss_one (ps_expr (pe_bm PySem.F.plainAttrs_list PySem.F.slot_list_append PySem.F.type_list_append mt_append (pe_fld (pv 0) rfl) (pa_cons (pe_tup (pa_cons (pe_globI rfl GC_CALL) (pa_cons (pv 2) (pa_cons pe_int pa_nil)))) pa_nil)))))) (pss_one (ps_expr (pe_bm PySem.F.plainAttrs_list PySem.F.slot_list_append PySem.F.type_list_append mt_append (pe_fld (pv 0) rfl) (pa_cons (pe_tup (pa_cons (pe_globI rfl GC_LETTER) (pa_cons (pv 1) (pa_cons pe_int pa_nil)))) pa_nil)))))))))), ?_⟩
  obtain ⟨c, hc⟩ := single_cur hs
  have hl := Sc.cur_lt hc
  refine st_cut (fun σ' H' => σ' = [some (.ref p.a), some (.str (sgn s.cur)), none] ∧ ScAt C H0 H' p s) (fun nx' go => ?_) ?_
  · refine ⟨_, rfl, _, rfl, _, rfl, ?_⟩
    refine ite2 (fun t => ?_) (fun t => ?_)
    · have hn : isL s.cur = false := by simpa using t
      refine ⟨_, rfl, by show 2 ≤ sizeLine; decide, fun tp htp => ?_⟩
      have st := Same.new htp (.tup [.str (Str.ofString "."), .str (Str.ofString "<")])
      refine ⟨tp, _, rfl, .inr (SqT.of upd_same), rfl, by decide +kernel, ?_⟩
      rw [if_pos rfl, in_single]
      refine ⟨_, rfl, ?_⟩
      have hin : (decide (s.cur = some 46) || decide (s.cur = some 60)) = true := by
        by_cases q1 : s.cur = some 46
        · rw [decide_eq_true q1]; rfl
        · by_cases q2 : s.cur = some 60
          · rw [decide_eq_true q2, Bool.or_true]
          · unfold Sc.single at hs
            rw [if_neg q1, if_neg q2, hn, if_neg Bool.false_ne_true] at hs
            cases hs
      rw [hin]
      exact iteF (go _ _ ⟨rfl, h.of_same st⟩)
    · exact iteF (go _ _ ⟨rfl, h⟩)
  · rintro σ' H1 ⟨rfl, h1⟩
    obtain ⟨dx1, e1⟩ := h1.ins
    refine ⟨_, rfl, p.a, C, dx1, _, _, rfl, e1, T.cl, T.n3, rfl, _, _, rfl, rfl, dx1, _, e1, by show 7 < 1000; decide, ?_⟩
    have h2 := goAt (dx := dx1) h1 hc
    generalize upd H1 p.a (.ins C dx1 (putF (Str.ofString "place") (.int ((s.pl : Int) + 1)) (p.fs s))) = H2 at *
    obtain ⟨dx2, e2⟩ := h2.ins
    obtain ⟨vs0, v1, v2⟩ := h2.steps
    unfold Sc.single at hs
    refine ⟨_, rfl, rfl, _, rfl, ?_⟩
    rw [c46, sgn_eq]
    refine ite2 (fun t => ?_) (fun t => ?_)
    · have t := of_decide_eq_true t
      rw [if_pos t] at hs
      cases hs
      refine ⟨_, rfl, p.a, C, dx2, _, _, rfl, e2, T.cl, T.n4, rfl, .inl ⟨rfl, _, SqL.of v1⟩, by show 3 ≤ sizeLine; decide, fun r hr => ?_⟩
      obtain ⟨vs, w1, w2, w3⟩ := add_step h2 (by show s.steps.length ≤ _; omega) 1 eS 0 hr
      exact ⟨p.st, vs, _, rfl, rfl, w1, w2, k _ ⟨p, rfl, w3⟩⟩
    · have t : s.cur ≠ some 46 := fun q => t (decide_eq_true q)
      rw [if_neg t] at hs
      refine ⟨_, rfl, rfl, _, rfl, ?_⟩
      rw [c60, sgn_eq]
      refine ite2 (fun t2 => ?_) (fun t2 => ?_)
      · have t2 := of_decide_eq_true t2
        rw [if_pos t2] at hs
        by_cases q : isL s.go.skip.cur = true ∧ s.go.skip.named.skip.cur = some 62
        · rw [if_pos q] at hs
          cases hs
          refine ⟨_, rfl, p.a, dx2, _, rfl, e2, rfl, p.a, H0, s.go, rfl, ⟨p, rfl, h2⟩, q.1, fun H3 ⟨p3, ep3, h3⟩ => ?_⟩
          rw [← ep3]
          rw [← ep3] at k
          walk_at "nx"
          obtain ⟨dx3, e3⟩ := h3.ins
          refine ⟨_, rfl, p3.a, dx3, _, rfl, e3, rfl, p3.a, H0, s.go.skip.named, 62, ?_, ⟨p3, rfl, h3⟩, q.2, fun H4 ⟨p4, ep4, h4⟩ => ?_⟩
          · rw [c62]; rfl
          rw [← ep4]
          rw [← ep4] at k
          walk_at "nx"
          obtain ⟨dx4, e4⟩ := h4.ins
          obtain ⟨vs4, v41, v42⟩ := h4.steps
          refine ⟨_, rfl, p4.a, C, dx4, _, _, rfl, e4, T.cl, T.n4, rfl, .inl ⟨rfl, _, SqL.of v41⟩, _, rfl, by show 3 ≤ sizeLine; decide, fun r hr => ?_⟩
          obtain ⟨vs, w1, w2, w3⟩ := add_step h4 (by show s.steps.length ≤ _; omega) 9 s.go.skip.word 0 hr
          exact ⟨p4.st, vs, _, rfl, rfl, w1, w2, k _ ⟨p4, rfl, w3⟩⟩
        · rw [if_neg q] at hs; cases hs
      · have t2 : s.cur ≠ some 60 := fun q => t2 (decide_eq_true q)
        rw [if_neg t2] at hs
        by_cases q : isL s.cur = true
        · rw [if_pos q] at hs
          cases hs
          refine ⟨_, rfl, p.a, C, dx2, _, _, rfl, e2, T.cl, T.n4, rfl, .inl ⟨rfl, _, SqL.of v1⟩, _, rfl, by show 3 ≤ sizeLine; decide, fun r hr => ?_⟩
          obtain ⟨vs, w1, w2, w3⟩ := add_step h2 (by show s.steps.length ≤ _; omega) 0 (sgn s.cur) 0 hr
          exact ⟨p.st, vs, _, rfl, rfl, w1, w2, k _ ⟨p, rfl, w3⟩⟩
        · rw [if_neg q] at hs; cases hs
abbrev s_Scan_begin_way : Stmt := inClass (top 17) 7
theorem sc_Scan_begin_way : FnScope ["self", "sign"] ["self"] (defScope s_Scan_begin_way) := ⟨rfl, rfl, rfl, by decide +kernel, rfl, by decide +kernel, by decide +kernel⟩
theorem ok_begin_way {f : Addr} {fd : FuncData} (F : Fun K "begin_way" "Scan.begin_way" s_Scan_begin_way f fd) (T : ScF K C) (CN : Kc mg) (G_sign : ScOk P w K mg base C 2 "sign" ["self"] (spSign C)) (G_enter_bracket : ScOk P w K mg base C 1 "enter_bracket" ["self"] (spTo C Sc.enter))
    (G_read_single : ScOk P w K mg base C 4 "read_single" ["self", "sign"] (spSingle C)) : FnOk P w K mg base CX0 5 f fd ["self"] (spBegin C) := by
  have GC_NOTHING := CN.k2
  have GC_AHEAD := CN.k7
  have GC_UNLESS := CN.k8
  refine F.ok sc_Scan_begin_way (fun vs H Q E h => by obtain ⟨a, _, _, _, rfl, _⟩ := h; rfl) (fun cdv A outer s' H vs Q E hr h => ?_)
  obtain ⟨a, H0, s, s2, rfl, ⟨p, rfl, h⟩, ok, hz, hs, k⟩ := h
  refine ⟨_, (pss_cons (ps_set (i := 1) sc_Scan_begin_way.nd rfl (Or.inl rfl) (pe_methS0 G_sign (hr.mono (by first | decide | omega)) (pv 0)))
  (pss_cons (ps_while PassesOwn.never (pt_cmpR op_in_seq (pv 1) (pe_tup (pa_cons pe_str (pa_cons pe_str (pa_cons pe_str pa_nil)))) (by rfl)) (pss_cons (ps_fldaug (pv 0) pe_int in_add)
  (pss_cons (ps_if (PW.pt (pw_and (pt_cmpR op_eq (pv 1) pe_str (nomark _)) (pw_and1 (pt_cmpR op_eq (pe_methS0 G_sign (hr.mono (by first | decide | omega)) (pv 0)) pe_str (nomark _))))) (pss_cons (ps_fldaug (pv 0) pe_int in_add)
  (pss_cons (ps_expr (pe_bm PySem.F.plainAttrs_list PySem.F.slot_list_append PySem.F.type_list_append mt_append (pe_fld (pv 0) rfl) (pa_cons (pe_tup (pa_cons (pe_globI rfl GC_NOTHING) (pa_cons pe_str (pa_cons pe_int pa_nil)))) pa_nil)))
  (pss_one ps_retN))) pss_nil)
  (pss_cons (ps_if (pt_cmpR op_eq (pv 1) pe_str (nomark _)) (pss_one (ps_expr (pe_methS0 G_enter_bracket (hr.mono (by first | decide | omega)) (pv 0)))) (pss_one (ps_expr (pe_bm PySem.F.plainAttrs_list PySem.F.slot_list_append PySem.F.type_list_append mt_append (pe_ix ix_list (pe_fld (pv 0) rfl) (pe_un un_neg pe_int) (fun _ _ => rfl)) (pa_cons (pe_ifExp (pt_cmpR op_eq (pv 1) pe_str (nomark _)) (pe_globI rfl GC_AHEAD) (pe_globI rfl GC_UNLESS)) pa_nil)))))
  (pss_one (ps_set (i := 1) sc_Scan_begin_way.nd rfl (Or.inl rfl) (pe_methS0 G_sign (hr.mono (by first | decide | omega)) (pv 0))))))))
  (pss_one (ps_expr (pe_methS G_read_single (hr.mono (by first | decide | omega)) (pv 0) (pa_cons (pv 1) pa_nil)))))), ?_⟩
  obtain ⟨dx, e⟩ := h.ins
  refine ⟨_, rfl, p.a, dx, _, rfl, e, rfl, p.a, H0, s, rfl, ⟨p, rfl, h⟩, fun H1 h1 => ?_⟩
  generalize p.a = a at *
  refine Wv.gset ?_
  have hlow := h.low
  with_reducible refine st_cut (fun σ' H' => ∃ s1 : Sc, σ' = [some (.ref a), some (.str (sgn s1.cur))] ∧ SA C H0 H' a s1 ∧ s1.single = some s2 ∧ s1.steps.length ≤ 800000) (fun nx' go => ?_) ?_
  · refine while_r (fun m σ H' => ∃ (s1 : Sc) (fu : Nat), σ = [some (.ref a), some (.str (sgn s1.cur))] ∧ SA C H0 H' a s1 ∧ Sc.beginK fu s1 = some s2 ∧ s1.z.length - s1.pl < fu ∧ m = s1.z.length - s1.pl ∧ s1.size ≤ 500000 + 4 * s1.pl ∧ s1.rows ≠ [] ∧ s1.many ≠ [] ∧ s1.looks ≠ []) (s.skip.z.length - s.skip.pl) ?_ ?_
    · exact ⟨s.skip, s.z.length + 1, rfl, h1, hs, by show s.z.length - _ < _; omega, rfl, by show s.size ≤ _; omega, ok.r, ok.m, ok.l⟩
    · rintro m σ H2 ⟨s1, fu, rfl, ⟨p1, ep1, h2⟩, hb, hfu, rfl, hsz, nr, nm, nl⟩
      subst ep1
      refine ⟨fun b H' => b = (decide (s1.cur = some 38) || (decide (s1.cur = some 33) || decide (s1.cur = some 40))) ∧ ScAt C H0 H' p1 s1, fun Q' hq => ?_, ?_⟩
      · refine ⟨_, rfl, by show 3 ≤ sizeLine; decide, fun tp htp => ?_⟩
        have st := Same.new htp (.tup [.str (Str.ofString "&"), .str (Str.ofString "!"), .str (Str.ofString "(")])
        refine ⟨tp, _, rfl, .inr (SqT.of upd_same), rfl, by decide +kernel, ?_⟩
        rw [if_neg Bool.false_ne_true, in_begin]
        exact ⟨_, rfl, hq _ _ ⟨rfl, h2.of_same st⟩⟩
      · rintro b H3 ⟨rfl, h3⟩
        have hlow3 := h3.low
        obtain ⟨fu, rfl⟩ : ∃ g, fu = g + 1 := ⟨fu - 1, by omega⟩
        unfold Sc.beginK at hb
        refine ite2 (fun t => ?_) (fun t => ?_)
        · obtain ⟨c, hc⟩ : ∃ c, s1.cur = some c := by
            cases q : s1.cur with
            | none => rw [q] at t; exact absurd t (by decide)
            | some c => exact ⟨c, rfl⟩
          have hl := Sc.cur_lt hc
          obtain ⟨dx3, e3⟩ := h3.ins
          refine ⟨_, rfl, p1.a, C, dx3, _, _, rfl, e3, T.cl, T.n3, rfl, _, _, rfl, rfl, dx3, _, e3, by show 7 < 1000; decide, ?_⟩
          have h4 := goAt (dx := dx3) h3 hc
          generalize upd H3 p1.a (.ins C dx3 (putF (Str.ofString "place") (.int ((s1.pl : Int) + 1)) (p1.fs s1))) = H4 at *
          obtain ⟨dx4, e4⟩ := h4.ins
          have hlow4 := h4.low
          by_cases q40 : s1.cur = some 40
          · rw [if_pos q40] at hb
            walk_at "nx"
            refine ⟨_, rfl, rfl, _, rfl, ?_⟩
            rw [c40, sgn_eq, decide_eq_true q40]
            refine iteT' rfl ?_
            refine ⟨_, rfl, p1.a, dx4, _, rfl, e4, rfl, p1.a, H0, s1.go, rfl, ⟨p1, rfl, h4⟩, fun H5 ⟨p5, ep5, h5⟩ => ⟨rfl, _, rfl, ?_⟩⟩
            rw [c41, sgn_eq]
            obtain ⟨dx5, e5⟩ := h5.ins
            rw [ep5] at e5
            refine ite2 (fun t2 => ?_) (fun t2 => ?_)
            · have t2 := of_decide_eq_true t2
              rw [if_pos t2] at hb
              cases hb
              refine ⟨_, rfl, p1.a, C, dx5, _, _, rfl, e5, T.cl, T.n3, rfl, _, _, rfl, rfl, dx5, _, e5, by show 7 < 1000; decide, ?_⟩
              have h6 := goAt (dx := dx5) h5 t2
              rw [ep5] at h6
              obtain ⟨dx6, e6⟩ := h6.ins
              rw [ep5] at e6
              obtain ⟨vs6, v61, v62⟩ := h6.steps
              refine ⟨_, rfl, p1.a, C, dx6, _, _, rfl, e6, T.cl, T.n4, rfl, .inl ⟨rfl, _, SqL.of v61⟩, by show 3 ≤ sizeLine; decide, fun r hr => ?_⟩
              obtain ⟨vs, w1, w2, w3⟩ := add_step h6 (by show s1.steps.length ≤ _; have := size_steps s1; omega) 2 eS 0 hr
              refine ⟨p5.st, vs, _, rfl, rfl, w1, w2, ?_⟩
              exact k _ ⟨p5, ep5, w3⟩
            · have t2 : s1.go.skip.cur ≠ some 41 := fun q => t2 (decide_eq_true q)
              rw [if_neg t2] at hb
              walk_at "nx"
              refine ⟨_, rfl, rfl, _, rfl, ?_⟩
              rw [sgn_eq, decide_eq_true q40]
              refine iteT' rfl ?_
              refine ⟨_, rfl, p1.a, dx5, _, rfl, e5, rfl, p1.a, H0, s1.go.skip, rfl, ⟨p5, ep5, h5⟩, ⟨nr, nm, nl, by show s1.size ≤ _; omega⟩, fun H6 ⟨p6, ep6, h6⟩ => ?_⟩
              obtain ⟨dx6, e6⟩ := h6.ins
              rw [ep6] at e6
              walk_at "nx"
              refine ⟨_, rfl, p1.a, dx6, _, rfl, e6, rfl, p1.a, H0, _, rfl, ⟨p6, ep6, h6⟩, fun H7 h7 => ?_⟩
              have sz : s1.go.skip.enter.size = s1.size + 3 := by
                unfold Sc.size Sc.enter Sc.skip Sc.go
                simp only [List.length_append, List.length_singleton, List.flatten_append, List.flatten_cons, List.flatten_nil, List.append_nil, List.length_nil]
                omega
              have hp1 : s1.pl + 1 ≤ s1.go.skip.enter.skip.pl := Nat.le_trans (show s1.pl + 1 ≤ s1.go.skip.pl from Nat.le_add_right _ _) (Nat.le_add_right _ _)
              refine ⟨s1.go.skip.enter.skip.z.length - s1.go.skip.enter.skip.pl, ?_, s1.go.skip.enter.skip, fu, rfl, h7, hb, ?_, rfl, ?_, by show s1.rows ++ [0] ≠ []; simp, by show s1.many ++ [0] ≠ []; simp, by show s1.looks ++ [[]] ≠ []; simp⟩
              · show s1.z.length - _ < _; omega
              · show s1.z.length - _ < _; omega
              · show s1.go.skip.enter.size ≤ _; rw [sz]; omega
          · rw [if_neg q40] at hb
            obtain ⟨kk, hk, hb⟩ : ∃ kk : Nat, (kk : Int) = (if s1.cur = some 38 then 7 else 8) ∧ Sc.beginK fu ((s1.go.look kk).skip) = some s2 := by
              by_cases q38 : s1.cur = some 38
              · rw [if_pos q38] at hb; exact ⟨7, by rw [if_pos q38]; rfl, hb⟩
              · rw [if_neg q38] at hb
                by_cases q33 : s1.cur = some 33
                · rw [if_pos q33] at hb; exact ⟨8, by rw [if_neg q38]; rfl, hb⟩
                · rw [decide_eq_false q38, decide_eq_false q33, decide_eq_false q40] at t; cases t
            obtain ⟨ls, l, el⟩ := snoc_of nl
            have hl4 := h4.looks.2
            rw [show s1.go.looks = ls ++ [l] from el] at hl4
            obtain ⟨us, q, eu, hu, hq⟩ := LooksAt.split _ _ _ hl4
            have hl1 := h4.looks.1
            rw [eu, List.map_append] at hl1
            walk_at "nx"
            refine ⟨_, rfl, rfl, _, rfl, ?_⟩
            rw [c40, sgn_eq, decide_eq_false q40]
            refine iteF (iteF ?_)
            walk_at "nx"
            refine ⟨_, rfl, rfl, _, rfl, ?_⟩
            rw [sgn_eq, decide_eq_false q40]
            refine iteF ?_
            refine ⟨_, rfl, p1.a, C, dx4, _, _, rfl, e4, T.cl, T.n7, rfl, _, rfl, p1.lo, _, _, _, rfl, rfl, SqL.of hl1, at_last _ _, .inl ⟨rfl, _, SqL.of hq⟩, ?_⟩
            refine withQ (E := tIf _ _ _) (fun y H' => y = .int (kk : Nat) ∧ H' = H4) (fun Q' go' => ?_) ?_
            · refine ⟨_, rfl, rfl, _, rfl, ?_⟩
              rw [c38, sgn_eq]
              refine ite2 (fun t2 => ?_) (fun t2 => ?_)
              · rw [if_pos (of_decide_eq_true t2)] at hk
                exact go' _ _ ⟨by rw [hk], rfl⟩
              · rw [if_neg (fun q => t2 (decide_eq_true q))] at hk
                exact go' _ _ ⟨by rw [hk], rfl⟩
            · rintro _ _ ⟨rfl, rfl⟩
              have fl : l.length ≤ s1.size := by
                unfold Sc.size
                rw [el, List.flatten_append]
                simp only [List.length_append, List.flatten_cons, List.flatten_nil, List.append_nil]
                omega
              refine ⟨q, _, _, rfl, rfl, hq, small' (by simp [iV]; omega), ?_⟩
              have h5 := h4.lastLook (l' := l ++ [kk]) (show s1.go.looks = ls ++ [l] from el) eu hu
              rw [iV_snoc] at h5
              have elk : s1.go.look kk = { s1.go with looks := ls ++ [l ++ [kk]] } := by
                unfold Sc.look
                rw [show s1.go.looks = ls ++ [l] from el, lastL_snoc, setLast_snoc]
              rw [← elk] at h5
              obtain ⟨dx5, e5⟩ := h5.ins
              walk_at "nx"
              refine ⟨_, rfl, p1.a, dx5, _, rfl, e5, rfl, p1.a, H0, _, rfl, ⟨p1, rfl, h5⟩, fun H7 h7 => ?_⟩
              have sz : (s1.go.look kk).size = s1.size + 1 := by
                rw [elk]
                unfold Sc.size Sc.go
                rw [el]
                simp only [List.length_append, List.length_singleton, List.flatten_append, List.flatten_cons, List.flatten_nil, List.append_nil]
                omega
              have hp1 : s1.pl + 1 ≤ (s1.go.look kk).skip.pl := Nat.le_add_right _ _
              refine ⟨(s1.go.look kk).skip.z.length - (s1.go.look kk).skip.pl, ?_, (s1.go.look kk).skip, fu, rfl, h7, hb, ?_, rfl, ?_, nr, nm, ?_⟩
              · show s1.z.length - _ < _; omega
              · show s1.z.length - _ < _; omega
              · show (s1.go.look kk).size ≤ _; rw [sz]; omega
              · show (s1.go.look kk).looks ≠ []; rw [elk]; simp
        · have nn : s1.cur ≠ some 38 ∧ s1.cur ≠ some 33 ∧ s1.cur ≠ some 40 := by
            simp only [Bool.or_eq_true, decide_eq_true_eq, not_or] at t
            exact t
          rw [if_neg nn.2.2, if_neg nn.1, if_neg nn.2.1] at hb
          exact go _ _ ⟨s1, rfl, ⟨p1, rfl, h3⟩, hb, by have := size_steps s1; omega⟩
  · rintro σ' H2 ⟨s1, rfl, ⟨p1, ep1, h2⟩, hb, hsz⟩
    obtain ⟨dx2, e2⟩ := h2.ins
    rw [ep1] at e2
    exact ⟨_, rfl, a, dx2, _, rfl, e2, rfl, _, rfl, a, H0, s1, s2, rfl, ⟨p1, ep1, h2⟩, hsz, hb, fun H' h' => k H' h'⟩
end
end Ws
namespace Ws
open PySem PySem.Spec PyProof.Rows L2 Wv
/-! ### the whole reading -/
def Sc.wayK : Nat → Sc → Option Sc
  | 0, _ => none
  | f + 1, s =>
    if s.endWay.skip.cur = none ∧ s.endWay.skip.rows.length = 1 then some s.endWay.skip.endChoice
    else if s.endWay.skip.cur = some 41 ∧ 1 < s.endWay.skip.rows.length then Sc.wayK f s.endWay.skip.go.endChoice.leave
    else if s.endWay.skip.cur = some 47 then (s.endWay.skip.go.endRow.begin).bind (Sc.wayK f)
    else (s.endWay.skip.begin).bind (Sc.wayK f)
theorem dec_t {a b : Int} (h : decide (V.int a = V.int b) = true) : a = b := V.int.inj (of_decide_eq_true h)
structure Sc.Lens (s : Sc) : Prop where
  m : s.many.length = s.rows.length
  l : s.looks.length = s.rows.length
  r : s.rows ≠ []
  p : s.pl ≤ s.z.length
def Sc.pot (s : Sc) : Nat := s.size + 8 * (s.z.length - s.pl)
theorem ne_of_len {α β : Type} {a : List α} {b : List β} (h : a.length = b.length) (hb : b ≠ []) : a ≠ [] := fun e => hb (List.eq_nil_of_length_eq_zero (by rw [← h, e]; rfl))
theorem Sc.Lens.ok {s : Sc} (h : s.Lens) (hp : s.pot ≤ 200000) : s.Ok ∧ s.size ≤ 500000 := by
  unfold Sc.pot at hp
  exact ⟨⟨h.r, ne_of_len h.m h.r, ne_of_len h.l h.r, by omega⟩, by omega⟩
theorem len_setLast {α : Type} {l : List α} (h : l ≠ []) (v : α) : (setLast l v).length = l.length := by
  obtain ⟨a, u, e⟩ := snoc_of h
  rw [e, setLast_snoc]; simp
structure Step (s t : Sc) (n : Nat) : Prop where
  z : t.z = s.z
  l : s.Lens → t.Lens
  q : s.Lens → t.pot ≤ s.pot + n
theorem Step.trans {s t u : Sc} {n m : Nat} (a : Step s t n) (b : Step t u m) : Step s u (n + m) := ⟨b.z.trans a.z, fun h => b.l (a.l h), fun h => by have := a.q h; have := b.q (a.l h); omega⟩
theorem Step.refl (s : Sc) : Step s s 0 := ⟨rfl, fun h => h, fun _ => Nat.le_refl _⟩
theorem step_skip (s : Sc) : Step s s.skip 0 := by
  refine ⟨rfl, fun h => ⟨h.m, h.l, h.r, Sc.skip_le s h.p⟩, fun h => ?_⟩
  have : s.pl ≤ s.skip.pl := Nat.le_add_right _ _
  show s.size + 8 * (s.z.length - s.skip.pl) ≤ s.size + 8 * (s.z.length - s.pl) + 0
  omega
/-- a sign is read: 8 less -/
theorem pot_go {s : Sc} {c : Nat} (hc : s.cur = some c) : s.go.pot + 8 = s.pot ∧ (s.Lens → s.go.Lens) := by
  have hl := Sc.cur_lt hc
  refine ⟨?_, fun h => ⟨h.m, h.l, h.r, hl⟩⟩
  show s.size + 8 * (s.z.length - (s.pl + 1)) + 8 = s.size + 8 * (s.z.length - s.pl)
  omega
theorem step_add (s : Sc) (k : Nat) (x : Str) (n : Nat) : Step s (s.add k x n) 1 := by
  refine ⟨rfl, fun h => ⟨h.m, h.l, h.r, h.p⟩, fun h => ?_⟩
  unfold Sc.pot Sc.size Sc.add
  simp only [List.length_append, List.length_singleton]
  omega
theorem Step.of_go {s t : Sc} {c n : Nat} (hc : s.cur = some c) (h : Step s.go t n) (hn : n ≤ 8) : Step s t 0 := by
  obtain ⟨h1, h2⟩ := pot_go hc
  exact ⟨h.z, fun l => h.l (h2 l), fun l => by have := h.q (h2 l); omega⟩
theorem step_marks : ∀ (f : Nat) (s : Sc), Step s (Sc.marksK f s) 0
  | 0, s => Step.refl s
  | f + 1, s => by
    unfold Sc.marksK
    split
    · rename_i h
      exact Step.of_go h (n := 1) (((step_add s.go 5 eS 1).trans (step_skip _)).trans (step_marks f _)) (by omega)
    · split
      · rename_i h
        exact Step.of_go h (n := 1) (((step_add s.go 6 eS 1).trans (step_skip _)).trans (step_marks f _)) (by omega)
      · exact Step.refl s
theorem step_fin (s : Sc) : Step s s.fin 0 := by
  refine ⟨rfl, fun h => ?_, fun h => ?_⟩
  · have hl := ne_of_len h.l h.r
    have hm := ne_of_len h.m h.r
    exact ⟨(len_setLast hm _).trans h.m, (len_setLast hl _).trans h.l, h.r, h.p⟩
  · have hl := ne_of_len h.l h.r
    have hm := ne_of_len h.m h.r
    obtain ⟨ls, l, el⟩ := snoc_of hl
    obtain ⟨ms, m, em⟩ := snoc_of hm
    unfold Sc.pot Sc.size Sc.fin
    rw [el, em, lastL_snoc, setLast_snoc, setLast_snoc]
    simp only [List.length_append, List.length_singleton, List.flatten_append, List.flatten_cons, List.flatten_nil, List.append_nil, List.length_map, List.length_reverse, List.length_nil]
    omega
theorem step_endWay (s : Sc) : Step s s.endWay 0 := ((step_skip s).trans (step_marks _ _)).trans (step_fin _)
theorem step_endRow (s : Sc) : Step s s.endRow 1 := by
  have h1 : Step s s.row1 1 := by
    unfold Sc.row1
    split
    · exact step_add _ _ _ _
    · exact ⟨rfl, fun h => h, fun _ => Nat.le_succ _⟩
  refine h1.trans (m := 0) ⟨rfl, fun h => ?_, fun h => ?_⟩
  · have hm := ne_of_len h.m h.r
    refine ⟨?_, ?_, ?_, h.p⟩
    · show (setLast s.row1.many 0).length = (setLast s.row1.rows _).length
      rw [len_setLast hm, len_setLast h.r]; exact h.m
    · show s.row1.looks.length = (setLast s.row1.rows _).length
      rw [len_setLast h.r]; exact h.l
    · show setLast s.row1.rows _ ≠ []
      unfold setLast; simp
  · have hm := ne_of_len h.m h.r
    have e1 : (setLast s.row1.many 0).length = s.row1.many.length := len_setLast hm _
    have e2 : (setLast s.row1.rows (lastD s.row1.rows + 1)).length = s.row1.rows.length := len_setLast h.r _
    unfold Sc.pot Sc.size Sc.endRow
    show s.row1.steps.length + (setLast s.row1.rows (lastD s.row1.rows + 1)).length + (setLast s.row1.many 0).length + s.row1.looks.length + s.row1.looks.flatten.length + 8 * (s.row1.z.length - s.row1.pl) ≤ _
    rw [e1, e2]
    omega
theorem step_endChoice (s : Sc) : Step s s.endChoice 2 := by
  unfold Sc.endChoice
  split
  · exact (step_endRow s).trans (step_add _ _ _ _)
  · have h := step_endRow s
    exact ⟨h.z, h.l, fun l => by have := h.q l; omega⟩
theorem step_leave {s : Sc} (h1 : 1 < s.rows.length) : Step s s.leave 0 := by
  refine ⟨rfl, fun h => ?_, fun h => ?_⟩
  · refine ⟨?_, ?_, ?_, h.p⟩
    · show s.many.dropLast.length = s.rows.dropLast.length
      rw [List.length_dropLast, List.length_dropLast, h.m]
    · show s.looks.dropLast.length = s.rows.dropLast.length
      rw [List.length_dropLast, List.length_dropLast, h.l]
    · intro e
      have : s.rows.dropLast.length = 0 := by rw [show s.rows.dropLast = [] from e]; rfl
      rw [List.length_dropLast] at this
      omega
  · obtain ⟨ls, l, el⟩ := snoc_of (ne_of_len h.l h.r)
    unfold Sc.pot Sc.size Sc.leave
    rw [el, List.dropLast_concat]
    simp only [List.length_append, List.length_dropLast, List.flatten_append, List.length_singleton]
    omega
theorem step_enter (s : Sc) : Step s s.enter 3 := by
  refine ⟨rfl, fun h => ⟨by show (s.many ++ [0]).length = (s.rows ++ [0]).length; simp [h.m], by show (s.looks ++ [[]]).length = (s.rows ++ [0]).length; simp [h.l], by show s.rows ++ [0] ≠ []; simp, h.p⟩, fun h => ?_⟩
  unfold Sc.pot Sc.size Sc.enter
  simp only [List.length_append, List.length_singleton, List.flatten_append, List.flatten_cons, List.flatten_nil, List.append_nil, List.length_nil]
  omega
theorem step_look (s : Sc) (k : Nat) : Step s (s.look k) 1 := by
  refine ⟨rfl, fun h => ⟨h.m, (len_setLast (ne_of_len h.l h.r) _).trans h.l, h.r, h.p⟩, fun h => ?_⟩
  obtain ⟨ls, l, el⟩ := snoc_of (ne_of_len h.l h.r)
  unfold Sc.pot Sc.size Sc.look
  rw [el, lastL_snoc, setLast_snoc]
  simp only [List.length_append, List.length_singleton, List.flatten_append, List.flatten_cons, List.flatten_nil, List.append_nil]
  omega
theorem step_named (s : Sc) : Step s s.named 0 := by
  have hh := nmLen_le 12 (s.z.drop s.pl)
  rw [List.length_drop] at hh
  refine ⟨rfl, fun h => ⟨h.m, h.l, h.r, by show s.pl + nmLen 12 (s.z.drop s.pl) ≤ s.z.length; have := h.p; omega⟩, fun h => ?_⟩
  show s.size + 8 * (s.z.length - (s.pl + s.nm)) ≤ s.size + 8 * (s.z.length - s.pl) + 0
  omega
theorem step_single {s t : Sc} (h : s.single = some t) : Step s t 0 := by
  obtain ⟨c, hc⟩ := single_cur h
  unfold Sc.single at h
  split at h
  · cases h; exact Step.of_go hc (step_add _ _ _ _) (by omega)
  · split at h
    · split at h
      · rename_i q
        cases h
        have a := ((step_skip s.go).trans (step_named _)).trans (step_skip _)
        exact Step.of_go hc (a.trans (Step.of_go q.2 (step_add _ 9 s.go.skip.word 0) (by omega))) (by omega)
      · cases h
    · split at h
      · cases h; exact Step.of_go hc (step_add _ _ _ _) (by omega)
      · cases h
theorem step_beginK : ∀ (f : Nat) (s t : Sc), Sc.beginK f s = some t → Step s t 0
  | 0, s, t, h => by cases h
  | f + 1, s, t, h => by
    unfold Sc.beginK at h
    split at h
    · rename_i q
      split at h
      · rename_i q2
        cases h
        exact Step.of_go q ((step_skip s.go).trans (Step.of_go q2 (step_add _ 2 eS 0) (by omega))) (by omega)
      · exact Step.of_go q (n := 3) (((step_skip s.go).trans (step_enter _)).trans ((step_skip _).trans (step_beginK f _ _ h))) (by omega)
    · split at h
      · rename_i q
        exact Step.of_go q (n := 1) ((step_look s.go 7).trans ((step_skip _).trans (step_beginK f _ _ h))) (by omega)
      · split at h
        · rename_i q
          exact Step.of_go q (n := 1) ((step_look s.go 8).trans ((step_skip _).trans (step_beginK f _ _ h))) (by omega)
        · exact step_single h
theorem step_begin {s t : Sc} (h : s.begin = some t) : Step s t 0 := (step_skip s).trans (step_beginK _ _ _ h)
def spWay (C : Addr) : Sp := fun vs H Q _ => ∃ (a : Addr) (H0 : Hp) (s s1 t : Sc) (f : Nat), vs = [.ref a] ∧ SA C H0 H a s ∧ s.Lens ∧ s.pot ≤ 100000 ∧ s.begin = some s1 ∧ Sc.wayK f s1 = some t ∧ ∀ (H' : Hp) (p : At), p.a = a → ScAt C H0 H' p t → Q (.ref p.st) H'
section
variable {P : Program} {w : World} {K : PySem.W.Frag} {mg : Str → Option Value} {base : Heap} {C : Addr}
theorem iV_len (l : List Nat) : (iV l).length = l.length := by simp [iV]
abbrev s_Scan_read_way : Stmt := inClass (top 17) 6
theorem sc_Scan_read_way : FnScope ["self", "sign"] ["self"] (defScope s_Scan_read_way) := ⟨rfl, rfl, rfl, by decide +kernel, rfl, by decide +kernel, by decide +kernel⟩
theorem ok_read_way {f : Addr} {fd : FuncData} (F : Fun K "read_way" "Scan.read_way" s_Scan_read_way f fd) (T : ScF K C) (B : Bs mg) (G_sign : ScOk P w K mg base C 2 "sign" ["self"] (spSign C)) (G_begin_way : ScOk P w K mg base C 5 "begin_way" ["self"] (spBegin C))
    (G_end_way : ScOk P w K mg base C 3 "end_way" ["self"] (spTo C Sc.endWay)) (G_end_row : ScOk P w K mg base C 1 "end_row" ["self"] (spTo C Sc.endRow)) (G_end_choice : ScOk P w K mg base C 2 "end_choice" ["self"] (spTo C Sc.endChoice))
    (G_leave_bracket : ScOk P w K mg base C 1 "leave_bracket" ["self"] (spTo C Sc.leave)) : FnOk P w K mg base CX0 6 f fd ["self"] (spWay C) := by
  have B_len := B.len
  refine F.ok sc_Scan_read_way (fun vs H Q E h => by obtain ⟨a, _, _, _, _, _, rfl, _⟩ := h; rfl) (fun cdv A outer s' H vs Q E hr h => ?_)
  obtain ⟨a, H0, s, s1, t, fu, rfl, ⟨p, ep, h⟩, hle, hpo, hb, hw, k⟩ := h
  refine ⟨_, (pss_cons (ps_expr (pe_methS0 G_begin_way (hr.mono (by first | decide | omega)) (pv 0)))
  (pss_one (ps_while PassesOwn.never (pt_val pe_bl) (pss_cons (ps_expr (pe_methS0 G_end_way (hr.mono (by first | decide | omega)) (pv 0)))
  (pss_cons (ps_set (i := 1) sc_Scan_read_way.nd rfl (Or.inl rfl) (pe_methS0 G_sign (hr.mono (by first | decide | omega)) (pv 0)))
  (pss_cons (ps_if (PW.pt (pw_and (pt_cmpR op_eq (pv 1) pe_str (nomark _)) (pw_and1 (pt_cmpR op_eq (pe_callB call_len_seq rfl B_len PySem.boot_len (pa_cons (pe_fld (pv 0) rfl) pa_nil)) pe_int (nomark _))))) (pss_cons (ps_expr (pe_methS0 G_end_choice (hr.mono (by first | decide | omega)) (pv 0)))
  (pss_one (ps_ret (pe_fld (pv 0) rfl)))) pss_nil)
  (pss_one (ps_if (PW.pt (pw_and (pt_cmpR op_eq (pv 1) pe_str (nomark _)) (pw_and1 (pt_cmpR op_gt (pe_callB call_len_seq rfl B_len PySem.boot_len (pa_cons (pe_fld (pv 0) rfl) pa_nil)) pe_int (nomark _))))) (pss_cons (ps_fldaug (pv 0) pe_int in_add)
  (pss_cons (ps_expr (pe_methS0 G_end_choice (hr.mono (by first | decide | omega)) (pv 0)))
  (pss_one (ps_expr (pe_methS0 G_leave_bracket (hr.mono (by first | decide | omega)) (pv 0)))))) (pss_cons (ps_if (pt_cmpR op_eq (pv 1) pe_str (nomark _)) (pss_cons (ps_fldaug (pv 0) pe_int in_add)
  (pss_one (ps_expr (pe_methS0 G_end_row (hr.mono (by first | decide | omega)) (pv 0))))) pss_nil)
  (pss_one (ps_expr (pe_methS0 G_begin_way (hr.mono (by first | decide | omega)) (pv 0))))))))))))), ?_⟩
  obtain ⟨dx, e⟩ := h.ins
  rw [ep] at e
  have ok := hle.ok (by omega)
  refine ⟨_, rfl, a, dx, _, rfl, e, rfl, a, H0, s, s1, rfl, ⟨p, ep, h⟩, ok.1, ok.2, hb, fun H1 h1 => ?_⟩
  have st := step_begin hb
  have hle1 := st.l hle
  have hpo1 : s1.pot ≤ 100000 := Nat.le_trans (st.q hle) hpo
  refine while_r (fun m σ H' => ∃ (s2 : Sc) (x1 : Option V), σ = [some (.ref a), x1] ∧ SA C H0 H' a s2 ∧ s2.Lens ∧ s2.pot ≤ 100000 ∧ Sc.wayK m s2 = some t) fu ⟨s1, none, rfl, h1, hle1, hpo1, hw⟩ ?_
  rintro m σ H2 ⟨s2, x1, rfl, ⟨p2, ep2, h2⟩, hle2, hpo2, hw2⟩
  refine ⟨fun b H' => b = true ∧ H' = H2, fun Q' hq => ⟨_, rfl, hq _ _ ⟨rfl, rfl⟩⟩, ?_⟩
  rintro b _ ⟨rfl, rfl⟩
  refine iteT' rfl ?_
  cases m with
  | zero => cases hw2
  | succ m =>
    unfold Sc.wayK at hw2
    have ok2 := (hle2.ok (by omega)).1
    obtain ⟨dx2, e2⟩ := h2.ins
    rw [ep2] at e2
    refine ⟨_, rfl, a, dx2, _, rfl, e2, rfl, a, H0, s2, rfl, ⟨p2, ep2, h2⟩, ok2, fun H3 ⟨p3, ep3, h3⟩ => ?_⟩
    obtain ⟨dx3, e3⟩ := h3.ins
    rw [ep3] at e3
    walk_at "nx"
    refine ⟨_, rfl, a, dx3, _, rfl, e3, rfl, a, H0, s2.endWay, rfl, ⟨p3, ep3, h3⟩, fun H4 ⟨p4, ep4, h4⟩ => ?_⟩
    have st4 := (step_endWay s2).trans (step_skip _)
    have hle4 := st4.l hle2
    have hpo4 : s2.endWay.skip.pot ≤ 100000 := Nat.le_trans (st4.q hle2) hpo2
    generalize s2.endWay.skip = s4 at *
    obtain ⟨dx4, e4⟩ := h4.ins
    rw [ep4] at e4
    have hl4 : ((iV s4.rows).length : Nat) = s4.rows.length := iV_len _
    have ok4 := hle4.ok (by omega)
    refine Wv.gset ?_
    -- the end of the text
    with_reducible refine st_cut (fun σ' H' => σ' = [some (.ref a), some (.str (sgn s4.cur))] ∧ H' = H4 ∧ ¬ (s4.cur = none ∧ s4.rows.length = 1)) (fun nx' go => ?_) ?_
    · refine ⟨_, rfl, rfl, _, rfl, ?_⟩
      rw [sgn_nil]
      refine ite2 (fun t1 => ?_) (fun t1 => ?_)
      · have t1 := of_decide_eq_true t1
        refine ⟨_, rfl, a, C, dx4, _, _, rfl, e4, T.cl, T.n5, rfl, p4.ro, _, rfl, .inl (SqL.of h4.rows), rfl, _, rfl, ?_⟩
        rw [hl4]
        refine ite2 (fun t2 => ?_) (fun t2 => ?_)
        · have t2 : s4.rows.length = 1 := by have := dec_t t2; omega
          rw [if_pos ⟨t1, t2⟩] at hw2
          cases hw2
          refine ⟨_, rfl, a, dx4, _, rfl, e4, rfl, a, H0, s4, rfl, ⟨p4, ep4, h4⟩, ok4.1, fun H5 ⟨p5, ep5, h5⟩ => ?_⟩
          obtain ⟨dx5, e5⟩ := h5.ins
          rw [ep5] at e5
          exact ⟨_, rfl, a, C, dx5, _, _, rfl, e5, T.cl, T.n4, rfl, k H5 p5 ep5 h5⟩
        · refine go _ _ ⟨rfl, rfl, fun q => t2 (decide_eq_true ?_)⟩
          rw [q.2]; rfl
      · exact iteF (go _ _ ⟨rfl, rfl, fun q => t1 (decide_eq_true q.1)⟩)
    · rintro σ' H4 ⟨rfl, rfl, n1⟩
      rw [if_neg n1] at hw2
      -- the end of a bracket
      by_cases q41 : s4.cur = some 41 ∧ 1 < s4.rows.length
      · rw [if_pos q41] at hw2
        refine ⟨_, rfl, rfl, _, rfl, ?_⟩
        rw [c41, sgn_eq, decide_eq_true q41.1]
        refine iteT' rfl ?_
        refine ⟨_, rfl, a, C, dx4, _, _, rfl, e4, T.cl, T.n5, rfl, p4.ro, _, rfl, .inl (SqL.of h4.rows), _, _, rfl, rfl, _, rfl, ?_⟩
        rw [hl4]
        refine ite2 (fun t2 => ?_) (fun t2 => absurd (decide_eq_true (show (1 : Int) < (s4.rows.length : Nat) by omega)) t2)
        refine ⟨_, rfl, a, C, dx4, _, _, rfl, e4, T.cl, T.n3, rfl, _, _, rfl, rfl, dx4, _, e4, by show 7 < 1000; decide, ?_⟩
        have h5 := goAt (dx := dx4) h4 q41.1
        rw [ep4] at h5
        obtain ⟨dx5, e5⟩ := h5.ins
        rw [ep4] at e5
        have pg := pot_go q41.1
        have hle5 := pg.2 hle4
        have ok5 := hle5.ok (by omega)
        refine ⟨_, rfl, a, dx5, _, rfl, e5, rfl, a, H0, s4.go, rfl, ⟨p4, ep4, h5⟩, ok5.1, fun H6 ⟨p6, ep6, h6⟩ => ?_⟩
        obtain ⟨dx6, e6⟩ := h6.ins
        rw [ep6] at e6
        have st6 := step_endChoice s4.go
        have hle6 := st6.l hle5
        have hpo6 := st6.q hle5
        have ok6 := hle6.ok (by omega)
        have hr6 : 1 < s4.go.endChoice.rows.length := by
          have e1 : (setLast s4.go.row1.rows (lastD s4.go.row1.rows + 1)).length = s4.go.row1.rows.length := by
            refine len_setLast ?_ _
            unfold Sc.row1; split <;> exact hle4.r
          have e2 : s4.go.row1.rows = s4.rows := by unfold Sc.row1; split <;> rfl
          have e3 : s4.go.endRow.rows.length = s4.rows.length := by
            show (setLast s4.go.row1.rows (lastD s4.go.row1.rows + 1)).length = _
            rw [e1, e2]
          have e4 : s4.go.endChoice.rows = s4.go.endRow.rows := by unfold Sc.endChoice; split <;> rfl
          rw [e4, e3]
          exact q41.2
        refine ⟨_, rfl, a, dx6, _, rfl, e6, rfl, a, H0, _, rfl, ⟨p6, ep6, h6⟩, ok6.1, fun H7 h7 => ?_⟩
        have st7 := step_leave hr6
        have hpo7 := st7.q hle6
        exact ⟨m, Nat.lt_succ_self _, _, _, rfl, h7, st7.l hle6, by omega, hw2⟩
      · rw [if_neg q41] at hw2
        have rest : ∀ (H5 : Hp) (s5 s6 : Sc), SA C H0 H5 a s5 → s5.Lens → s5.pot ≤ 100000 → s5.begin = some s6 → Sc.wayK m s6 = some t → tDrop (tMeth C (Str.ofString "begin_way") (spBegin C) [] E0 (tVar 0) tNil) { nx := fun σ' H' => ∃ m', m' < m + 1 ∧ ∃ (s2 : Sc) (x1 : Option V), σ' = [some (.ref a), x1] ∧ SA C H0 H' a s2 ∧ s2.Lens ∧ s2.pot ≤ 100000 ∧ Sc.wayK m' s2 = some t, rt := Q, ct := fun σ' H' => ∃ m', m' < m + 1 ∧ ∃ (s2 : Sc) (x1 : Option V), σ' = [some (.ref a), x1] ∧ SA C H0 H' a s2 ∧ s2.Lens ∧ s2.pot ≤ 100000 ∧ Sc.wayK m' s2 = some t, bk := fun x H' => Q V.non H' } [some (.ref a), some (.str (sgn s4.cur))] H5 := by
          rintro H5 s5 s6 ⟨p5, ep5, h5⟩ hle5 hpo5 hb5 hw5
          obtain ⟨dx5, e5⟩ := h5.ins
          rw [ep5] at e5
          have ok5 := hle5.ok (by omega)
          have st6 := step_begin hb5
          refine ⟨_, rfl, a, dx5, _, rfl, e5, rfl, a, H0, s5, s6, rfl, ⟨p5, ep5, h5⟩, ok5.1, ok5.2, hb5, fun H6 h6 => ?_⟩
          exact ⟨m, Nat.lt_succ_self _, s6, _, rfl, h6, st6.l hle5, Nat.le_trans (st6.q hle5) hpo5, hw5⟩
        refine withB (E := tAnd _ _) (fun b H' => b = false ∧ H' = H4) (fun Q' go => ?_) ?_
        · refine ⟨_, rfl, rfl, _, rfl, ?_⟩
          rw [c41, sgn_eq]
          refine ite2 (fun t1 => ?_) (fun _ => go _ _ ⟨rfl, rfl⟩)
          have t1 := of_decide_eq_true t1
          refine ⟨_, rfl, a, C, dx4, _, _, rfl, e4, T.cl, T.n5, rfl, p4.ro, _, rfl, .inl (SqL.of h4.rows), _, _, rfl, rfl, _, rfl, go _ _ ⟨?_, rfl⟩⟩
          rw [hl4]
          refine decide_eq_false fun q => q41 ⟨t1, by omega⟩
        rintro _ H4 ⟨rfl, rfl⟩
        refine iteF ?_
        by_cases q47 : s4.cur = some 47
        · rw [if_pos q47] at hw2
          cases hbe : s4.go.endRow.begin with
          | none => rw [hbe] at hw2; cases hw2
          | some s6 =>
            rw [hbe, Option.bind_some] at hw2
            refine ⟨_, rfl, rfl, _, rfl, ?_⟩
            rw [c47, sgn_eq, decide_eq_true q47]
            refine iteT' rfl ?_
            refine ⟨_, rfl, a, C, dx4, _, _, rfl, e4, T.cl, T.n3, rfl, _, _, rfl, rfl, dx4, _, e4, by show 7 < 1000; decide, ?_⟩
            have h5 := goAt (dx := dx4) h4 q47
            rw [ep4] at h5
            obtain ⟨dx5, e5⟩ := h5.ins
            rw [ep4] at e5
            have pg := pot_go q47
            have hle5 := pg.2 hle4
            have ok5 := hle5.ok (by omega)
            refine ⟨_, rfl, a, dx5, _, rfl, e5, rfl, a, H0, s4.go, rfl, ⟨p4, ep4, h5⟩, ok5.1, fun H6 h6 => ?_⟩
            have st6 := step_endRow s4.go
            have hpo6 := st6.q hle5
            exact rest H6 _ s6 h6 (st6.l hle5) (by omega) hbe hw2
        · rw [if_neg q47] at hw2
          cases hbe : s4.begin with
          | none => rw [hbe] at hw2; cases hw2
          | some s6 =>
            rw [hbe, Option.bind_some] at hw2
            refine ⟨_, rfl, rfl, _, rfl, ?_⟩
            rw [c47, sgn_eq, decide_eq_false q47]
            exact iteF (rest H4 _ s6 ⟨p4, ep4, h4⟩ hle4 hpo4 hbe hw2)
end
end Ws
namespace Ws
open PySem PySem.Spec PyProof.Rows L2 Wv
/-! ### a way built from its kind, its word and its parts -/
inductive Builds : Nat → Str → List W → W → Prop where
  | letter (c : Nat) : Builds 0 (sg c) [] (.letter c)
  | one : Builds 1 eS [] .one
  | nothing : Builds 2 eS [] .nothing
  | row (ws : List W) : Builds 3 eS ws (.row ws)
  | choice (ws : List W) : Builds 4 eS ws (.choice ws)
  | again (w : W) : Builds 5 eS [w] (.again w)
  | maybe (w : W) : Builds 6 eS [w] (.maybe w)
  | ahead (w : W) : Builds 7 eS [w] (.ahead w)
  | unless (w : W) : Builds 8 eS [w] (.unless w)
  | call (x : Str) : Builds 9 x [] (.call x)
def spBuilt (c : Cs) : Sp := fun vs H Q _ => ∃ (k : Nat) (x : Str) (q : Addr) (us : List V) (ws : List W) (w : W), vs = [.int (k : Nat), .str x, .ref q] ∧ H q = some (.lst us) ∧ ObjsAt c H us ws ∧ Builds k x ws w ∧ ws.length ≤ 1000000 ∧ ∀ (u : V) (H' : Hp), Same H H' → ObjAt c H' u w → Q u H'
section
variable {P : Program} {w : World} {K : PySem.W.Frag} {mg : Str → Option Value} {base : Heap} {c : Cs}
theorem iteN {b : Bool} {T F : Prop} (h : b = false) (f : F) : if b = true then T else F := by rw [h]; exact f
theorem decI {a b : Nat} : decide (V.int (a : Nat) = V.int ((b : Nat) : Int)) = decide (a = b) := by
  by_cases h : a = b
  · subst h; rw [decide_eq_true rfl, decide_eq_true rfl]
  · rw [decide_eq_false (fun q => h (by have := V.int.inj q; omega)), decide_eq_false h]
abbrev s_built : Stmt := top 43
theorem sc_built : FnScope ["kind", "word", "inner"] ["kind", "word", "inner"] (defScope s_built) := ⟨rfl, rfl, rfl, by decide +kernel, rfl, by decide +kernel, by decide +kernel⟩
theorem d_built (h : Here K mg "built" s_built ["kind", "word", "inner"]) (g : Gs P w K mg base c) (CN : Kc mg) : DefOk P w K mg base 4 "built" ["kind", "word", "inner"] (spBuilt c) := by
  have G_Letter := g.lt; have G_Call := g.ca; have G_Row := g.ro; have G_Choice := g.ch; have G_Again := g.ag; have G_Maybe := g.ma; have G_Ahead := g.ah; have G_Unless := g.un
  have G_One := g.on; have G_Nothing := g.no
  have GC_LETTER := CN.k0; have GC_ONE := CN.k1; have GC_NOTHING := CN.k2; have GC_ROW := CN.k3; have GC_CHOICE := CN.k4; have GC_AGAIN := CN.k5; have GC_MAYBE := CN.k6; have GC_AHEAD := CN.k7; have GC_UNLESS := CN.k8; have GC_CALL := CN.k9
  refine h.ok sc_built (fun vs H Q E h => by obtain ⟨_, _, _, _, _, _, rfl, _⟩ := h; rfl) (fun f cdv A outer s' H vs Q E hr h => ?_)
  obtain ⟨k0, x, q, us, ws, w, rfl, hq, hus, hb, hwl, k⟩ := h
  refine ⟨_, (pss_cons (ps_if (pt_cmpR op_eq (pv 0) (pe_globI rfl GC_LETTER) (nomark _)) (pss_one (ps_ret (pe_makeD G_Letter (hr.mono (by first | decide | omega)) rfl (pa_cons (pv 1) pa_nil)))) pss_nil)
  (pss_cons (ps_if (pt_cmpR op_eq (pv 0) (pe_globI rfl GC_ONE) (nomark _)) (pss_one (ps_ret (pe_makeD0 G_One (hr.mono (by first | decide | omega)) rfl))) pss_nil)
  (pss_cons (ps_if (pt_cmpR op_eq (pv 0) (pe_globI rfl GC_NOTHING) (nomark _)) (pss_one (ps_ret (pe_makeD0 G_Nothing (hr.mono (by first | decide | omega)) rfl))) pss_nil)
  (pss_cons (ps_if (pt_cmpR op_eq (pv 0) (pe_globI rfl GC_ROW) (nomark _)) (pss_one (ps_ret (pe_makeD G_Row (hr.mono (by first | decide | omega)) rfl (pa_cons (pv 2) pa_nil)))) pss_nil)
  (pss_cons (ps_if (pt_cmpR op_eq (pv 0) (pe_globI rfl GC_CHOICE) (nomark _)) (pss_one (ps_ret (pe_makeD G_Choice (hr.mono (by first | decide | omega)) rfl (pa_cons (pv 2) pa_nil)))) pss_nil)
  (pss_cons (ps_if (pt_cmpR op_eq (pv 0) (pe_globI rfl GC_AGAIN) (nomark _)) (pss_one (ps_ret (pe_makeD G_Again (hr.mono (by first | decide | omega)) rfl (pa_cons (pe_ix ix_list (pv 2) pe_int (fun _ _ => rfl)) pa_nil)))) pss_nil)
  (pss_cons (ps_if (pt_cmpR op_eq (pv 0) (pe_globI rfl GC_MAYBE) (nomark _)) (pss_one (ps_ret (pe_makeD G_Maybe (hr.mono (by first | decide | omega)) rfl (pa_cons (pe_ix ix_list (pv 2) pe_int (fun _ _ => rfl)) pa_nil)))) pss_nil)
  (pss_cons (ps_if (pt_cmpR op_eq (pv 0) (pe_globI rfl GC_AHEAD) (nomark _)) (pss_one (ps_ret (pe_makeD G_Ahead (hr.mono (by first | decide | omega)) rfl (pa_cons (pe_ix ix_list (pv 2) pe_int (fun _ _ => rfl)) pa_nil)))) pss_nil)
  (pss_cons (ps_if (pt_cmpR op_eq (pv 0) (pe_globI rfl GC_UNLESS) (nomark _)) (pss_one (ps_ret (pe_makeD G_Unless (hr.mono (by first | decide | omega)) rfl (pa_cons (pe_ix ix_list (pv 2) pe_int (fun _ _ => rfl)) pa_nil)))) pss_nil)
  (pss_one (ps_ret (pe_makeD G_Call (hr.mono (by first | decide | omega)) rfl (pa_cons (pv 1) pa_nil))))))))))))), ?_⟩
  cases hb
  case letter =>
    refine ⟨_, rfl, rfl, _, rfl, iteT' (by decide) ?_⟩
    exact ⟨_, rfl, makeL fun x dx H' s2 h => k _ H' s2 ⟨x, dx, rfl, h⟩⟩
  case one =>
    repeat (refine ⟨_, rfl, rfl, _, rfl, iteN (by decide) ?_⟩; walk_at "nx")
    refine ⟨_, rfl, rfl, _, rfl, iteT' (by decide) ?_⟩
    exact make0 fun x dx H' s3 h => k _ H' s3 ⟨x, dx, rfl, h⟩
  case nothing =>
    repeat (refine ⟨_, rfl, rfl, _, rfl, iteN (by decide) ?_⟩; walk_at "nx")
    refine ⟨_, rfl, rfl, _, rfl, iteT' (by decide) ?_⟩
    exact make0 fun x dx H' s3 h => k _ H' s3 ⟨x, dx, rfl, h⟩
  case row =>
    repeat (refine ⟨_, rfl, rfl, _, rfl, iteN (by decide) ?_⟩; walk_at "nx")
    refine ⟨_, rfl, rfl, _, rfl, iteT' (by decide) ?_⟩
    exact ⟨_, rfl, makeT (.inl hq) hus hwl fun x dx t H' s7 ht h => k _ H' s7 ⟨x, dx, t, us, rfl, h, ht, ObjsAt.keep (stillS s7) _ _ hus⟩⟩
  case choice =>
    repeat (refine ⟨_, rfl, rfl, _, rfl, iteN (by decide) ?_⟩; walk_at "nx")
    refine ⟨_, rfl, rfl, _, rfl, iteT' (by decide) ?_⟩
    exact ⟨_, rfl, makeT (.inl hq) hus hwl fun x dx t H' s7 ht h => k _ H' s7 ⟨x, dx, t, us, rfl, h, ht, ObjsAt.keep (stillS s7) _ _ hus⟩⟩
  case call =>
    repeat (refine ⟨_, rfl, rfl, _, rfl, iteN (by decide) ?_⟩; walk_at "nx")
    exact ⟨_, rfl, makeC fun x dx H' s2 h => k _ H' s2 ⟨x, dx, rfl, h⟩⟩
  case again =>
    obtain ⟨u, us', rfl, hu, hn⟩ := hus
    repeat (refine ⟨_, rfl, rfl, _, rfl, iteN (by decide) ?_⟩; walk_at "nx")
    refine ⟨_, rfl, rfl, _, rfl, iteT' (by decide) ?_⟩
    exact ⟨_, rfl, q, _, _, _, rfl, rfl, SqL.of hq, atI0, makeA hu fun x dx mk H' s8 h => k _ H' s8 ⟨x, dx, u, mk, rfl, h, ObjAt.keep (stillS s8) _ _ hu⟩⟩
  all_goals
    obtain ⟨u, us', rfl, hu, hn⟩ := hus
    repeat (refine ⟨_, rfl, rfl, _, rfl, iteN (by decide) ?_⟩; walk_at "nx")
    refine ⟨_, rfl, rfl, _, rfl, iteT' (by decide) ?_⟩
    exact ⟨_, rfl, q, _, _, _, rfl, rfl, SqL.of hq, atI0, makeP hu fun x dx H' s8 h => k _ H' s8 ⟨x, dx, u, .non, rfl, h, ObjAt.keep (stillS s8) _ _ hu⟩⟩
end
end Ws
namespace Ws
open PySem PySem.Spec PyProof.Rows L2 Wv
/-! ### from steps to a way -/
inductive Post : List (Nat × Str × Nat) → List W → List W → Prop where
  | nil (S : List W) : Post [] S S
  | cons {k : Nat} {x : Str} {ws S S' : List W} {w : W} {r : List (Nat × Str × Nat)} (b : Builds k x ws w) (h : Post r (S ++ [w]) S') : Post ((k, x, ws.length) :: r) (S ++ ws) S'
def spSteps (c : Cs) : Sp := fun vs H Q _ => ∃ (st : Addr) (es : List V) (steps : List (Nat × Str × Nat)) (w : W), vs = [.ref st] ∧ H st = some (.lst es) ∧ StepsAt H es steps ∧ Post steps [] [w] ∧ steps.length ≤ 100000 ∧ ∀ (u : V) (H' : Hp), Same H H' → ObjAt c H' u w → Q u H'
section
variable {P : Program} {w : World} {K : PySem.W.Frag} {mg : Str → Option Value} {base : Heap} {c : Cs}
theorem StepsAt.at_ {H : Hp} : ∀ (xs : List (Nat × Str × Nat)) (vs : List V) (i : Nat) (v : V), StepsAt H vs xs → vs[i]? = some v → ∃ r x, v = .ref r ∧ xs[i]? = some x ∧ H r = some (.tup [.int (x.1 : Nat), .str x.2.1, .int (x.2.2 : Nat)])
  | [], vs, i, v, h, e => by rw [show vs = [] from h] at e; simp at e
  | x :: xs, vs, 0, v, ⟨r, us, e, h, h2⟩, ev => by
    rw [e] at ev
    have q : V.ref r = v := by simpa using ev
    subst q
    exact ⟨r, x, rfl, rfl, h⟩
  | x :: xs, vs, i + 1, v, ⟨r, us, e, h, h2⟩, ev => by
    rw [e] at ev
    obtain ⟨r', x', a1, a2, a3⟩ := StepsAt.at_ xs us i v h2 (by simpa using ev)
    exact ⟨r', x', a1, by simpa using a2, a3⟩
theorem cut_end (xs : List V) (i : Nat) (h : i ≤ xs.length) : cutV xs (some ((i : Nat) : Int)) none = xs.drop i := by
  unfold cutV
  rw [HT.sIx_nat, HT.sIx_none, Nat.min_eq_left h]
  exact List.take_of_length_le (by rw [List.length_drop]; omega)
theorem ObjsAt.cut {H : Hp} : ∀ (a b : List W) (vs : List V), ObjsAt c H vs (a ++ b) → ObjsAt c H (vs.take a.length) a ∧ ObjsAt c H (vs.drop a.length) b
  | [], b, vs, h => ⟨rfl, h⟩
  | x :: a, b, vs, ⟨u, us, e, hu, h⟩ => by
    subst e
    obtain ⟨h1, h2⟩ := ObjsAt.cut a b us h
    exact ⟨⟨u, us.take a.length, rfl, hu, h1⟩, h2⟩
abbrev s_way_of_steps : Stmt := top 42
theorem sc_way_of_steps : FnScope ["steps", "done", "kind", "word", "many", "first", "inner"] ["steps"] (defScope s_way_of_steps) := ⟨rfl, rfl, rfl, by decide +kernel, rfl, by decide +kernel, by decide +kernel⟩
theorem d_way_of_steps (h : Here K mg "way_of_steps" s_way_of_steps ["steps"]) (B : Bs mg) (G_built : DefOk P w K mg base 4 "built" ["kind", "word", "inner"] (spBuilt c)) : DefOk P w K mg base 5 "way_of_steps" ["steps"] (spSteps c) := by
  have B_len := B.len
  refine h.ok sc_way_of_steps (fun vs H Q E h => by obtain ⟨_, _, _, _, rfl, _⟩ := h; rfl) (fun f cdv A outer s' H vs Q E hr h => ?_)
  obtain ⟨st, es, steps, w, rfl, hst, hse, hp, hl, k⟩ := h
  refine ⟨_, (pss_cons (ps_set (i := 1) sc_way_of_steps.nd rfl (Or.inl rfl) (pe_lst pa_nil))
  (pss_cons (ps_for PassesOwn.never rfl (pi_list (pv 0)) (pg_tup rfl (pgs_cons (pg_name (i := 2) sc_way_of_steps.nd rfl (Or.inl rfl)) (pgs_cons (pg_name (i := 3) sc_way_of_steps.nd rfl (Or.inl rfl)) (pgs_cons (pg_name (i := 4) sc_way_of_steps.nd rfl (Or.inl rfl)) pgs_nil))))
   (pss_cons (ps_set (i := 5) sc_way_of_steps.nd rfl (Or.inl rfl) (pe_op op_sub (pe_callB call_len_seq rfl B_len PySem.boot_len (pa_cons (pv 1) pa_nil)) (pv 4)))
  (pss_cons (ps_set (i := 6) sc_way_of_steps.nd rfl (Or.inl rfl) (pe_slice sl_list (pv 1) (po_some (pv 5)) po_none))
  (pss_cons (ps_delS (pv 1) (pv 5))
  (pss_one (ps_expr (pe_bm PySem.F.plainAttrs_list PySem.F.slot_list_append PySem.F.type_list_append mt_append (pv 1) (pa_cons (pe_callD G_built (hr.mono (by first | decide | omega)) rfl (pa_cons (pv 2) (pa_cons (pv 3) (pa_cons (pv 6) pa_nil)))) pa_nil))))))))
  (pss_one (ps_ret (pe_ix ix_list (pv 1) pe_int (fun _ _ => rfl)))))), ?_⟩
  refine ⟨Nat.zero_le _, fun d hd => ?_⟩
  have hse' := StepsAt.len _ _ hse
  walk_at "nx"
  have s1 := Same.new hd (.lst [])
  refine ⟨_, rfl, st, rfl, ⟨es, SqL.of (s1 _ _ hst)⟩, ?_⟩
  refine for_list (K := K) (a := st) (xs := es) (fun i σ H' => ∃ (S : List W) (us : List V) (x2 x3 x4 x5 x6 : Option V), σ = [some (.ref st), some (.ref d), x2, x3, x4, x5, x6] ∧ H' d = some (.lst us) ∧ ObjsAt c H' us S ∧ Post (steps.drop i) S [w] ∧ S.length ≤ i ∧ Same H H') ?_ ?_ ?_ ?_
  · exact ⟨[], [], none, none, none, none, none, rfl, upd_same, rfl, hp, Nat.zero_le _, s1⟩
  · rintro i σ H' _ ⟨_, _, _, _, _, _, _, rfl, _, _, _, _, s2⟩
    exact SqL.of (s2 _ _ hst)
  · rintro i e σ H1 he ⟨S, us, x2, x3, x4, x5, x6, rfl, hd1, hus, hp1, hSi, s2⟩
    obtain ⟨r, x, rfl, hx, hr'⟩ := StepsAt.at_ _ _ _ _ hse he
    have hil : i < steps.length := (List.getElem?_eq_some_iff.mp hx).1
    have hdr : steps.drop i = x :: steps.drop (i + 1) := by
      obtain ⟨hi, e⟩ := List.getElem?_eq_some_iff.mp hx
      rw [List.drop_eq_getElem_cons hi, e]
    rw [hdr] at hp1
    cases hp1 with
    | @cons k0 x0 ws S0 _ wb _ hb hrest =>
      have hlu := ObjsAt.len _ _ hus
      rw [List.length_append] at hlu
      refine ⟨r, _, rfl, SqT.of (s2 _ _ hr'), rfl, _, _, rfl, _, _, rfl, _, _, rfl, rfl, ?_⟩
      walk_at "nx"
      refine ⟨_, rfl, d, us, rfl, .inl (SqL.of hd1), _, rfl, _, _, rfl, rfl, ?_⟩
      have e1 : ((us.length : Nat) : Int) - (ws.length : Nat) = (S0.length : Nat) := by omega
      obtain ⟨h1a, h1b⟩ := ObjsAt.cut _ _ _ hus
      have hSl : (S0 ++ ws).length ≤ i := hSi
      rw [List.length_append] at hSl
      dsimp only
      rw [e1]
      walk_at "nx"
      refine ⟨_, rfl, _, rfl, _, rfl, d, us, rfl, SqL.of hd1, fun q hq => ?_⟩
      rw [cut_end _ _ (by omega)]
      have s3 := Same.new hq (.lst (us.drop S0.length))
      have hq3 : upd H1 q (.lst (us.drop S0.length)) q = some (.lst (us.drop S0.length)) := upd_same
      have hd3 := s3 _ _ hd1
      have ndq : d ≠ q := ne_of_none hd1 hq
      generalize upd H1 q (.lst (us.drop S0.length)) = H3 at *
      walk_at "nx"
      refine ⟨_, rfl, _, rfl, _, rfl, d, us, _, rfl, rfl, hd3, by omega, by omega, ?_⟩
      rw [Int.toNat_natCast]
      have k4 : Still H3 (upd H3 d (.lst (us.take S0.length))) := Still.put hd3
      have hd4 : upd H3 d (.lst (us.take S0.length)) d = some (.lst (us.take S0.length)) := upd_same
      have hq4 : upd H3 d (.lst (us.take S0.length)) q = some (.lst (us.drop S0.length)) := by rw [upd_ne ndq.symm]; exact hq3
      have s4 : Same H (upd H3 d (.lst (us.take S0.length))) := Same.put hd (s2.trans s3) _
      generalize upd H3 d (.lst (us.take S0.length)) = H4 at *
      have k34 := (stillS s3).trans k4
      walk_at "nx"
      refine ⟨_, rfl, .inl ⟨rfl, _, SqL.of hd4⟩, _, rfl, _, rfl, _, rfl, k0, x0, q, _, ws, wb, rfl, hq4, ObjsAt.keep k34 _ _ h1b, hb, by omega, fun u H5 s5 hu => ?_⟩
      have hd5 := s5 _ _ hd4
      refine ⟨d, _, _, rfl, rfl, hd5, small' (by rw [List.length_take]; omega), ?_⟩
      walk_at "nx"
      have k6 : Still H5 (upd H5 d (.lst (us.take S0.length ++ [u]))) := Still.put hd5
      refine ⟨S0 ++ [wb], _, _, _, _, _, _, rfl, upd_same, ?_, hrest, by rw [List.length_append, List.length_singleton]; omega, Same.put hd (s4.trans s5) _⟩
      exact ObjsAt.app _ _ (ObjsAt.keep ((k34.trans (stillS s5)).trans k6) _ _ h1a) ⟨u, [], rfl, ObjAt.keep k6 _ _ hu, rfl⟩
  · rintro σ H1 ⟨S, us, x2, x3, x4, x5, x6, rfl, hd1, hus, hp1, _, s2⟩
    rw [hse', List.drop_length] at hp1
    cases hp1
    obtain ⟨u, us', rfl, hu, hn⟩ := hus
    walk_at "nx"
    walk_at "rd"
    exact ⟨d, _, _, _, rfl, rfl, SqL.of hd1, atI0, k u H1 s2 hu⟩
end
end Ws
namespace Ws
open PySem PySem.Spec PyProof.Rows L2 Wv
/-! ### a new scanner -/
def Sc.new (z : List Nat) (ln : Int) : Sc := ⟨z, ln, 0, [], [0], [0], [[]]⟩
def spNew (C : Addr) : Sp := fun vs H Q _ => ∃ (p dx : Addr) (z : List Nat) (ln : Int) (H0 : Hp), vs = [.ref p, .str (tx z), .int ln] ∧ H p = some (.ins C dx []) ∧ H0 p = none ∧ Same H0 H ∧ z.length ≤ 10000 ∧
  ∀ (H' : Hp) (q : At), q.a = p → ScAt C H0 H' q (Sc.new z ln) → Q .non H'
section
variable {P : Program} {w : World} {K : PySem.W.Frag} {mg : Str → Option Value} {base : Heap} {C : Addr}
theorem none_of_same {H0 H : Hp} (k : Same H0 H) {a : Addr} (h : H a = none) : H0 a = none := by
  cases z : H0 a with
  | none => rfl
  | some o => rw [k _ _ z] at h; cases h
abbrev s_Scan_init : Stmt := inClass (top 17) 0
theorem sc_Scan_init : FnScope ["self", "text", "line"] ["self", "text", "line"] (defScope s_Scan_init) := ⟨rfl, rfl, rfl, by decide +kernel, rfl, by decide +kernel, by decide +kernel⟩
theorem ok_new {f : Addr} {fd : FuncData} (F : Fun K "__init__" "Scan.__init__" s_Scan_init f fd) (T : ScF K C) : FnOk P w K mg base CX0 1 f fd ["self", "text", "line"] (spNew C) := by
  refine F.ok sc_Scan_init (fun vs H Q E h => by obtain ⟨_, _, _, _, _, rfl, _⟩ := h; rfl) (fun cdv A outer s' H vs Q E hr h => ?_)
  obtain ⟨p, dx, z, ln, H0, rfl, hp, hp0, s0, hz, k⟩ := h
  refine ⟨_, (pss_cons (ps_fld (pv 0) (pv 1) rfl)
  (pss_cons (ps_fld (pv 0) (pv 2) rfl)
  (pss_cons (ps_fld (pv 0) pe_int rfl)
  (pss_cons (ps_fld (pv 0) (pe_lst pa_nil) rfl)
  (pss_cons (ps_fld (pv 0) (pe_lst (pa_cons pe_int pa_nil)) rfl)
  (pss_cons (ps_fld (pv 0) (pe_lst (pa_cons pe_int pa_nil)) rfl)
  (pss_one (ps_fld (pv 0) (pe_lst (pa_cons (pe_lst pa_nil) pa_nil)) rfl)))))))), ?_⟩
  refine ⟨_, rfl, _, rfl, p, C, dx, [], rfl, hp, T.cl, T.n1, (by show 0 < 1000; decide), ?_⟩
  have g1 : upd H p (.ins C dx (putF (Str.ofString "text") (.str (tx z)) [])) p = some (.ins C dx (putF (Str.ofString "text") (.str (tx z)) [])) := upd_same
  have t1 : Same H0 (upd H p (.ins C dx (putF (Str.ofString "text") (.str (tx z)) []))) := Same.put hp0 s0 _
  generalize upd H p (.ins C dx (putF (Str.ofString "text") (.str (tx z)) [])) = H1 at *
  refine ⟨_, rfl, _, rfl, p, C, dx, _, rfl, g1, T.cl, T.n2, (by show 1 < 1000; decide), ?_⟩
  generalize e2 : putF (Str.ofString "line") (.int ln) (putF (Str.ofString "text") (.str (tx z)) []) = f2
  have g2 : upd H1 p (.ins C dx f2) p = some (.ins C dx f2) := upd_same
  have t2 : Same H0 (upd H1 p (.ins C dx f2)) := Same.put hp0 t1 _
  generalize upd H1 p (.ins C dx f2) = H2 at *
  refine ⟨_, rfl, p, C, dx, _, rfl, g2, T.cl, T.n3, (by rw [← e2]; show 2 < 1000; decide), ?_⟩
  generalize e3 : putF (Str.ofString "place") (.int 0) f2 = f3
  have g3 : upd H2 p (.ins C dx f3) p = some (.ins C dx f3) := upd_same
  have t3 : Same H0 (upd H2 p (.ins C dx f3)) := Same.put hp0 t2 _
  generalize upd H2 p (.ins C dx f3) = H3 at *
  -- the steps
  refine ⟨Nat.zero_le _, fun st hst => ?_⟩
  have u4 := Same.new hst (.lst [])
  have a4 : upd H3 st (.lst []) st = some (.lst []) := upd_same
  have g4 := u4 _ _ g3
  have t4 := t3.trans u4
  have nst := none_of_same t3 hst
  have d4 : p ≠ st := ne_of_none g3 hst
  generalize upd H3 st (.lst []) = H4 at *
  refine ⟨_, rfl, p, C, dx, _, rfl, g4, T.cl, T.n4, (by rw [← e3, ← e2]; show 3 < 1000; decide), ?_⟩
  generalize e5 : putF (Str.ofString "steps") (.ref st) f3 = f5
  have g5 : upd H4 p (.ins C dx f5) p = some (.ins C dx f5) := upd_same
  have a5 : upd H4 p (.ins C dx f5) st = some (.lst []) := by rw [upd_ne d4.symm]; exact a4
  have t5 : Same H0 (upd H4 p (.ins C dx f5)) := Same.put hp0 t4 _
  generalize upd H4 p (.ins C dx f5) = H5 at *
  -- the rows
  refine ⟨by show 1 ≤ sizeLine; decide, fun ro hro => ?_⟩
  have u6 := Same.new hro (.lst [.int 0])
  have b6 : upd H5 ro (.lst [.int 0]) ro = some (.lst [.int 0]) := upd_same
  have g6 := u6 _ _ g5
  have a6 := u6 _ _ a5
  have t6 := t5.trans u6
  have nro := none_of_same t5 hro
  have d6 : p ≠ ro := ne_of_none g5 hro
  have d6a : st ≠ ro := ne_of_none a5 hro
  generalize upd H5 ro (.lst [.int 0]) = H6 at *
  refine ⟨_, rfl, p, C, dx, _, rfl, g6, T.cl, T.n5, (by rw [← e5, ← e3, ← e2]; show 4 < 1000; decide), ?_⟩
  generalize e7 : putF (Str.ofString "rows") (.ref ro) f5 = f7
  have g7 : upd H6 p (.ins C dx f7) p = some (.ins C dx f7) := upd_same
  have a7 : upd H6 p (.ins C dx f7) st = some (.lst []) := by rw [upd_ne d4.symm]; exact a6
  have b7 : upd H6 p (.ins C dx f7) ro = some (.lst [.int 0]) := by rw [upd_ne d6.symm]; exact b6
  have t7 : Same H0 (upd H6 p (.ins C dx f7)) := Same.put hp0 t6 _
  generalize upd H6 p (.ins C dx f7) = H7 at *
  -- how many
  refine ⟨by show 1 ≤ sizeLine; decide, fun ma hma => ?_⟩
  have u8 := Same.new hma (.lst [.int 0])
  have c8 : upd H7 ma (.lst [.int 0]) ma = some (.lst [.int 0]) := upd_same
  have g8 := u8 _ _ g7
  have a8 := u8 _ _ a7
  have b8 := u8 _ _ b7
  have t8 := t7.trans u8
  have nma := none_of_same t7 hma
  have d8 : p ≠ ma := ne_of_none g7 hma
  have d8a : st ≠ ma := ne_of_none a7 hma
  have d8b : ro ≠ ma := ne_of_none b7 hma
  generalize upd H7 ma (.lst [.int 0]) = H8 at *
  refine ⟨_, rfl, p, C, dx, _, rfl, g8, T.cl, T.n6, (by rw [← e7, ← e5, ← e3, ← e2]; show 5 < 1000; decide), ?_⟩
  generalize e9 : putF (Str.ofString "many") (.ref ma) f7 = f9
  have g9 : upd H8 p (.ins C dx f9) p = some (.ins C dx f9) := upd_same
  have a9 : upd H8 p (.ins C dx f9) st = some (.lst []) := by rw [upd_ne d4.symm]; exact a8
  have b9 : upd H8 p (.ins C dx f9) ro = some (.lst [.int 0]) := by rw [upd_ne d6.symm]; exact b8
  have c9 : upd H8 p (.ins C dx f9) ma = some (.lst [.int 0]) := by rw [upd_ne d8.symm]; exact c8
  have t9 : Same H0 (upd H8 p (.ins C dx f9)) := Same.put hp0 t8 _
  generalize upd H8 p (.ins C dx f9) = H9 at *
  -- the looks
  refine ⟨Nat.zero_le _, fun l0 hl0 => ⟨by show 1 ≤ sizeLine; decide, fun lo hlo => ?_⟩⟩
  have u10 := Same.new hl0 (.lst [])
  have x10 : upd H9 l0 (.lst []) l0 = some (.lst []) := upd_same
  have u11 := Same.new hlo (.lst [.ref l0])
  have x11 : upd (upd H9 l0 (.lst [])) lo (.lst [.ref l0]) lo = some (.lst [.ref l0]) := upd_same
  have y11 := u11 _ _ x10
  have g11 := u11 _ _ (u10 _ _ g9)
  have a11 := u11 _ _ (u10 _ _ a9)
  have b11 := u11 _ _ (u10 _ _ b9)
  have c11 := u11 _ _ (u10 _ _ c9)
  have t11 := (t9.trans u10).trans u11
  have nl0 := none_of_same t9 hl0
  have nlo := none_of_same (t9.trans u10) hlo
  have d10 : p ≠ l0 ∧ st ≠ l0 ∧ ro ≠ l0 ∧ ma ≠ l0 := ⟨ne_of_none g9 hl0, ne_of_none a9 hl0, ne_of_none b9 hl0, ne_of_none c9 hl0⟩
  have d11 : p ≠ lo ∧ st ≠ lo ∧ ro ≠ lo ∧ ma ≠ lo ∧ l0 ≠ lo := ⟨ne_of_none (u10 _ _ g9) hlo, ne_of_none (u10 _ _ a9) hlo, ne_of_none (u10 _ _ b9) hlo, ne_of_none (u10 _ _ c9) hlo, ne_of_none x10 hlo⟩
  generalize upd (upd H9 l0 (.lst [])) lo (.lst [.ref l0]) = H11 at *
  refine ⟨_, rfl, p, C, dx, _, rfl, g11, T.cl, T.n7, (by rw [← e9, ← e7, ← e5, ← e3, ← e2]; show 6 < 1000; decide), ?_⟩
  refine k _ ⟨p, st, ro, ma, lo, [l0]⟩ rfl ⟨⟨dx, ?_⟩, ⟨[], ?_, rfl⟩, ?_, ?_, ⟨?_, l0, [], rfl, ?_, rfl⟩, ?_, ?_, Same.put hp0 t11 _, hz, Nat.zero_le _⟩
  · rw [upd_same, ← e9, ← e7, ← e5, ← e3, ← e2]; rfl
  · rw [upd_ne d4.symm]; exact a11
  · rw [upd_ne d6.symm]; exact b11
  · rw [upd_ne d8.symm]; exact c11
  · rw [upd_ne d11.1.symm]; exact x11
  · rw [upd_ne d10.1.symm]; exact y11
  · simp only [At.all, List.nodup_cons, List.mem_cons, List.not_mem_nil, or_false, not_or, List.nodup_nil, and_true, not_false_eq_true]
    exact ⟨⟨d4, d6, d8, d11.1, d10.1⟩, ⟨d6a, d8a, d11.2.1, d10.2.1⟩, ⟨d8b, d11.2.2.1, d10.2.2.1⟩, ⟨d11.2.2.2.1, d10.2.2.2⟩, d11.2.2.2.2.symm⟩
  · intro b hb
    simp only [At.all, List.mem_cons, List.not_mem_nil, or_false] at hb
    rcases hb with rfl | rfl | rfl | rfl | rfl | rfl
    · exact hp0
    · exact nst
    · exact nro
    · exact nma
    · exact nlo
    · exact nl0
end
end Ws
namespace Ws
open PySem PySem.Spec PyProof.Rows L2 Wv
/-! ### Way.read -/
/-- the text z is read as the way w -/
def Reads (z : List Nat) (w : W) : Prop := z.length ≤ 10000 ∧ ∃ (s1 t : Sc) (f : Nat), (Sc.new z 1).begin = some s1 ∧ Sc.wayK f s1 = some t ∧ Post t.steps [] [w] ∧ t.steps.length ≤ 100000
def spRead (c : Cs) : Sp := fun vs H Q _ => ∃ (v : V) (z : List Nat) (w : W), vs = [v, .str (tx z)] ∧ Reads z w ∧ ∀ (u : V) (H' : Hp), Same H H' → ObjAt c H' u w → Q u H'
section
variable {P : Program} {w : World} {K : PySem.W.Frag} {mg : Str → Option Value} {base : Heap} {C : Addr} {c : Cs}
abbrev s_Way_read : Stmt := inClass (top 20) 1
theorem sc_Way_read : FnScope ["cls", "text"] ["cls", "text"] (defScope s_Way_read) := ⟨rfl, rfl, rfl, by decide +kernel, rfl, by decide +kernel, by decide +kernel⟩
theorem ok_read {f : Addr} {fd : FuncData} (F : Fun K "read" "Way.read" s_Way_read f fd) (G_Scan : ClsOk P w K mg base 1 "Scan" C ["self", "text", "line"] (spNew C)) (G_read_way : ScOk P w K mg base C 6 "read_way" ["self"] (spWay C))
    (G_way_of_steps : DefOk P w K mg base 5 "way_of_steps" ["steps"] (spSteps c)) : FnOk P w K mg base CX0 7 f fd ["cls", "text"] (spRead c) := by
  refine F.ok sc_Way_read (fun vs H Q E h => by obtain ⟨_, _, _, rfl, _⟩ := h; rfl) (fun cdv A outer s' H vs Q E hr h => ?_)
  obtain ⟨v, z, w, rfl, ⟨hz, s1, t, fu, hb, hw, hp, hl⟩, k⟩ := h
  refine ⟨_, (pss_one (ps_ret (pe_callD G_way_of_steps (hr.mono (by first | decide | omega)) rfl (pa_cons (pe_methS0 G_read_way (hr.mono (by first | decide | omega)) (pe_makeD G_Scan (hr.mono (by first | decide | omega)) rfl (pa_cons (pv 1) (pa_cons pe_int pa_nil)))) pa_nil)))), ?_⟩
  refine ⟨_, rfl, fun x dx hx hd ne => ?_⟩
  have sm : Same H (upd (upd H dx (.own x)) x (.ins C dx [])) := fun b o e => by rw [upd_ne (ne_of_none e hx), upd_ne (ne_of_none e hd)]; exact e
  refine ⟨x, dx, z, 1, H, rfl, upd_same, hx, sm, hz, fun H1 q eq h1 => ⟨rfl, ?_⟩⟩
  obtain ⟨dx1, e1⟩ := h1.ins
  rw [eq] at e1
  have hle : (Sc.new z 1).Lens := ⟨rfl, rfl, by show [0] ≠ []; simp, Nat.zero_le _⟩
  refine ⟨x, dx1, _, rfl, e1, rfl, x, H, Sc.new z 1, s1, t, fu, rfl, ⟨q, eq, h1⟩, hle, ?_, hb, hw, fun H2 p2 ep2 h2 => ?_⟩
  · show 0 + 1 + 1 + 1 + 0 + 8 * (z.length - 0) ≤ 100000
    omega
  obtain ⟨vs2, v1, v2⟩ := h2.steps
  exact ⟨p2.st, vs2, t.steps, w, rfl, v1, v2, hp, hl, fun u H3 s3 hu => k u H3 (h2.same.trans s3) hu⟩
end
end Ws
namespace Ws
open PySem PySem.Spec PyProof.Rows L2 Wv
/-! ### the text of a way -/
inductive Piece where
  | s (x : Str)
  | w (w : W)
def PieceAt (c : Cs) (H : Hp) (v : V) : Piece → Prop
  | .s x => v = .str x
  | .w w => ObjAt c H v w
def PcsAt (c : Cs) (H : Hp) : List V → List Piece → Prop
  | vs, [] => vs = []
  | vs, p :: ps => ∃ u us, vs = u :: us ∧ PieceAt c H u p ∧ PcsAt c H us ps
theorem PieceAt.keep {c : Cs} {H H' : Hp} (k : Still H H') : ∀ (p : Piece) (v : V), PieceAt c H v p → PieceAt c H' v p
  | .s _, _, h => h
  | .w w, v, h => ObjAt.keep k w v h
theorem PcsAt.keep {c : Cs} {H H' : Hp} (k : Still H H') : ∀ (ps : List Piece) (vs : List V), PcsAt c H vs ps → PcsAt c H' vs ps
  | [], _, h => h
  | p :: ps, vs, ⟨u, us, e, h, h2⟩ => ⟨u, us, e, h.keep k, PcsAt.keep k ps us h2⟩
theorem PcsAt.app {c : Cs} {H : Hp} : ∀ (ps : List Piece) (vs : List V) {us : List V} {qs : List Piece}, PcsAt c H vs ps → PcsAt c H us qs → PcsAt c H (vs ++ us) (ps ++ qs)
  | [], vs, us, qs, h, h2 => by rw [show vs = [] from h]; exact h2
  | p :: ps, vs, us, qs, ⟨u, r, e, hu, h⟩, h2 => by rw [e]; exact ⟨u, r ++ us, rfl, hu, PcsAt.app ps r h h2⟩
theorem PcsAt.len {c : Cs} {H : Hp} : ∀ (ps : List Piece) (vs : List V), PcsAt c H vs ps → vs.length = ps.length
  | [], vs, h => by rw [show vs = [] from h]; rfl
  | p :: ps, vs, ⟨u, us, e, _, h⟩ => by rw [e, List.length_cons, List.length_cons, PcsAt.len ps us h]
def needs (p a : Nat) : Bool := if p = 3 then !decide (a = 4) else if p = 7 ∨ p = 8 then (decide (a = 5) || decide (a = 6)) else decide (p = 4)
def brP (w : W) (k : Nat) : List Piece := if needs w.kind k = true then [.s (Str.ofString "("), .w w, .s (Str.ofString ")")] else [.w w]
def joinP (k : Nat) (b : Str) : Bool → List W → List Piece
  | _, [] => []
  | f, w :: ws => (if f = true then [] else [.s b]) ++ brP w k ++ joinP k b false ws
def spell : W → List Piece
  | .letter x => [.s (sg x)]
  | .one => [.s (Str.ofString ".")]
  | .nothing => [.s (Str.ofString "()")]
  | .call x => [.s (Str.ofString "<"), .s x, .s (Str.ofString ">")]
  | .row ws => joinP 3 (Str.ofString " ") true ws
  | .choice ws => joinP 4 (Str.ofString " / ") true ws
  | .again w => brP w 5 ++ [.s (Str.ofString "*")]
  | .maybe w => brP w 6 ++ [.s (Str.ofString "?")]
  | .ahead w => .s (Str.ofString "&") :: brP w 7
  | .unless w => .s (Str.ofString "!") :: brP w 8
def spBr (c : Cs) : Sp := fun vs H Q _ => ∃ (v : V) (w : W) (a : Nat), vs = [v, .int (a : Nat)] ∧ ObjAt c H v w ∧ ∀ (q : Addr) (us : List V) (H' : Hp), Same H H' → H' q = some (.lst us) → PcsAt c H' us (brP w a) → Q (.ref q) H'
def spJoin (c : Cs) : Sp := fun vs H Q _ => ∃ (v : V) (w : W) (b : Str), vs = [v, .str b] ∧ ObjAt c H v w ∧ ((∃ ws, w = .row ws) ∨ ∃ ws, w = .choice ws) ∧ w.size ≤ 1000 ∧ ∀ (q : Addr) (us : List V) (H' : Hp), Same H H' → H' q = some (.lst us) → PcsAt c H' us (joinP w.kind b true w.inner) → Q (.ref q) H'
def spSpell (c : Cs) : Sp := fun vs H Q _ => ∃ (v : V) (w : W), vs = [v] ∧ ObjAt c H v w ∧ w.size ≤ 1000 ∧ ∀ (q : Addr) (us : List V) (H' : Hp), Same H H' → H' q = some (.lst us) → PcsAt c H' us (spell w) → Q (.ref q) H'
section
variable {P : Program} {w : World} {K : PySem.W.Frag} {mg : Str → Option Value} {base : Heap} {c : Cs}
theorem decC {a b : Nat} : decide (V.int (a : Nat) = V.int ((b : Nat) : Int)) = decide (a = b) := decI
theorem in_two (n a b : Nat) : inV (.int (n : Nat)) [.int ((a : Nat) : Int), .int ((b : Nat) : Int)] = (decide (n = a) || decide (n = b)) := by
  have e : ∀ x : Nat, eqV (.int ((x : Nat) : Int)) (.int (n : Nat)) = decide (n = x) := fun x => by
    by_cases h : n = x
    · subst h; rw [decide_eq_true rfl]; simp [eqV]
    · rw [decide_eq_false h]
      have h' : ¬ ((x : Int) = (n : Int)) := fun q => h (by omega)
      simp [eqV, h']
  show ([V.int ((a : Nat) : Int), V.int ((b : Nat) : Int)].any fun y => eqV y (.int (n : Nat))) = _
  rw [List.any_cons, List.any_cons, List.any_nil, e, e, Bool.or_false]
abbrev s_bracketed : Stmt := top 41
theorem sc_bracketed : FnScope ["part", "around", "kind", "needed"] ["part", "around"] (defScope s_bracketed) := ⟨rfl, rfl, rfl, by decide +kernel, rfl, by decide +kernel, by decide +kernel⟩
theorem d_bracketed (h : Here K mg "bracketed" s_bracketed ["part", "around"]) (CN : Kc mg) (G_kind_of : DefOk P w K mg base 1 "kind_of" ["way"] (spKind c)) : DefOk P w K mg base 2 "bracketed" ["part", "around"] (spBr c) := by
  have GC_ROW := CN.k3; have GC_CHOICE := CN.k4; have GC_AGAIN := CN.k5; have GC_MAYBE := CN.k6; have GC_AHEAD := CN.k7; have GC_UNLESS := CN.k8
  refine h.ok sc_bracketed (fun vs H Q E h => by obtain ⟨_, _, _, rfl, _⟩ := h; rfl) (fun f cdv A outer s' H vs Q E hr h => ?_)
  obtain ⟨v, x, a, rfl, hv, k⟩ := h
  refine ⟨_, (pss_cons (ps_set (i := 2) sc_bracketed.nd rfl (Or.inl rfl) (pe_callD G_kind_of (hr.mono (by first | decide | omega)) rfl (pa_cons (pv 0) pa_nil)))
  (pss_cons (ps_if (pt_cmpR op_eq (pv 2) (pe_globI rfl GC_ROW) (nomark _)) (pss_one (ps_set (i := 3) sc_bracketed.nd rfl (Or.inl rfl) (pe_cmpR op_ne (pv 1) (pe_globI rfl GC_CHOICE) (nomark _)))) (pss_one (ps_if (pt_cmpR op_in_seq (pv 2) (pe_tup (pa_cons (pe_globI rfl GC_AHEAD) (pa_cons (pe_globI rfl GC_UNLESS) pa_nil))) (by rfl)) (pss_one (ps_set (i := 3) sc_bracketed.nd rfl (Or.inl rfl) (pe_cmpR op_in_seq (pv 1) (pe_tup (pa_cons (pe_globI rfl GC_AGAIN) (pa_cons (pe_globI rfl GC_MAYBE) pa_nil))) (by rfl)))) (pss_one (ps_set (i := 3) sc_bracketed.nd rfl (Or.inl rfl) (pe_cmpR op_eq (pv 2) (pe_globI rfl GC_CHOICE) (nomark _)))))))
  (pss_one (ps_ret (pe_ifExp (pt_val (pv 3)) (pe_lst (pa_cons pe_str (pa_cons (pv 0) (pa_cons pe_str pa_nil)))) (pe_lst (pa_cons (pv 0) pa_nil))))))), ?_⟩
  refine ⟨_, rfl, v, x, rfl, hv, ?_⟩
  refine Wv.gset ?_
  with_reducible refine st_cut (fun σ' H' => σ' = [some v, some (.int (a : Nat)), some (.int (x.kind : Nat)), some (.bl (needs x.kind a))] ∧ Same H H') (fun nx' go => ?_) ?_
  · refine ⟨_, rfl, rfl, _, rfl, ?_⟩
    rw [show decide (V.int (x.kind : Nat) = V.int 3) = decide (x.kind = 3) from decI]
    refine ite2 (fun t => ?_) (fun t => ?_)
    · have t := of_decide_eq_true t
      refine ⟨_, rfl, rfl, ?_⟩
      rw [show decide (V.int (a : Nat) = V.int 4) = decide (a = 4) from decI]
      refine go _ _ ⟨?_, fun _ _ h => h⟩
      unfold needs
      rw [if_pos t]
      rfl
    · have t : ¬ x.kind = 3 := fun q => t (decide_eq_true q)
      refine ⟨_, rfl, by show 2 ≤ sizeLine; decide, fun tp htp => ?_⟩
      have st := Same.new htp (.tup [.int 7, .int 8])
      refine ⟨tp, _, rfl, .inr (SqT.of upd_same), rfl, by decide +kernel, ?_⟩
      rw [if_neg Bool.false_ne_true, show inV (.int (x.kind : Nat)) [.int 7, .int 8] = (decide (x.kind = 7) || decide (x.kind = 8)) from in_two _ 7 8]
      refine ⟨_, rfl, ?_⟩
      refine ite2 (fun t2 => ?_) (fun t2 => ?_)
      · have t2 : x.kind = 7 ∨ x.kind = 8 := by simpa using t2
        refine ⟨_, rfl, by show 2 ≤ sizeLine; decide, fun tq htq => ?_⟩
        have st2 := st.trans (Same.new htq (.tup [.int 5, .int 6]))
        refine ⟨tq, _, rfl, .inr (SqT.of upd_same), rfl, by decide +kernel, ?_⟩
        rw [if_neg Bool.false_ne_true, show inV (.int (a : Nat)) [.int 5, .int 6] = (decide (a = 5) || decide (a = 6)) from in_two _ 5 6]
        refine go _ _ ⟨?_, st2⟩
        unfold needs
        rw [if_neg t, if_pos t2]
        rfl
      · have t2 : ¬ (x.kind = 7 ∨ x.kind = 8) := by simpa using t2
        refine ⟨_, rfl, rfl, ?_⟩
        rw [show decide (V.int (x.kind : Nat) = V.int 4) = decide (x.kind = 4) from decI]
        refine go _ _ ⟨?_, st⟩
        unfold needs
        rw [if_neg t, if_neg t2]
        rfl
  · rintro σ' H1 ⟨rfl, s1⟩
    have hv1 := ObjAt.keep (stillS s1) _ _ hv
    refine ⟨_, rfl, _, rfl, ?_⟩
    refine ite2 (fun t => ?_) (fun t => ?_)
    · refine ⟨_, rfl, by show 3 ≤ sizeLine; decide, fun q hq => ?_⟩
      have s2 := Same.new hq (.lst [.str (Str.ofString "("), v, .str (Str.ofString ")")])
      refine k q _ _ (s1.trans s2) upd_same ?_
      unfold brP
      rw [if_pos t]
      exact ⟨_, _, rfl, rfl, _, _, rfl, ObjAt.keep (stillS s2) _ _ hv1, _, _, rfl, rfl, rfl⟩
    · refine ⟨_, rfl, by show 1 ≤ sizeLine; decide, fun q hq => ?_⟩
      have s2 := Same.new hq (.lst [v])
      refine k q _ _ (s1.trans s2) upd_same ?_
      unfold brP
      rw [if_neg t]
      exact ⟨_, _, rfl, ObjAt.keep (stillS s2) _ _ hv1, rfl⟩
theorem brP_len (w : W) (k : Nat) : (brP w k).length ≤ 3 := by
  unfold brP; split <;> simp
theorem joinP_app (k : Nat) (b : Str) : ∀ (ws : List W) (f : Bool) (w : W), joinP k b f (ws ++ [w]) = joinP k b f ws ++ ((if f = true ∧ ws = [] then [] else [.s b]) ++ brP w k)
  | [], f, w => by
    show (if f = true then [] else [.s b]) ++ brP w k ++ [] = [] ++ _
    cases f <;> simp
  | x :: ws, f, w => by
    show (if f = true then [] else [.s b]) ++ brP x k ++ joinP k b false (ws ++ [w]) = ((if f = true then [] else [.s b]) ++ brP x k ++ joinP k b false ws) ++ _
    rw [joinP_app k b ws false w]
    simp
theorem joinP_len (k : Nat) (b : Str) : ∀ (ws : List W) (f : Bool), (joinP k b f ws).length ≤ 4 * ws.length
  | [], _ => Nat.le_refl _
  | w :: ws, f => by
    have h1 := brP_len w k
    have h2 := joinP_len k b ws false
    show ((if f = true then ([] : List Piece) else [Piece.s b]) ++ brP w k ++ joinP k b false ws).length ≤ _
    rw [List.length_append, List.length_append, List.length_cons]
    have h3 : (if f = true then ([] : List Piece) else [.s b]).length ≤ 1 := by cases f <;> simp
    omega
theorem joinP_ne (k : Nat) (b : Str) (w : W) (ws : List W) (f : Bool) : joinP k b f (w :: ws) ≠ [] := by
  intro h
  have : ((if f = true then ([] : List Piece) else [Piece.s b]) ++ brP w k ++ joinP k b false ws).length = 0 := (congrArg List.length h : (joinP k b f (w :: ws)).length = 0)
  rw [List.length_append, List.length_append] at this
  have h2 : 0 < (brP w k).length := by unfold brP; split <;> simp
  omega
abbrev s_joined : Stmt := top 40
theorem sc_joined : FnScope ["way", "between", "pieces", "part"] ["way", "between"] (defScope s_joined) := ⟨rfl, rfl, rfl, by decide +kernel, rfl, by decide +kernel, by decide +kernel⟩
theorem d_joined (h : Here K mg "joined" s_joined ["way", "between"]) (A0 : AllF K mg c) (G_kind_of : DefOk P w K mg base 1 "kind_of" ["way"] (spKind c)) (G_bracketed : DefOk P w K mg base 2 "bracketed" ["part", "around"] (spBr c)) : DefOk P w K mg base 3 "joined" ["way", "between"] (spJoin c) := by
  refine h.ok sc_joined (fun vs H Q E h => by obtain ⟨_, _, _, rfl, _⟩ := h; rfl) (fun f cdv A outer s' H vs Q E hr h => ?_)
  obtain ⟨v, x, b, rfl, hv, hrc, hsz, k⟩ := h
  refine ⟨_, (pss_cons (ps_set (i := 2) sc_joined.nd rfl (Or.inl rfl) (pe_lst pa_nil))
  (pss_cons (ps_for PassesOwn.never rfl (pi_tup (pe_fld (pv 0) rfl)) (pg_name (i := 3) sc_joined.nd rfl (Or.inl rfl))
   (pss_cons (ps_if (pt_truth (pv 2) (by intro _; rfl)) (pss_one (ps_expr (pe_bm PySem.F.plainAttrs_list PySem.F.slot_list_append PySem.F.type_list_append mt_append (pv 2) (pa_cons (pv 1) pa_nil)))) pss_nil)
  (pss_one (ps_expr (pe_bm PySem.F.plainAttrs_list PySem.F.slot_list_extend PySem.F.type_list_extend mt_extend (pv 2) (pa_cons (pe_callD G_bracketed (hr.mono (by first | decide | omega)) rfl (pa_cons (pv 3) (pa_cons (pe_callD G_kind_of (hr.mono (by first | decide | omega)) rfl (pa_cons (pv 0) pa_nil)) pa_nil))) pa_nil))))))
  (pss_one (ps_ret (pv 2))))), ?_⟩
  refine ⟨Nat.zero_le _, fun d hd => ?_⟩
  have s1 := Same.new hd (.lst [])
  have hv1 := ObjAt.keep (stillS s1) _ _ hv
  obtain ⟨a, dx, t, us, C, r0, ev, ha, ht, hus, hcl, hnw⟩ : ∃ (a dx t : Addr) (us : List V) (C : Addr) (r0 : List (Str × V)), v = .ref a ∧ (upd H d (.lst [])) a = some (.ins C dx ((Str.ofString "ways", .ref t) :: r0)) ∧ (upd H d (.lst [])) t = some (.tup us) ∧ ObjsAt c (upd H d (.lst [])) us x.inner ∧ Cls K C ∧ NoAttr K C "ways" := by
    rcases hrc with ⟨ws, rfl⟩ | ⟨ws, rfl⟩
    · obtain ⟨a, dx, t, us, ev, ha, ht, hus⟩ := id hv1
      exact ⟨a, dx, t, us, _, _, ev, ha, ht, hus, (A0.f (.row [])).cl, (A0.f (.row [])).nw⟩
    · obtain ⟨a, dx, t, us, ev, ha, ht, hus⟩ := id hv1
      exact ⟨a, dx, t, us, _, _, ev, ha, ht, hus, (A0.f (.choice [])).cl, (A0.f (.choice [])).nw⟩
  subst ev
  have hd1 : upd H d (.lst []) d = some (.lst []) := upd_same
  generalize upd H d (.lst []) = H1 at *
  walk_at "nx"
  refine ⟨_, rfl, a, C, dx, _, _, rfl, ha, hcl, hnw, rfl, t, rfl, ⟨us, SqT.of ht⟩, ?_⟩
  have hlu := ObjsAt.len _ _ hus
  have hls := W.sizes_len x.inner
  have hxs := x.size_inner
  refine for_tup (K := K) (a := t) (xs := us) (fun i σ H' => ∃ (ps : List V) (x3 : Option V), σ = [some (.ref a), some (.str b), some (.ref d), x3] ∧ H' d = some (.lst ps) ∧ PcsAt c H' ps (joinP x.kind b true (x.inner.take i)) ∧ Same H H' ∧ Still H1 H') ?_ ?_ ?_ ?_
  · exact ⟨[], none, rfl, hd1, rfl, s1, Still.refl _⟩
  · rintro i σ H' _ ⟨_, _, rfl, _, _, _, k2⟩
    exact SqT.of (k2.tup ht)
  · rintro i y σ H2 hy ⟨ps, x3, rfl, hd2, hps, s2, k2⟩
    have hi : i < us.length := (List.getElem?_eq_some_iff.mp hy).1
    obtain ⟨wi, hwi⟩ : ∃ wi, x.inner[i]? = some wi := ⟨x.inner[i]'(by omega), List.getElem?_eq_getElem (by omega)⟩
    obtain ⟨y', hy', hyw⟩ := ObjsAt.at_ _ _ _ _ hus hwi
    have ey : y = y' := Option.some.inj (hy.symm.trans hy')
    subst ey
    have hlp := PcsAt.len _ _ hps
    have hjl := joinP_len x.kind b (x.inner.take i) true
    rw [List.length_take] at hjl
    refine Wv.gset ?_
    with_reducible refine st_cut (fun σ' H' => ∃ ps' : List V, σ' = [some (.ref a), some (.str b), some (.ref d), some y] ∧ H' d = some (.lst ps') ∧ PcsAt c H' ps' (joinP x.kind b true (x.inner.take i) ++ (if x.inner.take i = [] then [] else [.s b])) ∧ Same H H' ∧ Still H1 H') (fun nx' go => ?_) ?_
    · refine ⟨_, rfl, _, .inl ⟨_, SqL.of hd2, rfl⟩, ?_⟩
      refine ite2 (fun t1 => ?_) (fun t1 => ?_)
      · have hne : x.inner.take i ≠ [] := fun e => by
          rw [e] at hps
          rw [show ps = [] from hps] at t1
          cases t1
        refine ⟨_, rfl, .inl ⟨rfl, _, SqL.of hd2⟩, _, rfl, d, _, _, rfl, rfl, hd2, small' (by omega), ?_⟩
        have k3 : Still H2 (upd H2 d (.lst (ps ++ [.str b]))) := Still.put hd2
        refine go _ _ ⟨_, rfl, upd_same, ?_, Same.put hd s2 _, k2.trans k3⟩
        rw [if_neg hne]
        exact PcsAt.app _ _ (PcsAt.keep k3 _ _ hps) ⟨_, [], rfl, rfl, rfl⟩
      · have hne : x.inner.take i = [] := by
          cases q : x.inner.take i with
          | nil => rfl
          | cons w0 r =>
            rw [q] at hlp
            have h0 : ps = [] := by simpa using t1
            rw [h0] at hlp
            exact absurd (List.eq_nil_of_length_eq_zero hlp.symm) (joinP_ne _ _ _ _ _)
        refine go _ _ ⟨ps, rfl, hd2, ?_, s2, k2⟩
        rw [if_pos hne, List.append_nil]
        exact hps
    · rintro σ' H3 ⟨ps', rfl, hd3, hps3, s3, k3⟩
      have hlp3 := PcsAt.len _ _ hps3
      have hv3 := ObjAt.keep k3 _ _ hv1
      have hy3 := ObjAt.keep k3 _ _ hyw
      refine ⟨_, rfl, .inl ⟨rfl, _, SqL.of hd3⟩, _, rfl, _, rfl, .ref a, x, rfl, hv3, y, wi, x.kind, rfl, hy3, fun q ps4 H4 s4 hq4 hps4 => ?_⟩
      have hd4 := s4 _ _ hd3
      have hl4 := PcsAt.len _ _ hps4
      have hb4 := brP_len wi x.kind
      refine ⟨d, q, _, _, rfl, rfl, hd4, hq4, ?_, ?_⟩
      · refine Nat.le_of_lt (small' ?_)
        rw [hlp3, hl4, List.length_append]
        have : (if x.inner.take i = [] then ([] : List Piece) else [.s b]).length ≤ 1 := by split <;> simp
        omega
      · walk_at "nx"
        have k5 : Still H4 (upd H4 d (.lst (ps' ++ ps4))) := Still.put hd4
        refine ⟨_, _, rfl, upd_same, ?_, Same.put hd (s3.trans s4) _, k3.trans ((stillS s4).trans k5)⟩
        rw [take_more hwi, joinP_app, ← List.append_assoc]
        have e : (if true = true ∧ x.inner.take i = [] then ([] : List Piece) else [.s b]) = (if x.inner.take i = [] then [] else [.s b]) := by simp
        rw [e]
        exact PcsAt.app _ _ (PcsAt.keep ((stillS s4).trans k5) _ _ hps3) (PcsAt.keep k5 _ _ hps4)
  · rintro σ H2 ⟨ps, x3, rfl, hd2, hps, s2, k2⟩
    rw [hlu, List.take_length] at hps
    walk_at "nx"
    walk_at "rd"
    exact k d ps H2 s2 hd2 hps
abbrev s_spelled : Stmt := top 39
theorem sc_spelled : FnScope ["way", "kind", "inner"] ["way"] (defScope s_spelled) := ⟨rfl, rfl, rfl, by decide +kernel, rfl, by decide +kernel, by decide +kernel⟩
theorem d_spelled (h : Here K mg "spelled" s_spelled ["way"]) (A0 : AllF K mg c) (CN : Kc mg) (G_kind_of : DefOk P w K mg base 1 "kind_of" ["way"] (spKind c)) (G_bracketed : DefOk P w K mg base 2 "bracketed" ["part", "around"] (spBr c)) (G_joined : DefOk P w K mg base 3 "joined" ["way", "between"] (spJoin c)) :
    DefOk P w K mg base 4 "spelled" ["way"] (spSpell c) := by
  have GC_LETTER := CN.k0; have GC_ONE := CN.k1; have GC_NOTHING := CN.k2; have GC_ROW := CN.k3; have GC_CHOICE := CN.k4; have GC_AGAIN := CN.k5; have GC_AHEAD := CN.k7; have GC_UNLESS := CN.k8; have GC_CALL := CN.k9
  refine h.ok sc_spelled (fun vs H Q E h => by obtain ⟨_, _, rfl, _⟩ := h; rfl) (fun f cdv A outer s' H vs Q E hr h => ?_)
  obtain ⟨v, x, rfl, hv, hsz, k⟩ := h
  refine ⟨_, (pss_cons (ps_set (i := 1) sc_spelled.nd rfl (Or.inl rfl) (pe_callD G_kind_of (hr.mono (by first | decide | omega)) rfl (pa_cons (pv 0) pa_nil)))
  (pss_cons (ps_if (pt_cmpR op_eq (pv 1) (pe_globI rfl GC_LETTER) (nomark _)) (pss_one (ps_ret (pe_lst (pa_cons (pe_fld (pv 0) rfl) pa_nil)))) pss_nil)
  (pss_cons (ps_if (pt_cmpR op_eq (pv 1) (pe_globI rfl GC_ONE) (nomark _)) (pss_one (ps_ret (pe_lst (pa_cons pe_str pa_nil)))) pss_nil)
  (pss_cons (ps_if (pt_cmpR op_eq (pv 1) (pe_globI rfl GC_NOTHING) (nomark _)) (pss_one (ps_ret (pe_lst (pa_cons pe_str pa_nil)))) pss_nil)
  (pss_cons (ps_if (pt_cmpR op_eq (pv 1) (pe_globI rfl GC_CALL) (nomark _)) (pss_one (ps_ret (pe_lst (pa_cons pe_str (pa_cons (pe_fld (pv 0) rfl) (pa_cons pe_str pa_nil)))))) pss_nil)
  (pss_cons (ps_if (pt_cmpR op_eq (pv 1) (pe_globI rfl GC_ROW) (nomark _)) (pss_one (ps_ret (pe_callD G_joined (hr.mono (by first | decide | omega)) rfl (pa_cons (pv 0) (pa_cons pe_str pa_nil))))) pss_nil)
  (pss_cons (ps_if (pt_cmpR op_eq (pv 1) (pe_globI rfl GC_CHOICE) (nomark _)) (pss_one (ps_ret (pe_callD G_joined (hr.mono (by first | decide | omega)) rfl (pa_cons (pv 0) (pa_cons pe_str pa_nil))))) pss_nil)
  (pss_cons (ps_set (i := 2) sc_spelled.nd rfl (Or.inl rfl) (pe_callD G_bracketed (hr.mono (by first | decide | omega)) rfl (pa_cons (pe_fld (pv 0) rfl) (pa_cons (pv 1) pa_nil))))
  (pss_cons (ps_if (pt_cmpR op_eq (pv 1) (pe_globI rfl GC_AHEAD) (nomark _)) (pss_one (ps_ret (pe_lst (pa_cons pe_str (StX.pa_star (pv 2) pa_nil))))) pss_nil)
  (pss_cons (ps_if (pt_cmpR op_eq (pv 1) (pe_globI rfl GC_UNLESS) (nomark _)) (pss_one (ps_ret (pe_lst (pa_cons pe_str (StX.pa_star (pv 2) pa_nil))))) pss_nil)
  (pss_one (ps_ret (pe_lst (StX.pa_star (pv 2) (pa_cons (pe_ifExp (pt_cmpR op_eq (pv 1) (pe_globI rfl GC_AGAIN) (nomark _)) pe_str pe_str) pa_nil))))))))))))))), ?_⟩
  refine ⟨_, rfl, v, x, rfl, hv, ?_⟩
  walk_at "nx"
  have one : ∀ (ps : List V) (qs : List Piece), ps.length ≤ 10 → (∀ q H', Same H H' → H' q = some (.lst ps) → PcsAt c H' ps qs) → spell x = qs → ps.length ≤ sizeLine ∧ ∀ p, H p = none → Q (.ref p) (upd H p (.lst ps)) := fun ps qs hl hp e => ⟨Nat.le_of_lt (small' (by omega)), fun p hp' => k p ps _ (Same.new hp' _) upd_same (by rw [e]; exact hp p _ (Same.new hp' _) upd_same)⟩
  cases x
  case letter y =>
    dsimp only [W.kind]
    refine ⟨_, rfl, rfl, _, rfl, iteT' (by decide) ?_⟩
    obtain ⟨a, d, ev, ha⟩ := id hv
    refine ⟨_, rfl, a, _, d, _, _, ev, ha, (A0.f (.letter 0)).cl, (A0.f (.letter 0)).nl, rfl, one [.str (sg y)] [.s (sg y)] (by simp) (fun q H' _ _ => ⟨_, [], rfl, rfl, rfl⟩) rfl⟩
  case one =>
    dsimp only [W.kind]
    repeat (refine ⟨_, rfl, rfl, _, rfl, iteN (by decide) ?_⟩; walk_at "nx")
    refine ⟨_, rfl, rfl, _, rfl, iteT' (by decide) ?_⟩
    exact one [.str (Str.ofString ".")] [.s (Str.ofString ".")] (by simp) (fun q H' _ _ => ⟨_, [], rfl, rfl, rfl⟩) rfl
  case nothing =>
    dsimp only [W.kind]
    repeat (refine ⟨_, rfl, rfl, _, rfl, iteN (by decide) ?_⟩; walk_at "nx")
    refine ⟨_, rfl, rfl, _, rfl, iteT' (by decide) ?_⟩
    exact one [.str (Str.ofString "()")] [.s (Str.ofString "()")] (by simp) (fun q H' _ _ => ⟨_, [], rfl, rfl, rfl⟩) rfl
  case call y =>
    dsimp only [W.kind]
    repeat (refine ⟨_, rfl, rfl, _, rfl, iteN (by decide) ?_⟩; walk_at "nx")
    refine ⟨_, rfl, rfl, _, rfl, iteT' (by decide) ?_⟩
    obtain ⟨a, d, ev, ha⟩ := id hv
    exact ⟨_, rfl, a, _, d, _, _, ev, ha, (A0.f (.call eS)).cl, (A0.f (.call eS)).nn, rfl, one [.str (Str.ofString "<"), .str y, .str (Str.ofString ">")] [.s (Str.ofString "<"), .s y, .s (Str.ofString ">")] (by simp) (fun q H' _ _ => ⟨_, _, rfl, rfl, _, _, rfl, rfl, _, [], rfl, rfl, rfl⟩) rfl⟩
  case row ws =>
    dsimp only [W.kind]
    repeat (refine ⟨_, rfl, rfl, _, rfl, iteN (by decide) ?_⟩; walk_at "nx")
    refine ⟨_, rfl, rfl, _, rfl, iteT' (by decide) ?_⟩
    exact ⟨_, rfl, v, .row ws, Str.ofString " ", rfl, hv, .inl ⟨ws, rfl⟩, hsz, fun q us H' s1 hq hp => k q us H' s1 hq hp⟩
  case choice ws =>
    dsimp only [W.kind]
    repeat (refine ⟨_, rfl, rfl, _, rfl, iteN (by decide) ?_⟩; walk_at "nx")
    refine ⟨_, rfl, rfl, _, rfl, iteT' (by decide) ?_⟩
    exact ⟨_, rfl, v, .choice ws, Str.ofString " / ", rfl, hv, .inr ⟨ws, rfl⟩, hsz, fun q us H' s1 hq hp => k q us H' s1 hq hp⟩
  case again y =>
    dsimp only [W.kind]
    repeat (refine ⟨_, rfl, rfl, _, rfl, iteN (by decide) ?_⟩; walk_at "nx")
    obtain ⟨a, d, u, mk, ev, ha, hu⟩ := id hv
    refine ⟨_, rfl, a, _, d, _, _, ev, ha, (A0.f (.again .one)).cl, (A0.f (.again .one)).np, rfl, _, rfl, u, y, 5, rfl, hu, fun q us H1 s1 hq hps => ?_⟩
    have hl := PcsAt.len _ _ hps
    have hb := brP_len y 5
    walk_at "nx"
    repeat (refine ⟨_, rfl, rfl, _, rfl, iteN (by decide) ?_⟩; walk_at "nx")
    refine ⟨_, rfl, q, us, rfl, .inr (SqL.of hq), _, rfl, rfl, _, rfl, iteT' (by decide) ⟨?_, fun p hp => ?_⟩⟩
    · exact Nat.le_of_lt (small' (by rw [List.length_append, List.length_singleton]; omega))
    · exact k p _ _ (s1.trans (Same.new hp _)) upd_same (PcsAt.app _ _ (PcsAt.keep (stillS (Same.new hp _)) _ _ hps) ⟨_, [], rfl, rfl, rfl⟩)
  case maybe y =>
    dsimp only [W.kind]
    repeat (refine ⟨_, rfl, rfl, _, rfl, iteN (by decide) ?_⟩; walk_at "nx")
    obtain ⟨a, d, u, mk, ev, ha, hu⟩ := id hv
    refine ⟨_, rfl, a, _, d, _, _, ev, ha, (A0.f (.maybe .one)).cl, (A0.f (.maybe .one)).np, rfl, _, rfl, u, y, 6, rfl, hu, fun q us H1 s1 hq hps => ?_⟩
    have hl := PcsAt.len _ _ hps
    have hb := brP_len y 6
    walk_at "nx"
    repeat (refine ⟨_, rfl, rfl, _, rfl, iteN (by decide) ?_⟩; walk_at "nx")
    refine ⟨_, rfl, q, us, rfl, .inr (SqL.of hq), _, rfl, rfl, _, rfl, iteN (by decide) ⟨?_, fun p hp => ?_⟩⟩
    · exact Nat.le_of_lt (small' (by rw [List.length_append, List.length_singleton]; omega))
    · exact k p _ _ (s1.trans (Same.new hp _)) upd_same (PcsAt.app _ _ (PcsAt.keep (stillS (Same.new hp _)) _ _ hps) ⟨_, [], rfl, rfl, rfl⟩)
  case ahead y =>
    dsimp only [W.kind]
    repeat (refine ⟨_, rfl, rfl, _, rfl, iteN (by decide) ?_⟩; walk_at "nx")
    obtain ⟨a, d, u, mk, ev, ha, hu⟩ := id hv
    refine ⟨_, rfl, a, _, d, _, _, ev, ha, (A0.f (.ahead .one)).cl, (A0.f (.ahead .one)).np, rfl, _, rfl, u, y, 7, rfl, hu, fun q us H1 s1 hq hps => ?_⟩
    have hl := PcsAt.len _ _ hps
    have hb := brP_len y 7
    walk_at "nx"
    refine ⟨_, rfl, rfl, _, rfl, iteT' (by decide) ?_⟩
    refine ⟨_, rfl, q, us, rfl, .inr (SqL.of hq), ?_, fun p hp => ?_⟩
    · exact Nat.le_of_lt (small' (by simp only [List.length_append, List.length_cons, List.length_nil]; omega))
    · exact k p _ _ (s1.trans (Same.new hp _)) upd_same ⟨_, _, rfl, rfl, by simpa using PcsAt.keep (stillS (Same.new hp _)) _ _ hps⟩
  case «unless» y =>
    dsimp only [W.kind]
    repeat (refine ⟨_, rfl, rfl, _, rfl, iteN (by decide) ?_⟩; walk_at "nx")
    obtain ⟨a, d, u, mk, ev, ha, hu⟩ := id hv
    refine ⟨_, rfl, a, _, d, _, _, ev, ha, (A0.f (.unless .one)).cl, (A0.f (.unless .one)).np, rfl, _, rfl, u, y, 8, rfl, hu, fun q us H1 s1 hq hps => ?_⟩
    have hl := PcsAt.len _ _ hps
    have hb := brP_len y 8
    walk_at "nx"
    repeat (refine ⟨_, rfl, rfl, _, rfl, iteN (by decide) ?_⟩; walk_at "nx")
    refine ⟨_, rfl, rfl, _, rfl, iteT' (by decide) ?_⟩
    refine ⟨_, rfl, q, us, rfl, .inr (SqL.of hq), ?_, fun p hp => ?_⟩
    · exact Nat.le_of_lt (small' (by simp only [List.length_append, List.length_cons, List.length_nil]; omega))
    · exact k p _ _ (s1.trans (Same.new hp _)) upd_same ⟨_, _, rfl, rfl, by simpa using PcsAt.keep (stillS (Same.new hp _)) _ _ hps⟩
end
end Ws
namespace Ws
open PySem PySem.Spec PyProof.Rows L2 Wv
/-! ### the pieces of a text, and the text -/
def flat : Nat → List Piece → List Str
  | 0, _ => []
  | _ + 1, [] => []
  | n + 1, .s x :: r => x :: flat n r
  | n + 1, .w w :: r => flat n (spell w ++ r)
def wt1 : Piece → Nat
  | .s _ => 1
  | .w w => 14 * w.size - 10
def wt : List Piece → Nat
  | [] => 0
  | p :: r => wt1 p + wt r
theorem wt_app : ∀ (a b : List Piece), wt (a ++ b) = wt a + wt b
  | [], b => by simp [wt]
  | p :: a, b => by simp only [List.cons_append, wt, wt_app a b]; omega
theorem wt_len : ∀ a : List Piece, a.length ≤ wt a
  | [] => Nat.le_refl _
  | p :: a => by
    have := wt_len a
    have h : 1 ≤ wt1 p := by
      cases p with
      | s x => exact Nat.le_refl _
      | w w => have := w.size_pos; show 1 ≤ 14 * w.size - 10; omega
    simp only [List.length_cons, wt]; omega
theorem wt_br (w : W) (k : Nat) : wt (brP w k) ≤ 14 * w.size - 8 := by
  have := w.size_pos
  unfold brP
  split
  · show 1 + ((14 * w.size - 10) + (1 + 0)) ≤ _; omega
  · show (14 * w.size - 10) + 0 ≤ _; omega
theorem wt_join (k : Nat) (b : Str) : ∀ (ws : List W) (f : Bool), wt (joinP k b f ws) + 7 * ws.length ≤ 14 * W.sizes ws
  | [], _ => Nat.le_refl _
  | w :: ws, f => by
    have h1 := wt_br w k
    have h2 := wt_join k b ws false
    have h3 := w.size_pos
    show wt ((if f = true then ([] : List Piece) else [Piece.s b]) ++ brP w k ++ joinP k b false ws) + 7 * (ws.length + 1) ≤ 14 * (w.size + W.sizes ws)
    rw [wt_app, wt_app]
    have h4 : wt (if f = true then ([] : List Piece) else [Piece.s b]) ≤ 1 := by cases f <;> simp [wt, wt1]
    omega
theorem wt_spell (w : W) : wt (spell w) + 1 ≤ 14 * w.size - 10 := by
  cases w with
  | nothing => decide
  | one => decide
  | letter x => show 1 + 0 + 1 ≤ 14 * 1 - 10; decide
  | call x => show 1 + (1 + (1 + 0)) + 1 ≤ 14 * 1 - 10; decide
  | row ws =>
    have := wt_join 3 (Str.ofString " ") ws true
    show wt (joinP 3 (Str.ofString " ") true ws) + 1 ≤ 14 * (1 + W.sizes ws) - 10
    omega
  | choice ws =>
    have := wt_join 4 (Str.ofString " / ") ws true
    show wt (joinP 4 (Str.ofString " / ") true ws) + 1 ≤ 14 * (1 + W.sizes ws) - 10
    omega
  | again w =>
    have := wt_br w 5
    have := w.size_pos
    show wt (brP w 5 ++ [.s (Str.ofString "*")]) + 1 ≤ 14 * (1 + w.size) - 10
    rw [wt_app]
    show wt (brP w 5) + (1 + 0) + 1 ≤ _
    omega
  | maybe w =>
    have := wt_br w 6
    have := w.size_pos
    show wt (brP w 6 ++ [.s (Str.ofString "?")]) + 1 ≤ 14 * (1 + w.size) - 10
    rw [wt_app]
    show wt (brP w 6) + (1 + 0) + 1 ≤ _
    omega
  | ahead w =>
    have := wt_br w 7
    have := w.size_pos
    show 1 + wt (brP w 7) + 1 ≤ 14 * (1 + w.size) - 10
    omega
  | «unless» w =>
    have := wt_br w 8
    have := w.size_pos
    show 1 + wt (brP w 8) + 1 ≤ 14 * (1 + w.size) - 10
    omega
theorem mem_br {w w0 : W} {k : Nat} (h : Piece.w w0 ∈ brP w k) : w0 = w := by
  unfold brP at h
  split at h
  · simp only [List.mem_cons, List.not_mem_nil, or_false] at h
    rcases h with h | h | h
    · cases h
    · injection h
    · cases h
  · have : Piece.w w0 = Piece.w w := by simpa using h
    injection this
theorem mem_join {k : Nat} {b : Str} {w0 : W} : ∀ {ws : List W} {f : Bool}, Piece.w w0 ∈ joinP k b f ws → w0.size ≤ W.sizes ws
  | [], _, h => by cases h
  | w :: ws, f, h => by
    have h' : Piece.w w0 ∈ (if f = true then ([] : List Piece) else [Piece.s b]) ++ brP w k ++ joinP k b false ws := h
    rw [List.mem_append, List.mem_append] at h'
    show _ ≤ w.size + W.sizes ws
    rcases h' with (h' | h') | h'
    · cases f
      · have : Piece.w w0 = Piece.s b := by simpa using h'
        cases this
      · cases h'
    · rw [mem_br h']; omega
    · have := mem_join h'
      omega
theorem mem_spell {w w0 : W} (h : Piece.w w0 ∈ spell w) : w0.size ≤ w.size := by
  cases w with
  | nothing => simp [spell] at h
  | one => simp [spell] at h
  | letter x => simp [spell] at h
  | call x => simp [spell] at h
  | row ws => have := mem_join (ws := ws) h; show _ ≤ 1 + W.sizes ws; omega
  | choice ws => have := mem_join (ws := ws) h; show _ ≤ 1 + W.sizes ws; omega
  | again w =>
    have h' : Piece.w w0 ∈ brP w 5 ++ [Piece.s (Str.ofString "*")] := h
    rcases List.mem_append.mp h' with h' | h'
    · rw [mem_br h']; show _ ≤ 1 + w.size; omega
    · simp at h'
  | maybe w =>
    have h' : Piece.w w0 ∈ brP w 6 ++ [Piece.s (Str.ofString "?")] := h
    rcases List.mem_append.mp h' with h' | h'
    · rw [mem_br h']; show _ ≤ 1 + w.size; omega
    · simp at h'
  | ahead w =>
    have h' : Piece.w w0 ∈ Piece.s (Str.ofString "&") :: brP w 7 := h
    rcases List.mem_cons.mp h' with h' | h'
    · cases h'
    · rw [mem_br h']; show _ ≤ 1 + w.size; omega
  | «unless» w =>
    have h' : Piece.w w0 ∈ Piece.s (Str.ofString "!") :: brP w 8 := h
    rcases List.mem_cons.mp h' with h' | h'
    · cases h'
    · rw [mem_br h']; show _ ≤ 1 + w.size; omega
def pcs (w : W) : List Str := flat (14 * w.size) [.w w]
theorem PcsAt.split {c : Cs} {H : Hp} : ∀ (a : List Piece) (p : Piece) (vs : List V), PcsAt c H vs (a ++ [p]) → ∃ us u, vs = us ++ [u] ∧ PcsAt c H us a ∧ PieceAt c H u p
  | [], p, vs, ⟨u, us, e, h, h2⟩ => ⟨[], u, by rw [e, show us = [] from h2]; rfl, rfl, h⟩
  | x :: a, p, vs, ⟨u, us, e, h, h2⟩ => by
    obtain ⟨us', u', e', h3, h4⟩ := PcsAt.split a p us h2
    exact ⟨u :: us', u', by rw [e, e']; rfl, ⟨u, us', rfl, h, h3⟩, h4⟩
theorem PcsAt.rev {c : Cs} {H : Hp} : ∀ (ps : List Piece) (vs : List V), PcsAt c H vs ps → PcsAt c H vs.reverse ps.reverse
  | [], vs, h => by rw [show vs = [] from h]; rfl
  | p :: ps, vs, ⟨u, us, e, hu, h⟩ => by
    rw [e, List.reverse_cons, List.reverse_cons]
    exact PcsAt.app _ _ (PcsAt.rev ps us h) ⟨u, [], rfl, hu, rfl⟩
def spPieces (c : Cs) : Sp := fun vs H Q _ => ∃ (v : V) (w : W), vs = [v] ∧ ObjAt c H v w ∧ w.size ≤ 1000 ∧ ∀ (q : Addr) (H' : Hp), Same H H' → H' q = some (.lst ((pcs w).map V.str)) → (pcs w).length ≤ 14000 → Q (.ref q) H'
theorem flat_len : ∀ (n : Nat) (ps : List Piece), (flat n ps).length ≤ n
  | 0, _ => Nat.le_refl _
  | _ + 1, [] => Nat.zero_le _
  | n + 1, .s x :: r => by
    have := flat_len n r
    show (flat n r).length + 1 ≤ n + 1
    omega
  | n + 1, .w w :: r => Nat.le_succ_of_le (flat_len n _)
section
variable {P : Program} {w : World} {K : PySem.W.Frag} {mg : Str → Option Value} {base : Heap} {c : Cs}
abbrev s_pieces_of : Stmt := top 38
theorem sc_pieces_of : FnScope ["way", "pieces", "todo", "piece"] ["way"] (defScope s_pieces_of) := ⟨rfl, rfl, rfl, by decide +kernel, rfl, by decide +kernel, by decide +kernel⟩
theorem d_pieces_of (h : Here K mg "pieces_of" s_pieces_of ["way"]) (A0 : AllF K mg c) (hS : ∀ x : W, PySem.W.kitOne K (.ref (c.of x)) (.type "str") = some false) (B_str : mg "str" = none) (B : Bs mg) (G_spelled : DefOk P w K mg base 4 "spelled" ["way"] (spSpell c)) :
    DefOk P w K mg base 5 "pieces_of" ["way"] (spPieces c) := by
  have B_isinstance := B.isinstance
  refine h.ok sc_pieces_of (fun vs H Q E h => by obtain ⟨_, _, rfl, _⟩ := h; rfl) (fun f cdv A outer s' H vs Q E hr h => ?_)
  obtain ⟨v, x, rfl, hv, hsz, k⟩ := h
  refine ⟨_, (pss_cons (ps_set (i := 1) sc_pieces_of.nd rfl (Or.inl rfl) (pe_lst pa_nil))
  (pss_cons (ps_set (i := 2) sc_pieces_of.nd rfl (Or.inl rfl) (pe_lst (pa_cons (pv 0) pa_nil)))
  (pss_cons (ps_while PassesOwn.never (pt_truth (pv 2) (by intro _; rfl)) (pss_cons (ps_set (i := 3) sc_pieces_of.nd rfl (Or.inl rfl) (pe_bm0 PySem.F.plainAttrs_list PySem.F.slot_list_pop PySem.F.type_list_pop mt_pop (pv 2)))
  (pss_one (ps_if (pt_val (pe_callB call_isi rfl B_isinstance (by decide +kernel) (pa_cons (pv 3) (pa_cons (pe_bltn (v := V.ty "str") rfl B_str (by decide +kernel) rfl) pa_nil)))) (pss_one (ps_expr (pe_bm PySem.F.plainAttrs_list PySem.F.slot_list_append PySem.F.type_list_append mt_append (pv 1) (pa_cons (pv 3) pa_nil)))) (pss_one (ps_expr (pe_bm PySem.F.plainAttrs_list PySem.F.slot_list_extend PySem.F.type_list_extend mt_extend (pv 2) (pa_cons (pe_revL (pe_callD G_spelled (hr.mono (by first | decide | omega)) rfl (pa_cons (pv 3) pa_nil))) pa_nil))))))))
  (pss_one (ps_ret (pv 1)))))), ?_⟩
  refine ⟨Nat.zero_le _, fun p hp => ?_⟩
  have s1 := Same.new hp (.lst [])
  walk_at "nx"
  refine ⟨_, rfl, by show 1 ≤ sizeLine; decide, fun t ht => ?_⟩
  have s2 := s1.trans (Same.new ht (.lst [v]))
  have npt : p ≠ t := ne_of_none upd_same ht
  have htH : H t = none := by rw [upd_ne npt.symm] at ht; exact ht
  have hp2 : upd (upd H p (.lst [])) t (.lst [v]) p = some (.lst []) := by rw [upd_ne npt]; exact upd_same
  have ht2 : upd (upd H p (.lst [])) t (.lst [v]) t = some (.lst [v]) := upd_same
  generalize upd (upd H p (.lst [])) t (.lst [v]) = H1 at *
  walk_at "nx"
  refine while_r (fun m σ H' => ∃ (ps : List Str) (ts : List V) (stk : List Piece) (x3 : Option V), σ = [some v, some (.ref p), some (.ref t), x3] ∧ H' p = some (.lst (ps.map V.str)) ∧ H' t = some (.lst ts) ∧ PcsAt c H' ts.reverse stk ∧ wt stk ≤ m ∧ ps ++ flat m stk = pcs x ∧ m ≤ 14000 ∧ ps.length + m ≤ 14000 ∧ (∀ w, Piece.w w ∈ stk → w.size ≤ 1000) ∧ Same H H') (14 * x.size) ?_ ?_
  · refine ⟨[], [v], [.w x], none, rfl, hp2, ht2, ⟨v, [], rfl, ObjAt.keep (stillS s2) _ _ hv, rfl⟩, ?_, rfl, by omega, by simp; omega, ?_, s2⟩
    · show 14 * x.size - 10 + 0 ≤ _; omega
    · intro w0 hw
      have : Piece.w w0 = Piece.w x := by simpa using hw
      cases this
      exact hsz
  · rintro m σ H2 ⟨ps, ts, stk, x3, rfl, hp3, ht3, hts, hwt, hfl, hm, hlm, hss, s3⟩
    refine ⟨fun b H' => b = !ts.isEmpty ∧ H' = H2, fun Q' hq => ⟨_, rfl, _, .inl ⟨_, SqL.of ht3, rfl⟩, hq _ _ ⟨rfl, rfl⟩⟩, ?_⟩
    rintro b H2 ⟨rfl, rfl⟩
    cases stk with
    | nil =>
      have e0 : ts = [] := by
        have : ts.reverse = [] := hts
        simpa using this
      subst e0
      refine iteF ?_
      walk_at "nx"
      walk_at "rd"
      have e1 : flat m [] = [] := by cases m <;> rfl
      rw [e1, List.append_nil] at hfl
      subst hfl
      exact k p H2 s3 hp3 (by omega)
    | cons pc stk =>
      obtain ⟨u, us, eu, hu, hus⟩ := hts
      have et : ts = us.reverse ++ [u] := by
        have := congrArg List.reverse eu
        simpa using this
      subst et
      have hw1 : 1 ≤ wt1 pc := by
        have := wt_len [pc]
        simpa [wt] using this
      have hwt' : wt1 pc + wt stk ≤ m := hwt
      obtain ⟨m, rfl⟩ : ∃ g, m = g + 1 := ⟨m - 1, by omega⟩
      have hlen := PcsAt.len _ _ hus
      have hwl := wt_len stk
      refine iteT' (by simp) ?_
      walk_at "nx"
      refine ⟨_, rfl, .inl ⟨rfl, _, SqL.of ht3⟩, t, _, _, rfl, rfl, ht3, last_get _ _, ?_⟩
      rw [List.dropLast_concat]
      have k4 : Still H2 (upd H2 t (.lst us.reverse)) := Still.put ht3
      have ht4 : upd H2 t (.lst us.reverse) t = some (.lst us.reverse) := upd_same
      have hp4 : upd H2 t (.lst us.reverse) p = some (.lst (ps.map V.str)) := by rw [upd_ne npt]; exact hp3
      have s4 : Same H (upd H2 t (.lst us.reverse)) := Same.put htH s3 _
      generalize upd H2 t (.lst us.reverse) = H4 at *
      walk_at "nx"
      cases pc with
      | s y =>
        have ey : u = .str y := hu
        subst ey
        refine ⟨_, rfl, .str y, .ty "str", _, _, _, rfl, .ty "str", .base (.str y), kit_ty (by decide +kernel), _, rfl, iteT' rfl ?_⟩
        refine ⟨_, rfl, .inl ⟨rfl, _, SqL.of hp4⟩, _, rfl, p, _, _, rfl, rfl, hp4, small' (by rw [List.length_map]; omega), ?_⟩
        walk_at "nx"
        have k5 : Still H4 (upd H4 p (.lst (ps.map V.str ++ [.str y]))) := Still.put hp4
        refine ⟨m, Nat.lt_succ_self _, ps ++ [y], us.reverse, stk, _, rfl, ?_, by rw [upd_ne npt.symm]; exact ht4, by rw [List.reverse_reverse]; exact PcsAt.keep (k4.trans k5) _ _ hus, ?_, ?_, by omega, ?_, fun w0 hw => hss w0 (List.mem_cons_of_mem _ hw), Same.put hp s4 _⟩
        · rw [upd_same, List.map_append]; rfl
        · have : wt1 (.s y) = 1 := rfl
          omega
        · rw [← hfl, List.append_assoc]; rfl
        · rw [List.length_append, List.length_singleton]; omega
      | w y =>
        have hy : ObjAt c H2 u y := hu
        have hy4 := ObjAt.keep k4 _ _ hy
        have hys := hss y List.mem_cons_self
        refine ⟨_, rfl, u, .ty "str", _, _, _, rfl, .ty "str", hy4.ty A0, hS y, _, rfl, iteF ?_⟩
        refine ⟨_, rfl, .inl ⟨rfl, _, SqL.of ht4⟩, _, rfl, u, y, rfl, hy4, hys, fun q qs H5 s5 hq hqs => ?_⟩
        refine ⟨q, qs, rfl, SqL.of hq, fun r hr => ?_⟩
        have s6 := Same.new hr (.lst qs.reverse)
        have ht6 := s6 _ _ (s5 _ _ ht4)
        have hr6 : upd H5 r (.lst qs.reverse) r = some (.lst qs.reverse) := upd_same
        have hlq := PcsAt.len _ _ hqs
        have hws := wt_spell y
        have hwl2 := wt_len (spell y)
        generalize upd H5 r (.lst qs.reverse) = H6 at *
        have ew : wt1 (.w y) = 14 * y.size - 10 := rfl
        refine ⟨t, r, _, _, rfl, rfl, ht6, hr6, Nat.le_of_lt (small' (by rw [List.length_reverse, List.length_reverse]; omega)), ?_⟩
        walk_at "nx"
        have k7 : Still H6 (upd H6 t (.lst (us.reverse ++ qs.reverse))) := Still.put ht6
        refine ⟨m, Nat.lt_succ_self _, ps, _, spell y ++ stk, _, rfl, by rw [upd_ne npt]; exact s6 _ _ (s5 _ _ hp4), upd_same, ?_, ?_, ?_, by omega, by omega, ?_, Same.put htH ((s4.trans s5).trans s6) _⟩
        · rw [List.reverse_append, List.reverse_reverse, List.reverse_reverse]
          exact PcsAt.app _ _ (PcsAt.keep ((stillS s6).trans k7) _ _ hqs) (PcsAt.keep ((k4.trans (stillS (s5.trans s6))).trans k7) _ _ hus)
        · rw [wt_app]; omega
        · rw [← hfl]; rfl
        · intro w0 hw
          rcases List.mem_append.mp hw with hw | hw
          · have := mem_spell hw; omega
          · exact hss w0 (List.mem_cons_of_mem _ hw)
def txt (w : W) : Str := Txt.join (Str.ofString "") (pcs w)
def spStr (c : Cs) : Sp := fun vs H Q _ => ∃ (v : V) (w : W), vs = [v] ∧ ObjAt c H v w ∧ w.size ≤ 1000 ∧ ((pcs w).map (·.length)).sum ≤ 1000000 ∧ ∀ H', Same H H' → Q (.str (txt w)) H'
abbrev s_Way_str : Stmt := inClass (top 20) 5
theorem sc_Way_str : FnScope ["self"] ["self"] (defScope s_Way_str) := ⟨rfl, rfl, rfl, by decide +kernel, rfl, by decide +kernel, by decide +kernel⟩
theorem ok_Way_str {f : Addr} {fd : FuncData} (F : Fun K "__str__" "Way.__str__" s_Way_str f fd) (G_pieces_of : DefOk P w K mg base 5 "pieces_of" ["way"] (spPieces c)) : FnOk P w K mg base CX0 6 f fd ["self"] (spStr c) := by
  refine F.ok sc_Way_str (fun vs H Q E h => by obtain ⟨_, _, rfl, _⟩ := h; rfl) (fun cdv A outer s' H vs Q E hr h => ?_)
  obtain ⟨v, x, rfl, hv, hsz, hsum, k⟩ := h
  refine ⟨_, (pss_one (ps_ret (pe_join pe_str (pe_callD G_pieces_of (hr.mono (by first | decide | omega)) rfl (pa_cons (pv 0) pa_nil))))), ?_⟩
  refine ⟨⟨_, rfl⟩, _, rfl, v, x, rfl, hv, hsz, fun q H' s1 hq hl => ?_⟩
  have e0 : (Str.ofString "").length = 0 := by decide +kernel
  refine ⟨_, q, pcs x, rfl, rfl, .inl (SqL.of hq), ?_, k H' s1⟩
  rw [e0, Nat.mul_zero, Nat.add_zero]
  omega
end
end Ws
/-! texts with more or fewer spaces, and how the scanner goes over them: pure facts -/
namespace Ws
open PySem PySem.Spec PyProof.Rows L2 Wv
/-- these signs one behind the other, spaces ahead of each and at the end -/
inductive Loose : List (List Nat) → List Nat → Prop where
  | nil (n : Nat) : Loose [] (List.replicate n 32)
  | cons (n : Nat) (t : List Nat) {ts : List (List Nat)} {r : List Nat} (h : Loose ts r) : Loose (t :: ts) (List.replicate n 32 ++ (t ++ r))
theorem blanks_rep : ∀ (n : Nat) (c : Nat) (r : List Nat), c ≠ 32 → blanks (List.replicate n 32 ++ c :: r) = n
  | 0, c, r, h => if_neg h
  | n + 1, c, r, h => by
    rw [List.replicate_succ, List.cons_append]
    show (if (32 : Nat) = 32 then blanks (List.replicate n 32 ++ c :: r) + 1 else 0) = _
    rw [if_pos rfl, blanks_rep n c r h]
theorem blanks_all : ∀ n : Nat, blanks (List.replicate n 32) = n
  | 0 => rfl
  | n + 1 => by
    rw [List.replicate_succ]
    show (if (32 : Nat) = 32 then blanks (List.replicate n 32) + 1 else 0) = _
    rw [if_pos rfl, blanks_all n]
/-- what stands from the place on -/
def Sc.rest (s : Sc) : List Nat := s.z.drop s.pl
def Sc.At (s : Sc) (ts : List (List Nat)) : Prop := Loose ts s.rest
theorem Sc.cur_rest (s : Sc) : s.cur = s.rest[0]? := by
  unfold Sc.cur Sc.rest
  rw [List.getElem?_drop, Nat.add_zero]
theorem Sc.skip_rest (s : Sc) : s.skip.rest = s.rest.drop (blanks s.rest) := by
  show s.z.drop (s.pl + blanks (s.z.drop s.pl)) = (s.z.drop s.pl).drop (blanks (s.z.drop s.pl))
  rw [List.drop_drop]
theorem Sc.go_rest (s : Sc) : s.go.rest = s.rest.drop 1 := by
  show s.z.drop (s.pl + 1) = (s.z.drop s.pl).drop 1
  rw [List.drop_drop]
/-- the next sign -/
theorem at_tok {s : Sc} {c : Nat} {t : List Nat} {ts : List (List Nat)} (h : s.At ((c :: t) :: ts)) (hc : c ≠ 32) : s.skip.cur = some c ∧ ∃ r, s.skip.rest = c :: (t ++ r) ∧ Loose ts r := by
  generalize e : s.rest = z at h
  unfold Sc.At at h
  rw [e] at h
  cases h with
  | @cons n _ _ r h' =>
    have e2 : s.skip.rest = c :: (t ++ r) := by
      rw [Sc.skip_rest, e]
      show (List.replicate n 32 ++ c :: (t ++ r)).drop (blanks (List.replicate n 32 ++ c :: (t ++ r))) = _
      rw [blanks_rep n c _ hc, List.drop_left' (by simp)]
    exact ⟨by rw [Sc.cur_rest, e2]; rfl, _, e2, h'⟩
theorem at_one {s : Sc} {c : Nat} {ts : List (List Nat)} (h : s.At ([c] :: ts)) (hc : c ≠ 32) : s.skip.cur = some c ∧ s.skip.go.At ts := by
  obtain ⟨h1, r, h2, h3⟩ := at_tok h hc
  refine ⟨h1, ?_⟩
  unfold Sc.At
  rw [Sc.go_rest, h2]
  exact h3
theorem at_end {s : Sc} (h : s.At []) : s.skip.cur = none := by
  generalize e : s.rest = z at h
  unfold Sc.At at h
  rw [e] at h
  cases h with
  | nil n =>
    rw [Sc.cur_rest, Sc.skip_rest, e, blanks_all]
    simp
/-- spaces are gone over: still there -/
theorem at_skip1 {s : Sc} {c : Nat} {t : List Nat} {ts : List (List Nat)} (h : s.At ((c :: t) :: ts)) (hc : c ≠ 32) : s.skip.At ((c :: t) :: ts) := by
  obtain ⟨_, r, h2, h3⟩ := at_tok h hc
  unfold Sc.At
  rw [h2]
  exact Loose.cons 0 (c :: t) h3
theorem at_skip0 {s : Sc} (h : s.At []) : s.skip.At [] := by
  generalize e : s.rest = z at h
  unfold Sc.At at h ⊢
  rw [e] at h
  cases h with
  | nil n =>
    rw [Sc.skip_rest, e, blanks_all]
    simpa using Loose.nil 0
/-! ### fuel -/
theorem beginK_more : ∀ (f : Nat) (s t : Sc), Sc.beginK f s = some t → ∀ g, s.z.length - s.pl < g → Sc.beginK g s = some t
  | 0, s, t, h, _, _ => by cases h
  | f + 1, s, t, h, 0, hg => by omega
  | f + 1, s, t, h, g + 1, hg => by
    unfold Sc.beginK at h ⊢
    have lt : ∀ {c : Nat}, s.cur = some c → s.pl < s.z.length := fun hc => Sc.cur_lt hc
    split at h
    · rename_i q
      rw [if_pos q]
      split at h
      · rename_i q2
        rw [if_pos q2]
        exact h
      · rename_i q2
        rw [if_neg q2]
        have := lt q
        have : s.pl + 1 ≤ s.go.skip.enter.skip.pl := Nat.le_trans (show s.pl + 1 ≤ s.go.skip.pl from Nat.le_add_right _ _) (Nat.le_add_right _ _)
        exact beginK_more f _ t h g (by show s.z.length - _ < g; omega)
    · rename_i q
      rw [if_neg q]
      split at h
      · rename_i q2
        rw [if_pos q2]
        have := lt q2
        have : s.pl + 1 ≤ (s.go.look 7).skip.pl := Nat.le_add_right _ _
        exact beginK_more f _ t h g (by show s.z.length - _ < g; omega)
      · rename_i q2
        rw [if_neg q2]
        split at h
        · rename_i q3
          rw [if_pos q3]
          have := lt q3
          have : s.pl + 1 ≤ (s.go.look 8).skip.pl := Nat.le_add_right _ _
          exact beginK_more f _ t h g (by show s.z.length - _ < g; omega)
        · rename_i q3
          rw [if_neg q3]
          exact h
/-- from the top of the loop, and from where a way begins -/
def Go (s : Sc) (t : Sc → Prop) : Prop := ∃ (f : Nat) (e : Sc), Sc.wayK f s = some e ∧ t e
def Be (s : Sc) (t : Sc → Prop) : Prop := ∃ (f : Nat) (s1 : Sc), Sc.beginK f s.skip = some s1 ∧ Go s1 t
theorem Be.begin {s : Sc} {t : Sc → Prop} (h : Be s t) : ∃ s1, s.begin = some s1 ∧ Go s1 t := by
  obtain ⟨f, s1, h1, h2⟩ := h
  exact ⟨s1, beginK_more f _ _ h1 _ (by show s.z.length - _ < s.z.length + 1; omega), h2⟩
theorem be_look7 {s : Sc} {t : Sc → Prop} (hc : s.skip.cur = some 38) (h : Be (s.skip.go.look 7) t) : Be s t := by
  obtain ⟨f, s1, h1, h2⟩ := h
  refine ⟨f + 1, s1, ?_, h2⟩
  unfold Sc.beginK
  rw [if_neg (by rw [hc]; decide), if_pos hc]
  exact h1
theorem be_look8 {s : Sc} {t : Sc → Prop} (hc : s.skip.cur = some 33) (h : Be (s.skip.go.look 8) t) : Be s t := by
  obtain ⟨f, s1, h1, h2⟩ := h
  refine ⟨f + 1, s1, ?_, h2⟩
  unfold Sc.beginK
  rw [if_neg (by rw [hc]; decide), if_neg (by rw [hc]; decide), if_pos hc]
  exact h1
theorem be_open {s : Sc} {t : Sc → Prop} (hc : s.skip.cur = some 40) (hn : s.skip.go.skip.cur ≠ some 41) (h : Be s.skip.go.skip.enter t) : Be s t := by
  obtain ⟨f, s1, h1, h2⟩ := h
  refine ⟨f + 1, s1, ?_, h2⟩
  unfold Sc.beginK
  rw [if_pos hc, if_neg hn]
  exact h1
theorem be_none {s : Sc} {t : Sc → Prop} (hc : s.skip.cur = some 40) (hn : s.skip.go.skip.cur = some 41) (h : Go (s.skip.go.skip.go.add 2 eS 0) t) : Be s t := by
  refine ⟨1, _, ?_, h⟩
  unfold Sc.beginK
  rw [if_pos hc, if_pos hn]
theorem be_single {s s1 : Sc} {t : Sc → Prop} (h1 : s.skip.cur ≠ some 40) (h2 : s.skip.cur ≠ some 38) (h3 : s.skip.cur ≠ some 33) (hs : s.skip.single = some s1) (h : Go s1 t) : Be s t := by
  refine ⟨1, s1, ?_, h⟩
  unfold Sc.beginK
  rw [if_neg h1, if_neg h2, if_neg h3]
  exact hs
/-- behind the end of a way and the spaces there -/
def Af (s : Sc) (t : Sc → Prop) : Prop :=
  (s.cur = none ∧ s.rows.length = 1 ∧ t s.endChoice) ∨ (s.cur = some 41 ∧ 1 < s.rows.length ∧ Go s.go.endChoice.leave t) ∨ (s.cur = some 47 ∧ Be s.go.endRow t) ∨ (s.cur ≠ none ∧ s.cur ≠ some 41 ∧ s.cur ≠ some 47 ∧ Be s t)
theorem go_of {s : Sc} {t : Sc → Prop} (h : Af s.endWay.skip t) : Go s t := by
  rcases h with ⟨h1, h2, h3⟩ | ⟨h1, h2, f, e, hf, he⟩ | ⟨h1, hb⟩ | ⟨h1, h2, h3, hb⟩
  · exact ⟨1, _, by unfold Sc.wayK; rw [if_pos ⟨h1, h2⟩], h3⟩
  · exact ⟨f + 1, e, by unfold Sc.wayK; rw [if_neg (fun q => by rw [h1] at q; cases q.1), if_pos ⟨h1, h2⟩]; exact hf, he⟩
  · obtain ⟨s1, hb1, f, e, hf, he⟩ := hb.begin
    exact ⟨f + 1, e, by unfold Sc.wayK; rw [if_neg (fun q => by rw [h1] at q; cases q.1), if_neg (fun q => by rw [h1] at q; exact absurd q.1 (by decide)), if_pos h1, hb1]; exact hf, he⟩
  · obtain ⟨s1, hb1, f, e, hf, he⟩ := hb.begin
    exact ⟨f + 1, e, by unfold Sc.wayK; rw [if_neg (fun q => h1 q.1), if_neg (fun q => h2 q.1), if_neg h3, hb1]; exact hf, he⟩
end Ws
/-! the scanner over marks and over single ways: pure facts -/
namespace Ws
open PySem PySem.Spec PyProof.Rows L2 Wv
/-- what the scanner keeps, its place aside -/
structure St (s : Sc) (z : List Nat) (R M : List Nat) (L : List (List Nat)) (S : List (Nat × Str × Nat)) : Prop where
  z : s.z = z
  r : s.rows = R
  m : s.many = M
  l : s.looks = L
  s : s.steps = S
abbrev Stp := Nat × Str × Nat
def mst (m : Nat) : Stp := if m = 42 then (5, eS, 1) else (6, eS, 1)
/-- the next sign is none of these -/
def Hd (ts : List (List Nat)) (P : Nat → Prop) : Prop := ts = [] ∨ ∃ c t r, ts = (c :: t) :: r ∧ c ≠ 32 ∧ P c
variable {s : Sc} {t : Sc → Prop} {z R M : List Nat} {L : List (List Nat)} {S : List Stp} {ts : List (List Nat)}
theorem St.skip (h : St s z R M L S) : St s.skip z R M L S := ⟨h.z, h.r, h.m, h.l, h.s⟩
theorem St.go (h : St s z R M L S) : St s.go z R M L S := ⟨h.z, h.r, h.m, h.l, h.s⟩
theorem St.add (h : St s z R M L S) (k : Nat) (x : Str) (n : Nat) : St (s.add k x n) z R M L (S ++ [(k, x, n)]) := ⟨h.z, h.r, h.m, h.l, by show s.steps ++ _ = _; rw [h.s]⟩
theorem St.look (h : St s z R M (L ++ [ls]) S) (k : Nat) : St (s.look k) z R M (L ++ [ls ++ [k]]) S := ⟨h.z, h.r, h.m, by show setLast s.looks (lastL s.looks ++ [k]) = _; rw [h.l, lastL_snoc, setLast_snoc], h.s⟩
theorem St.enter (h : St s z R M L S) : St s.enter z (R ++ [0]) (M ++ [0]) (L ++ [[]]) S := ⟨h.z, by show s.rows ++ _ = _; rw [h.r], by show s.many ++ _ = _; rw [h.m], by show s.looks ++ _ = _; rw [h.l], h.s⟩
theorem hd_cur {P : Nat → Prop} (h : Hd ts P) (ha : s.At ts) : (s.skip.cur = none ∧ ts = []) ∨ ∃ c, s.skip.cur = some c ∧ P c := by
  rcases h with rfl | ⟨c, t, r, rfl, hc, hp⟩
  · exact .inl ⟨at_end ha, rfl⟩
  · exact .inr ⟨c, (at_tok ha hc).1, hp⟩
theorem hd_skip {P : Nat → Prop} (h : Hd ts P) (ha : s.At ts) : s.skip.At ts := by
  rcases h with rfl | ⟨c, t, r, rfl, hc, hp⟩
  · exact at_skip0 ha
  · exact at_skip1 ha hc
theorem marksK_at : ∀ (ms : List Nat) (f : Nat) (s : Sc) (S : List Stp), St s z R M L S → s.At (ms.map (fun m => [m]) ++ ts) → (∀ m ∈ ms, m = 42 ∨ m = 63) → Hd ts (fun c => c ≠ 42 ∧ c ≠ 63) → s.z.length - s.skip.pl < f →
    St (Sc.marksK f s.skip) z R M L (S ++ ms.map mst) ∧ (Sc.marksK f s.skip).At ts ∧ (Sc.marksK f s.skip).skip = Sc.marksK f s.skip
  | [], 0, s, S, h, ha, hm, hd, hf => by omega
  | [], f + 1, s, S, h, ha, hm, hd, hf => by
    have ha' : s.At ts := ha
    have e : Sc.marksK (f + 1) s.skip = s.skip := by
      unfold Sc.marksK
      rcases hd_cur hd ha' with ⟨q, _⟩ | ⟨c, q, q1, q2⟩
      · rw [if_neg (by rw [q]; exact fun e => by cases e), if_neg (by rw [q]; exact fun e => by cases e)]
      · rw [if_neg (by rw [q]; exact fun e => q1 (Option.some.inj e)), if_neg (by rw [q]; exact fun e => q2 (Option.some.inj e))]
    rw [e]
    exact ⟨by simpa using h.skip, hd_skip hd ha', Sc.skip_skip s⟩
  | m :: ms, 0, s, S, h, ha, hm, hd, hf => by omega
  | m :: ms, f + 1, s, S, h, ha, hm, hd, hf => by
    have hm1 := hm m List.mem_cons_self
    have h32 : m ≠ 32 := by rcases hm1 with rfl | rfl <;> decide
    obtain ⟨h1, h2⟩ := at_one (show s.At ([m] :: (ms.map (fun m => [m]) ++ ts)) from ha) h32
    have hl := Sc.cur_lt h1
    have st2 : St (s.skip.go.add (mst m).1 (mst m).2.1 (mst m).2.2) z R M L (S ++ [mst m]) := h.skip.go.add _ _ _
    have hp : s.skip.pl + 1 ≤ (s.skip.go.add (mst m).1 (mst m).2.1 (mst m).2.2).skip.pl := Nat.le_add_right _ _
    have hzz : (s.skip.go.add (mst m).1 (mst m).2.1 (mst m).2.2).z.length = s.z.length := rfl
    have hzs : s.skip.z.length = s.z.length := rfl
    have ih := marksK_at ms f (s.skip.go.add (mst m).1 (mst m).2.1 (mst m).2.2) (S ++ [mst m]) st2 h2 (fun x hx => hm x (List.mem_cons_of_mem _ hx)) hd (by omega)
    have e : Sc.marksK (f + 1) s.skip = Sc.marksK f (s.skip.go.add (mst m).1 (mst m).2.1 (mst m).2.2).skip := by
      rcases hm1 with rfl | rfl
      · exact (if_pos h1)
      · exact (if_neg (by rw [h1]; decide)).trans (if_pos h1)
    rw [e]
    rw [List.append_assoc] at ih
    exact ih
theorem endWay_at {m : Nat} {ls ms : List Nat} (h : St s z R (M ++ [m]) (L ++ [ls]) S) (ha : s.At (ms.map (fun m => [m]) ++ ts)) (hm : ∀ m ∈ ms, m = 42 ∨ m = 63) (hd : Hd ts (fun c => c ≠ 42 ∧ c ≠ 63)) :
    St s.endWay.skip z R (M ++ [m + 1]) (L ++ [[]]) (S ++ ms.map mst ++ ls.reverse.map (fun k => (k, eS, 1))) ∧ s.endWay.skip.At ts := by
  obtain ⟨h1, h2, h3⟩ := marksK_at ms (s.z.length + 1) s S h ha hm hd (by omega)
  have e : s.marks = Sc.marksK (s.z.length + 1) s.skip := rfl
  rw [← e] at h1 h2 h3
  have e2 : s.endWay = s.marks.fin := rfl
  rw [e2]
  have ha2 : s.marks.fin.At ts := h2
  exact ⟨⟨h1.z, h1.r, by show setLast s.marks.many (lastD s.marks.many + 1) = _; rw [h1.m, lastD_snoc, setLast_snoc], by show setLast s.marks.looks [] = _; rw [h1.l, setLast_snoc],
    by show s.marks.steps ++ (lastL s.marks.looks).reverse.map _ = _; rw [h1.s, h1.l, lastL_snoc]⟩, hd_skip hd ha2⟩
/-! ### single ways -/
def isAz (c : Nat) : Prop := 97 ≤ c ∧ c ≤ 122
theorem isL_az {c : Nat} (h : isAz c) : isL (some c) = true := by
  show (decide (97 ≤ c) && decide (c ≤ 122)) = true
  rw [decide_eq_true h.1, decide_eq_true h.2]; rfl
theorem be_letter {c : Nat} (hc : isAz c) (h : St s z R M L S) (ha : s.At ([c] :: ts)) (k : ∀ s1, St s1 z R M L (S ++ [(0, sg c, 0)]) → s1.At ts → Go s1 t) : Be s t := by
  obtain ⟨a1, a2⟩ := hc
  obtain ⟨h1, h2⟩ := at_one ha (by omega)
  have hl : isL s.skip.cur = true := by rw [h1]; exact isL_az ⟨a1, a2⟩
  refine be_single (s1 := s.skip.go.add 0 (sgn s.skip.cur) 0) (by rw [h1]; exact fun e => by have := Option.some.inj e; omega) (by rw [h1]; exact fun e => by have := Option.some.inj e; omega) (by rw [h1]; exact fun e => by have := Option.some.inj e; omega) ?_ (k _ ?_ h2)
  · unfold Sc.single
    rw [if_neg (by rw [h1]; exact fun e => by have := Option.some.inj e; omega), if_neg (by rw [h1]; exact fun e => by have := Option.some.inj e; omega), if_pos hl]
  · have := h.skip.go.add 0 (sgn s.skip.cur) 0
    rw [h1] at this ⊢
    exact this
theorem be_one (h : St s z R M L S) (ha : s.At ([46] :: ts)) (k : ∀ s1, St s1 z R M L (S ++ [(1, eS, 0)]) → s1.At ts → Go s1 t) : Be s t := by
  obtain ⟨h1, h2⟩ := at_one ha (by decide)
  refine be_single (s1 := s.skip.go.add 1 eS 0) (by rw [h1]; decide) (by rw [h1]; decide) (by rw [h1]; decide) ?_ (k _ (h.skip.go.add 1 eS 0) h2)
  unfold Sc.single
  rw [if_pos h1]
theorem be_nothing (h : St s z R M L S) (ha : s.At ([40] :: [41] :: ts)) (k : ∀ s1, St s1 z R M L (S ++ [(2, eS, 0)]) → s1.At ts → Go s1 t) : Be s t := by
  obtain ⟨h1, h2⟩ := at_one ha (by decide)
  obtain ⟨h3, h4⟩ := at_one h2 (by decide)
  exact be_none h1 h3 (k _ (h.skip.go.skip.go.add 2 eS 0) h4)
theorem nmLen_all : ∀ (n : Nat) (x r : List Nat), (∀ c ∈ x, isAz c) → x.length ≤ n → isL r[0]? = false → nmLen n (x ++ r) = x.length
  | 0, [], r, _, _, _ => rfl
  | 0, c :: x, r, _, h, _ => by simp at h
  | n + 1, [], [], _, _, _ => rfl
  | n + 1, [], c :: r, _, _, h => by
    show (if isL (some c) = true then _ else 0) = 0
    rw [if_neg (by rw [show isL (some c) = false from h]; decide)]
  | n + 1, c :: x, r, hx, h, hr => by
    show (if isL (some c) = true then nmLen n (x ++ r) + 1 else 0) = _
    rw [if_pos (isL_az (hx c List.mem_cons_self)), nmLen_all n x r (fun d hd => hx d (List.mem_cons_of_mem _ hd)) (by simpa using h) hr]
    rfl
theorem be_call {x : List Nat} (hx : ∀ c ∈ x, isAz c) (h0 : x ≠ []) (h12 : x.length ≤ 12) (h : St s z R M L S) (ha : s.At ([60] :: x :: [62] :: ts)) (k : ∀ s1, St s1 z R M L (S ++ [(9, tx x, 0)]) → s1.At ts → Go s1 t) : Be s t := by
  obtain ⟨h1, h2⟩ := at_one ha (by decide)
  cases x with
  | nil => exact absurd rfl h0
  | cons c x =>
    have hc := hx c List.mem_cons_self
    obtain ⟨c1, c2⟩ := hc
    obtain ⟨h3, r, h4, h5⟩ := at_tok h2 (by omega)
    have h4' : s.skip.go.skip.rest = (c :: x) ++ r := h4
    have hr : isL r[0]? = false := by
      cases h5 with
      | @cons n _ _ r' _ =>
        cases n with
        | zero => rfl
        | succ n => rfl
    have en : s.skip.go.skip.nm = (c :: x).length := by
      show nmLen 12 s.skip.go.skip.rest = _
      rw [h4']
      exact nmLen_all 12 (c :: x) r hx h12 hr
    have ew : s.skip.go.skip.word = tx (c :: x) := by
      show tx (s.skip.go.skip.rest.take s.skip.go.skip.nm) = _
      rw [en, h4', List.take_left' rfl]
    have er : s.skip.go.skip.named.rest = r := by
      show s.z.drop (s.skip.go.skip.pl + s.skip.go.skip.nm) = r
      rw [← List.drop_drop]
      show s.skip.go.skip.rest.drop s.skip.go.skip.nm = r
      rw [en, h4', List.drop_left' rfl]
    have ha3 : s.skip.go.skip.named.At ([62] :: ts) := by unfold Sc.At; rw [er]; exact h5
    obtain ⟨h6, h7⟩ := at_one ha3 (by decide)
    refine be_single (s1 := s.skip.go.skip.named.skip.go.add 9 s.skip.go.skip.word 0) (by rw [h1]; decide) (by rw [h1]; decide) (by rw [h1]; decide) ?_ (k _ ?_ h7)
    · unfold Sc.single
      rw [if_neg (by rw [h1]; decide), if_pos h1, if_pos ⟨by rw [h3]; exact isL_az ⟨c1, c2⟩, h6⟩]
    · rw [ew]
      exact ⟨h.z, h.r, h.m, h.l, by show s.steps ++ _ = _; rw [h.s]⟩
end Ws
/-! the signs of a way's text, and that the scanner tells its steps: pure facts -/
namespace Ws
open PySem PySem.Spec PyProof.Rows L2 Wv
mutual
def post : W → List Stp
  | .letter c => [(0, sg c, 0)] | .one => [(1, eS, 0)] | .nothing => [(2, eS, 0)] | .call x => [(9, x, 0)]
  | .row ws => posts ws ++ [(3, eS, ws.length)]
  | .choice ws => posts ws ++ [(4, eS, ws.length)]
  | .again w => post w ++ [(5, eS, 1)] | .maybe w => post w ++ [(6, eS, 1)] | .ahead w => post w ++ [(7, eS, 1)] | .unless w => post w ++ [(8, eS, 1)]
def posts : List W → List Stp
  | [] => []
  | w :: ws => post w ++ posts ws
end
/-- signs, in brackets where they are due -/
def inBr (b : Bool) (l : List (List Nat)) : List (List Nat) := if b = true then [40] :: (l ++ [[41]]) else l
mutual
def toks : W → List (List Nat)
  | .letter c => [[c]] | .one => [[46]] | .nothing => [[40], [41]] | .call x => [[60], x.cps.toList, [62]]
  | .row ws => tokR ws
  | .choice ws => tokC true ws
  | .again w => inBr (needs w.kind 5) (toks w) ++ [[42]]
  | .maybe w => inBr (needs w.kind 6) (toks w) ++ [[63]]
  | .ahead w => [38] :: inBr (needs w.kind 7) (toks w)
  | .unless w => [33] :: inBr (needs w.kind 8) (toks w)
def tokR : List W → List (List Nat)
  | [] => []
  | w :: ws => inBr (needs w.kind 3) (toks w) ++ tokR ws
def tokC : Bool → List W → List (List Nat)
  | _, [] => []
  | f, w :: ws => (if f = true then [] else [[47]]) ++ (inBr (needs w.kind 4) (toks w) ++ tokC false ws)
end
mutual
def okW : W → Prop
  | .letter c => isAz c | .one => True | .nothing => True
  | .call x => x.cps.toList ≠ [] ∧ x.cps.toList.length ≤ 12 ∧ ∀ c ∈ x.cps.toList, isAz c
  | .row ws => 2 ≤ ws.length ∧ okWs ws | .choice ws => 2 ≤ ws.length ∧ okWs ws
  | .again w => okW w | .maybe w => okW w | .ahead w => okW w | .unless w => okW w
def okWs : List W → Prop
  | [] => True
  | w :: ws => okW w ∧ okWs ws
end
/-- the first sign of a way -/
def FstC (c : Nat) : Prop := c ≠ 32 ∧ c ≠ 41 ∧ c ≠ 42 ∧ c ≠ 63 ∧ c ≠ 47
theorem fst_br {b : Bool} {l : List (List Nat)} (h : ∃ c t r, l = (c :: t) :: r ∧ FstC c) : ∃ c t r, inBr b l = (c :: t) :: r ∧ FstC c := by
  cases b with
  | true => exact ⟨40, [], _, rfl, by decide, by decide, by decide, by decide, by decide⟩
  | false => exact h
theorem fst_app {l r' : List (List Nat)} (h : ∃ c t r, l = (c :: t) :: r ∧ FstC c) : ∃ c t r, l ++ r' = (c :: t) :: r ∧ FstC c := by
  obtain ⟨c, t, r, e, h⟩ := h
  exact ⟨c, t, r ++ r', by rw [e]; rfl, h⟩
theorem fst_tok : ∀ (n : Nat) (w : W), w.size ≤ n → okW w → ∃ c t r, toks w = (c :: t) :: r ∧ FstC c
  | 0, w, h, _ => by have := w.size_pos; omega
  | n + 1, .letter c, _, ⟨h1, h2⟩ => ⟨c, [], [], rfl, by omega, by omega, by omega, by omega, by omega⟩
  | n + 1, .one, _, _ => ⟨46, [], [], rfl, by decide, by decide, by decide, by decide, by decide⟩
  | n + 1, .nothing, _, _ => ⟨40, [], _, rfl, by decide, by decide, by decide, by decide, by decide⟩
  | n + 1, .call x, _, _ => ⟨60, [], _, rfl, by decide, by decide, by decide, by decide, by decide⟩
  | n + 1, .row [], _, h => by have := h.1; simp at this
  | n + 1, .row (w :: ws), hs, h => by
    have hsz : 1 + (w.size + W.sizes ws) ≤ n + 1 := hs
    exact fst_app (fst_br (fst_tok n w (by omega) h.2.1))
  | n + 1, .choice [], _, h => by have := h.1; simp at this
  | n + 1, .choice (w :: ws), hs, h => by
    have hsz : 1 + (w.size + W.sizes ws) ≤ n + 1 := hs
    have q := fst_app (r' := tokC false ws) (fst_br (b := needs w.kind 4) (fst_tok n w (by omega) h.2.1))
    exact q
  | n + 1, .again w, hs, h => by
    have hsz : 1 + w.size ≤ n + 1 := hs
    exact fst_app (fst_br (fst_tok n w (by omega) h))
  | n + 1, .maybe w, hs, h => by
    have hsz : 1 + w.size ≤ n + 1 := hs
    exact fst_app (fst_br (fst_tok n w (by omega) h))
  | n + 1, .ahead w, hs, h => ⟨38, [], _, rfl, by decide, by decide, by decide, by decide, by decide⟩
  | n + 1, .unless w, hs, h => ⟨33, [], _, rfl, by decide, by decide, by decide, by decide, by decide⟩
variable {s : Sc} {t : Sc → Prop} {z R M : List Nat} {L : List (List Nat)} {S : List Stp} {ts : List (List Nat)}
/-- a way where it needs brackets just if it is a Row or a Choice -/
def ut (w : W) : List (List Nat) := inBr (needs w.kind 3) (toks w)
def fini (r m : Nat) (X : List Stp) : List Stp := (X ++ (if 1 < m then [(3, eS, m)] else [])) ++ (if 1 < r + 1 then [(4, eS, r + 1)] else [])
/-- a whole way, up to what ends it -/
def CL (n : Nat) : Prop := ∀ (w : W), w.size ≤ n → okW w → ∀ (s : Sc) (t : Sc → Prop) (z R M : List Nat) (L : List (List Nat)) (S : List Stp) (tl : List (List Nat)), St s z (R ++ [0]) (M ++ [0]) (L ++ [[]]) S → s.At (toks w ++ tl) → Hd tl (fun c => c = 41) →
  (∀ (s' : Sc) (r m : Nat) (X : List Stp), St s' z (R ++ [r]) (M ++ [m]) (L ++ [[]]) X → fini r m X = S ++ post w → s'.At tl → s'.skip = s' → Af s' t) → Be s t
/-- a way within a Row, marks behind it, looks ahead of it -/
def UL (n : Nat) : Prop := ∀ (w : W), w.size ≤ n → okW w → ∀ (s : Sc) (t : Sc → Prop) (z R M : List Nat) (L : List (List Nat)) (S : List Stp) (m : Nat) (ls ms : List Nat) (ts : List (List Nat)), St s z R (M ++ [m]) (L ++ [ls]) S → R ≠ [] → s.At (ut w ++ (ms.map (fun m => [m]) ++ ts)) →
  (∀ m ∈ ms, m = 42 ∨ m = 63) → Hd ts (fun c => c ≠ 42 ∧ c ≠ 63) → (ms = [] ∨ (w.kind ≠ 7 ∧ w.kind ≠ 8)) →
  (∀ s' : Sc, St s' z R (M ++ [m + 1]) (L ++ [[]]) (S ++ post w ++ ms.map mst ++ ls.reverse.map (fun k => (k, eS, 1))) → s'.At ts → s'.skip = s' → Af s' t) → Be s t
theorem row1_place (g : Sc) : g.row1.z = g.z ∧ g.row1.pl = g.pl := by unfold Sc.row1; split <;> exact ⟨rfl, rfl⟩
theorem choice_place (g : Sc) : g.endChoice.z = g.z ∧ g.endChoice.pl = g.pl := by
  unfold Sc.endChoice
  split <;> exact row1_place g
theorem leave_rest (g : Sc) : g.endChoice.leave.rest = g.rest := by
  have h := choice_place g
  show g.endChoice.z.drop g.endChoice.pl = _
  rw [h.1, h.2]
  rfl
theorem row_rest (g : Sc) : g.endRow.rest = g.rest := by
  have h := row1_place g
  show g.row1.z.drop g.row1.pl = _
  rw [h.1, h.2]
  rfl
/-- the end of a bracket -/
theorem close {s : Sc} {t : Sc → Prop} {z R M : List Nat} {L : List (List Nat)} {r m : Nat} {X Y : List Stp} (h : St s z (R ++ [r]) (M ++ [m]) (L ++ [[]]) X) (e : fini r m X = Y) (hR : R ≠ []) (ha : s.At ([41] :: ts)) (hs : s.skip = s)
    (k : ∀ s', St s' z R M L Y → s'.At ts → Go s' t) : Af s t := by
  obtain ⟨h1, h2⟩ := at_one ha (by decide)
  rw [hs] at h1 h2
  have hr : 1 < s.rows.length := by
    rw [h.r, List.length_append, List.length_singleton]
    have := List.length_pos_iff.mpr hR
    omega
  refine .inr (.inl ⟨h1, hr, k _ ?_ (by unfold Sc.At; rw [leave_rest]; exact h2)⟩)
  have hg := h.go
  generalize s.go = g at hg
  have e1 : g.row1.rows = R ++ [r] ∧ g.row1.many = M ++ [m] ∧ g.row1.looks = L ++ [[]] ∧ g.row1.z = z ∧ g.row1.steps = X ++ (if 1 < m then [(3, eS, m)] else []) := by
    unfold Sc.row1
    rw [hg.m, lastD_snoc]
    by_cases q : 1 < m
    · rw [if_pos q, if_pos q]; exact ⟨hg.r, hg.m, hg.l, hg.z, by show g.steps ++ _ = _; rw [hg.s]⟩
    · rw [if_neg q, if_neg q, List.append_nil]; exact ⟨hg.r, hg.m, hg.l, hg.z, hg.s⟩
  have e2 : g.endRow.rows = R ++ [r + 1] ∧ g.endRow.many = M ++ [0] ∧ g.endRow.looks = L ++ [[]] ∧ g.endRow.z = z ∧ g.endRow.steps = X ++ (if 1 < m then [(3, eS, m)] else []) := by
    unfold Sc.endRow
    refine ⟨?_, ?_, e1.2.2.1, e1.2.2.2.1, e1.2.2.2.2⟩
    · show setLast g.row1.rows (lastD g.row1.rows + 1) = _
      rw [e1.1, lastD_snoc, setLast_snoc]
    · show setLast g.row1.many 0 = _
      rw [e1.2.1, setLast_snoc]
  have e3 : g.endChoice.rows = R ++ [r + 1] ∧ g.endChoice.many = M ++ [0] ∧ g.endChoice.looks = L ++ [[]] ∧ g.endChoice.z = z ∧ g.endChoice.steps = Y := by
    unfold Sc.endChoice
    rw [e2.1, lastD_snoc, ← e]
    unfold fini
    by_cases q : 1 < r + 1
    · rw [if_pos q, if_pos q]; exact ⟨e2.1, e2.2.1, e2.2.2.1, e2.2.2.2.1, by show g.endRow.steps ++ _ = _; rw [e2.2.2.2.2]⟩
    · rw [if_neg q, if_neg q, List.append_nil]; exact e2
  exact ⟨e3.2.2.2.1, by show g.endChoice.rows.dropLast = _; rw [e3.1, List.dropLast_concat], by show g.endChoice.many.dropLast = _; rw [e3.2.1, List.dropLast_concat], by show g.endChoice.looks.dropLast = _; rw [e3.2.2.1, List.dropLast_concat], e3.2.2.2.2⟩
/-- where no row stands below, the way is whole -/
theorem whole_end {s : Sc} {z : List Nat} {r m : Nat} {X Y : List Stp} (h : St s z ([] ++ [r]) ([] ++ [m]) ([] ++ [[]]) X) (e : fini r m X = Y) : s.endChoice.steps = Y := by
  have e1 : s.row1.rows = [r] ∧ s.row1.steps = X ++ (if 1 < m then [(3, eS, m)] else []) := by
    unfold Sc.row1
    rw [h.m, lastD_snoc]
    by_cases q : 1 < m
    · rw [if_pos q, if_pos q]; exact ⟨h.r, by show s.steps ++ _ = _; rw [h.s]⟩
    · rw [if_neg q, if_neg q, List.append_nil]; exact ⟨h.r, h.s⟩
  have e2 : s.endRow.rows = [] ++ [r + 1] ∧ s.endRow.steps = X ++ (if 1 < m then [(3, eS, m)] else []) := by
    unfold Sc.endRow
    refine ⟨?_, e1.2⟩
    show setLast s.row1.rows (lastD s.row1.rows + 1) = _
    rw [e1.1, show [r] = [] ++ [r] from rfl, lastD_snoc, setLast_snoc]
  unfold Sc.endChoice
  rw [e2.1, lastD_snoc, ← e]
  unfold fini
  by_cases q : 1 < r + 1
  · rw [if_pos q, if_pos q]; show s.endRow.steps ++ _ = _; rw [e2.2]
  · rw [if_neg q, if_neg q, List.append_nil]; exact e2.2
theorem grp {n : Nat} (hC : CL n) {p : W} (hp : p.size ≤ n) (ok : okW p) {m : Nat} {ls ms : List Nat} (h : St s z R (M ++ [m]) (L ++ [ls]) S) (hR : R ≠ []) (ha : s.At (([40] :: (toks p ++ [[41]])) ++ (ms.map (fun m => [m]) ++ ts))) (hm : ∀ m ∈ ms, m = 42 ∨ m = 63) (hd : Hd ts (fun c => c ≠ 42 ∧ c ≠ 63))
    (k : ∀ s' : Sc, St s' z R (M ++ [m + 1]) (L ++ [[]]) (S ++ post p ++ ms.map mst ++ ls.reverse.map (fun k => (k, eS, 1))) → s'.At ts → s'.skip = s' → Af s' t) : Be s t := by
  have ha' : s.At ([40] :: (toks p ++ ([41] :: (ms.map (fun m => [m]) ++ ts)))) := by simpa using ha
  obtain ⟨h1, h2⟩ := at_one ha' (by decide)
  obtain ⟨c, u, r, e, f1, f2, f3, f4, f5⟩ := fst_tok n p hp ok
  have h2' : s.skip.go.At ((c :: u) :: (r ++ ([41] :: (ms.map (fun m => [m]) ++ ts)))) := by rw [e] at h2; exact h2
  obtain ⟨h3, _⟩ := at_tok h2' f1
  refine be_open h1 (by rw [h3]; exact fun q => f2 (Option.some.inj q)) ?_
  have h4 : s.skip.go.skip.enter.At (toks p ++ ([41] :: (ms.map (fun m => [m]) ++ ts))) := by
    have := at_skip1 h2' f1
    rw [e]
    exact this
  refine hC p hp ok _ t z R (M ++ [m]) (L ++ [ls]) S ([41] :: (ms.map (fun m => [m]) ++ ts)) h.skip.go.skip.enter h4 (.inr ⟨41, [], _, rfl, by decide, rfl⟩) fun s' r m' X h5 e5 a5 k5 => ?_
  refine close h5 e5 hR a5 k5 fun s6 h6 a6 => go_of ?_
  obtain ⟨h7, a7⟩ := endWay_at h6 a6 hm hd
  exact k _ h7 a7 (Sc.skip_skip _)
theorem needs3 (k : Nat) : needs k 3 = (decide (k = 3) || decide (k = 4)) := by
  unfold needs
  by_cases h : k = 3
  · subst h; decide
  · rw [if_neg h]
    by_cases h2 : k = 7 ∨ k = 8
    · rw [if_pos h2]
      rcases h2 with rfl | rfl <;> decide
    · rw [if_neg h2, decide_eq_false h, Bool.false_or]
theorem units {n : Nat} (hU : UL n) : ∀ (us : List W), us ≠ [] → (∀ w ∈ us, w.size ≤ n ∧ okW w) → ∀ (s : Sc) (m : Nat) (S : List Stp), St s z R (M ++ [m]) (L ++ [[]]) S → R ≠ [] → s.At (tokR us ++ ts) → Hd ts (fun c => c = 41 ∨ c = 47) →
    (∀ s', St s' z R (M ++ [m + us.length]) (L ++ [[]]) (S ++ posts us) → s'.At ts → s'.skip = s' → Af s' t) → Be s t
  | [], h0, _, _, _, _, _, _, _, _, _ => absurd rfl h0
  | w :: us, _, hw, s, m, S, h, hR, ha, hd, k => by
    obtain ⟨w1, w2⟩ := hw w List.mem_cons_self
    have ha' : s.At (ut w ++ (([] : List Nat).map (fun m => [m]) ++ (tokR us ++ ts))) := by
      have : tokR (w :: us) = ut w ++ tokR us := rfl
      rw [this, List.append_assoc] at ha
      exact ha
    have hd' : Hd (tokR us ++ ts) (fun c => c ≠ 42 ∧ c ≠ 63) := by
      cases us with
      | nil =>
        rcases hd with e | ⟨c, u, r, e, f1, f2⟩
        · exact .inl e
        · exact .inr ⟨c, u, r, e, f1, by rcases f2 with rfl | rfl <;> decide⟩
      | cons w' us =>
        obtain ⟨v1, v2⟩ := hw w' (by simp)
        obtain ⟨c, u, r, e, f⟩ := fst_app (r' := tokR us ++ ts) (fst_br (b := needs w'.kind 3) (fst_tok n w' v1 v2))
        refine .inr ⟨c, u, r, ?_, f.1, f.2.2.1, f.2.2.2.1⟩
        rw [← e]
        show inBr (needs w'.kind 3) (toks w') ++ tokR us ++ ts = _
        rw [List.append_assoc]
    refine hU w w1 w2 s t z R M L S m [] [] (tokR us ++ ts) h hR ha' (fun _ q => by cases q) hd' (.inl rfl) fun s' h' a' k' => ?_
    have h2 : St s' z R (M ++ [m + 1]) (L ++ [[]]) (S ++ post w) := by simpa using h'
    cases us with
    | nil =>
      refine k s' ?_ a' k'
      have : posts [w] = post w ++ [] := rfl
      rw [this, List.append_nil]
      exact h2
    | cons w' us =>
      obtain ⟨v1, v2⟩ := hw w' (by simp)
      obtain ⟨c, u, r, e, f⟩ := fst_app (r' := tokR us ++ ts) (fst_br (b := needs w'.kind 3) (fst_tok n w' v1 v2))
      have e' : tokR (w' :: us) ++ ts = (c :: u) :: r := by
        rw [← e]
        show inBr (needs w'.kind 3) (toks w') ++ tokR us ++ ts = _
        rw [List.append_assoc]
      have hc : s'.cur = some c := by
        have := (at_tok (by rw [← e']; exact a') f.1).1
        rw [k'] at this
        exact this
      refine .inr (.inr (.inr ⟨by rw [hc]; exact Option.some_ne_none c, by rw [hc]; exact fun q => f.2.1 (Option.some.inj q), by rw [hc]; exact fun q => f.2.2.2.2 (Option.some.inj q), ?_⟩))
      refine units hU (w' :: us) (by simp) (fun x hx => hw x (List.mem_cons_of_mem _ hx)) s' (m + 1) (S ++ post w) h2 hR a' hd fun s3 h3 a3 k3 => k s3 ?_ a3 k3
      have e1 : m + (w :: w' :: us).length = m + 1 + (w' :: us).length := by simp only [List.length_cons]; omega
      have e2 : posts (w :: w' :: us) = post w ++ posts (w' :: us) := rfl
      rw [e1, e2, ← List.append_assoc]
      exact h3
def rowU : W → List W
  | .row us => us
  | w => [w]
theorem rowT_eq (w : W) : inBr (needs w.kind 4) (toks w) = tokR (rowU w) := by
  cases w <;> first
    | rfl
    | (show _ = inBr _ _ ++ []
       rw [List.append_nil]
       rfl)
theorem rowS_eq {w : W} (h : okW w) : post w = posts (rowU w) ++ (if 1 < (rowU w).length then [(3, eS, (rowU w).length)] else []) := by
  cases w with
  | row us => 
    have : 1 < us.length := h.1
    show posts us ++ _ = posts us ++ (if 1 < us.length then _ else _)
    rw [if_pos this]
    rfl
  | _ =>
    show _ = (_ ++ []) ++ []
    rw [List.append_nil, List.append_nil]
theorem rowU_ok {n : Nat} {w : W} (hs : w.size ≤ n) (h : okW w) : rowU w ≠ [] ∧ ∀ x ∈ rowU w, x.size ≤ n ∧ okW x := by
  have all : ∀ (us : List W), okWs us → ∀ x ∈ us, okW x ∧ x.size ≤ W.sizes us := by
    intro us
    induction us with
    | nil => intro _ x hx; cases hx
    | cons u us ih =>
      intro h x hx
      rcases List.mem_cons.mp hx with rfl | hx
      · exact ⟨h.1, by show _ ≤ x.size + W.sizes us; omega⟩
      · have := ih h.2 x hx
        exact ⟨this.1, by show _ ≤ u.size + W.sizes us; omega⟩
  cases w with
  | row us =>
    have h1 : 2 ≤ us.length := h.1
    have hsz : 1 + W.sizes us ≤ n := hs
    refine ⟨fun e => by rw [show us = [] from e] at h1; simp at h1, fun x hx => ?_⟩
    have := all us h.2 x hx
    exact ⟨by omega, this.1⟩
  | _ =>
    refine ⟨(by intro e; cases e), fun x hx => ?_⟩
    have e : x = _ := List.mem_singleton.mp hx
    subst e
    exact ⟨hs, h⟩
end Ws
/-! own errors with fields, methods and classes that may raise -/
namespace Bk
open PySem PySem.Spec PyProof.Rows L2 Wv
/-- an error class of the program with an __init__ of its own -/
structure ExOk (P : Program) (w : World) (K : PySem.W.Frag) (mg : Str → Option Value) (base : Heap) (k : Nat) (x : Str) (C : Addr) (ps : List Str) (sp : Sp) : Prop where
  ex : ∃ (fI : Addr) (fd : FuncData), OexC K C ∧ PySem.W.findIn K (.ref C) "__init__" = some (some (.ref fI)) ∧ PySem.W.typeIn K (.ref fI) = some (.type "function") ∧ mg x = some (.ref C) ∧ Binds K fd ps [] ∧ FnOk P w K mg base CX0 k fI fd ps sp
/-- a method of the class at C that may raise -/
structure MxOk (P : Program) (w : World) (K : PySem.W.Frag) (mg : Str → Option Value) (base : Heap) (C : Addr) (k : Nat) (m : Str) (ps : List Str) (sp : Sp) : Prop where
  cl : Cls K C
  ex : ∃ (f : Addr) (fd : FuncData), FnOk P w K mg base (L2.CX P w) k f fd ps sp ∧ Meth K C m f ∧ Binds K fd ps []
/-- a class whose __init__ may raise -/
structure CxOk (P : Program) (w : World) (K : PySem.W.Frag) (mg : Str → Option Value) (base : Heap) (k : Nat) (x : Str) (C : Addr) (ps : List Str) (sp : Sp) : Prop where
  ex : ∃ (f : Addr) (fd : FuncData), mg x = some (.ref C) ∧ Mk K C f ∧ Binds K fd ps [] ∧ FnOk P w K mg base (L2.CX P w) k f fd ps sp
section
variable {X : Cx} {k : Nat} {x m : Str} {C : Addr} {ps : List Str} {sp : Sp} {o e : Expr} {es : List Expr} {t : TA} {ta : TE} {p apos pos : Pos} {E : XK}
theorem pmk_ex (G : ExOk X.prog X.w X.K X.mg X.base k x C ps sp) (hr : Room (k + 1) X.A) (hg : Gl X x) (ha : PA X (e :: es) t) (hdb : (x == ("__debug__" : Str)) = false := by decide)
    (he : starEach (e :: es) X.env = (false, eval e X.env) :: starEach es X.env := by rfl) (hpl : (backTo pos (starEach es X.env)).any (·.1) = false := by rfl) : PMk X (.Call (.Name x p) (e :: es) [] pos) (tMkO C sp [] t) := by
  obtain ⟨fI, fd, T, iC, tI, hm, hb, F⟩ := G.ex
  exact pmk_oex T iC tI F hr hb .nil pass0 hg hm ha hdb he hpl
theorem pe_methX {pl : Sem Bool} (G : MxOk X.prog X.w X.K X.mg X.base C k m ps sp) (hr : Room k X.A) (hx : Passes (L2.CX X.prog X.w) X E) (he : PE X o ta) (ha : PA X (e :: es) t)
    (hst : starEach (e :: es) X.env = (false, eval e X.env) :: starEach es X.env := by rfl) (hpl : (backTo pos (starEach es X.env)).any (·.1) = false := by rfl)
    (ht : eval (.Call (.Attribute o m apos) (e :: es) [] pos) X.env = (do
      let ov ← eval o X.env
      standAt apos.atName
      let (f, first) ← holding [ov] (getMethod ov m pl)
      callWith pos f first (backTo pos (starEach (e :: es) X.env)) (backToKw pos (keywordEach [] X.env))) := by rfl) :
    PE X (.Call (.Attribute o m apos) (e :: es) [] pos) (tMeth C m sp [] E ta t) := by
  obtain ⟨f, fd, F, hm, hb⟩ := G.ex
  exact pe_meth he G.cl hm F hr hb .nil hx ha hst hpl ht
theorem pe_makeX (G : CxOk X.prog X.w X.K X.mg X.base k x C ps sp) (hr : Room (k + 1) X.A) (hx : Passes (L2.CX X.prog X.w) X E) (hg : Gl X x) (ha : PA X (e :: es) t) (hdb : (x == ("__debug__" : Str)) = false := by decide)
    (he : starEach (e :: es) X.env = (false, eval e X.env) :: starEach es X.env := by rfl) (hpl : (backTo pos (starEach es X.env)).any (·.1) = false := by rfl) :
    PE X (.Call (.Name x p) (e :: es) [] pos) (tMake C sp [] E t) := by
  obtain ⟨f, fd, hm, M, hb, F⟩ := G.ex
  exact pe_make M F hr hg hm hb .nil hx ha hdb he hpl
end
end Bk
/-! a class called in a try; isinstance of a caught error with fields; len of own instances -/
namespace Bk
open PySem PySem.Spec PyProof.Rows L2 Wv
def tMakeS (C : Addr) (sp : Sp) (E : L2.St → XK) (t : TA) : TE := fun σ H Q => t σ H fun vs H1 => ∀ x dx, H1 x = none → H1 dx = none → dx ≠ x → sp (.ref x :: (vs ++ [])) (upd (upd H1 dx (.own x)) x (.ins C dx [])) (fun v H2 => v = .non ∧ Q (.ref x) H2) (E σ)
section
variable {X : Cx} {k : Nat} {x : Str} {C : Addr} {ps : List Str} {sp : Sp} {e : Expr} {es : List Expr} {t : TA} {p pos : Pos} {E : L2.St → XK}
theorem run_makeS {CX : CXT} {f : Addr} {fd : FuncData} {E : XK} {pins : List (Addr × Obj)} {σ : L2.St} {H : Hp} {s : Shared} {Q : VK} {us : List Value} {vs : List V} (M : Mk X.K C f) (F : FnOk X.prog X.w X.K X.mg X.base CX k f fd ps sp) (hr : Room (k + 1) X.A) (hb : Binds X.K fd ps [])
    (hx : PassesAt CX X σ E) (I : Inv X pins σ H s) (r : Vals vs us)
    (h : ∀ x dx, H x = none → H dx = none → dx ≠ x → sp (.ref x :: (vs ++ [])) (upd (upd H dx (.own x)) x (.ins C dx [])) (fun v H2 => v = .non ∧ Q (.ref x) H2) E) :
    wpAny (model X.prog X.w) X.A (call (.ref C) us) (EP X pins σ Q) X.xe s := by
  have hq := h (s.heap.objs.size + 1) s.heap.objs.size (I.hok.fresh (Nat.le_succ _)) (I.hok.fresh (Nat.le_refl _)) (Nat.ne_of_lt (Nat.lt_succ_self _))
  have I2 := Inv.made (C := C) I
  have r2 : Vals (V.ref (s.heap.objs.size + 1) :: (vs ++ [])) (Value.ref (s.heap.objs.size + 1) :: (us ++ [])) := .cons rfl (r.append .nil)
  have hl : (Value.ref (s.heap.objs.size + 1) :: us ++ []).length = ps.length := by
    have e := r2.length
    rw [F.len _ _ _ _ hq] at e
    exact e.symm
  refine wpAny_call (make_map (f := f) I.kIn M.makes M.init (beq_iff_eq.mp M.fn) (codeAny_mono (F.run _ X.stack _ _ ⟨Value.ref (s.heap.objs.size + 1) :: us, []⟩ (Value.ref (s.heap.objs.size + 1) :: (us ++ [])) _ _ E (hr.make C us [])
    (I2.env0.make C us []) (by have z := hb _ (Value.ref (s.heap.objs.size + 1) :: us) I2.kIn hl; simpa using z) r2 hq) fun r s' hq' => ?_))
  cases r with
  | error e => exact hx pins _ _ e s' I2 hq'
  | ok fl =>
    cases fl with
    | ret u =>
      obtain ⟨v, H', I3, rv, ev, q3⟩ := I2.after hq'
      subst ev
      exact ⟨rv, ⟨V.ref (s.heap.objs.size + 1), H', I3, rfl, q3⟩⟩
    | next => exact False.elim hq'
    | brk => exact False.elim hq'
    | cont => exact False.elim hq'
theorem pe_makeS (G : CxOk X.prog X.w X.K X.mg X.base k x C ps sp) (hr : Room (k + 1) X.A) (hx : ∀ σ, PassesAt (L2.CX X.prog X.w) X σ (E σ)) (hg : Gl X x) (ha : PA X (e :: es) t) (hdb : (x == ("__debug__" : Str)) = false := by decide)
    (he : starEach (e :: es) X.env = (false, eval e X.env) :: starEach es X.env := by rfl) (hpl : (backTo pos (starEach es X.env)).any (·.1) = false := by rfl) : PE X (.Call (.Name x p) (e :: es) [] pos) (tMakeS C sp E t) := by
  obtain ⟨f, fd, hm, M, hb, F⟩ := G.ex
  refine ⟨fun pins s σ H Q I h => ?_⟩
  refine wpAny_Call_Name_kw (ld_glob I hg hm ?_ hdb)
  refine PySem.W.callWith_K (h₀ := X.base) I.ok.mod.kin M.kp (thn (ha.run pos pins s σ H _ I h) fun us s1 ⟨vs, H1, I1, r, q⟩ => ⟨I1.kIn, ?_⟩) he hpl
  exact run_makeS M F hr hb (hx σ) I1 r q
end
/-- isinstance(e, c), e the exception that the suite holds, of the class at D, with fields -/
def rIsED (K : PySem.W.Frag) (D a : Addr) (cls : Value) (d : Option Addr) : List V → Hp → VK → Prop := fun xs H Q => ∃ (c : V) (cv : Value) (b : Bool) (dd : Addr) (fs : List (Str × V)), xs = [.ref a, c] ∧ (∀ u, RelV c u → u = cv) ∧ cls = .ref D ∧ d = some dd ∧ H dd = some (.xd fs) ∧ PySem.W.kitOne K (.ref D) cv = some b ∧ Q (.bl b) H
theorem call_isED {X : Cx} {a D : Addr} {oe : Obj} {cls : Value} {d : Option Addr} {pn : List (Addr × Obj)} (C : ExcC X.K D) (hc : (PySem.W.clsIn X.K D).isSome = true) (hz : Zc cls d oe) (hf : ∃ vs, oe.data = .fields vs) : CallR (X.suite a ((a, oe) :: pn)) (.builtin "isinstance") (rIsED X.K D a cls d) := by
  intro pins s σ H xs us Q I r h
  obtain ⟨c, cv, b, dd, fs, rfl, hcv, ec, ed, ea, e, q⟩ := h
  subst ec ed
  cases r with
  | cons rx rr =>
    cases rr with
    | cons rt rr =>
      cases rr
      cases rx
      have ec := hcv _ rt
      subst ec
      obtain ⟨hget, _⟩ := I.pin (a, oe) (List.mem_append.mpr (.inl List.mem_cons_self))
      obtain ⟨vs, hd⟩ := hf
      have hx : ObjOk X.prog X.w H s.heap dd (.xd fs) := I.hok dd _ ea
      obtain ⟨mA, hns, hr⟩ := hx
      obtain ⟨od, ho, hl⟩ := lookIn_ns hns
      have J : PySem.W.InstAt s.heap a oe D (some od) := ⟨hget, hz.1, by unfold PySem.W.notCls; rw [hd] <;> rfl, by rw [hz.2]; exact ho⟩
      exact PySem.W.kia_one (PySem.W.kitx_exc hc C.hg C.hk C.hs C.ha C.hn C.ht C.hm) I.kIn J e (fun z => nomatch z) fun tk => ⟨.bl b, H, I.kept (t' := tk) fun _ _ z => z, rfl, q⟩
theorem pi_listK {X : Cx} {K : PySem.W.Frag} {tg l : Expr} {tl : TE} (q : X.K = K) (hl : PE X l tl) : PI X tg l (iList K tl) := q ▸ pi_list hl
theorem call_isEDK {X : Cx} {K : PySem.W.Frag} {a D : Addr} {oe : Obj} {cls : Value} {d : Option Addr} {pn : List (Addr × Obj)} (q : X.K = K) (C : ExcC K D) (hc : (PySem.W.clsIn K D).isSome = true) (hz : Zc cls d oe) (hf : ∃ vs, oe.data = .fields vs) : CallR (X.suite a ((a, oe) :: pn)) (.builtin "isinstance") (rIsED K D a cls d) := by
  subst q
  exact call_isED C hc hz hf
theorem pe_xfK {X : Cx} {K : PySem.W.Frag} {a C : Addr} {oe : Obj} {cls : Value} {d : Option Addr} {pn : List (Addr × Obj)} {e : Expr} {te : TE} {pos : Pos} {n : Str} (q : X.K = K) (T : XfC K C) (hno : PySem.W.findIn K (.ref C) n = some none)
    (hz : Zc cls d oe) (hf : ∃ vs, oe.data = .fields vs) (he : PE (X.suite a ((a, oe) :: pn)) e te) (hb : attributeBase e n X.env (eval e X.env) = eval e X.env := by rfl) : PE (X.suite a ((a, oe) :: pn)) (.Attribute e n pos) (tXf a cls d C n te) := by
  subst q
  exact pe_xf T hno hz hf he hb
/-- len(x) of an instance of the class at C -/
structure LenC (P : Program) (w : World) (K : PySem.W.Frag) (mg : Str → Option Value) (base : Heap) (C : Addr) (n : Nat) (sp : Sp) : Prop where
  ex : ∃ (f : Addr) (fd : FuncData) (ps : List Str), FnOk P w K mg base CX0 n f fd ps sp ∧ PySem.W.findIn K (.ref C) "__len__" = some (some (.ref f)) ∧ PySem.W.isFn K (.ref f) = true ∧ Binds K fd ps []
def rLenC (C : Addr) (sp : Sp) : List V → Hp → VK → Prop := fun xs H Q => ∃ (a d : Addr) (fs : List (Str × V)), xs = [.ref a] ∧ H a = some (.ins C d fs) ∧ sp [.ref a] H (fun z H' => ∃ i : Int, z = .int i ∧ 0 ≤ i ∧ i < 2 ^ 63 ∧ Q (.int i) H') E0
theorem call_lenC {X : Cx} {C : Addr} {n : Nat} {sp : Sp} (G : LenC X.prog X.w X.K X.mg X.base C n sp) (hr : Room (n + 1) X.A) : CallR X (.builtin "len") (rLenC C sp) := by
  obtain ⟨f, fd, ps, F, hs, hf, hb⟩ := G.ex
  intro pins s σ H xs us Q I r h
  obtain ⟨a, d, fs, rfl, ha, hsp⟩ := h
  obtain ⟨u, rfl, ru⟩ := r.one
  cases ru
  obtain ⟨mA, J, _⟩ := ins_get I.hok ha
  obtain ⟨od, J, _⟩ := J.look
  obtain ⟨m, hF⟩ := I.fr
  have hl := F.len _ _ _ _ hsp
  have r2 : Vals [V.ref a] [Value.ref a] := .cons rfl .nil
  refine PySem.W.len_K hF I.ok.mod.kin J hs hf (wpAny_call (codeAny_mono (F.run X.A.in1 X.stack s H ⟨[.ref a], []⟩ [.ref a] [.ref a] _ E0 hr.in1 (I.env0.in1) (by
    have q := hb s [.ref a] I.kIn (by simpa using hl)
    simpa using q) r2 hsp) fun r s' hq => ?_))
  cases r with
  | error e => exact (pass0 (X := X) pins σ H s e s' I hq)
  | ok fl =>
    cases fl with
    | ret x =>
      obtain ⟨z, H', I', rz, i, ez, h0, h1, q⟩ := I.after hq
      subst ez
      obtain ⟨t, ex⟩ := rz
      subst ex
      exact ⟨⟨h0, h1⟩, ⟨.int i, H', I'.tok _, ⟨_, rfl⟩, q⟩⟩
    | next => exact False.elim hq
    | brk => exact False.elim hq
    | cont => exact False.elim hq
end Bk
/-! `x in o`, `x not in o`, `o[x]` by the text's own methods -/
namespace Bo
open PySem PySem.Spec PyProof.Rows L2 Wv Bk
/-- a method of the class at C under the special name m -/
structure SpC (CXx : CXT) (P : Program) (w : World) (K : PySem.W.Frag) (mg : Str → Option Value) (base : Heap) (C : Addr) (m : Str) (n : Nat) (sp : Sp) : Prop where
  ex : ∃ (f : Addr) (fd : FuncData) (ps : List Str), FnOk P w K mg base CXx n f fd ps sp ∧ PySem.W.findIn K (.ref C) m = some (some (.ref f)) ∧ PySem.W.isFn K (.ref f) = true ∧ PySem.W.fnIn K f = true ∧ Binds K fd ps []
section
variable {X : Cx} {C : Addr} {n : Nat} {sp : Sp} {CXx : CXT}
/-- what stands behind a call of it in the frames around -/
theorem SpC.run {A : Around} {f : Addr} {fd : FuncData} {ps : List Str} (F : FnOk X.prog X.w X.K X.mg X.base CXx n f fd ps sp) (hb : Binds X.K fd ps []) {E : XK} (hx : Passes CXx X E) {pins : List (Addr × Obj)} {s : Shared} {σ : L2.St} {H : Hp} {us : List Value} {vs : List V} {Q : VK}
    (I : Inv X pins σ H s) (hr : Room n A) (e0 : Env0 X.prog X.w X.K X.mg X.base A X.stack s H) (r : Vals vs us) (h : sp vs H Q E) : wpAny (model X.prog X.w) A (call (.ref f) us) (EP X pins σ Q) X.xe s := by
  have hl : us.length = ps.length := by rw [← r.length]; exact F.len _ _ _ _ h
  refine wpAny_call (codeAny_mono (F.run A X.stack s H ⟨us, []⟩ us vs Q E hr e0 (by
    have q := hb s us I.kIn (by simpa using hl)
    simpa using q) r h) fun r s' hq => ?_)
  cases r with
  | error e => exact hx pins σ H s e s' I hq
  | ok fl =>
    cases fl with
    | ret u => exact I.after hq
    | next => exact False.elim hq
    | brk => exact False.elim hq
    | cont => exact False.elim hq
/-- o[x] -/
def tGetC (C : Addr) (sp : Sp) (E : XK) (ta tb : TE) : TE := tOp (fun x y H Q => ∃ (a d : Addr) (fs : List (Str × V)), x = .ref a ∧ H a = some (.ins C d fs) ∧ sp [.ref a, y] H Q E) ta tb
theorem pe_getC {a b : Expr} {ta tb : TE} {pos : Pos} {E : XK} (G : SpC CXx X.prog X.w X.K X.mg X.base C "__getitem__" n sp) (hr : Room (n + 1) X.A) (hx : Passes CXx X E) (ha : PE X a ta) (hb : PE X b tb)
    (hs : ∀ o i, subscripted b true o i = runValue (.builtin "lifetime.subscript" ⟨[o, i], []⟩) := by intros; with_unfolding_all rfl) : PE X (.Subscript a b pos) (tGetC C sp E ta tb) := by
  obtain ⟨f, fd, ps, F, hf1, hf2, hf3, hbd⟩ := G.ex
  refine ⟨fun pins s σ H Q I h => ?_⟩
  refine Subscript_ (binT ha hb I h fun v u s2 x y H2 I2 rx ry q => ?_)
  obtain ⟨o, d, fs, rfl, ho, hsp⟩ := q
  cases rx
  obtain ⟨mA, J, _⟩ := ins_get I2.hok ho
  obtain ⟨od, J, _⟩ := J.look
  obtain ⟨m, hF⟩ := I2.fr
  exact PySem.W.sub_K hF I2.ok.mod.kin J hf1 hf3 hf2 (SpC.run F hbd hx I2 hr.in1 (I2.env0.in1) (show Vals [V.ref o, y] [Value.ref o, u] from .cons rfl (.cons ry .nil)) hsp) (hs _ _)
/-- x in o, x not in o -/
def rHasC (C : Addr) (sp : Sp) (g : Bool → Bool) : R2 := fun x y H Q => ∃ (a d : Addr) (fs : List (Str × V)), y = .ref a ∧ H a = some (.ins C d fs) ∧ sp [.ref a, x] H (fun z H' => ∃ k, z = .bl k ∧ Q (.bl (g k)) H') E0
theorem has_call (G : SpC CX0 X.prog X.w X.K X.mg X.base C "__contains__" n sp) (hr : Room n X.A) {g : Bool → Bool} {pins : List (Addr × Obj)} {s : Shared} {σ : L2.St} {H : Hp} {x y : V} {v u : Value} {Q : VK}
    (I : Inv X pins σ H s) (rx : RelV x v) (ry : RelV y u) (h : rHasC C sp g x y H Q) : ∃ (a f : Addr) (ox : Obj) (od : Option Obj) (m : Str → Option Value), u = .ref a ∧ Fr X.base X.env.locals s.heap m ∧ PySem.W.InstAt s.heap a ox C od ∧
      PySem.W.findIn X.K (.ref C) "__contains__" = some (some (.ref f)) ∧ PySem.W.isFn X.K (.ref f) = true ∧
      wpAny (model X.prog X.w) X.A (call (.ref f) [.ref a, v]) (fun r s' => wpAny (model X.prog X.w) X.A (truthy r) (fun b s' => EP X pins σ Q (.bool (g b)) s') X.xe s') X.xe s := by
  obtain ⟨f, fd, ps, F, hf1, hf2, hf3, hbd⟩ := G.ex
  obtain ⟨a, d, fs, rfl, ha, hsp⟩ := h
  cases ry
  obtain ⟨mA, J, _⟩ := ins_get I.hok ha
  obtain ⟨od, J, _⟩ := J.look
  obtain ⟨m, hF⟩ := I.fr
  refine ⟨a, f, _, _, m, rfl, hF, J, hf1, hf2, wpAny_mono (SpC.run F hbd pass0 I hr I.env0 (show Vals [V.ref a, x] [Value.ref a, v] from .cons rfl (.cons rx .nil)) hsp) (fun r s' hq => ?_) fun _ _ x => x⟩
  obtain ⟨z, H', I', rz, k, rfl, q⟩ := hq
  cases rz
  exact wpAny_truthy_bool ⟨.bl (g k), H', I', rfl, q⟩
theorem op_inC (G : SpC CX0 X.prog X.w X.K X.mg X.base C "__contains__" n sp) (hr : Room n X.A) : OpR X (compareOp .In) (rHasC C sp fun b => b) := by
  intro pins s σ H x y v u Q I rx ry hq
  obtain ⟨a, f, ox, od, m, rfl, hF, J, hf1, hf2, h⟩ := has_call G hr I rx ry hq
  exact PySem.W.in_K hF I.ok.mod.kin J hf1 hf2 h
theorem op_notInC (G : SpC CX0 X.prog X.w X.K X.mg X.base C "__contains__" n sp) (hr : Room n X.A) : OpR X (compareOp .NotIn) (rHasC C sp fun b => !b) := by
  intro pins s σ H x y v u Q I rx ry hq
  obtain ⟨a, f, ox, od, m, rfl, hF, J, hf1, hf2, h⟩ := has_call G hr I rx ry hq
  exact PySem.W.notIn_K hF I.ok.mod.kin J hf1 hf2 h
end
end Bo
/-! the scanner over whole ways: pure facts -/
namespace Ws
open PySem PySem.Spec PyProof.Rows L2 Wv
variable {s : Sc} {t : Sc → Prop} {z R M : List Nat} {L : List (List Nat)} {S : List Stp} {ts : List (List Nat)}
theorem endRow_st {g : Sc} {r m : Nat} {X : List Stp} (hg : St g z (R ++ [r]) (M ++ [m]) L X) : St g.endRow z (R ++ [r + 1]) (M ++ [0]) L (X ++ (if 1 < m then [(3, eS, m)] else [])) := by
  have e1 : g.row1.rows = R ++ [r] ∧ g.row1.many = M ++ [m] ∧ g.row1.looks = L ∧ g.row1.z = z ∧ g.row1.steps = X ++ (if 1 < m then [(3, eS, m)] else []) := by
    unfold Sc.row1
    rw [hg.m, lastD_snoc]
    by_cases q : 1 < m
    · rw [if_pos q, if_pos q]; exact ⟨hg.r, hg.m, hg.l, hg.z, by show g.steps ++ _ = _; rw [hg.s]⟩
    · rw [if_neg q, if_neg q, List.append_nil]; exact ⟨hg.r, hg.m, hg.l, hg.z, hg.s⟩
  exact ⟨e1.2.2.2.1, by show setLast g.row1.rows (lastD g.row1.rows + 1) = _; rw [e1.1, lastD_snoc, setLast_snoc], by show setLast g.row1.many 0 = _; rw [e1.2.1, setLast_snoc], e1.2.2.1, e1.2.2.2.2⟩
theorem rowsL {n : Nat} (hU : UL n) : ∀ (ws : List W), ws ≠ [] → (∀ w ∈ ws, w.size ≤ n ∧ okW w) → ∀ (s : Sc) (r : Nat) (S : List Stp) (tl : List (List Nat)), St s z (R ++ [r]) (M ++ [0]) (L ++ [[]]) S → s.At (tokC true ws ++ tl) → Hd tl (fun c => c = 41) →
    (∀ (s' : Sc) (m : Nat) (X : List Stp), St s' z (R ++ [r + ws.length - 1]) (M ++ [m]) (L ++ [[]]) X → X ++ (if 1 < m then [(3, eS, m)] else []) = S ++ posts ws → s'.At tl → s'.skip = s' → Af s' t) → Be s t
  | [], h0, _, _, _, _, _, _, _, _, _ => absurd rfl h0
  | w :: ws, _, hw, s, r, S, tl, h, ha, hd, k => by
    obtain ⟨w1, w2⟩ := hw w List.mem_cons_self
    obtain ⟨u1, u2⟩ := rowU_ok w1 w2
    have e1 : tokC true (w :: ws) = inBr (needs w.kind 4) (toks w) ++ tokC false ws := rfl
    rw [e1, rowT_eq, List.append_assoc] at ha
    have hd' : Hd (tokC false ws ++ tl) (fun c => c = 41 ∨ c = 47) := by
      cases ws with
      | nil =>
        rcases hd with e | ⟨c, u, q, e, f1, f2⟩
        · exact .inl e
        · exact .inr ⟨c, u, q, e, f1, .inl f2⟩
      | cons w' ws => exact .inr ⟨47, [], _, rfl, by decide, .inr rfl⟩
    refine units hU (rowU w) u1 u2 s 0 S h (by simp) ha hd' fun s' h' a' k' => ?_
    rw [Nat.zero_add] at h'
    have eS1 : S ++ posts (rowU w) ++ (if 1 < (rowU w).length then [(3, eS, (rowU w).length)] else []) = S ++ post w := by
      rw [rowS_eq w2, List.append_assoc]
    cases ws with
    | nil =>
      refine k s' (rowU w).length (S ++ posts (rowU w)) (by simpa using h') ?_ a' k'
      rw [eS1]
      show _ = S ++ (post w ++ [])
      rw [List.append_nil]
    | cons w' ws =>
      have a2 : s'.At ([47] :: (tokC true (w' :: ws) ++ tl)) := a'
      obtain ⟨h1, h2⟩ := at_one a2 (by decide)
      rw [k'] at h1 h2
      refine .inr (.inr (.inl ⟨h1, ?_⟩))
      have h3 := endRow_st h'.go
      rw [eS1] at h3
      have a3 : s'.go.endRow.At (tokC true (w' :: ws) ++ tl) := by unfold Sc.At; rw [row_rest]; exact h2
      refine rowsL hU (w' :: ws) (by simp) (fun x hx => hw x (List.mem_cons_of_mem _ hx)) _ (r + 1) (S ++ post w) tl h3 a3 hd fun s6 m X h6 e6 a6 k6 => k s6 m X ?_ ?_ a6 k6
      · have : r + (w :: w' :: ws).length - 1 = r + 1 + (w' :: ws).length - 1 := by simp only [List.length_cons]; omega
        rw [this]; exact h6
      · rw [e6, List.append_assoc]; rfl
theorem okWs_mem : ∀ {ws : List W}, okWs ws → ∀ w ∈ ws, okW w ∧ w.size ≤ W.sizes ws
  | [], _, _, h => by cases h
  | x :: ws, h, w, hm => by
    rcases List.mem_cons.mp hm with rfl | hm
    · exact ⟨h.1, by show _ ≤ w.size + W.sizes ws; omega⟩
    · have := okWs_mem h.2 w hm
      exact ⟨this.1, by show _ ≤ x.size + W.sizes ws; omega⟩
/-- Rows and Choices, from what is known of their ways -/
theorem CLr {n : Nat} (hU : UL n) (w : W) (hk : w.kind = 3 ∨ w.kind = 4) (hs : w.size ≤ n + 1) (ok : okW w) (s : Sc) (t : Sc → Prop) (z R M : List Nat) (L : List (List Nat)) (S : List Stp) (tl : List (List Nat)) (h : St s z (R ++ [0]) (M ++ [0]) (L ++ [[]]) S) (ha : s.At (toks w ++ tl)) (hd : Hd tl (fun c => c = 41))
    (k : ∀ (s' : Sc) (r m : Nat) (X : List Stp), St s' z (R ++ [r]) (M ++ [m]) (L ++ [[]]) X → fini r m X = S ++ post w → s'.At tl → s'.skip = s' → Af s' t) : Be s t := by
  cases w with
  | row us =>
    have h1 : 2 ≤ us.length := ok.1
    have hsz : 1 + W.sizes us ≤ n + 1 := hs
    refine units hU us (fun e => by rw [e] at h1; simp at h1) (fun x hx => by have := okWs_mem ok.2 x hx; exact ⟨by omega, this.1⟩) s 0 S h (by simp) ha ?_ fun s' h' a' k' => ?_
    · rcases hd with e | ⟨c, u, q, e, f1, f2⟩
      · exact .inl e
      · exact .inr ⟨c, u, q, e, f1, .inl f2⟩
    · rw [Nat.zero_add] at h'
      refine k s' 0 us.length (S ++ posts us) h' ?_ a' k'
      unfold fini
      rw [if_pos (show 1 < us.length by omega), if_neg (by omega), List.append_nil, List.append_assoc]
      rfl
  | choice us =>
    have h1 : 2 ≤ us.length := ok.1
    have hsz : 1 + W.sizes us ≤ n + 1 := hs
    refine rowsL hU us (fun e => by rw [e] at h1; simp at h1) (fun x hx => by have := okWs_mem ok.2 x hx; exact ⟨by omega, this.1⟩) s 0 S tl h ha hd fun s' m X h' e' a' k' => ?_
    rw [Nat.zero_add] at h'
    refine k s' (us.length - 1) m X h' ?_ a' k'
    unfold fini
    rw [e', if_pos (by omega), show us.length - 1 + 1 = us.length by omega, List.append_assoc]
    rfl
  | _ => exact absurd hk (by simp only [W.kind]; decide)
theorem both : ∀ n : Nat, UL n ∧ CL n
  | 0 => ⟨fun w h => by have := w.size_pos; omega, fun w h => by have := w.size_pos; omega⟩
  | n + 1 => by
    obtain ⟨hU, hC⟩ := both n
    have U1 : UL (n + 1) := by
      intro w hs ok s t z R M L S m ls ms ts h hR ha hm hd hk k
      -- a leaf's end
      have leaf : ∀ (p : List Stp), post w = p → ∀ s1, St s1 z R (M ++ [m]) (L ++ [ls]) (S ++ p) → s1.At (ms.map (fun m => [m]) ++ ts) → Go s1 t := by
        intro p ep s1 h1 a1
        refine go_of ?_
        obtain ⟨h2, a2⟩ := endWay_at h1 a1 hm hd
        rw [← ep] at h2
        exact k _ h2 a2 (Sc.skip_skip _)
      -- marks behind a part
      have mark : ∀ (p : W) (c : Nat) (kd : Nat), (c = 42 ∨ c = 63) → p.size ≤ n → okW p → post w = post p ++ [mst c] → (kd = 5 ∨ kd = 6) → ut w = inBr (needs p.kind kd) (toks p) ++ [[c]] → Be s t := by
        intro p c kd hc ps po ep ekd eu
        rw [eu] at ha
        have ha2 : s.At (inBr (needs p.kind kd) (toks p) ++ ((c :: ms).map (fun m => [m]) ++ ts)) := by simpa using ha
        have hm2 : ∀ x ∈ c :: ms, x = 42 ∨ x = 63 := fun x hx => (List.mem_cons.mp hx).elim (fun e => e ▸ hc) (hm x)
        have k2 : ∀ s' : Sc, St s' z R (M ++ [m + 1]) (L ++ [[]]) (S ++ post p ++ (c :: ms).map mst ++ ls.reverse.map (fun k => (k, eS, 1))) → s'.At ts → s'.skip = s' → Af s' t := by
          intro s' h' a' q'
          refine k s' ?_ a' q'
          rw [ep]
          simpa using h'
        cases hn : needs p.kind kd with
        | true =>
          rw [hn] at ha2
          exact grp hC ps po h hR ha2 hm2 hd k2
        | false =>
          rw [hn] at ha2
          have nk : ¬ p.kind = 3 ∧ ¬ (p.kind = 7 ∨ p.kind = 8) ∧ ¬ p.kind = 4 := by
            unfold needs at hn
            have k4 : kd ≠ 4 := by omega
            by_cases q3 : p.kind = 3
            · rw [if_pos q3, decide_eq_false k4] at hn; cases hn
            · rw [if_neg q3] at hn
              by_cases q7 : p.kind = 7 ∨ p.kind = 8
              · rw [if_pos q7] at hn
                rcases ekd with rfl | rfl <;> cases hn
              · rw [if_neg q7] at hn
                exact ⟨q3, q7, of_decide_eq_false hn⟩
          have eu2 : ut p = toks p := by
            unfold ut
            rw [needs3, decide_eq_false nk.1, decide_eq_false nk.2.2]
            rfl
          refine hU p ps po s t z R M L S m ls (c :: ms) ts h hR ?_ hm2 hd (.inr ⟨fun q => nk.2.1 (.inl q), fun q => nk.2.1 (.inr q)⟩) k2
          rw [eu2]
          exact ha2
      -- looks ahead of a part
      have look : ∀ (p : W) (c kd : Nat), p.size ≤ n → okW p → post w = post p ++ [(kd, eS, 1)] → ms = [] → (∀ a, needs a kd = needs a 3) → ut w = [c] :: inBr (needs p.kind kd) (toks p) → c ≠ 32 →
          (∀ t', s.skip.cur = some c → Be (s.skip.go.look kd) t' → Be s t') → Be s t := by
        intro p c kd ps po ep em ek eu c32 hb
        subst em
        rw [eu] at ha
        have ha2 : s.At ([c] :: (ut p ++ (([] : List Nat).map (fun m => [m]) ++ ts))) := by
          unfold ut
          rw [← ek]
          simpa using ha
        obtain ⟨h1, h2⟩ := at_one ha2 c32
        refine hb t h1 ?_
        refine hU p ps po _ t z R M L S m (ls ++ [kd]) [] ts (h.skip.go.look kd) hR h2 (fun _ q => by cases q) hd (.inl rfl) fun s' h' a' q' => ?_
        refine k s' ?_ a' q'
        rw [ep]
        simpa using h'
      have n7 : ∀ a, needs a 7 = needs a 3 := fun a => by
        unfold needs
        by_cases q : a = 3
        · subst q; decide
        · rw [if_neg q, if_neg q]
          by_cases q2 : a = 7 ∨ a = 8
          · rw [if_pos q2, if_pos q2]; decide
          · rw [if_neg q2, if_neg q2]
      have n8 : ∀ a, needs a 8 = needs a 3 := fun a => by
        unfold needs
        by_cases q : a = 3
        · subst q; decide
        · rw [if_neg q, if_neg q]
          by_cases q2 : a = 7 ∨ a = 8
          · rw [if_pos q2, if_pos q2]; decide
          · rw [if_neg q2, if_neg q2]
      -- a Row or Choice in brackets
      have rc : (w.kind = 3 ∨ w.kind = 4) → Be s t := by
        intro hk2
        have eu : ut w = [40] :: (toks w ++ [[41]]) := by
          unfold ut
          rw [needs3]
          rcases hk2 with q | q <;> rw [q] <;> rfl
        rw [eu] at ha
        have ha' : s.At ([40] :: (toks w ++ ([41] :: (ms.map (fun m => [m]) ++ ts)))) := by simpa using ha
        obtain ⟨h1, h2⟩ := at_one ha' (by decide)
        obtain ⟨c, u, r, e, f1, f2, f3, f4, f5⟩ := fst_tok (n + 1) w hs ok
        have h2' : s.skip.go.At ((c :: u) :: (r ++ ([41] :: (ms.map (fun m => [m]) ++ ts)))) := by rw [e] at h2; exact h2
        obtain ⟨h3, _⟩ := at_tok h2' f1
        refine be_open h1 (by rw [h3]; exact fun q => f2 (Option.some.inj q)) ?_
        have h4 : s.skip.go.skip.enter.At (toks w ++ ([41] :: (ms.map (fun m => [m]) ++ ts))) := by
          have := at_skip1 h2' f1
          rw [e]
          exact this
        refine CLr hU w hk2 hs ok _ t z R (M ++ [m]) (L ++ [ls]) S ([41] :: (ms.map (fun m => [m]) ++ ts)) h.skip.go.skip.enter h4 (.inr ⟨41, [], _, rfl, by decide, rfl⟩) fun s' r m' X h5 e5 a5 k5 => ?_
        refine close h5 e5 hR a5 k5 fun s6 h6 a6 => go_of ?_
        obtain ⟨h7, a7⟩ := endWay_at h6 a6 hm hd
        exact k _ h7 a7 (Sc.skip_skip _)
      cases w with
      | letter c => exact be_letter ok h ha (leaf _ rfl)
      | one => exact be_one h ha (leaf _ rfl)
      | nothing => exact be_nothing h ha (leaf _ rfl)
      | call x =>
        obtain ⟨o1, o2, o3⟩ := ok
        exact be_call o3 o1 o2 h ha (leaf _ (by show [(9, x, 0)] = [(9, tx x.cps.toList, 0)]; simp [tx]))
      | row ws => exact rc (.inl rfl)
      | choice ws => exact rc (.inr rfl)
      | again p => exact mark p 42 5 (.inl rfl) (by have : 1 + p.size ≤ n + 1 := hs; omega) ok rfl (.inl rfl) rfl
      | maybe p => exact mark p 63 6 (.inr rfl) (by have : 1 + p.size ≤ n + 1 := hs; omega) ok rfl (.inr rfl) rfl
      | ahead p => exact look p 38 7 (by have : 1 + p.size ≤ n + 1 := hs; omega) ok rfl (hk.elim id fun q => absurd rfl q.1) n7 rfl (by decide) fun t' h1 h2 => be_look7 h1 h2
      | «unless» p => exact look p 33 8 (by have : 1 + p.size ≤ n + 1 := hs; omega) ok rfl (hk.elim id fun q => absurd rfl q.2) n8 rfl (by decide) fun t' h1 h2 => be_look8 h1 h2
    refine ⟨U1, ?_⟩
    intro w hs ok s t z R M L S tl h ha hd k
    by_cases hk : w.kind = 3 ∨ w.kind = 4
    · exact CLr hU w hk hs ok s t z R M L S tl h ha hd k
    · have eu : ut w = toks w := by
        unfold ut
        rw [needs3, decide_eq_false (fun q => hk (.inl q)), decide_eq_false (fun q => hk (.inr q))]
        rfl
      refine U1 w hs ok s t z (R ++ [0]) M L S 0 [] [] tl h (by simp) (by rw [eu]; exact ha) (fun _ q => by cases q) ?_ (.inl rfl) fun s' h' a' k' => ?_
      · rcases hd with e | ⟨c, u, q, e, f1, f2⟩
        · exact .inl e
        · exact .inr ⟨c, u, q, e, f1, by subst f2; decide⟩
      · refine k s' 0 1 (S ++ post w) (by simpa using h') ?_ a' k'
        unfold fini
        rw [if_neg (by omega), if_neg (by omega), List.append_nil, List.append_nil]
/-- the text of a way, with more or fewer spaces, is read so -/
theorem scan_whole {w : W} (ok : okW w) {z : List Nat} (h : Loose (toks w) z) : ∃ (s1 t : Sc) (f : Nat), (Sc.new z 1).begin = some s1 ∧ Sc.wayK f s1 = some t ∧ t.steps = post w := by
  have h0 : St (Sc.new z 1) z ([] ++ [0]) ([] ++ [0]) ([] ++ [[]]) [] := ⟨rfl, rfl, rfl, rfl, rfl⟩
  have a0 : (Sc.new z 1).At (toks w ++ []) := by
    rw [List.append_nil]
    exact h
  have hb : Be (Sc.new z 1) (fun e => e.steps = post w) := (both w.size).2 w (Nat.le_refl _) ok _ _ z [] [] [] [] [] h0 a0 (.inl rfl) fun s' r m X h' e' a' k' => by
    refine .inl ⟨?_, ?_, whole_end h' (by rw [e']; rfl)⟩
    · have := at_end a'
      rw [k'] at this
      exact this
    · rw [h'.r]; rfl
  obtain ⟨s1, h3, f, e, h4, h5⟩ := hb.begin
  exact ⟨s1, e, f, h3, h4, h5⟩
end Ws
/-! steps that make the way; the text's codes: pure facts -/
namespace Ws
open PySem PySem.Spec PyProof.Rows L2 Wv
mutual
theorem post_way : ∀ (w : W) {r : List Stp} {S S' : List W}, Post r (S ++ [w]) S' → Post (post w ++ r) S S'
  | .letter c, r, S, S', h => by
    have := Post.cons (S := S) (Builds.letter c) h
    rw [List.append_nil] at this
    exact this
  | .one, r, S, S', h => by
    have := Post.cons (S := S) Builds.one h
    rw [List.append_nil] at this
    exact this
  | .nothing, r, S, S', h => by
    have := Post.cons (S := S) Builds.nothing h
    rw [List.append_nil] at this
    exact this
  | .call x, r, S, S', h => by
    have := Post.cons (S := S) (Builds.call x) h
    rw [List.append_nil] at this
    exact this
  | .row ws, r, S, S', h => by
    show Post ((posts ws ++ [(3, eS, ws.length)]) ++ r) S S'
    rw [List.append_assoc]
    exact post_ways ws (Post.cons (Builds.row ws) h)
  | .choice ws, r, S, S', h => by
    show Post ((posts ws ++ [(4, eS, ws.length)]) ++ r) S S'
    rw [List.append_assoc]
    exact post_ways ws (Post.cons (Builds.choice ws) h)
  | .again w, r, S, S', h => by
    show Post ((post w ++ [(5, eS, 1)]) ++ r) S S'
    rw [List.append_assoc]
    exact post_way w (Post.cons (Builds.again w) h)
  | .maybe w, r, S, S', h => by
    show Post ((post w ++ [(6, eS, 1)]) ++ r) S S'
    rw [List.append_assoc]
    exact post_way w (Post.cons (Builds.maybe w) h)
  | .ahead w, r, S, S', h => by
    show Post ((post w ++ [(7, eS, 1)]) ++ r) S S'
    rw [List.append_assoc]
    exact post_way w (Post.cons (Builds.ahead w) h)
  | .unless w, r, S, S', h => by
    show Post ((post w ++ [(8, eS, 1)]) ++ r) S S'
    rw [List.append_assoc]
    exact post_way w (Post.cons (Builds.unless w) h)
theorem post_ways : ∀ (ws : List W) {r : List Stp} {S S' : List W}, Post r (S ++ ws) S' → Post (posts ws ++ r) S S'
  | [], r, S, S', h => by rw [List.append_nil] at h; exact h
  | w :: ws, r, S, S', h => by
    show Post ((post w ++ posts ws) ++ r) S S'
    rw [List.append_assoc]
    refine post_way w (post_ways ws ?_)
    rw [List.append_assoc]
    exact h
end
theorem post_whole (w : W) : Post (post w) [] [w] := by
  have := post_way w (r := []) (S := []) (Post.nil _)
  rw [List.append_nil] at this
  exact this
mutual
theorem post_len : ∀ w : W, (post w).length = w.size
  | .letter c => rfl | .one => rfl | .nothing => rfl | .call x => rfl
  | .row ws => by show (posts ws ++ [_]).length = 1 + W.sizes ws; rw [List.length_append, posts_len ws, List.length_singleton]; omega
  | .choice ws => by show (posts ws ++ [_]).length = 1 + W.sizes ws; rw [List.length_append, posts_len ws, List.length_singleton]; omega
  | .again w => by show (post w ++ [_]).length = 1 + w.size; rw [List.length_append, post_len w, List.length_singleton]; omega
  | .maybe w => by show (post w ++ [_]).length = 1 + w.size; rw [List.length_append, post_len w, List.length_singleton]; omega
  | .ahead w => by show (post w ++ [_]).length = 1 + w.size; rw [List.length_append, post_len w, List.length_singleton]; omega
  | .unless w => by show (post w ++ [_]).length = 1 + w.size; rw [List.length_append, post_len w, List.length_singleton]; omega
theorem posts_len : ∀ ws : List W, (posts ws).length = W.sizes ws
  | [] => rfl
  | w :: ws => by show (post w ++ posts ws).length = w.size + W.sizes ws; rw [List.length_append, post_len w, posts_len ws]
end
/-! ### signs that are read as a way, and brackets around them -/
/-- these signs, up to what ends them, are read to these steps -/
structure Told (T : List (List Nat)) (p : List Stp) : Prop where
  fst : ∃ c u r, T = (c :: u) :: r ∧ FstC c
  run : ∀ (s : Sc) (t : Sc → Prop) (z R M : List Nat) (L : List (List Nat)) (S : List Stp) (tl : List (List Nat)), St s z (R ++ [0]) (M ++ [0]) (L ++ [[]]) S → s.At (T ++ tl) → Hd tl (fun c => c = 41) →
    (∀ (s' : Sc) (r m : Nat) (X : List Stp), St s' z (R ++ [r]) (M ++ [m]) (L ++ [[]]) X → fini r m X = S ++ p → s'.At tl → s'.skip = s' → Af s' t) → Be s t
theorem told_way {w : W} (ok : okW w) : Told (toks w) (post w) := ⟨fst_tok w.size w (Nat.le_refl _) ok, fun s t z R M L S tl => (both w.size).2 w (Nat.le_refl _) ok s t z R M L S tl⟩
theorem told_br {T : List (List Nat)} {p : List Stp} (h : Told T p) : Told ([40] :: (T ++ [[41]])) p := by
  refine ⟨⟨40, [], _, rfl, by decide, by decide, by decide, by decide, by decide⟩, fun s t z R M L S tl hs ha hd k => ?_⟩
  obtain ⟨c, u, r, e, f1, f2, f3, f4, f5⟩ := h.fst
  have ha' : s.At ([40] :: (T ++ ([41] :: tl))) := by simpa using ha
  obtain ⟨h1, h2⟩ := at_one ha' (by decide)
  have h2' : s.skip.go.At ((c :: u) :: (r ++ ([41] :: tl))) := by rw [e] at h2; exact h2
  obtain ⟨h3, _⟩ := at_tok h2' f1
  refine be_open h1 (by rw [h3]; exact fun q => f2 (Option.some.inj q)) ?_
  have h4 : s.skip.go.skip.enter.At (T ++ ([41] :: tl)) := by
    have := at_skip1 h2' f1
    rw [e]
    exact this
  refine h.run _ t z (R ++ [0]) (M ++ [0]) (L ++ [[]]) S ([41] :: tl) hs.skip.go.skip.enter h4 (.inr ⟨41, [], _, rfl, by decide, rfl⟩) fun s' r m X h5 e5 a5 k5 => ?_
  refine close h5 e5 (by simp) a5 k5 fun s6 h6 a6 => go_of ?_
  have hd2 : Hd tl (fun c => c ≠ 42 ∧ c ≠ 63) := by
    rcases hd with e | ⟨c, u, q, e, f1, f2⟩
    · exact .inl e
    · exact .inr ⟨c, u, q, e, f1, by subst f2; decide⟩
  obtain ⟨h7, a7⟩ := endWay_at (ms := []) h6 a6 (fun _ q => by cases q) hd2
  refine k _ 0 1 (S ++ p) (by simpa using h7) ?_ a7 (Sc.skip_skip _)
  unfold fini
  rw [if_neg (by omega), if_neg (by omega), List.append_nil, List.append_nil]
theorem told_reads {T : List (List Nat)} {w : W} (h : Told T (post w)) (hw : w.size ≤ 100000) {z : List Nat} (hl : Loose T z) (hz : z.length ≤ 10000) : Reads z w := by
  have h0 : St (Sc.new z 1) z ([] ++ [0]) ([] ++ [0]) ([] ++ [[]]) [] := ⟨rfl, rfl, rfl, rfl, rfl⟩
  have a0 : (Sc.new z 1).At (T ++ []) := by
    rw [List.append_nil]
    exact hl
  have hb : Be (Sc.new z 1) (fun e => e.steps = post w) := h.run _ _ z [] [] [] [] [] h0 a0 (.inl rfl) fun s' r m X h' e' a' k' => by
    refine .inl ⟨?_, ?_, whole_end h' (by rw [e']; rfl)⟩
    · have := at_end a'
      rw [k'] at this
      exact this
    · rw [h'.r]; rfl
  obtain ⟨s1, h3, f, e, h4, h5⟩ := hb.begin
  refine ⟨hz, s1, e, f, h3, h4, ?_, ?_⟩
  · rw [h5]; exact post_whole w
  · rw [h5, post_len]; exact hw
/-! ### the text's codes -/
def brC (b : Bool) (l : List Nat) : List Nat := if b = true then 40 :: (l ++ [41]) else l
mutual
def cod : W → List Nat
  | .letter c => [c] | .one => [46] | .nothing => [40, 41] | .call x => 60 :: (x.cps.toList ++ [62])
  | .row ws => codJ 3 [32] true ws
  | .choice ws => codJ 4 [32, 47, 32] true ws
  | .again w => brC (needs w.kind 5) (cod w) ++ [42] | .maybe w => brC (needs w.kind 6) (cod w) ++ [63]
  | .ahead w => 38 :: brC (needs w.kind 7) (cod w) | .unless w => 33 :: brC (needs w.kind 8) (cod w)
def codJ (k : Nat) (b : List Nat) : Bool → List W → List Nat
  | _, [] => []
  | f, w :: ws => (if f = true then [] else b) ++ (brC (needs w.kind k) (cod w) ++ codJ k b false ws)
end
def pcC : Piece → List Nat
  | .s x => x.cps.toList
  | .w w => cod w
theorem cod_br (w : W) (k : Nat) : (brP w k).flatMap pcC = brC (needs w.kind k) (cod w) := by
  have e1 : (Str.ofString "(").cps.toList = [40] := by decide +kernel
  have e2 : (Str.ofString ")").cps.toList = [41] := by decide +kernel
  unfold brP brC
  split
  · simp [pcC, e1, e2]
  · simp [pcC]
theorem cod_join (k : Nat) (b : Str) : ∀ (ws : List W) (f : Bool), (joinP k b f ws).flatMap pcC = codJ k b.cps.toList f ws
  | [], _ => rfl
  | w :: ws, f => by
    show ((if f = true then ([] : List Piece) else [Piece.s b]) ++ brP w k ++ joinP k b false ws).flatMap pcC = (if f = true then [] else b.cps.toList) ++ (brC (needs w.kind k) (cod w) ++ codJ k b.cps.toList false ws)
    rw [List.flatMap_append, List.flatMap_append, cod_br, cod_join k b ws false, List.append_assoc]
    cases f <;> simp [pcC]
theorem cod_spell (w : W) : (spell w).flatMap pcC = cod w := by
  have e1 : (Str.ofString ".").cps.toList = [46] := by decide +kernel
  have e2 : (Str.ofString "()").cps.toList = [40, 41] := by decide +kernel
  have e3 : (Str.ofString "<").cps.toList = [60] := by decide +kernel
  have e4 : (Str.ofString ">").cps.toList = [62] := by decide +kernel
  have e5 : (Str.ofString "*").cps.toList = [42] := by decide +kernel
  have e6 : (Str.ofString "?").cps.toList = [63] := by decide +kernel
  have e7 : (Str.ofString "&").cps.toList = [38] := by decide +kernel
  have e8 : (Str.ofString "!").cps.toList = [33] := by decide +kernel
  have e9 : (Str.ofString " ").cps.toList = [32] := by decide +kernel
  have e10 : (Str.ofString " / ").cps.toList = [32, 47, 32] := by decide +kernel
  cases w with
  | letter c => rfl
  | one => simp [spell, pcC, cod, e1]
  | nothing => simp [spell, pcC, cod, e2]
  | call x => simp [spell, pcC, cod, e3, e4]
  | row ws =>
    show (joinP 3 (Str.ofString " ") true ws).flatMap pcC = codJ 3 [32] true ws
    rw [cod_join, e9]
  | choice ws =>
    show (joinP 4 (Str.ofString " / ") true ws).flatMap pcC = codJ 4 [32, 47, 32] true ws
    rw [cod_join, e10]
  | again w =>
    show (brP w 5 ++ [Piece.s (Str.ofString "*")]).flatMap pcC = brC (needs w.kind 5) (cod w) ++ [42]
    rw [List.flatMap_append, cod_br]
    simp [pcC, e5]
  | maybe w =>
    show (brP w 6 ++ [Piece.s (Str.ofString "?")]).flatMap pcC = brC (needs w.kind 6) (cod w) ++ [63]
    rw [List.flatMap_append, cod_br]
    simp [pcC, e6]
  | ahead w =>
    show (Piece.s (Str.ofString "&") :: brP w 7).flatMap pcC = 38 :: brC (needs w.kind 7) (cod w)
    rw [List.flatMap_cons, cod_br]
    simp [pcC, e7]
  | «unless» w =>
    show (Piece.s (Str.ofString "!") :: brP w 8).flatMap pcC = 33 :: brC (needs w.kind 8) (cod w)
    rw [List.flatMap_cons, cod_br]
    simp [pcC, e8]
theorem cod_flat : ∀ (n : Nat) (ps : List Piece), wt ps ≤ n → (flat n ps).flatMap (fun x => x.cps.toList) = ps.flatMap pcC
  | 0, [], _ => rfl
  | 0, p :: ps, h => by
    have h1 := wt_len (p :: ps)
    simp only [List.length_cons] at h1
    omega
  | n + 1, [], _ => rfl
  | n + 1, .s x :: ps, h => by
    have h' : 1 + wt ps ≤ n + 1 := h
    show (x :: flat n ps).flatMap _ = _
    rw [List.flatMap_cons, List.flatMap_cons, cod_flat n ps (by omega)]
    rfl
  | n + 1, .w w :: ps, h => by
    have h' : (14 * w.size - 10) + wt ps ≤ n + 1 := h
    have hw := wt_spell w
    show (flat n (spell w ++ ps)).flatMap _ = _
    rw [cod_flat n (spell w ++ ps) (by rw [wt_app]; omega), List.flatMap_append, cod_spell, List.flatMap_cons]
    rfl
theorem cod_pcs (w : W) : (pcs w).flatMap (fun x => x.cps.toList) = cod w := by
  unfold pcs
  rw [cod_flat _ _ (by show 14 * w.size - 10 + 0 ≤ _; omega)]
  simp [pcC]
end Ws
/-! == and != of lists and tuples whose items are compared by an own ==: True or False -/
namespace Oq
open PySem PySem.Spec PyProof.Rows PySem.SeqAt
open AutoSeq1 (wpAny_loadPart')
open MeetsSeq MeetsSeq2 MeetsSeq3 SeqRoads2
section
variable {prog : Program} {w : World} {A : Around} {R : Result → Shared → Prop}
/-- what a comparison gives, by what == gives -/
def opB (op : CmpOp) (b : Bool) : Bool := match op with
  | .Eq => b
  | _ => !b
def opN (op : CmpOp) : Nat := match op with
  | .Eq => 2
  | _ => 3
abbrev IsEN (op : CmpOp) : Prop := op = .Eq ∨ op = .NotEq
/-- at each turn the two lists are read anew: the i-th two are equal and it goes on, or they are not and the answer is no -/
def ListB (prog : Program) (w : World) (A : Around) (E : Value → Shared → Prop) (l b : Addr) (N : Nat) (I : Nat → Shared → Prop) (J : Shared → Prop) : Prop :=
  ∀ i s, I i s → ∃ (items items2 : Array Value) (n n2 : Nat), s.heap.get? l = some { cls := .type "list", data := .seq items n } ∧ s.heap.get? b = some { cls := .type "list", data := .seq items2 n2 } ∧ items.size = N ∧ items2.size = N ∧
    ∀ (h1 : i < items.size) (h2 : i < items2.size), wpAny (model prog w) A.in1 (eqBool items[i] items2[i]) (fun r s' => (r = true ∧ I (i + 1) s') ∨ (r = false ∧ J s' ∧ ∃ (its its2 : Array Value) (m m2 : Nat), s'.heap.get? l = some { cls := .type "list", data := .seq its m } ∧ s'.heap.get? b = some { cls := .type "list", data := .seq its2 m2 } ∧ its.size = N ∧ its2.size = N)) E s
theorem eq_loopB (op : CmpOp) (hop : IsEN op) (l b : Addr) (N : Nat) (I : Nat → Shared → Prop) (J : Shared → Prop) (hl : ListB prog w A (fun e s' => R (.error e) s') l b N I J)
    (fin : ∀ s, I N s → R (.ok (.ret (.bool (opB op true)))) s) (no : ∀ s, J s → R (.ok (.ret (.bool (opB op false)))) s) (k : Nat) :
    ∀ i : Nat, N - i = k → i ≤ N → ∀ s, I i s →
      wpAny (model prog w) A.in1 (Builtin.«list.__eq__.loop» ⟨[.ref l, .ref b, rawInt i, rawInt (opN op)], []⟩) (GQ.FinOf prog w A R) (fun e s' => R (.error e) s') s := by
  induction k with
  | zero =>
    intro i hk hi s h
    obtain ⟨items, items2, n, n2, hl1, hb1, hs1, hs2, _⟩ := hl _ _ h
    have hi' : i = N := by omega
    have hR : R (.ok (.ret (.bool (opB op true)))) s := fin s (hi' ▸ h)
    obtain ⟨hp, g, d, tk, os⟩ := s
    have hi1 : items[((i : Nat) : Int).toNat]? = none := by simp; omega
    have hi2 : items2[((i : Nat) : Int).toNat]? = none := by simp; omega
    rcases hop with rfl | rfl
    · wp_walk using wpAny_loadPart' hl1, wpAny_loadPart' hb1
      rw [hi1, hi2]
      wp_walk using wpAny_loadPart' hl1, wpAny_loadPart' hb1
      show R (.ok (.ret (.bool (items.size == items2.size)))) _
      rw [hs1, hs2]
      simpa [opB] using hR
    · wp_walk using wpAny_loadPart' hl1, wpAny_loadPart' hb1
      rw [hi1, hi2]
      wp_walk using wpAny_loadPart' hl1, wpAny_loadPart' hb1
      show R (.ok (.ret (.bool (items.size != items2.size)))) _
      rw [hs1, hs2]
      simpa [opB] using hR
  | succ k ih =>
    intro i hk hi s h
    obtain ⟨items, items2, n, n2, hl1, hb1, hs1, hs2, turn⟩ := hl _ _ h
    have hlt : i < items.size := by omega
    have hlt2 : i < items2.size := by omega
    have ht := turn hlt hlt2
    obtain ⟨hp, g, d, tk, os⟩ := s
    have hi1 : items[((i : Nat) : Int).toNat]? = some items[i] := by simp [hlt]
    have hi2 : items2[((i : Nat) : Int).toNat]? = some items2[i] := by simp [hlt2]
    have hc : ((i : Int) + 1) = ((i + 1 : Nat) : Int) := by omega
    rcases hop with rfl | rfl
    · wp_walk using wpAny_loadPart' hl1, wpAny_loadPart' hb1
      rw [hi1, hi2]
      refine wpAny_bind (wpAny_mono ht (fun r s2 h2 => ?_) fun _ _ x => x)
      rcases h2 with ⟨hr, h2⟩ | ⟨hr, h2, its, its2, m, m2, e1, e2, z1, z2⟩
      · subst hr
        have hrec := ih (i + 1) (by omega) (by omega) s2 h2
        obtain ⟨hp2, g2, d2, tk2, os2⟩ := s2
        wp_walk
        rw [hc]
        exact ⟨plainId_quiet plain_eq_loop _, codeAny_builtin entry_eq_loop (by
          rw [Around.under_plainId plain_eq_loop _]
          exact hrec)⟩
      · subst hr
        have hR := no s2 h2
        obtain ⟨hp2, g2, d2, tk2, os2⟩ := s2
        have hi3 : its[((i : Nat) : Int).toNat]? = some (its[i]'(by omega)) := by simp
        have hi4 : its2[((i : Nat) : Int).toNat]? = some (its2[i]'(by omega)) := by simp
        wp_walk using wpAny_loadPart' e1, wpAny_loadPart' e2
        rw [hi3, hi4]
        wp_walk using wpAny_loadPart' e1, wpAny_loadPart' e2
        exact hR
    · wp_walk using wpAny_loadPart' hl1, wpAny_loadPart' hb1
      rw [hi1, hi2]
      refine wpAny_bind (wpAny_mono ht (fun r s2 h2 => ?_) fun _ _ x => x)
      rcases h2 with ⟨hr, h2⟩ | ⟨hr, h2, its, its2, m, m2, e1, e2, z1, z2⟩
      · subst hr
        have hrec := ih (i + 1) (by omega) (by omega) s2 h2
        obtain ⟨hp2, g2, d2, tk2, os2⟩ := s2
        wp_walk
        rw [hc]
        exact ⟨plainId_quiet plain_eq_loop _, codeAny_builtin entry_eq_loop (by
          rw [Around.under_plainId plain_eq_loop _]
          exact hrec)⟩
      · subst hr
        have hR := no s2 h2
        obtain ⟨hp2, g2, d2, tk2, os2⟩ := s2
        have hi3 : its[((i : Nat) : Int).toNat]? = some (its[i]'(by omega)) := by simp
        have hi4 : its2[((i : Nat) : Int).toNat]? = some (its2[i]'(by omega)) := by simp
        wp_walk using wpAny_loadPart' e1, wpAny_loadPart' e2
        rw [hi3, hi4]
        wp_walk using wpAny_loadPart' e1, wpAny_loadPart' e2
        exact hR

theorem list_cmpB (op : CmpOp) (hop : IsEN op) (l b : Addr) (N : Nat) (I : Nat → Shared → Prop) (J : Shared → Prop) (hl : ListB prog w A (fun e s' => R (.error e) s') l b N I J)
    (fin : ∀ s, I N s → R (.ok (.ret (.bool (opB op true)))) s) (no : ∀ s, J s → R (.ok (.ret (.bool (opB op false)))) s) {s : Shared} (h : I 0 s) :
    wpAny (model prog w) A.in1 ((match op with | .Eq => Builtin.«list.__eq__» | _ => Builtin.«list.__ne__») ⟨[.ref l, .ref b], []⟩) (GQ.FinOf prog w A R) (fun e s' => R (.error e) s') s := by
  obtain ⟨items, items2, n, n2, hl1, hb1, hs1, hs2, _⟩ := hl _ _ h
  have hrec := eq_loopB (A := A) (R := R) op hop l b N I J hl fin no _ 0 rfl (Nat.zero_le _) s h
  obtain ⟨hp, g, d, tk, os⟩ := s
  have f3 := AutoSeq1.sub_list_list
  have hne : ¬ (items.size != items2.size) = true := by simp [hs1, hs2]
  rcases hop with rfl | rfl
  · wp_walk using wpAny_loadPart' hl1, wpAny_loadPart' hb1
    exact ⟨plainId_quiet plain_eq_loop _, codeAny_builtin entry_eq_loop (by
      rw [Around.under_plainId plain_eq_loop _]
      exact hrec)⟩
  · wp_walk using wpAny_loadPart' hl1, wpAny_loadPart' hb1
    exact ⟨plainId_quiet plain_eq_loop _, codeAny_builtin entry_eq_loop (by
      rw [Around.under_plainId plain_eq_loop _]
      exact hrec)⟩
/-- lists of different lengths -/
theorem list_cmpL (op : CmpOp) (hop : IsEN op) (l b : Addr) (items items2 : Array Value) (n n2 : Nat) (hsz : items.size ≠ items2.size) {s : Shared}
    (hl1 : s.heap.get? l = some { cls := .type "list", data := .seq items n }) (hb1 : s.heap.get? b = some { cls := .type "list", data := .seq items2 n2 }) (h : R (.ok (.ret (.bool (opB op false)))) s) :
    wpAny (model prog w) A.in1 ((match op with | .Eq => Builtin.«list.__eq__» | _ => Builtin.«list.__ne__») ⟨[.ref l, .ref b], []⟩) (GQ.FinOf prog w A R) (fun e s' => R (.error e) s') s := by
  obtain ⟨hp, g, d, tk, os⟩ := s
  have f3 := AutoSeq1.sub_list_list
  have hne : (items.size != items2.size) = true := by simp [hsz]
  rcases hop with rfl | rfl
  · wp_walk using wpAny_loadPart' hl1, wpAny_loadPart' hb1
    exact h
  · wp_walk using wpAny_loadPart' hl1, wpAny_loadPart' hb1
    exact h
theorem tuple_cmpB (op : CmpOp) (hop : IsEN op) (l b : Addr) (items items2 : Array Value) (n n2 : Nat) (dd dd2 : Option Addr) (sl sl2 : Array (Option Value)) (I : Nat → Shared → Prop) (J : Shared → Prop)
    (turn : ∀ i (h1 : i < items.size) (h2 : i < items2.size) s, I i s → wpAny (model prog w) A.in1 (eqBool items[i] items2[i]) (fun r s' => (r = true ∧ I (i + 1) s') ∨ (r = false ∧ J s')) (fun e s' => R (.error e) s') s)
    (fin : ∀ s, I (min items.size items2.size) s → R (.ok (.ret (.bool (opB op (items.size == items2.size))))) s) (no : ∀ s, J s → R (.ok (.ret (.bool (opB op false)))) s)
    {s : Shared} (hl1 : s.heap.get? l = some { cls := .type "tuple", dict := dd, data := .seq items n, slots := sl }) (hb1 : s.heap.get? b = some { cls := .type "tuple", dict := dd2, data := .seq items2 n2, slots := sl2 }) (h : I 0 s) :
    wpAny (model prog w) A.in1 ((match op with | .Eq => Builtin.«tuple.__eq__» | _ => Builtin.«tuple.__ne__») ⟨[.ref l, .ref b], []⟩) (GQ.FinOf prog w A R) (fun e s' => R (.error e) s') s := by
  have f2 := AutoSeq1.sub_tuple_tuple
  have hZ : (items.toList.zip items2.toList).length = min items.size items2.size := by simp
  have h0 := h
  obtain ⟨hp, g, d, tk, os⟩ := s
  rcases hop with rfl | rfl
  · wp_walk using wpAny_loadPart' hl1, wpAny_loadPart' hb1, wpAny_forIn_list _ (fun rest b s' => b.1 = none ∧ ∃ i, rest = (items.toList.zip items2.toList).drop i ∧ i ≤ min items.size items2.size ∧ I i s') _
    case turn =>
      rintro ⟨y, x⟩ rest b s' ⟨hb', i, hz, hi, hI⟩
      have hlt : i < (items.toList.zip items2.toList).length := by
        rcases Nat.lt_or_ge i (items.toList.zip items2.toList).length with h' | h'
        · exact h'
        · rw [List.drop_of_length_le h'] at hz; cases hz
      have h1 : i < items.size := by omega
      have h2 : i < items2.size := by omega
      rw [List.drop_eq_getElem_cons hlt] at hz
      injection hz with hyx hrest
      have hy : y = items[i] := by have := congrArg Prod.fst hyx; simpa using this
      have hx : x = items2[i] := by have := congrArg Prod.snd hyx; simpa using this
      subst hy hx
      refine wpAny_bind (wpAny_mono (turn i h1 h2 s' hI) (fun r s2 q2 => ?_) fun _ _ x => x)
      rcases q2 with ⟨hr, q2⟩ | ⟨hr, q2⟩
      · subst hr
        wp_walk
        exact ⟨rfl, i + 1, hrest, by omega, q2⟩
      · subst hr
        have hR := no s2 q2
        wp_walk
        exact hR
    case fin =>
      rintro ⟨b1, b2⟩ s' ⟨hb', i, hz, hi, hI⟩
      simp only at hb'
      subst hb'
      have hge : min items.size items2.size ≤ i := by
        rcases Nat.lt_or_ge i (items.toList.zip items2.toList).length with h' | h'
        · rw [List.drop_eq_getElem_cons h'] at hz; cases hz
        · omega
      have hi' : i = min items.size items2.size := by omega
      have hR : R (.ok (.ret (.bool (opB .Eq (items.size == items2.size))))) s' := fin s' (hi' ▸ hI)
      wp_walk
      exact hR
    case h =>
      exact ⟨rfl, 0, rfl, Nat.zero_le _, h0⟩
  · wp_walk using wpAny_loadPart' hl1, wpAny_loadPart' hb1, wpAny_forIn_list _ (fun rest b s' => b.1 = none ∧ ∃ i, rest = (items.toList.zip items2.toList).drop i ∧ i ≤ min items.size items2.size ∧ I i s') _
    case turn =>
      rintro ⟨y, x⟩ rest b s' ⟨hb', i, hz, hi, hI⟩
      have hlt : i < (items.toList.zip items2.toList).length := by
        rcases Nat.lt_or_ge i (items.toList.zip items2.toList).length with h' | h'
        · exact h'
        · rw [List.drop_of_length_le h'] at hz; cases hz
      have h1 : i < items.size := by omega
      have h2 : i < items2.size := by omega
      rw [List.drop_eq_getElem_cons hlt] at hz
      injection hz with hyx hrest
      have hy : y = items[i] := by have := congrArg Prod.fst hyx; simpa using this
      have hx : x = items2[i] := by have := congrArg Prod.snd hyx; simpa using this
      subst hy hx
      refine wpAny_bind (wpAny_mono (turn i h1 h2 s' hI) (fun r s2 q2 => ?_) fun _ _ x => x)
      rcases q2 with ⟨hr, q2⟩ | ⟨hr, q2⟩
      · subst hr
        wp_walk
        exact ⟨rfl, i + 1, hrest, by omega, q2⟩
      · subst hr
        have hR := no s2 q2
        wp_walk
        exact hR
    case fin =>
      rintro ⟨b1, b2⟩ s' ⟨hb', i, hz, hi, hI⟩
      simp only at hb'
      subst hb'
      have hge : min items.size items2.size ≤ i := by
        rcases Nat.lt_or_ge i (items.toList.zip items2.toList).length with h' | h'
        · rw [List.drop_eq_getElem_cons h'] at hz; cases hz
        · omega
      have hi' : i = min items.size items2.size := by omega
      have hR : R (.ok (.ret (.bool (opB .NotEq (items.size == items2.size))))) s' := fin s' (hi' ▸ hI)
      wp_walk
      exact hR
    case h =>
      exact ⟨rfl, 0, rfl, Nat.zero_le _, h0⟩
end
end Oq
/-! == and != over the layer: True or False, by an own == within lists and tuples -/
namespace Oq
open PySem PySem.Spec PyProof.Rows L2
abbrev Eqb := V → V → Bool → Hp → Prop
def MonB (D : Eqb) : Prop := ∀ x y b H H', L2.Ext H H' → D x y b H → D x y b H'
def EqB (X : Cx) (n : Nat) (D : Eqb) : Prop :=
  ∀ (A : Around) (pins : List (Addr × Obj)) (s : Shared) (σ : L2.St) (H : Hp) (x y : V) (b : Bool) (u v : Value), L2.Sub X n A → Inv X pins σ H s → RelV x u → RelV y v → D x y b H →
    wpAny (model X.prog X.w) A (eqBool u v) (fun r s' => r = b ∧ ∃ H', Inv X pins σ H' s' ∧ L2.Ext H H') X.xe s
def RcB (X : Cx) (n : Nat) (op : CmpOp) (D : Eqb) : Prop :=
  ∀ (A : Around) (pins : List (Addr × Obj)) (s : Shared) (σ : L2.St) (H : Hp) (x y : V) (b : Bool) (u v : Value), L2.Sub X n A → Inv X pins σ H s → RelV x u → RelV y v → D x y b H →
    wpAny (model X.prog X.w) A (richCompare op u v) (fun r s' => r = .bool (opB op b) ∧ ∃ H', Inv X pins σ H' s' ∧ L2.Ext H H') X.xe s
section
variable {X : Cx} {n m : Nat} {D D' : Eqb} {op : CmpOp}
theorem EqB.mono (h : EqB X n D) (hn : n ≤ m) : EqB X m D := fun A pins s σ H x y b u v sb => h A pins s σ H x y b u v (sb.mono hn)
theorem RcB.mono (h : RcB X n op D) (hn : n ≤ m) : RcB X m op D := fun A pins s σ H x y b u v sb => h A pins s σ H x y b u v (sb.mono hn)
theorem EqB.or (h : EqB X n D) (h' : EqB X n D') : EqB X n (fun x y b H => D x y b H ∨ D' x y b H) := fun A pins s σ H x y b u v sb I rx ry d => by
  rcases d with d | d
  · exact h A pins s σ H x y b u v sb I rx ry d
  · exact h' A pins s σ H x y b u v sb I rx ry d
theorem MonB.or (h : MonB D) (h' : MonB D') : MonB (fun x y b H => D x y b H ∨ D' x y b H) := fun x y b H H' e d => d.elim (fun d => .inl (h x y b H H' e d)) fun d => .inr (h' x y b H H' e d)
/-- flat values -/
def DFlat : Eqb := fun x y b _ => flatV x = true ∧ flatV y = true ∧ eqV x y = b
theorem monB_flat : MonB DFlat := fun _ _ _ _ _ _ d => d
theorem eqB_flat : EqB X 0 DFlat := by
  intro A pins s σ H x y b u v sb I rx ry d
  obtain ⟨fx, fy, e⟩ := d
  have q := eqAt_V (A := A) (s := s) rx ry fx fy
  rw [e] at q
  exact q X.prog X.w X.xe _ ⟨rfl, H, I, Ext.rfl'⟩
/-- item by item -/
def PrsB (D : Eqb) (H : Hp) : List V → List V → Bool → Prop
  | [], [], b => b = true
  | [], _ :: _, b => b = false
  | _ :: _, [], b => b = false
  | x :: xs, y :: ys, b => (D x y false H ∧ b = false) ∨ (D x y true H ∧ PrsB D H xs ys b)
theorem PrsB.mon (hD : MonB D) {H H' : Hp} (e : L2.Ext H H') : ∀ (xs ys : List V) (b : Bool), PrsB D H xs ys b → PrsB D H' xs ys b
  | [], [], _, p => p
  | [], _ :: _, _, p => p
  | _ :: _, [], _, p => p
  | x :: xs, y :: ys, b, p => by
    rcases p with ⟨p, h⟩ | ⟨p, h⟩
    · exact .inl ⟨hD _ _ _ _ _ e p, h⟩
    · exact .inr ⟨hD _ _ _ _ _ e p, PrsB.mon hD e xs ys b h⟩
theorem PrsB.len {H : Hp} : ∀ (xs ys : List V) (b : Bool), PrsB D H xs ys b → xs.length ≠ ys.length → b = false
  | [], [], _, p, h => absurd rfl h
  | [], _ :: _, _, p, _ => p
  | _ :: _, [], _, p, _ => p
  | x :: xs, y :: ys, b, p, h => by
    rcases p with ⟨_, h'⟩ | ⟨_, h'⟩
    · exact h'
    · exact PrsB.len xs ys b h' (fun e => h (by rw [List.length_cons, List.length_cons, e]))
def LoopJ (X : Cx) (pins : List (Addr × Obj)) (σ : L2.St) (D : Eqb) (H : Hp) (xs ys : List V) (b : Bool) (i : Nat) (s' : Shared) : Prop := PrsB D H (xs.drop i) (ys.drop i) b ∧ LoopI X pins σ H s'
theorem turnB (hD : MonB D) (h : EqB X n D) {A : Around} (sb : L2.Sub X (n + 1) A) {pins : List (Addr × Obj)} {σ : L2.St} {H : Hp} {xs ys : List V} {b : Bool} {its its2 : List Value} (r : Vals xs its) (r2 : Vals ys its2)
    (i : Nat) (h1 : i < its.toArray.size) (h2 : i < its2.toArray.size) (s' : Shared) (l : LoopJ X pins σ D H xs ys b i s') :
    wpAny (model X.prog X.w) A.in1 (eqBool its.toArray[i] its2.toArray[i]) (fun r s2 => (r = true ∧ LoopJ X pins σ D H xs ys b (i + 1) s2) ∨ (r = false ∧ b = false ∧ LoopI X pins σ H s2)) X.xe s' := by
  obtain ⟨p, H1, I1, e1⟩ := l
  have g1 : its[i]? = some its.toArray[i] := by
    have h1' : i < its.length := by simpa using h1
    rw [List.getElem?_eq_getElem h1'] <;> simp
  have g2 : its2[i]? = some its2.toArray[i] := by
    have h2' : i < its2.length := by simpa using h2
    rw [List.getElem?_eq_getElem h2'] <;> simp
  have k1 : i < xs.length := by rw [r.length]; simpa using h1
  have k2 : i < ys.length := by rw [r2.length]; simpa using h2
  obtain ⟨u, hu, ru⟩ := r.get (List.getElem?_eq_getElem k1)
  obtain ⟨v, hv, rv⟩ := r2.get (List.getElem?_eq_getElem k2)
  rw [g1] at hu
  rw [g2] at hv
  rw [Option.some.inj hu, Option.some.inj hv]
  rw [List.drop_eq_getElem_cons k1, List.drop_eq_getElem_cons k2] at p
  rcases p with ⟨p, hb⟩ | ⟨p, hp⟩
  · refine wpAny_mono (h A.in1 pins s' σ H1 _ _ _ u v sb.in1 I1 ru rv (hD _ _ _ _ _ e1 p)) (fun r s2 q => ?_) fun _ _ x => x
    obtain ⟨hr, H2, I2, e2⟩ := q
    exact .inr ⟨hr, hb, H2, I2, e1.trans e2⟩
  · refine wpAny_mono (h A.in1 pins s' σ H1 _ _ _ u v sb.in1 I1 ru rv (hD _ _ _ _ _ e1 p)) (fun r s2 q => ?_) fun _ _ x => x
    obtain ⟨hr, H2, I2, e2⟩ := q
    exact .inl ⟨hr, hp, H2, I2, e1.trans e2⟩
def DListB (D : Eqb) : Eqb := fun x y b H => ∃ a c xs ys, x = .ref a ∧ y = .ref c ∧ H a = some (.lst xs) ∧ H c = some (.lst ys) ∧ PrsB D H xs ys b ∧ (a = c → b = true)
def DTupB (K : PySem.W.Frag) (D : Eqb) : Eqb := fun x y b H => ∃ a c xs ys, x = .ref a ∧ y = .ref c ∧ SqT K H a xs ∧ SqT K H c ys ∧ PrsB D H xs ys b ∧ (a = c → b = true)
theorem monB_list (hD : MonB D) : MonB (DListB D) := fun x y b H H' e d => by
  obtain ⟨a, c, xs, ys, hx, hy, h1, h2, p, q⟩ := d
  exact ⟨a, c, xs, ys, hx, hy, e _ _ h1, e _ _ h2, p.mon hD e, q⟩
theorem monB_tup {K : PySem.W.Frag} (hD : MonB D) : MonB (DTupB K D) := fun x y b H H' e d => by
  obtain ⟨a, c, xs, ys, hx, hy, h1, h2, p, q⟩ := d
  exact ⟨a, c, xs, ys, hx, hy, h1.ext e, h2.ext e, p.mon hD e, q⟩
theorem opB_true : ∀ b, (b = true → opB op b = opB op true) := fun b h => by rw [h]
theorem rcB_list (hop : IsEN op) (hD : MonB D) (h : EqB X n D) : RcB X (n + 1) op (DListB D) := by
  intro A pins s σ H x y b u v sb I rx ry d
  obtain ⟨a, c, xs, ys, rfl, rfl, ha, hc, p, _⟩ := d
  cases rx
  cases ry
  obtain ⟨z, its, k, r, e⟩ := I.hok a _ ha
  obtain ⟨z2, its2, k2, r2, e2⟩ := I.hok c _ hc
  have fin : wpAny (model X.prog X.w) A.in1 ((match op with | .Eq => Builtin.«list.__eq__» | _ => Builtin.«list.__ne__») ⟨[.ref a, .ref c], []⟩) (GQ.FinOf X.prog X.w A (wants (fun v s' => v ≠ .notImplemented ∧ v = .bool (opB op b) ∧ ∃ H', Inv X pins σ H' s' ∧ L2.Ext H H') X.xe)) (fun e s' => wants (fun v s' => v ≠ .notImplemented ∧ v = .bool (opB op b) ∧ ∃ H', Inv X pins σ H' s' ∧ L2.Ext H H') X.xe (.error e) s') s := by
    by_cases hl : xs.length = ys.length
    · refine list_cmpB (R := wants (fun v s' => v ≠ .notImplemented ∧ v = .bool (opB op b) ∧ ∃ H', Inv X pins σ H' s' ∧ L2.Ext H H') X.xe) op hop a c xs.length (fun i s' => LoopJ X pins σ D H xs ys b i s') (fun s' => b = false ∧ LoopI X pins σ H s') (fun i s' q => ?_) (fun s' q => ?_) (fun s' q => ?_) ⟨p, H, I, Ext.rfl'⟩
      · obtain ⟨q0, H1, I1, e1⟩ := id q
        obtain ⟨z, its, k, r, e⟩ := I1.hok a _ (e1 _ _ ha)
        obtain ⟨z2, its2, k2, r2, e2⟩ := I1.hok c _ (e1 _ _ hc)
        refine ⟨its.toArray, its2.toArray, k, k2, e, e2, by rw [List.size_toArray, ← r.length], by rw [List.size_toArray, ← r2.length, hl], fun h1 h2 => ?_⟩
        refine wpAny_mono (turnB hD h sb r r2 i h1 h2 s' q) (fun t s2 q2 => ?_) fun _ _ x => x
        rcases q2 with q2 | ⟨ht, hb, q2⟩
        · exact .inl q2
        · obtain ⟨H3, I3, e3⟩ := id q2
          obtain ⟨z, its, k, r, e⟩ := I3.hok a _ (e3 _ _ ha)
          obtain ⟨z2, its2, k2, r2, e2⟩ := I3.hok c _ (e3 _ _ hc)
          exact .inr ⟨ht, ⟨hb, q2⟩, its.toArray, its2.toArray, k, k2, e, e2, by rw [List.size_toArray, ← r.length], by rw [List.size_toArray, ← r2.length, hl]⟩
      · obtain ⟨q0, q1⟩ := q
        rw [List.drop_length, hl, List.drop_length] at q0
        have hb : b = true := q0
        exact ⟨(fun x => nomatch x), by rw [hb], q1⟩
      · exact ⟨(fun x => nomatch x), by rw [q.1], q.2⟩
    · have hb := p.len _ _ _ hl
      exact list_cmpL op hop a c its.toArray its2.toArray k k2 (by rw [List.size_toArray, List.size_toArray, ← r.length, ← r2.length]; exact hl) e e2 ⟨(fun x => nomatch x), by rw [hb], H, I, Ext.rfl'⟩
  rcases hop with rfl | rfl
  · exact wpAny_richCompare_same_room (op := .Eq) ⟨_, e, rfl⟩ ⟨_, e2, rfl⟩ F.slot_list_eq (GQ.call_here F.slot_list_eq ⟨_, e, rfl⟩ F.entry_list_eq (F.args_list_eq_2 _ _) fin) sb.room.units0
  · exact wpAny_richCompare_same_room (op := .NotEq) ⟨_, e, rfl⟩ ⟨_, e2, rfl⟩ F.slot_list_ne (GQ.call_here F.slot_list_ne ⟨_, e, rfl⟩ F.entry_list_ne (F.args_list_ne_2 _ _) fin) sb.room.units0
theorem rcB_tup (hop : IsEN op) (hD : MonB D) (h : EqB X n D) : RcB X (n + 1) op (DTupB X.K D) := by
  intro A pins s σ H x y b u v sb I rx ry d
  obtain ⟨a, c, xs, ys, rfl, rfl, ha, hc, p, _⟩ := d
  cases rx
  cases ry
  obtain ⟨its, r, e, z⟩ := I.tuple ha
  obtain ⟨its2, r2, e2, z2⟩ := I.tuple hc
  obtain ⟨⟨cls, dd, data, sl⟩, ho, hcl, n1, hd⟩ := id e
  obtain ⟨⟨cls2, dd2, data2, sl2⟩, ho2, hc2, n2, hd2⟩ := id e2
  simp only at hcl hd hc2 hd2
  subst hcl hd hc2 hd2
  have fin : wpAny (model X.prog X.w) A.in1 ((match op with | .Eq => Builtin.«tuple.__eq__» | _ => Builtin.«tuple.__ne__») ⟨[.ref a, .ref c], []⟩) (GQ.FinOf X.prog X.w A (wants (fun v s' => v ≠ .notImplemented ∧ v = .bool (opB op b) ∧ ∃ H', Inv X pins σ H' s' ∧ L2.Ext H H') X.xe)) (fun e s' => wants (fun v s' => v ≠ .notImplemented ∧ v = .bool (opB op b) ∧ ∃ H', Inv X pins σ H' s' ∧ L2.Ext H H') X.xe (.error e) s') s := by
    refine tuple_cmpB (R := wants (fun v s' => v ≠ .notImplemented ∧ v = .bool (opB op b) ∧ ∃ H', Inv X pins σ H' s' ∧ L2.Ext H H') X.xe) op hop a c its.toArray its2.toArray n1 n2 dd dd2 sl sl2 (fun i s' => LoopJ X pins σ D H xs ys b i s') (fun s' => b = false ∧ LoopI X pins σ H s') (fun i h1 h2 s' q => ?_) (fun s' q => ?_) (fun s' q => ?_) ho ho2 ⟨p, H, I, Ext.rfl'⟩
    · exact wpAny_mono (turnB hD h sb r r2 i h1 h2 s' q) (fun t s2 q2 => q2) fun _ _ x => x
    · obtain ⟨q0, q1⟩ := q
      have hb : (its.toArray.size == its2.toArray.size) = b := by
        rw [List.size_toArray, List.size_toArray, ← r.length, ← r2.length] at q0 ⊢
        by_cases hl : xs.length = ys.length
        · rw [← hl, Nat.min_self, List.drop_length, hl, List.drop_length] at q0
          have hb : b = true := q0
          rw [hb, hl]; exact beq_self_eq_true _
        · rw [p.len _ _ _ hl]
          exact beq_eq_false_iff_ne.mpr hl
      exact ⟨(fun x => nomatch x), by rw [hb], q1⟩
    · exact ⟨(fun x => nomatch x), by rw [q.1], q.2⟩
  rcases hop with rfl | rfl
  · exact wpAny_richCompare_same_room (op := .Eq) ⟨_, ho, rfl⟩ ⟨_, ho2, rfl⟩ F.slot_tuple_eq (GQ.call_here F.slot_tuple_eq ⟨_, ho, rfl⟩ F.entry_tuple_eq (F.args_tuple_eq_2 _ _) fin) sb.room.units0
  · exact wpAny_richCompare_same_room (op := .NotEq) ⟨_, ho, rfl⟩ ⟨_, ho2, rfl⟩ F.slot_tuple_ne (GQ.call_here F.slot_tuple_ne ⟨_, ho, rfl⟩ F.entry_tuple_ne (F.args_tuple_ne_2 _ _) fin) sb.room.units0
/-- from a rich comparison to == inside a list or tuple -/
theorem RcB.eqB (h : RcB X n .Eq D) (hr : ∀ x y b H, D x y b H → ∃ a c, x = .ref a ∧ y = .ref c ∧ (a = c → b = true)) : EqB X n D := by
  intro A pins s σ H x y b u v sb I rx ry d
  obtain ⟨a, c, rfl, rfl, hs⟩ := hr _ _ _ _ d
  cases rx
  cases ry
  by_cases hab : a = c
  · subst hab
    rw [hs rfl]
    exact SeqAt.EqAt.same (A := A) (s := s) (.ref a) X.prog X.w X.xe _ ⟨rfl, H, I, Ext.rfl'⟩
  · refine GQ.eqBool_refG hab (wpAny_mono (h A pins s σ H (.ref a) (.ref c) _ _ _ sb I rfl rfl d) (fun r s' q => ?_) fun _ _ x => x)
    obtain ⟨hr', q⟩ := q
    exact ⟨b, hr', rfl, q⟩
theorem eqB_list (hD : MonB D) (h : EqB X n D) : EqB X (n + 1) (DListB D) := (rcB_list (.inl rfl) hD h).eqB fun _ _ _ _ d => let ⟨a, b, _, _, hx, hy, _, _, _, q⟩ := d; ⟨a, b, hx, hy, q⟩
theorem eqB_tup (hD : MonB D) (h : EqB X n D) : EqB X (n + 1) (DTupB X.K D) := (rcB_tup (.inl rfl) hD h).eqB fun _ _ _ _ d => let ⟨a, b, _, _, hx, hy, _, _, _, q⟩ := d; ⟨a, b, hx, hy, q⟩
/-- an instance at a of the class at C with the text's own ==, and something at c whose type tells no == ahead of it -/
def DInsB (C : Addr) (T : V → Value → Hp → Prop) (R : Addr → V → Bool → Hp → Prop) : Eqb := fun x y b H => ∃ a dx fs t, x = .ref a ∧ H a = some (.ins C dx fs) ∧ T y t H ∧ R a y b H
def spEqB (R : Addr → V → Bool → Hp → Prop) : Sp := fun vs H Q _ => ∃ a y b, vs = [.ref a, y] ∧ R a y b H ∧ ∀ H', L2.Ext H H' → Q (.bl b) H'
theorem rcB_ins {CX : CXT} {C f : Addr} {fd : FuncData} {ps : List Str} {T : V → Value → Hp → Prop} {R : Addr → V → Bool → Hp → Prop} {E : XK} (F : FnOk X.prog X.w X.K X.mg X.base CX n f fd ps (spEqB R))
    (hs : PySem.W.findIn X.K (.ref C) "__eq__" = some (some (.ref f))) (hf : PySem.W.isFn X.K (.ref f) = true) (hb : Binds X.K fd ps []) (hx : Passes CX X E)
    (hT : ∀ (pins : List (Addr × Obj)) (σ : L2.St) (H : Hp) (s : Shared) (y : V) (t v : Value), Inv X pins σ H s → RelV y v → T y t H → PySem.W.Looks (model X.prog X.w) s.heap (typeOf v) t ∧ PySem.W.notFirst X.K C t = true) : RcB X n .Eq (DInsB C T R) := by
  intro A pins s σ H x y b u v sb I rx ry d
  obtain ⟨a, dx, fs, t, rfl, ha, ht, hr⟩ := d
  cases rx
  obtain ⟨lk, nf⟩ := hT pins σ H s y t v I ry ht
  obtain ⟨mA, J, _⟩ := ins_get I.hok ha
  obtain ⟨od, J, _⟩ := J.look
  obtain ⟨m, hF⟩ := I.fr
  refine PySem.W.cmp_K (op := .Eq) (tb := t) sb.room.units0 hF I.ok.mod.kin J lk nf hs hf ?_
  have hsp : spEqB R [.ref a, y] H (fun v H' => v = .bl b ∧ L2.Ext H H') E := ⟨a, y, b, rfl, hr, fun H' e => ⟨rfl, e⟩⟩
  have e0 : Env0 X.prog X.w X.K X.mg X.base A X.stack s H := by
    have e := I.env0
    exact ⟨by rw [sb.fr]; exact e.frames, e.mod, e.bs, e.bsz, e.funs, e.frf, e.hok, e.bare⟩
  have hl := F.len _ _ _ _ hsp
  have r2 : Vals [V.ref a, y] [Value.ref a, v] := .cons rfl (.cons ry .nil)
  refine wpAny_call (codeAny_mono (F.run A X.stack s H ⟨[.ref a, v], []⟩ [.ref a, v] [.ref a, y] _ E sb.room e0 (by
    have := hb s [.ref a, v] I.kIn (by simpa using hl)
    simpa using this) r2 hsp) fun r s' hq => ?_)
  cases r with
  | error e => exact hx pins σ H s e s' I hq
  | ok fl =>
    cases fl with
    | ret w =>
      obtain ⟨z, H', I', rz, ez, ex⟩ := I.after hq
      subst ez
      cases rz
      exact ⟨rfl, H', I', ex⟩
    | next => exact False.elim hq
    | brk => exact False.elim hq
    | cont => exact False.elim hq
/-- x == y, x != y as an expression -/
def rCmpB (op : CmpOp) (D : Eqb) : R2 := fun x y H Q => ∃ b, D x y b H ∧ ∀ H', L2.Ext H H' → Q (.bl (opB op b)) H'
theorem op_eqB (h : RcB X n .Eq D) (hr : Room n X.A) : OpR X (compareOp .Eq) (rCmpB .Eq D) := by
  intro pins s σ H x y v u Q I rx ry hq
  obtain ⟨b, d, q⟩ := hq
  show wpAny (model X.prog X.w) X.A (richCompare .Eq v u) (EP X pins σ Q) X.xe s
  refine wpAny_mono (h X.A pins s σ H x y b v u ⟨hr, rfl⟩ I rx ry d) (fun r s' z => ?_) fun _ _ x => x
  obtain ⟨hr', H', I', e⟩ := z
  subst hr'
  exact ⟨.bl (opB .Eq b), H', I', rfl, q H' e⟩
theorem op_neB (h : RcB X n .NotEq D) (hr : Room n X.A) : OpR X (compareOp .NotEq) (rCmpB .NotEq D) := by
  intro pins s σ H x y v u Q I rx ry hq
  obtain ⟨b, d, q⟩ := hq
  show wpAny (model X.prog X.w) X.A (richCompare .NotEq v u) (EP X pins σ Q) X.xe s
  refine wpAny_mono (h X.A pins s σ H x y b v u ⟨hr, rfl⟩ I rx ry d) (fun r s' z => ?_) fun _ _ x => x
  obtain ⟨hr', H', I', e⟩ := z
  subst hr'
  exact ⟨.bl (opB .NotEq b), H', I', rfl, q H' e⟩
end
end Oq
namespace Wx
open PySem PySem.Spec PyProof.Rows L2 Wv Ws Bk
/-! ### BadText, and the scanner's methods that may raise it -/
def sLine : Str := Str.ofString "line"
def sPlace : Str := Str.ofString "place"
def bad (ln : Int) (pl : Nat) : List (Str × V) := [(sPlace, .int (pl : Nat)), (sLine, .int ln)]
def spBT (C : Addr) : Sp := fun vs H Q _ => ∃ (a : Addr) (u v : V), vs = [.ref a, u, v] ∧ H a = some (exo a C none) ∧
  ∀ (d : Addr) (H' : Hp), H' a = some (exo a C (some d)) → H' d = some (exd d [(sPlace, v), (sLine, u)]) → H d = none → d ≠ a → (∀ b o, H b = some o → b ≠ a → H' b = some o) → Q .non H'
/-- how a text is refused: what a raise leaves -/
def Bad (H0 : Hp) (BT : Addr) (ln : Int) (pl : Nat) (E : XK) : Prop := ∀ (d : Addr) (H' : Hp), Same H0 H' → H' d = some (.xd (bad ln pl)) → E (.ref BT) (some d) H'
theorem raisedT {C : Addr} {u v : V} {H1 : Hp} {Q : XK} {E : XK} (k : ∀ (d : Addr) (H' : Hp), Same H1 H' → H' d = some (.xd [(sPlace, v), (sLine, u)]) → Q (.ref C) (some d) H') :
    ([u, v] : List V).length ≤ 1000 ∧ ∀ a, H1 a = none → spBT C (.ref a :: ([u, v] ++ [])) (upd H1 a (exo a C none))
      (fun v' H2 => v' = .non ∧ ∃ (d : Addr) (fs : List (Str × V)), H2 a = some (exo a C (some d)) ∧ H2 d = some (exd d fs) ∧ H1 d = none ∧ Q (.ref C) (some d) (upd (del H2 a) d (.xd fs))) E := by
  refine ⟨by show 2 ≤ 1000; decide, fun a ha => ⟨a, u, v, rfl, upd_same, fun d H' h1 h2 hd hne hk => ⟨rfl, d, _, h1, h2, by rw [upd_ne hne] at hd; exact hd, ?_⟩⟩⟩
  have hd' : H1 d = none := by rw [upd_ne hne] at hd; exact hd
  refine k d _ (fun b o e => ?_) upd_same
  rw [upd_ne (ne_of_none e hd'), del_ne (ne_of_none e ha)]
  exact hk b o (by rw [upd_ne (ne_of_none e ha)]; exact e) (ne_of_none e ha)
section
variable {X : Cx} {C : Addr} {k : Nat} {m : Str} {ps : List Str} {sp : Sp} {E : XK} {o : Expr} {ta : TE} {apos pos : Pos}
theorem pe_methX0 {pl : Sem Bool} (G : MxOk X.prog X.w X.K X.mg X.base C k m ps sp) (hr : Room k X.A) (hx : Passes (L2.CX X.prog X.w) X E) (he : PE X o ta)
    (ht : eval (.Call (.Attribute o m apos) [] [] pos) X.env = (do
      let ov ← eval o X.env
      standAt apos.atName
      let (f, first) ← holding [ov] (getMethod ov m pl)
      callWith pos f first (backTo pos (starEach [] X.env)) (backToKw pos (keywordEach [] X.env))) := by rfl) :
    PE X (.Call (.Attribute o m apos) [] [] pos) (tMeth C m sp [] E ta tNil) := by
  obtain ⟨f, fd, F, hm, hb⟩ := G.ex
  exact pe_meth0 he G.cl hm F hr hb .nil hx ht
end
def spRef (C BT : Addr) : Sp := fun vs H _ E => ∃ (a : Addr) (H0 : Hp) (s : Sc), vs = [.ref a] ∧ SA C H0 H a s ∧ Bad H0 BT s.ln s.pl E
def spExpX (C BT : Addr) : Sp := fun vs H Q E => ∃ (a : Addr) (H0 : Hp) (s : Sc) (c : Nat), vs = [.ref a, .str (sg c)] ∧ SA C H0 H a s ∧ (s.skip.cur = some c → ∀ H', SA C H0 H' a s.skip.go → Q .non H') ∧ (s.skip.cur ≠ some c → Bad H0 BT s.ln s.skip.pl E)
def spNameX (C BT : Addr) : Sp := fun vs H Q E => ∃ (a : Addr) (H0 : Hp) (s : Sc), vs = [.ref a] ∧ SA C H0 H a s ∧ (isL s.skip.cur = true → ∀ H', SA C H0 H' a s.skip.named → Q (.str s.skip.word) H') ∧ (isL s.skip.cur = false → Bad H0 BT s.ln s.skip.pl E)
section
variable {P : Program} {w : World} {K : PySem.W.Frag} {mg : Str → Option Value} {base : Heap} {C BT : Addr}
abbrev s_BadText_init : Stmt := inClass (top 13) 0
theorem sc_BadText_init : FnScope ["self", "line", "place"] ["self", "line", "place"] (defScope s_BadText_init) := ⟨rfl, rfl, rfl, by decide +kernel, rfl, by decide +kernel, by decide +kernel⟩
theorem ok_BadText {f : Addr} {fd : FuncData} (F : Fun K "__init__" "BadText.__init__" s_BadText_init f fd) (T : OexC K C) (n1 : PySem.W.findIn K (.ref C) "line" = some none) (n2 : PySem.W.findIn K (.ref C) "place" = some none) : FnOk P w K mg base CX0 1 f fd ["self", "line", "place"] (spBT C) := by
  refine F.ok sc_BadText_init (fun vs H Q E h => by obtain ⟨_, _, _, rfl, _⟩ := h; rfl) (fun cdv A outer s H vs Q E hr h => ?_)
  obtain ⟨a, va, vb, rfl, ha, k⟩ := h
  refine ⟨_, (pss_cons (ps_ost (pv 0) (pv 1)) (pss_one (ps_ost (pv 0) (pv 2)))), ?_⟩
  refine ⟨_, rfl, _, rfl, a, C, rfl, T, n1, .inl ⟨ha, fun d hd hne => ?_⟩⟩
  have e1 : upd (upd H d (exd d [(Str.ofString "line", va)])) a (exo a C (some d)) d = some (exd d [(Str.ofString "line", va)]) := by rw [upd_ne hne]; exact upd_same
  refine ⟨_, rfl, _, rfl, a, C, rfl, T, n2, .inr ⟨d, _, upd_same, e1, by show 1 ≤ 900; decide, ?_⟩⟩
  refine k d _ (by rw [upd_ne hne.symm]; exact upd_same) upd_same hd hne fun b o e hb => ?_
  rw [upd_ne (ne_of_none e hd), upd_ne hb, upd_ne (ne_of_none e hd)]
  exact e
abbrev s_Scan_refuse : Stmt := inClass (top 17) 3
theorem sc_Scan_refuse : FnScope ["self"] ["self"] (defScope s_Scan_refuse) := ⟨rfl, rfl, rfl, by decide +kernel, rfl, by decide +kernel, by decide +kernel⟩
theorem ok_refuse {f : Addr} {fd : FuncData} (F : Fun K "refuse" "Scan.refuse" s_Scan_refuse f fd) (T : ScF K C) (G_BadText : ExOk P w K mg base 1 "BadText" BT ["self", "line", "place"] (spBT BT)) : FnOk P w K mg base (L2.CX P w) 3 f fd ["self"] (spRef C BT) := by
  refine F.okX sc_Scan_refuse (fun vs H Q E h => by obtain ⟨_, _, _, rfl, _⟩ := h; rfl) (fun cdv A outer s' H vs Q E hr h => ?_)
  obtain ⟨a, H0, s, rfl, ⟨p, rfl, h⟩, k⟩ := h
  refine ⟨_, (pss_one (ps_raise rfl (takes_of rfl rfl rfl rfl) (pmk_ex G_BadText (hr.mono (by first | decide | omega)) rfl (pa_cons (pe_fld (pv 0) rfl) (pa_cons (pe_fld (pv 0) rfl) pa_nil))))), ?_⟩
  obtain ⟨dx, e⟩ := h.ins
  refine ⟨_, rfl, p.a, C, dx, _, _, rfl, e, T.cl, T.n2, rfl, _, rfl, p.a, C, dx, _, _, rfl, e, T.cl, T.n3, rfl, raisedT fun d H' s1 hd => ?_⟩
  exact k d H' (h.same.trans s1) hd
abbrev s_Scan_expect : Stmt := inClass (top 17) 4
theorem sc_Scan_expect : FnScope ["self", "sign"] ["self", "sign"] (defScope s_Scan_expect) := ⟨rfl, rfl, rfl, by decide +kernel, rfl, by decide +kernel, by decide +kernel⟩
theorem ok_expX {f : Addr} {fd : FuncData} (F : Fun K "expect" "Scan.expect" s_Scan_expect f fd) (T : ScF K C) (G_sign : ScOk P w K mg base C 2 "sign" ["self"] (spSign C)) (X_refuse : MxOk P w K mg base C 3 "refuse" ["self"] (spRef C BT)) : FnOk P w K mg base (L2.CX P w) 5 f fd ["self", "sign"] (spExpX C BT) := by
  refine F.okX sc_Scan_expect (fun vs H Q E h => by obtain ⟨a, _, _, _, rfl, _⟩ := h; rfl) (fun cdv A outer s' H vs Q E hr h => ?_)
  obtain ⟨a, H0, s, c, rfl, ⟨p, rfl, h⟩, k, kb⟩ := h
  refine ⟨_, (pss_cons (ps_if (pt_cmpR op_ne (pe_methS0 G_sign (hr.mono (by first | decide | omega)) (pv 0)) (pv 1) (nomark _)) (pss_one (ps_expr (pe_methX0 (E := E) X_refuse (hr.mono (by first | decide | omega)) (passes_call (takes_of rfl rfl rfl rfl) (fun _ _ _ _ h => h)) (pv 0)))) pss_nil)
  (pss_one (ps_fldaug (pv 0) pe_int in_add))), ?_⟩
  obtain ⟨dx, e⟩ := h.ins
  refine ⟨_, rfl, p.a, dx, _, rfl, e, rfl, p.a, H0, s, rfl, ⟨p, rfl, h⟩, fun H1 ⟨p1, ep, h1⟩ => ?_⟩
  rw [← ep]
  refine ⟨_, rfl, rfl, _, rfl, ?_⟩
  rw [sgn_eq]
  obtain ⟨dx1, e1⟩ := h1.ins
  by_cases hc : s.skip.cur = some c
  · rw [decide_eq_true hc]
    refine iteF ?_
    walk_at "nx"
    have hl := Sc.cur_lt hc
    refine ⟨_, rfl, p1.a, C, dx1, _, _, rfl, e1, T.cl, T.n3, rfl, _, _, rfl, rfl, dx1, _, e1, by show 7 < 1000; decide, ?_⟩
    have h2 := SA.put (dx := dx1) (fs := putF (Str.ofString "place") (.int ((s.skip.pl : Int) + 1)) (p1.fs s.skip)) h1 (s.skip.pl + 1) (by omega) (by rfl)
    exact k hc _ ⟨p1, ep, h2⟩
  · rw [decide_eq_false hc]
    refine iteT ?_
    exact ⟨_, rfl, p1.a, dx1, _, rfl, e1, rfl, p1.a, H0, s.skip, rfl, ⟨p1, rfl, h1⟩, kb hc⟩
abbrev s_Scan_read_name : Stmt := inClass (top 17) 5
theorem sc_Scan_read_name : FnScope ["self", "first"] ["self"] (defScope s_Scan_read_name) := ⟨rfl, rfl, rfl, by decide +kernel, rfl, by decide +kernel, by decide +kernel⟩
theorem ok_nameX {f : Addr} {fd : FuncData} (F : Fun K "read_name" "Scan.read_name" s_Scan_read_name f fd) (T : ScF K C) (CN : Ws.Kc mg) (G_is_letter : DefOk P w K mg base 1 "is_letter" ["sign"] spIsL) (G_sign_here : ScOk P w K mg base C 1 "sign_here" ["self"] (spHere C))
    (G_sign : ScOk P w K mg base C 2 "sign" ["self"] (spSign C)) (X_refuse : MxOk P w K mg base C 3 "refuse" ["self"] (spRef C BT)) : FnOk P w K mg base (L2.CX P w) 5 f fd ["self"] (spNameX C BT) := by
  have GC_LONGEST_NAME := CN.kN
  refine F.okX sc_Scan_read_name (fun vs H Q E h => by obtain ⟨a, _, _, rfl, _⟩ := h; rfl) (fun cdv A outer s' H vs Q E hr h => ?_)
  obtain ⟨a, H0, s, rfl, ⟨p, rfl, h⟩, k, kb⟩ := h
  refine ⟨_, (pss_cons (ps_if (pt_not (pt_val (pe_callD G_is_letter (hr.mono (by first | decide | omega)) rfl (pa_cons (pe_methS0 G_sign (hr.mono (by first | decide | omega)) (pv 0)) pa_nil)))) (pss_one (ps_expr (pe_methX0 (E := E) X_refuse (hr.mono (by first | decide | omega)) (passes_call (takes_of rfl rfl rfl rfl) (fun _ _ _ _ h => h)) (pv 0)))) pss_nil)
  (pss_cons (ps_set (i := 1) sc_Scan_read_name.nd rfl (Or.inl rfl) (pe_fld (pv 0) rfl))
  (pss_cons (ps_while (passes_of rfl) (PW.pt (pw_and (pt_val (pe_callD G_is_letter (hr.mono (by first | decide | omega)) rfl (pa_cons (pe_methS0 G_sign_here (hr.mono (by first | decide | omega)) (pv 0)) pa_nil))) (pw_and1 (pt_cmpR op_lt (pe_op op_sub (pe_fld (pv 0) rfl) (pv 1)) (pe_globI rfl GC_LONGEST_NAME) (nomark _))))) (pss_one (ps_fldaug (pv 0) pe_int in_add)))
  (pss_one (ps_ret (pe_slice sl_str (pe_fld (pv 0) rfl) (po_some (pv 1)) (po_some (pe_fld (pv 0) rfl)))))))), ?_⟩
  obtain ⟨dx, e⟩ := h.ins
  refine ⟨_, rfl, p.a, dx, _, rfl, e, rfl, p.a, H0, s, rfl, ⟨p, rfl, h⟩, fun H1 ⟨p1, ep, h1⟩ => ?_⟩
  rw [← ep]
  rw [← ep] at k
  obtain ⟨dx1, e1⟩ := h1.ins
  refine ⟨_, rfl, _, rfl, ?_⟩
  cases hc : isL s.skip.cur with
  | false =>
    refine iteT ?_
    exact ⟨_, rfl, p1.a, dx1, _, rfl, e1, rfl, p1.a, H0, s.skip, rfl, ⟨p1, rfl, h1⟩, kb hc⟩
  | true =>
  have k := k hc
  refine iteF ?_
  walk_at "nx"
  generalize s.skip = s0 at *
  refine ⟨_, rfl, p1.a, C, dx1, _, _, rfl, e1, T.cl, T.n3, rfl, ?_⟩
  refine Wv.gset ?_
  with_reducible refine st_cut (fun σ' H' => σ' = [some (.ref p1.a), some (.int (s0.pl : Nat))] ∧ ScAt C H0 H' p1 s0.named) (fun nx' go => ?_) ?_
  · refine while_r (fun m σ H' => ∃ n : Nat, σ = [some (.ref p1.a), some (.int (s0.pl : Nat))] ∧ ScAt C H0 H' p1 { s0 with pl := s0.pl + n } ∧ n ≤ 12 ∧ n + nmLen (12 - n) (s0.z.drop (s0.pl + n)) = s0.nm ∧ m = 12 - n) 12 ?_ ?_
    · exact ⟨0, rfl, h1, by omega, by show 0 + nmLen 12 _ = _; rw [Nat.zero_add]; rfl, rfl⟩
    · rintro m σ H2 ⟨n, rfl, h2, hn, en, rfl⟩
      obtain ⟨dx2, e2⟩ := h2.ins
      refine ⟨fun b H' => b = (isL ({ s0 with pl := s0.pl + n } : Sc).cur && decide (n < 12)) ∧ H' = H2, fun Q' hq => ?_, ?_⟩
      · refine ⟨_, rfl, p1.a, dx2, _, rfl, e2, rfl, p1.a, H0, _, rfl, ⟨p1, rfl, h2⟩, _, rfl, _, rfl, ?_⟩
        refine ite2 (fun t => ?_) (fun t => ?_)
        · refine ⟨_, rfl, p1.a, C, dx2, _, _, rfl, e2, T.cl, T.n3, rfl, _, rfl, _, _, rfl, rfl, _, _, rfl, rfl, _, rfl, hq _ _ ⟨?_, rfl⟩⟩
          rw [show isL ({ s0 with pl := s0.pl + n } : Sc).cur = true from t, Bool.true_and]
          have : (((s0.pl + n : Nat) : Int) - (s0.pl : Nat) < 12) ↔ n < 12 := by omega
          exact decide_eq_decide.mpr this
        · have t' : isL ({ s0 with pl := s0.pl + n } : Sc).cur = false := by simpa using t
          exact hq _ _ ⟨by rw [t']; rfl, rfl⟩
      · rintro b _ ⟨rfl, rfl⟩
        refine ite2 (fun t => ?_) (fun t => ?_)
        · rw [Bool.and_eq_true] at t
          have t1 : isL s0.z[s0.pl + n]? = true := t.1
          have t2 : n < 12 := of_decide_eq_true t.2
          have hl : s0.pl + n < s0.z.length := by
            cases q : s0.z[s0.pl + n]? with
            | none => rw [q] at t1; cases t1
            | some c => exact (List.getElem?_eq_some_iff.mp q).1
          refine ⟨_, rfl, p1.a, C, dx2, _, _, rfl, e2, T.cl, T.n3, rfl, _, _, rfl, rfl, dx2, _, e2, by show 7 < 1000; decide, ?_⟩
          have h3 := SA.put (dx := dx2) (fs := putF (Str.ofString "place") (.int (((s0.pl + n : Nat) : Int) + 1)) (p1.fs { s0 with pl := s0.pl + n })) h2 (s0.pl + n + 1) hl (by rfl)
          refine ⟨12 - (n + 1), by omega, n + 1, rfl, h3, by omega, ?_, rfl⟩
          rw [show 12 - n = (12 - (n + 1)) + 1 by omega, nmLen_more t1] at en
          rw [show s0.pl + (n + 1) = s0.pl + n + 1 by omega]
          omega
        · have e0 : nmLen (12 - n) (s0.z.drop (s0.pl + n)) = 0 := by
            apply nmLen_end
            by_cases q : n < 12
            · left
              have t' : (isL ({ s0 with pl := s0.pl + n } : Sc).cur && decide (n < 12)) = false := by simpa using t
              rw [decide_eq_true q, Bool.and_true] at t'
              exact t'
            · right; omega
          refine go _ _ ⟨rfl, ?_⟩
          have : s0.named = { s0 with pl := s0.pl + n } := by unfold Sc.named; rw [← en, e0, Nat.add_zero]
          rw [this]
          exact h2
  · rintro σ' H2 ⟨rfl, h2⟩
    obtain ⟨dx2, e2⟩ := h2.ins
    refine ⟨_, rfl, p1.a, C, dx2, _, _, rfl, e2, T.cl, T.n1, rfl, _, rfl, _, rfl, _, rfl, p1.a, C, dx2, _, _, rfl, e2, T.cl, T.n3, rfl, _, rfl, _, rfl, ?_, ?_⟩
    · have hl : (tx s0.named.z).length = s0.named.z.length := by simp [Str.length, tx]
      rw [hl]
      exact Nat.le_of_lt (small' (by have := h2.low.1; omega))
    · have hh := nmLen_le 12 (s0.z.drop s0.pl)
      rw [List.length_drop] at hh
      have hw : cutS (tx s0.named.z) (some ((s0.pl : Nat) : Int)) (some ((s0.named.pl : Nat) : Int)) = s0.word := cutn s0.z s0.pl s0.nm (by have := h1.low.2; unfold Sc.nm; omega)
      rw [hw]
      exact k _ ⟨p1, rfl, h2⟩
end
end Wx
namespace Wx
open PySem PySem.Spec PyProof.Rows L2 Wv Ws Bk
/-! ### how a reading ends -/
inductive Out where
  | ok (s : Sc)
  | bad (p : Nat)
def Out.bind (o : Out) (f : Sc → Out) : Out := match o with
  | .ok s => f s
  | .bad p => .bad p
def singleO (s : Sc) : Out :=
  if s.cur = some 46 then .ok (s.go.add 1 eS 0)
  else if s.cur = some 60 then
    if isL s.go.skip.cur = true then (if s.go.skip.named.skip.cur = some 62 then .ok (s.go.skip.named.skip.go.add 9 s.go.skip.word 0) else .bad s.go.skip.named.skip.pl) else .bad s.go.skip.pl
  else if isL s.cur = true then .ok (s.go.add 0 (sgn s.cur) 0) else .bad s.pl
def beginO : Nat → Sc → Out
  | 0, _ => .bad 0
  | f + 1, s =>
    if s.cur = some 40 then (if s.go.skip.cur = some 41 then .ok (s.go.skip.go.add 2 eS 0) else beginO f (s.go.skip.enter.skip))
    else if s.cur = some 38 then beginO f ((s.go.look 7).skip)
    else if s.cur = some 33 then beginO f ((s.go.look 8).skip)
    else singleO s
def beg (s : Sc) : Out := beginO (s.z.length + 1) s.skip
theorem single_ok {s t : Sc} (h : singleO s = .ok t) : s.single = some t := by
  unfold singleO at h
  unfold Sc.single
  split at h
  · rename_i q; rw [if_pos q]; cases h; rfl
  · rename_i q
    rw [if_neg q]
    split at h
    · rename_i q2
      rw [if_pos q2]
      split at h
      · rename_i q3
        split at h
        · rename_i q4
          rw [if_pos ⟨q3, q4⟩]
          cases h; rfl
        · cases h
      · cases h
    · rename_i q2
      rw [if_neg q2]
      split at h
      · rename_i q3; rw [if_pos q3]; cases h; rfl
      · cases h
theorem begin_ok : ∀ (f : Nat) {s t : Sc}, beginO f s = .ok t → Sc.beginK f s = some t
  | 0, s, t, h => by cases h
  | f + 1, s, t, h => by
    unfold beginO at h
    unfold Sc.beginK
    split at h
    · rename_i q
      rw [if_pos q]
      split at h
      · rename_i q2; rw [if_pos q2]; cases h; rfl
      · rename_i q2; rw [if_neg q2]; exact begin_ok f h
    · rename_i q
      rw [if_neg q]
      split at h
      · rename_i q2; rw [if_pos q2]; exact begin_ok f h
      · rename_i q2
        rw [if_neg q2]
        split at h
        · rename_i q3; rw [if_pos q3]; exact begin_ok f h
        · rename_i q3; rw [if_neg q3]; exact single_ok h
theorem beg_ok {s t : Sc} (h : beg s = .ok t) : s.begin = some t := begin_ok _ h
theorem single_pl {s t : Sc} (h : singleO s = .ok t) : s.pl < t.pl := by
  unfold singleO at h
  split at h
  · cases h; exact Nat.lt_succ_self _
  · split at h
    · split at h
      · split at h
        · cases h
          have h1 : s.pl + 1 ≤ s.go.skip.pl := Nat.le_add_right _ _
          have h2 : s.go.skip.pl ≤ s.go.skip.named.pl := Nat.le_add_right _ _
          have h3 : s.go.skip.named.pl ≤ s.go.skip.named.skip.pl := Nat.le_add_right _ _
          show s.pl < s.go.skip.named.skip.pl + 1
          omega
        · cases h
      · cases h
    · split at h
      · cases h; exact Nat.lt_succ_self _
      · cases h
theorem begin_pl : ∀ (f : Nat) {s t : Sc}, beginO f s = .ok t → s.pl < t.pl
  | 0, s, t, h => by cases h
  | f + 1, s, t, h => by
    unfold beginO at h
    split at h
    · split at h
      · cases h
        have h1 : s.pl + 1 ≤ s.go.skip.pl := Nat.le_add_right _ _
        show s.pl < s.go.skip.pl + 1
        omega
      · have := begin_pl f h
        have h1 : s.pl + 1 ≤ s.go.skip.pl := Nat.le_add_right _ _
        have h2 : s.go.skip.pl ≤ s.go.skip.enter.skip.pl := Nat.le_add_right _ _
        omega
    · split at h
      · have := begin_pl f h
        have h1 : s.pl + 1 ≤ (s.go.look 7).skip.pl := Nat.le_add_right _ _
        omega
      · split at h
        · have := begin_pl f h
          have h1 : s.pl + 1 ≤ (s.go.look 8).skip.pl := Nat.le_add_right _ _
          omega
        · exact single_pl h
theorem beg_pl {s t : Sc} (h : beg s = .ok t) : s.pl < t.pl := by
  have := begin_pl _ h
  have h1 : s.pl ≤ s.skip.pl := Nat.le_add_right _ _
  omega
/-- what is wished of an outcome -/
def Wish (C : Addr) (H0 : Hp) (a BT : Addr) (ln : Int) (Q : VK) (E : XK) : Out → Prop
  | .ok s => ∀ H', SA C H0 H' a s → Q .non H'
  | .bad p => Bad H0 BT ln p E
def spSinX (C BT : Addr) : Sp := fun vs H Q E => ∃ (a : Addr) (H0 : Hp) (s : Sc), vs = [.ref a, .str (sgn s.cur)] ∧ SA C H0 H a s ∧ s.steps.length ≤ 800000 ∧ Wish C H0 a BT s.ln Q E (singleO s)
def spBegX (C BT : Addr) : Sp := fun vs H Q E => ∃ (a : Addr) (H0 : Hp) (s : Sc), vs = [.ref a] ∧ SA C H0 H a s ∧ s.Ok ∧ s.size ≤ 500000 ∧ Wish C H0 a BT s.ln Q E (beg s)
section
variable {P : Program} {w : World} {K : PySem.W.Frag} {mg : Str → Option Value} {base : Heap} {C BT : Addr}
abbrev s_Scan_read_single : Stmt := inClass (top 17) 8
theorem sc_Scan_read_single : FnScope ["self", "sign", "name"] ["self", "sign"] (defScope s_Scan_read_single) := ⟨rfl, rfl, rfl, by decide +kernel, rfl, by decide +kernel, by decide +kernel⟩
theorem ok_sinX {f : Addr} {fd : FuncData} (F : Fun K "read_single" "Scan.read_single" s_Scan_read_single f fd) (T : ScF K C) (CN : Ws.Kc mg) (G_is_letter : DefOk P w K mg base 1 "is_letter" ["sign"] spIsL) (X_read_name : MxOk P w K mg base C 5 "read_name" ["self"] (spNameX C BT))
    (X_expect : MxOk P w K mg base C 5 "expect" ["self", "sign"] (spExpX C BT)) (X_refuse : MxOk P w K mg base C 3 "refuse" ["self"] (spRef C BT)) : FnOk P w K mg base (L2.CX P w) 6 f fd ["self", "sign"] (spSinX C BT) := by
  have GC_ONE := CN.k1
  have GC_CALL := CN.k9
  have GC_LETTER := CN.k0
  refine F.okX sc_Scan_read_single (fun vs H Q E h => by obtain ⟨a, _, _, rfl, _⟩ := h; rfl) (fun cdv A outer s' H vs Q E hr h => ?_)
  obtain ⟨a, H0, s, rfl, ⟨p, rfl, h⟩, hz, k⟩ := h
  refine ⟨_, (pss_cons (ps_if (PW.pt (pw_and (pt_not (pt_val (pe_callD G_is_letter (hr.mono (by first | decide | omega)) rfl (pa_cons (pv 1) pa_nil)))) (pw_and1 (pt_cmpR op_notIn_seq (pv 1) (pe_tup (pa_cons pe_str (pa_cons pe_str pa_nil))) (by rfl))))) (pss_one (ps_expr (pe_methX0 (E := E) X_refuse (hr.mono (by first | decide | omega)) (passes_call (takes_of rfl rfl rfl rfl) (fun _ _ _ _ h => h)) (pv 0)))) pss_nil)
  (pss_cons (ps_fldaug (pv 0) pe_int in_add)
  (pss_one (ps_if (pt_cmpR op_eq (pv 1) pe_str (nomark _)) (pss_one (ps_expr (pe_bm PySem.F.plainAttrs_list PySem.F.slot_list_append PySem.F.type_list_append mt_append (pe_fld (pv 0) rfl) (pa_cons (pe_tup (pa_cons (pe_globI rfl GC_ONE) (pa_cons pe_str (pa_cons pe_int pa_nil)))) pa_nil)))) (pss_one (ps_if (pt_cmpR op_eq (pv 1) pe_str (nomark _)) (pss_cons (ps_set (i := 2) sc_Scan_read_single.nd rfl (Or.inl rfl) (pe_methX0 (E := E) X_read_name (hr.mono (by first | decide | omega)) (passes_call (takes_of rfl rfl rfl rfl) (fun _ _ _ _ h => h)) (pv 0)))
  (pss_cons (ps_expr (pe_methX (E := E) X_expect (hr.mono (by first | decide | omega)) (passes_call (takes_of rfl rfl rfl rfl) (fun _ _ _ _ h => h)) (pv 0) (pa_cons pe_str pa_nil)))
  (pss_one (ps_expr (pe_bm PySem.F.plainAttrs_list PySem.F.slot_list_append PySem.F.type_list_append mt_append (pe_fld (pv 0) rfl) (pa_cons (pe_tup (pa_cons (pe_globI rfl GC_CALL) (pa_cons (pv 2) (pa_cons pe_int pa_nil)))) pa_nil)))))) (pss_one (ps_expr (pe_bm PySem.F.plainAttrs_list PySem.F.slot_list_append PySem.F.type_list_append mt_append (pe_fld (pv 0) rfl) (pa_cons (pe_tup (pa_cons (pe_globI rfl GC_LETTER) (pa_cons (pv 1) (pa_cons pe_int pa_nil)))) pa_nil)))))))))), ?_⟩
  obtain ⟨dx, e⟩ := h.ins
  refine st_cut (fun σ' H' => σ' = [some (.ref p.a), some (.str (sgn s.cur)), none] ∧ ScAt C H0 H' p s ∧ (isL s.cur = true ∨ s.cur = some 46 ∨ s.cur = some 60)) (fun nx' go => ?_) ?_
  · refine ⟨_, rfl, _, rfl, _, rfl, ?_⟩
    refine ite2 (fun t => ?_) (fun t => ?_)
    · have hn : isL s.cur = false := by simpa using t
      refine ⟨_, rfl, by show 2 ≤ sizeLine; decide, fun tp htp => ?_⟩
      have st := Same.new htp (.tup [.str (Str.ofString "."), .str (Str.ofString "<")])
      refine ⟨tp, _, rfl, .inr (SqT.of upd_same), rfl, by decide +kernel, ?_⟩
      rw [if_pos rfl, in_single]
      refine ⟨_, rfl, ?_⟩
      by_cases q1 : s.cur = some 46
      · rw [decide_eq_true q1]
        exact iteF (go _ _ ⟨rfl, h.of_same st, .inr (.inl q1)⟩)
      · by_cases q2 : s.cur = some 60
        · rw [decide_eq_true q2, Bool.or_true]
          exact iteF (go _ _ ⟨rfl, h.of_same st, .inr (.inr q2)⟩)
        · rw [decide_eq_false q1, decide_eq_false q2]
          refine iteT ?_
          have hb : singleO s = .bad s.pl := by
            unfold singleO
            rw [if_neg q1, if_neg q2, hn, if_neg Bool.false_ne_true]
          rw [hb] at k
          exact ⟨_, rfl, p.a, dx, _, rfl, st _ _ e, rfl, p.a, H0, s, rfl, ⟨p, rfl, h.of_same st⟩, k⟩
    · exact iteF (go _ _ ⟨rfl, h, .inl (by simpa using t)⟩)
  · rintro σ' H1 ⟨rfl, h1, hq⟩
    obtain ⟨c, hc⟩ : ∃ c, s.cur = some c := by
      cases q : s.cur with
      | some c => exact ⟨c, rfl⟩
      | none => rw [q] at hq; simp [isL] at hq
    obtain ⟨dx1, e1⟩ := h1.ins
    refine ⟨_, rfl, p.a, C, dx1, _, _, rfl, e1, T.cl, T.n3, rfl, _, _, rfl, rfl, dx1, _, e1, by show 7 < 1000; decide, ?_⟩
    have h2 := goAt (dx := dx1) h1 hc
    generalize upd H1 p.a (.ins C dx1 (putF (Str.ofString "place") (.int ((s.pl : Int) + 1)) (p.fs s))) = H2 at *
    obtain ⟨dx2, e2⟩ := h2.ins
    obtain ⟨vs0, v1, v2⟩ := h2.steps
    unfold singleO at k
    refine ⟨_, rfl, rfl, _, rfl, ?_⟩
    rw [c46, sgn_eq]
    refine ite2 (fun t => ?_) (fun t => ?_)
    · have t := of_decide_eq_true t
      rw [if_pos t] at k
      refine ⟨_, rfl, p.a, C, dx2, _, _, rfl, e2, T.cl, T.n4, rfl, .inl ⟨rfl, _, SqL.of v1⟩, by show 3 ≤ sizeLine; decide, fun r hr => ?_⟩
      obtain ⟨vs, w1, w2, w3⟩ := add_step h2 (by show s.steps.length ≤ _; omega) 1 eS 0 hr
      exact ⟨p.st, vs, _, rfl, rfl, w1, w2, k _ ⟨p, rfl, w3⟩⟩
    · have t : s.cur ≠ some 46 := fun q => t (decide_eq_true q)
      rw [if_neg t] at k
      refine ⟨_, rfl, rfl, _, rfl, ?_⟩
      rw [c60, sgn_eq]
      refine ite2 (fun t2 => ?_) (fun t2 => ?_)
      · have t2 := of_decide_eq_true t2
        rw [if_pos t2] at k
        refine ⟨_, rfl, p.a, dx2, _, rfl, e2, rfl, p.a, H0, s.go, rfl, ⟨p, rfl, h2⟩, fun q1 H3 ⟨p3, ep3, h3⟩ => ?_, fun q1 => ?_⟩
        · rw [if_pos q1] at k
          rw [← ep3]
          rw [← ep3] at k
          walk_at "nx"
          obtain ⟨dx3, e3⟩ := h3.ins
          refine ⟨_, rfl, p3.a, dx3, _, rfl, e3, rfl, p3.a, H0, s.go.skip.named, 62, ?_, ⟨p3, rfl, h3⟩, fun q2 H4 ⟨p4, ep4, h4⟩ => ?_, fun q2 => ?_⟩
          · rw [c62]; rfl
          · rw [if_pos q2] at k
            rw [← ep4]
            rw [← ep4] at k
            walk_at "nx"
            obtain ⟨dx4, e4⟩ := h4.ins
            obtain ⟨vs4, v41, v42⟩ := h4.steps
            refine ⟨_, rfl, p4.a, C, dx4, _, _, rfl, e4, T.cl, T.n4, rfl, .inl ⟨rfl, _, SqL.of v41⟩, _, rfl, by show 3 ≤ sizeLine; decide, fun r hr => ?_⟩
            obtain ⟨vs, w1, w2, w3⟩ := add_step h4 (by show s.steps.length ≤ _; omega) 9 s.go.skip.word 0 hr
            exact ⟨p4.st, vs, _, rfl, rfl, w1, w2, k _ ⟨p4, rfl, w3⟩⟩
          · rw [if_neg q2] at k
            exact k
        · rw [if_neg (by rw [q1]; exact Bool.false_ne_true)] at k
          exact k
      · have t2 : s.cur ≠ some 60 := fun q => t2 (decide_eq_true q)
        rw [if_neg t2] at k
        by_cases q : isL s.cur = true
        · rw [if_pos q] at k
          refine ⟨_, rfl, p.a, C, dx2, _, _, rfl, e2, T.cl, T.n4, rfl, .inl ⟨rfl, _, SqL.of v1⟩, _, rfl, by show 3 ≤ sizeLine; decide, fun r hr => ?_⟩
          obtain ⟨vs, w1, w2, w3⟩ := add_step h2 (by show s.steps.length ≤ _; omega) 0 (sgn s.cur) 0 hr
          exact ⟨p.st, vs, _, rfl, rfl, w1, w2, k _ ⟨p, rfl, w3⟩⟩
        · rcases hq with hq | hq | hq
          · exact absurd hq q
          · exact absurd hq t
          · exact absurd hq t2
end
end Wx
namespace Wx
open PySem PySem.Spec PyProof.Rows L2 Wv Ws Bk
/-! ### where a way begins, and the whole reading -/
section
variable {P : Program} {w : World} {K : PySem.W.Frag} {mg : Str → Option Value} {base : Heap} {C BT : Addr}
abbrev s_Scan_begin_way : Stmt := inClass (top 17) 7
theorem sc_Scan_begin_way : FnScope ["self", "sign"] ["self"] (defScope s_Scan_begin_way) := ⟨rfl, rfl, rfl, by decide +kernel, rfl, by decide +kernel, by decide +kernel⟩
theorem ok_begX {f : Addr} {fd : FuncData} (F : Fun K "begin_way" "Scan.begin_way" s_Scan_begin_way f fd) (T : ScF K C) (CN : Ws.Kc mg) (G_sign : ScOk P w K mg base C 2 "sign" ["self"] (spSign C)) (G_enter_bracket : ScOk P w K mg base C 1 "enter_bracket" ["self"] (spTo C Sc.enter))
    (X_read_single : MxOk P w K mg base C 6 "read_single" ["self", "sign"] (spSinX C BT)) : FnOk P w K mg base (L2.CX P w) 7 f fd ["self"] (spBegX C BT) := by
  have GC_NOTHING := CN.k2
  have GC_AHEAD := CN.k7
  have GC_UNLESS := CN.k8
  refine F.okX sc_Scan_begin_way (fun vs H Q E h => by obtain ⟨a, _, _, rfl, _⟩ := h; rfl) (fun cdv A outer s' H vs Q E hr h => ?_)
  obtain ⟨a, H0, s, rfl, ⟨p, rfl, h⟩, ok, hz, k⟩ := h
  refine ⟨_, (pss_cons (ps_set (i := 1) sc_Scan_begin_way.nd rfl (Or.inl rfl) (pe_methS0 G_sign (hr.mono (by first | decide | omega)) (pv 0)))
  (pss_cons (ps_while (passes_of rfl) (pt_cmpR op_in_seq (pv 1) (pe_tup (pa_cons pe_str (pa_cons pe_str (pa_cons pe_str pa_nil)))) (by rfl)) (pss_cons (ps_fldaug (pv 0) pe_int in_add)
  (pss_cons (ps_if (PW.pt (pw_and (pt_cmpR op_eq (pv 1) pe_str (nomark _)) (pw_and1 (pt_cmpR op_eq (pe_methS0 G_sign (hr.mono (by first | decide | omega)) (pv 0)) pe_str (nomark _))))) (pss_cons (ps_fldaug (pv 0) pe_int in_add)
  (pss_cons (ps_expr (pe_bm PySem.F.plainAttrs_list PySem.F.slot_list_append PySem.F.type_list_append mt_append (pe_fld (pv 0) rfl) (pa_cons (pe_tup (pa_cons (pe_globI rfl GC_NOTHING) (pa_cons pe_str (pa_cons pe_int pa_nil)))) pa_nil)))
  (pss_one ps_retN))) pss_nil)
  (pss_cons (ps_if (pt_cmpR op_eq (pv 1) pe_str (nomark _)) (pss_one (ps_expr (pe_methS0 G_enter_bracket (hr.mono (by first | decide | omega)) (pv 0)))) (pss_one (ps_expr (pe_bm PySem.F.plainAttrs_list PySem.F.slot_list_append PySem.F.type_list_append mt_append (pe_ix ix_list (pe_fld (pv 0) rfl) (pe_un un_neg pe_int) (fun _ _ => rfl)) (pa_cons (pe_ifExp (pt_cmpR op_eq (pv 1) pe_str (nomark _)) (pe_globI rfl GC_AHEAD) (pe_globI rfl GC_UNLESS)) pa_nil)))))
  (pss_one (ps_set (i := 1) sc_Scan_begin_way.nd rfl (Or.inl rfl) (pe_methS0 G_sign (hr.mono (by first | decide | omega)) (pv 0))))))))
  (pss_one (ps_expr (pe_methX (E := E) X_read_single (hr.mono (by first | decide | omega)) (passes_call (takes_of rfl rfl rfl rfl) (fun _ _ _ _ h => h)) (pv 0) (pa_cons (pv 1) pa_nil)))))), ?_⟩
  obtain ⟨dx, e⟩ := h.ins
  refine ⟨_, rfl, p.a, dx, _, rfl, e, rfl, p.a, H0, s, rfl, ⟨p, rfl, h⟩, fun H1 h1 => ?_⟩
  generalize p.a = a at *
  refine Wv.gset ?_
  have hlow := h.low
  with_reducible refine st_cut (fun σ' H' => ∃ s1 : Sc, σ' = [some (.ref a), some (.str (sgn s1.cur))] ∧ SA C H0 H' a s1 ∧ Wish C H0 a BT s1.ln Q E (singleO s1) ∧ s1.steps.length ≤ 800000) (fun nx' go => ?_) ?_
  · refine while_r (fun m σ H' => ∃ (s1 : Sc) (fu : Nat), σ = [some (.ref a), some (.str (sgn s1.cur))] ∧ SA C H0 H' a s1 ∧ Wish C H0 a BT s1.ln Q E (beginO fu s1) ∧ s1.z.length - s1.pl < fu ∧ m = s1.z.length - s1.pl ∧ s1.size ≤ 500000 + 4 * s1.pl ∧ s1.rows ≠ [] ∧ s1.many ≠ [] ∧ s1.looks ≠ []) (s.skip.z.length - s.skip.pl) ?_ ?_
    · exact ⟨s.skip, s.z.length + 1, rfl, h1, k, by show s.z.length - _ < _; omega, rfl, by show s.size ≤ _; omega, ok.r, ok.m, ok.l⟩
    · rintro m σ H2 ⟨s1, fu, rfl, ⟨p1, ep1, h2⟩, hb, hfu, rfl, hsz, nr, nm, nl⟩
      subst ep1
      refine ⟨fun b H' => b = (decide (s1.cur = some 38) || (decide (s1.cur = some 33) || decide (s1.cur = some 40))) ∧ ScAt C H0 H' p1 s1, fun Q' hq => ?_, ?_⟩
      · refine ⟨_, rfl, by show 3 ≤ sizeLine; decide, fun tp htp => ?_⟩
        have st := Same.new htp (.tup [.str (Str.ofString "&"), .str (Str.ofString "!"), .str (Str.ofString "(")])
        refine ⟨tp, _, rfl, .inr (SqT.of upd_same), rfl, by decide +kernel, ?_⟩
        rw [if_neg Bool.false_ne_true, in_begin]
        exact ⟨_, rfl, hq _ _ ⟨rfl, h2.of_same st⟩⟩
      · rintro b H3 ⟨rfl, h3⟩
        have hlow3 := h3.low
        obtain ⟨fu, rfl⟩ : ∃ g, fu = g + 1 := ⟨fu - 1, by omega⟩
        unfold beginO at hb
        refine ite2 (fun t => ?_) (fun t => ?_)
        · obtain ⟨c, hc⟩ : ∃ c, s1.cur = some c := by
            cases q : s1.cur with
            | none => rw [q] at t; exact absurd t (by decide)
            | some c => exact ⟨c, rfl⟩
          have hl := Sc.cur_lt hc
          obtain ⟨dx3, e3⟩ := h3.ins
          refine ⟨_, rfl, p1.a, C, dx3, _, _, rfl, e3, T.cl, T.n3, rfl, _, _, rfl, rfl, dx3, _, e3, by show 7 < 1000; decide, ?_⟩
          have h4 := goAt (dx := dx3) h3 hc
          generalize upd H3 p1.a (.ins C dx3 (putF (Str.ofString "place") (.int ((s1.pl : Int) + 1)) (p1.fs s1))) = H4 at *
          obtain ⟨dx4, e4⟩ := h4.ins
          have hlow4 := h4.low
          by_cases q40 : s1.cur = some 40
          · rw [if_pos q40] at hb
            walk_at "nx"
            refine ⟨_, rfl, rfl, _, rfl, ?_⟩
            rw [c40, sgn_eq, decide_eq_true q40]
            refine Ws.iteT' rfl ?_
            refine ⟨_, rfl, p1.a, dx4, _, rfl, e4, rfl, p1.a, H0, s1.go, rfl, ⟨p1, rfl, h4⟩, fun H5 ⟨p5, ep5, h5⟩ => ⟨rfl, _, rfl, ?_⟩⟩
            rw [c41, sgn_eq]
            obtain ⟨dx5, e5⟩ := h5.ins
            rw [ep5] at e5
            refine ite2 (fun t2 => ?_) (fun t2 => ?_)
            · have t2 := of_decide_eq_true t2
              rw [if_pos t2] at hb
              refine ⟨_, rfl, p1.a, C, dx5, _, _, rfl, e5, T.cl, T.n3, rfl, _, _, rfl, rfl, dx5, _, e5, by show 7 < 1000; decide, ?_⟩
              have h6 := goAt (dx := dx5) h5 t2
              rw [ep5] at h6
              obtain ⟨dx6, e6⟩ := h6.ins
              rw [ep5] at e6
              obtain ⟨vs6, v61, v62⟩ := h6.steps
              refine ⟨_, rfl, p1.a, C, dx6, _, _, rfl, e6, T.cl, T.n4, rfl, .inl ⟨rfl, _, SqL.of v61⟩, by show 3 ≤ sizeLine; decide, fun r hr => ?_⟩
              obtain ⟨vs, w1, w2, w3⟩ := add_step h6 (by show s1.steps.length ≤ _; have := size_steps s1; omega) 2 eS 0 hr
              refine ⟨p5.st, vs, _, rfl, rfl, w1, w2, ?_⟩
              exact hb _ ⟨p5, ep5, w3⟩
            · have t2 : s1.go.skip.cur ≠ some 41 := fun q => t2 (decide_eq_true q)
              rw [if_neg t2] at hb
              walk_at "nx"
              refine ⟨_, rfl, rfl, _, rfl, ?_⟩
              rw [sgn_eq, decide_eq_true q40]
              refine Ws.iteT' rfl ?_
              refine ⟨_, rfl, p1.a, dx5, _, rfl, e5, rfl, p1.a, H0, s1.go.skip, rfl, ⟨p5, ep5, h5⟩, ⟨nr, nm, nl, by show s1.size ≤ _; omega⟩, fun H6 ⟨p6, ep6, h6⟩ => ?_⟩
              obtain ⟨dx6, e6⟩ := h6.ins
              rw [ep6] at e6
              walk_at "nx"
              refine ⟨_, rfl, p1.a, dx6, _, rfl, e6, rfl, p1.a, H0, _, rfl, ⟨p6, ep6, h6⟩, fun H7 h7 => ?_⟩
              have sz : s1.go.skip.enter.size = s1.size + 3 := by
                unfold Sc.size Sc.enter Sc.skip Sc.go
                simp only [List.length_append, List.length_singleton, List.flatten_append, List.flatten_cons, List.flatten_nil, List.append_nil, List.length_nil]
                omega
              have hp1 : s1.pl + 1 ≤ s1.go.skip.enter.skip.pl := Nat.le_trans (show s1.pl + 1 ≤ s1.go.skip.pl from Nat.le_add_right _ _) (Nat.le_add_right _ _)
              refine ⟨s1.go.skip.enter.skip.z.length - s1.go.skip.enter.skip.pl, ?_, s1.go.skip.enter.skip, fu, rfl, h7, hb, ?_, rfl, ?_, by show s1.rows ++ [0] ≠ []; simp, by show s1.many ++ [0] ≠ []; simp, by show s1.looks ++ [[]] ≠ []; simp⟩
              · show s1.z.length - _ < _; omega
              · show s1.z.length - _ < _; omega
              · show s1.go.skip.enter.size ≤ _; rw [sz]; omega
          · rw [if_neg q40] at hb
            obtain ⟨kk, hk, hb⟩ : ∃ kk : Nat, (kk : Int) = (if s1.cur = some 38 then 7 else 8) ∧ Wish C H0 p1.a BT s1.ln Q E (beginO fu ((s1.go.look kk).skip)) := by
              by_cases q38 : s1.cur = some 38
              · rw [if_pos q38] at hb; exact ⟨7, by rw [if_pos q38]; rfl, hb⟩
              · rw [if_neg q38] at hb
                by_cases q33 : s1.cur = some 33
                · rw [if_pos q33] at hb; exact ⟨8, by rw [if_neg q38]; rfl, hb⟩
                · rw [decide_eq_false q38, decide_eq_false q33, decide_eq_false q40] at t; cases t
            obtain ⟨ls, l, el⟩ := snoc_of nl
            have hl4 := h4.looks.2
            rw [show s1.go.looks = ls ++ [l] from el] at hl4
            obtain ⟨us, q, eu, hu, hq⟩ := LooksAt.split _ _ _ hl4
            have hl1 := h4.looks.1
            rw [eu, List.map_append] at hl1
            walk_at "nx"
            refine ⟨_, rfl, rfl, _, rfl, ?_⟩
            rw [c40, sgn_eq, decide_eq_false q40]
            refine iteF (iteF ?_)
            walk_at "nx"
            refine ⟨_, rfl, rfl, _, rfl, ?_⟩
            rw [sgn_eq, decide_eq_false q40]
            refine iteF ?_
            refine ⟨_, rfl, p1.a, C, dx4, _, _, rfl, e4, T.cl, T.n7, rfl, _, rfl, p1.lo, _, _, _, rfl, rfl, SqL.of hl1, at_last _ _, .inl ⟨rfl, _, SqL.of hq⟩, ?_⟩
            refine withQ (E := tIf _ _ _) (fun y H' => y = .int (kk : Nat) ∧ H' = H4) (fun Q' go' => ?_) ?_
            · refine ⟨_, rfl, rfl, _, rfl, ?_⟩
              rw [c38, sgn_eq]
              refine ite2 (fun t2 => ?_) (fun t2 => ?_)
              · rw [if_pos (of_decide_eq_true t2)] at hk
                exact go' _ _ ⟨by rw [hk], rfl⟩
              · rw [if_neg (fun q => t2 (decide_eq_true q))] at hk
                exact go' _ _ ⟨by rw [hk], rfl⟩
            · rintro _ _ ⟨rfl, rfl⟩
              have fl : l.length ≤ s1.size := by
                unfold Sc.size
                rw [el, List.flatten_append]
                simp only [List.length_append, List.flatten_cons, List.flatten_nil, List.append_nil]
                omega
              refine ⟨q, _, _, rfl, rfl, hq, small' (by simp [iV]; omega), ?_⟩
              have h5 := h4.lastLook (l' := l ++ [kk]) (show s1.go.looks = ls ++ [l] from el) eu hu
              rw [iV_snoc] at h5
              have elk : s1.go.look kk = { s1.go with looks := ls ++ [l ++ [kk]] } := by
                unfold Sc.look
                rw [show s1.go.looks = ls ++ [l] from el, lastL_snoc, setLast_snoc]
              rw [← elk] at h5
              obtain ⟨dx5, e5⟩ := h5.ins
              walk_at "nx"
              refine ⟨_, rfl, p1.a, dx5, _, rfl, e5, rfl, p1.a, H0, _, rfl, ⟨p1, rfl, h5⟩, fun H7 h7 => ?_⟩
              have sz : (s1.go.look kk).size = s1.size + 1 := by
                rw [elk]
                unfold Sc.size Sc.go
                rw [el]
                simp only [List.length_append, List.length_singleton, List.flatten_append, List.flatten_cons, List.flatten_nil, List.append_nil]
                omega
              have hp1 : s1.pl + 1 ≤ (s1.go.look kk).skip.pl := Nat.le_add_right _ _
              refine ⟨(s1.go.look kk).skip.z.length - (s1.go.look kk).skip.pl, ?_, (s1.go.look kk).skip, fu, rfl, h7, hb, ?_, rfl, ?_, nr, nm, ?_⟩
              · show s1.z.length - _ < _; omega
              · show s1.z.length - _ < _; omega
              · show (s1.go.look kk).size ≤ _; rw [sz]; omega
              · show (s1.go.look kk).looks ≠ []; rw [elk]; simp
        · have nn : s1.cur ≠ some 38 ∧ s1.cur ≠ some 33 ∧ s1.cur ≠ some 40 := by
            simp only [Bool.or_eq_true, decide_eq_true_eq, not_or] at t
            exact t
          rw [if_neg nn.2.2, if_neg nn.1, if_neg nn.2.1] at hb
          exact go _ _ ⟨s1, rfl, ⟨p1, rfl, h3⟩, hb, by have := size_steps s1; omega⟩
  · rintro σ' H2 ⟨s1, rfl, ⟨p1, ep1, h2⟩, hb, hsz⟩
    obtain ⟨dx2, e2⟩ := h2.ins
    rw [ep1] at e2
    exact ⟨_, rfl, a, dx2, _, rfl, e2, rfl, _, rfl, a, H0, s1, rfl, ⟨p1, ep1, h2⟩, hsz, hb⟩
end
end Wx
namespace Wx
open PySem PySem.Spec PyProof.Rows L2 Wv Ws Bk
/-! ### the whole reading -/
def wayO : Nat → Sc → Out
  | 0, _ => .bad 0
  | f + 1, s =>
    if s.endWay.skip.cur = none ∧ s.endWay.skip.rows.length = 1 then .ok s.endWay.skip.endChoice
    else if s.endWay.skip.cur = some 41 ∧ 1 < s.endWay.skip.rows.length then wayO f s.endWay.skip.go.endChoice.leave
    else if s.endWay.skip.cur = some 47 then (beg s.endWay.skip.go.endRow).bind (wayO f)
    else (beg s.endWay.skip).bind (wayO f)
theorem single_ln {s t : Sc} (h : singleO s = .ok t) : t.ln = s.ln := by
  unfold singleO at h
  split at h
  · cases h; rfl
  · split at h
    · split at h
      · split at h
        · cases h; rfl
        · cases h
      · cases h
    · split at h
      · cases h; rfl
      · cases h
theorem begin_ln : ∀ (f : Nat) {s t : Sc}, beginO f s = .ok t → t.ln = s.ln
  | 0, s, t, h => by cases h
  | f + 1, s, t, h => by
    unfold beginO at h
    split at h
    · split at h
      · cases h; rfl
      · exact (begin_ln f h).trans rfl
    · split at h
      · exact (begin_ln f h).trans rfl
      · split at h
        · exact (begin_ln f h).trans rfl
        · exact single_ln h
theorem beg_ln {s t : Sc} (h : beg s = .ok t) : t.ln = s.ln := (begin_ln (s.z.length + 1) (s := s.skip) h).trans rfl
theorem marks_ln : ∀ (f : Nat) (s : Sc), (Sc.marksK f s).ln = s.ln ∧ s.pl ≤ (Sc.marksK f s).pl
  | 0, s => ⟨rfl, Nat.le_refl _⟩
  | f + 1, s => by
    unfold Sc.marksK
    split
    · have := marks_ln f ((s.go.add 5 eS 1).skip)
      have h1 : s.pl + 1 ≤ (s.go.add 5 eS 1).skip.pl := Nat.le_add_right _ _
      exact ⟨this.1, by omega⟩
    · split
      · have := marks_ln f ((s.go.add 6 eS 1).skip)
        have h1 : s.pl + 1 ≤ (s.go.add 6 eS 1).skip.pl := Nat.le_add_right _ _
        exact ⟨this.1, by omega⟩
      · exact ⟨rfl, Nat.le_refl _⟩
theorem endWay_ln (s : Sc) : s.endWay.ln = s.ln := (marks_ln _ s.skip).1
theorem endWay_pl (s : Sc) : s.pl ≤ s.endWay.pl := Nat.le_trans (Nat.le_add_right _ _) (marks_ln (s.z.length + 1) s.skip).2
theorem endRow_ln (s : Sc) : s.endRow.ln = s.ln := by
  show s.row1.ln = s.ln
  unfold Sc.row1
  split <;> rfl
theorem endChoice_ln (s : Sc) : s.endChoice.ln = s.ln := by
  unfold Sc.endChoice
  split <;> exact endRow_ln s
def WishW (C : Addr) (H0 : Hp) (a BT : Addr) (ln : Int) (Q : VK) (E : XK) : Out → Prop
  | .ok s => ∀ (H' : Hp) (p : At), p.a = a → ScAt C H0 H' p s → Q (.ref p.st) H'
  | .bad p => Bad H0 BT ln p E
def spWayX (C BT : Addr) : Sp := fun vs H Q E => ∃ (a : Addr) (H0 : Hp) (s : Sc) (f : Nat), vs = [.ref a] ∧ SA C H0 H a s ∧ s.Lens ∧ s.pot ≤ 100000 ∧ s.z.length - s.pl ≤ f ∧ WishW C H0 a BT s.ln Q E ((beg s).bind (wayO f))
section
variable {P : Program} {w : World} {K : PySem.W.Frag} {mg : Str → Option Value} {base : Heap} {C BT : Addr}
abbrev s_Scan_read_way : Stmt := inClass (top 17) 6
theorem sc_Scan_read_way : FnScope ["self", "sign"] ["self"] (defScope s_Scan_read_way) := ⟨rfl, rfl, rfl, by decide +kernel, rfl, by decide +kernel, by decide +kernel⟩
theorem ok_wayX {f : Addr} {fd : FuncData} (F : Fun K "read_way" "Scan.read_way" s_Scan_read_way f fd) (T : ScF K C) (B : Bs mg) (G_sign : ScOk P w K mg base C 2 "sign" ["self"] (spSign C)) (X_begin_way : MxOk P w K mg base C 7 "begin_way" ["self"] (spBegX C BT))
    (G_end_way : ScOk P w K mg base C 3 "end_way" ["self"] (spTo C Sc.endWay)) (G_end_row : ScOk P w K mg base C 1 "end_row" ["self"] (spTo C Sc.endRow)) (G_end_choice : ScOk P w K mg base C 2 "end_choice" ["self"] (spTo C Sc.endChoice))
    (G_leave_bracket : ScOk P w K mg base C 1 "leave_bracket" ["self"] (spTo C Sc.leave)) : FnOk P w K mg base (L2.CX P w) 8 f fd ["self"] (spWayX C BT) := by
  have B_len := B.len
  refine F.okX sc_Scan_read_way (fun vs H Q E h => by obtain ⟨a, _, _, _, rfl, _⟩ := h; rfl) (fun cdv A outer s' H vs Q E hr h => ?_)
  obtain ⟨a, H0, s, fu, rfl, ⟨p, ep, h⟩, hle, hpo, hfu, k⟩ := h
  refine ⟨_, (pss_cons (ps_expr (pe_methX0 (E := E) X_begin_way (hr.mono (by first | decide | omega)) (passes_call (takes_of rfl rfl rfl rfl) (fun _ _ _ _ h => h)) (pv 0)))
  (pss_one (ps_while (passes_of rfl) (pt_val pe_bl) (pss_cons (ps_expr (pe_methS0 G_end_way (hr.mono (by first | decide | omega)) (pv 0)))
  (pss_cons (ps_set (i := 1) sc_Scan_read_way.nd rfl (Or.inl rfl) (pe_methS0 G_sign (hr.mono (by first | decide | omega)) (pv 0)))
  (pss_cons (ps_if (PW.pt (pw_and (pt_cmpR op_eq (pv 1) pe_str (nomark _)) (pw_and1 (pt_cmpR op_eq (pe_callB call_len_seq rfl B_len PySem.boot_len (pa_cons (pe_fld (pv 0) rfl) pa_nil)) pe_int (nomark _))))) (pss_cons (ps_expr (pe_methS0 G_end_choice (hr.mono (by first | decide | omega)) (pv 0)))
  (pss_one (ps_ret (pe_fld (pv 0) rfl)))) pss_nil)
  (pss_one (ps_if (PW.pt (pw_and (pt_cmpR op_eq (pv 1) pe_str (nomark _)) (pw_and1 (pt_cmpR op_gt (pe_callB call_len_seq rfl B_len PySem.boot_len (pa_cons (pe_fld (pv 0) rfl) pa_nil)) pe_int (nomark _))))) (pss_cons (ps_fldaug (pv 0) pe_int in_add)
  (pss_cons (ps_expr (pe_methS0 G_end_choice (hr.mono (by first | decide | omega)) (pv 0)))
  (pss_one (ps_expr (pe_methS0 G_leave_bracket (hr.mono (by first | decide | omega)) (pv 0)))))) (pss_cons (ps_if (pt_cmpR op_eq (pv 1) pe_str (nomark _)) (pss_cons (ps_fldaug (pv 0) pe_int in_add)
  (pss_one (ps_expr (pe_methS0 G_end_row (hr.mono (by first | decide | omega)) (pv 0))))) pss_nil)
  (pss_one (ps_expr (pe_methX0 (E := E) X_begin_way (hr.mono (by first | decide | omega)) (passes_call (takes_of rfl rfl rfl rfl) (fun _ _ _ _ h => h)) (pv 0))))))))))))), ?_⟩
  obtain ⟨dx, e⟩ := h.ins
  rw [ep] at e
  have ok := hle.ok (by omega)
  refine ⟨_, rfl, a, dx, _, rfl, e, rfl, a, H0, s, rfl, ⟨p, ep, h⟩, ok.1, ok.2, ?_⟩
  cases hb : beg s with
  | bad pb => rw [hb] at k; exact k
  | ok s1 =>
  rw [hb] at k
  intro H1 h1
  have st := step_begin (beg_ok hb)
  have hle1 := st.l hle
  have hpo1 : s1.pot ≤ 100000 := Nat.le_trans (st.q hle) hpo
  have hf1 : s1.z.length - s1.pl < fu := by have := beg_pl hb; have := hle1.p; rw [st.z] at *; omega
  have hn1 := beg_ln hb
  refine while_r (fun m σ H' => ∃ (s2 : Sc) (x1 : Option V), σ = [some (.ref a), x1] ∧ SA C H0 H' a s2 ∧ s2.Lens ∧ s2.pot ≤ 100000 ∧ s2.ln = s.ln ∧ s2.z.length - s2.pl < m ∧ WishW C H0 a BT s.ln Q E (wayO m s2)) fu ⟨s1, none, rfl, h1, hle1, hpo1, hn1, hf1, k⟩ ?_
  rintro m σ H2 ⟨s2, x1, rfl, ⟨p2, ep2, h2⟩, hle2, hpo2, hn2, hf2, hw2⟩
  refine ⟨fun b H' => b = true ∧ H' = H2, fun Q' hq => ⟨_, rfl, hq _ _ ⟨rfl, rfl⟩⟩, ?_⟩
  rintro b _ ⟨rfl, rfl⟩
  refine Ws.iteT' rfl ?_
  cases m with
  | zero => exact absurd hf2 (Nat.not_lt_zero _)
  | succ m =>
    unfold wayO at hw2
    have ok2 := (hle2.ok (by omega)).1
    obtain ⟨dx2, e2⟩ := h2.ins
    rw [ep2] at e2
    refine ⟨_, rfl, a, dx2, _, rfl, e2, rfl, a, H0, s2, rfl, ⟨p2, ep2, h2⟩, ok2, fun H3 ⟨p3, ep3, h3⟩ => ?_⟩
    obtain ⟨dx3, e3⟩ := h3.ins
    rw [ep3] at e3
    walk_at "nx"
    refine ⟨_, rfl, a, dx3, _, rfl, e3, rfl, a, H0, s2.endWay, rfl, ⟨p3, ep3, h3⟩, fun H4 ⟨p4, ep4, h4⟩ => ?_⟩
    have st4 := (step_endWay s2).trans (step_skip _)
    have hle4 := st4.l hle2
    have hpo4 : s2.endWay.skip.pot ≤ 100000 := Nat.le_trans (st4.q hle2) hpo2
    have hn4 : s2.endWay.skip.ln = s.ln := (endWay_ln s2).trans hn2
    have hf4 : s2.endWay.skip.z.length - s2.endWay.skip.pl ≤ m := by
      have := endWay_pl s2
      have h1 : s2.endWay.pl ≤ s2.endWay.skip.pl := Nat.le_add_right _ _
      rw [st4.z]; omega
    generalize s2.endWay.skip = s4 at *
    obtain ⟨dx4, e4⟩ := h4.ins
    rw [ep4] at e4
    have hl4 : ((iV s4.rows).length : Nat) = s4.rows.length := iV_len _
    have ok4 := hle4.ok (by omega)
    refine Wv.gset ?_
    -- the end of the text
    with_reducible refine st_cut (fun σ' H' => σ' = [some (.ref a), some (.str (sgn s4.cur))] ∧ H' = H4 ∧ ¬ (s4.cur = none ∧ s4.rows.length = 1)) (fun nx' go => ?_) ?_
    · refine ⟨_, rfl, rfl, _, rfl, ?_⟩
      rw [sgn_nil]
      refine ite2 (fun t1 => ?_) (fun t1 => ?_)
      · have t1 := of_decide_eq_true t1
        refine ⟨_, rfl, a, C, dx4, _, _, rfl, e4, T.cl, T.n5, rfl, p4.ro, _, rfl, .inl (SqL.of h4.rows), rfl, _, rfl, ?_⟩
        rw [hl4]
        refine ite2 (fun t2 => ?_) (fun t2 => ?_)
        · have t2 : s4.rows.length = 1 := by have := Ws.dec_t t2; omega
          rw [if_pos ⟨t1, t2⟩] at hw2
          refine ⟨_, rfl, a, dx4, _, rfl, e4, rfl, a, H0, s4, rfl, ⟨p4, ep4, h4⟩, ok4.1, fun H5 ⟨p5, ep5, h5⟩ => ?_⟩
          obtain ⟨dx5, e5⟩ := h5.ins
          rw [ep5] at e5
          exact ⟨_, rfl, a, C, dx5, _, _, rfl, e5, T.cl, T.n4, rfl, hw2 H5 p5 ep5 h5⟩
        · refine go _ _ ⟨rfl, rfl, fun q => t2 (decide_eq_true ?_)⟩
          rw [q.2]; rfl
      · exact iteF (go _ _ ⟨rfl, rfl, fun q => t1 (decide_eq_true q.1)⟩)
    · rintro σ' H4 ⟨rfl, rfl, n1⟩
      rw [if_neg n1] at hw2
      -- the end of a bracket
      by_cases q41 : s4.cur = some 41 ∧ 1 < s4.rows.length
      · rw [if_pos q41] at hw2
        refine ⟨_, rfl, rfl, _, rfl, ?_⟩
        rw [c41, sgn_eq, decide_eq_true q41.1]
        refine Ws.iteT' rfl ?_
        refine ⟨_, rfl, a, C, dx4, _, _, rfl, e4, T.cl, T.n5, rfl, p4.ro, _, rfl, .inl (SqL.of h4.rows), _, _, rfl, rfl, _, rfl, ?_⟩
        rw [hl4]
        refine ite2 (fun t2 => ?_) (fun t2 => absurd (decide_eq_true (show (1 : Int) < (s4.rows.length : Nat) by omega)) t2)
        refine ⟨_, rfl, a, C, dx4, _, _, rfl, e4, T.cl, T.n3, rfl, _, _, rfl, rfl, dx4, _, e4, by show 7 < 1000; decide, ?_⟩
        have h5 := goAt (dx := dx4) h4 q41.1
        rw [ep4] at h5
        obtain ⟨dx5, e5⟩ := h5.ins
        rw [ep4] at e5
        have pg := pot_go q41.1
        have hle5 := pg.2 hle4
        have ok5 := hle5.ok (by omega)
        refine ⟨_, rfl, a, dx5, _, rfl, e5, rfl, a, H0, s4.go, rfl, ⟨p4, ep4, h5⟩, ok5.1, fun H6 ⟨p6, ep6, h6⟩ => ?_⟩
        obtain ⟨dx6, e6⟩ := h6.ins
        rw [ep6] at e6
        have st6 := step_endChoice s4.go
        have hle6 := st6.l hle5
        have hpo6 := st6.q hle5
        have ok6 := hle6.ok (by omega)
        have hr6 : 1 < s4.go.endChoice.rows.length := by
          have e1 : (setLast s4.go.row1.rows (lastD s4.go.row1.rows + 1)).length = s4.go.row1.rows.length := by
            refine len_setLast ?_ _
            unfold Sc.row1; split <;> exact hle4.r
          have e2 : s4.go.row1.rows = s4.rows := by unfold Sc.row1; split <;> rfl
          have e3 : s4.go.endRow.rows.length = s4.rows.length := by
            show (setLast s4.go.row1.rows (lastD s4.go.row1.rows + 1)).length = _
            rw [e1, e2]
          have e4 : s4.go.endChoice.rows = s4.go.endRow.rows := by unfold Sc.endChoice; split <;> rfl
          rw [e4, e3]
          exact q41.2
        refine ⟨_, rfl, a, dx6, _, rfl, e6, rfl, a, H0, _, rfl, ⟨p6, ep6, h6⟩, ok6.1, fun H7 h7 => ?_⟩
        have st7 := step_leave hr6
        have hpo7 := st7.q hle6
        have hl4' := Sc.cur_lt q41.1
        refine ⟨m, Nat.lt_succ_self _, _, _, rfl, h7, st7.l hle6, by omega, (endChoice_ln s4.go).trans hn4, ?_, hw2⟩
        have ep := choice_place s4.go
        show s4.go.endChoice.z.length - s4.go.endChoice.pl < m
        rw [ep.1, ep.2]
        show s4.z.length - (s4.pl + 1) < m
        omega
      · rw [if_neg q41] at hw2
        have rest : ∀ (H5 : Hp) (s5 : Sc), SA C H0 H5 a s5 → s5.Lens → s5.pot ≤ 100000 → s5.ln = s.ln → s5.z.length - s5.pl ≤ m → WishW C H0 a BT s.ln Q E ((beg s5).bind (wayO m)) → tDrop (tMeth C (Str.ofString "begin_way") (spBegX C BT) [] E (tVar 0) tNil) { nx := fun σ' H' => ∃ m', m' < m + 1 ∧ ∃ (s2 : Sc) (x1 : Option V), σ' = [some (.ref a), x1] ∧ SA C H0 H' a s2 ∧ s2.Lens ∧ s2.pot ≤ 100000 ∧ s2.ln = s.ln ∧ s2.z.length - s2.pl < m' ∧ WishW C H0 a BT s.ln Q E (wayO m' s2), rt := Q, ct := fun σ' H' => ∃ m', m' < m + 1 ∧ ∃ (s2 : Sc) (x1 : Option V), σ' = [some (.ref a), x1] ∧ SA C H0 H' a s2 ∧ s2.Lens ∧ s2.pot ≤ 100000 ∧ s2.ln = s.ln ∧ s2.z.length - s2.pl < m' ∧ WishW C H0 a BT s.ln Q E (wayO m' s2), bk := fun x H' => Q V.non H' } [some (.ref a), some (.str (sgn s4.cur))] H5 := by
          rintro H5 s5 ⟨p5, ep5, h5⟩ hle5 hpo5 hn5 hf5 hw5
          obtain ⟨dx5, e5⟩ := h5.ins
          rw [ep5] at e5
          have ok5 := hle5.ok (by omega)
          refine ⟨_, rfl, a, dx5, _, rfl, e5, rfl, a, H0, s5, rfl, ⟨p5, ep5, h5⟩, ok5.1, ok5.2, ?_⟩
          rw [hn5]
          cases hb5 : beg s5 with
          | bad pb => rw [hb5] at hw5; exact hw5
          | ok s6 =>
          rw [hb5] at hw5
          intro H6 h6
          have st6 := step_begin (beg_ok hb5)
          have hle6 := st6.l hle5
          refine ⟨m, Nat.lt_succ_self _, s6, _, rfl, h6, hle6, Nat.le_trans (st6.q hle5) hpo5, (beg_ln hb5).trans hn5, ?_, hw5⟩
          have := beg_pl hb5; have := hle6.p; rw [st6.z] at *; omega
        refine withB (E := tAnd _ _) (fun b H' => b = false ∧ H' = H4) (fun Q' go => ?_) ?_
        · refine ⟨_, rfl, rfl, _, rfl, ?_⟩
          rw [c41, sgn_eq]
          refine ite2 (fun t1 => ?_) (fun _ => go _ _ ⟨rfl, rfl⟩)
          have t1 := of_decide_eq_true t1
          refine ⟨_, rfl, a, C, dx4, _, _, rfl, e4, T.cl, T.n5, rfl, p4.ro, _, rfl, .inl (SqL.of h4.rows), _, _, rfl, rfl, _, rfl, go _ _ ⟨?_, rfl⟩⟩
          rw [hl4]
          refine decide_eq_false fun q => q41 ⟨t1, by omega⟩
        rintro _ H4 ⟨rfl, rfl⟩
        refine iteF ?_
        by_cases q47 : s4.cur = some 47
        · rw [if_pos q47] at hw2
          refine ⟨_, rfl, rfl, _, rfl, ?_⟩
          rw [c47, sgn_eq, decide_eq_true q47]
          refine Ws.iteT' rfl ?_
          refine ⟨_, rfl, a, C, dx4, _, _, rfl, e4, T.cl, T.n3, rfl, _, _, rfl, rfl, dx4, _, e4, by show 7 < 1000; decide, ?_⟩
          have h5 := goAt (dx := dx4) h4 q47
          rw [ep4] at h5
          obtain ⟨dx5, e5⟩ := h5.ins
          rw [ep4] at e5
          have pg := pot_go q47
          have hle5 := pg.2 hle4
          have ok5 := hle5.ok (by omega)
          refine ⟨_, rfl, a, dx5, _, rfl, e5, rfl, a, H0, s4.go, rfl, ⟨p4, ep4, h5⟩, ok5.1, fun H6 h6 => ?_⟩
          have st6 := step_endRow s4.go
          have hpo6 := st6.q hle5
          have er := row1_place s4.go
          refine rest H6 _ h6 (st6.l hle5) (by omega) ((endRow_ln s4.go).trans hn4) ?_ hw2
          show s4.go.row1.z.length - s4.go.row1.pl ≤ m
          rw [er.1, er.2]
          show s4.z.length - (s4.pl + 1) ≤ m
          omega
        · rw [if_neg q47] at hw2
          refine ⟨_, rfl, rfl, _, rfl, ?_⟩
          rw [c47, sgn_eq, decide_eq_false q47]
          exact iteF (rest H4 _ ⟨p4, ep4, h4⟩ hle4 hpo4 hn4 hf4 hw2)
end
end Wx
/-! the law's reading as a function, and that the scanner ends as it tells: pure facts -/
namespace Wx
open PySem PySem.Spec PyProof.Rows L2 Wv Ws
/-- the place of the next sign that is no space -/
def sk (z : List Nat) (i : Nat) : Nat := i + blanks (z.drop i)
def nl (z : List Nat) (i : Nat) : Nat := i + nmLen 12 (z.drop i)
inductive Rd where
  | ok (w : W) (e : Nat)
  | bad (p : Nat)
def one1 (o : Option Nat) : Bool := isL o || decide (o = some 46) || decide (o = some 60) || decide (o = some 40)
def begins (o : Option Nat) : Bool := one1 o || decide (o = some 38) || decide (o = some 33)
def rdCall (z : List Nat) (i : Nat) : Rd :=
  if nmLen 12 (z.drop i) = 0 then .bad i
  else if isL z[nl z i]? = true then .bad (nl z i)
  else if z[sk z (nl z i)]? = some 62 then .ok (.call (tx ((z.drop i).take (nmLen 12 (z.drop i))))) (sk z (nl z i) + 1) else .bad (sk z (nl z i))
def rdMarks : Nat → List Nat → W → Nat → W × Nat
  | 0, _, w, i => (w, i)
  | f + 1, z, w, i => if z[sk z i]? = some 42 then rdMarks f z (.again w) (sk z i + 1) else if z[sk z i]? = some 63 then rdMarks f z (.maybe w) (sk z i + 1) else (w, i)
def rowOf (ws : List W) : W := match ws with | [w] => w | ws => .row ws
def choiceOf (ws : List W) : W := match ws with | [w] => w | ws => .choice ws
mutual
def rdOne : Nat → List Nat → Nat → Option Rd
  | 0, _, _ => none
  | n + 1, z, i =>
    if one1 z[i]? = false then some (.bad i)
    else if z[i]? = some 60 then some (rdCall z (sk z (i + 1)))
    else if z[i]? ≠ some 40 then some (.ok (if z[i]? = some 46 then .one else .letter (z[i]?.getD 0)) (i + 1))
    else if z[sk z (i + 1)]? = some 41 then some (.ok .nothing (sk z (i + 1) + 1))
    else match rdCh n z (sk z (i + 1)) [] with
      | none => none
      | some (.bad p) => some (.bad p)
      | some (.ok w e) => some (if z[sk z e]? = some 41 then .ok w (sk z e + 1) else .bad (sk z e))
def rdLook : Nat → List Nat → Nat → Option Rd
  | 0, _, _ => none
  | n + 1, z, i =>
    if z[sk z i]? = some 38 then (match rdLook n z (sk z i + 1) with
      | none => none
      | some (.bad p) => some (.bad p)
      | some (.ok w e) => some (.ok (.ahead w) e))
    else if z[sk z i]? = some 33 then (match rdLook n z (sk z i + 1) with
      | none => none
      | some (.bad p) => some (.bad p)
      | some (.ok w e) => some (.ok (.unless w) e))
    else match rdOne n z (sk z i) with
      | none => none
      | some (.bad p) => some (.bad p)
      | some (.ok w e) => some (.ok (rdMarks (z.length + 1) z w e).1 (rdMarks (z.length + 1) z w e).2)
def rdRow : Nat → List Nat → Nat → List W → Option Rd
  | 0, _, _, _ => none
  | n + 1, z, i, ws =>
    if ws ≠ [] ∧ begins z[sk z i]? = false then some (.ok (rowOf ws) (sk z i))
    else match rdLook n z (sk z i) with
      | none => none
      | some (.bad p) => some (.bad p)
      | some (.ok w e) => rdRow n z e (ws ++ [w])
def rdCh : Nat → List Nat → Nat → List W → Option Rd
  | 0, _, _, _ => none
  | n + 1, z, i, ws => match rdRow n z i [] with
    | none => none
    | some (.bad p) => some (.bad p)
    | some (.ok w e) => if z[sk z e]? = some 47 then rdCh n z (sk z e + 1) (ws ++ [w]) else some (.ok (choiceOf (ws ++ [w])) (sk z e))
end
theorem sk_sk (z : List Nat) (i : Nat) : sk z (sk z i) = sk z i := by
  have h : blanks (z.drop (i + blanks (z.drop i))) = 0 := by rw [← List.drop_drop]; exact blanks_drop _
  show i + blanks (z.drop i) + blanks (z.drop (i + blanks (z.drop i))) = _
  rw [h]; rfl
theorem sk_le (z : List Nat) (i : Nat) : i ≤ sk z i := Nat.le_add_right _ _
/-! ### the scanner's beginning by equations -/
theorem beginO_more : ∀ (f g : Nat) (s : Sc), s.z.length - s.pl < f → s.z.length - s.pl < g → beginO f s = beginO g s
  | 0, _, _, h, _ => by omega
  | _ + 1, 0, _, _, h => by omega
  | f + 1, g + 1, s, hf, hg => by
    unfold beginO
    by_cases q : s.cur = some 40
    · rw [if_pos q, if_pos q]
      have := Sc.cur_lt q
      have h1 : s.pl + 1 ≤ s.go.skip.enter.skip.pl := Nat.le_trans (show s.pl + 1 ≤ s.go.skip.pl from Nat.le_add_right _ _) (Nat.le_add_right _ _)
      rw [beginO_more f g s.go.skip.enter.skip (by show s.z.length - _ < f; omega) (by show s.z.length - _ < g; omega)]
    · rw [if_neg q, if_neg q]
      by_cases q2 : s.cur = some 38
      · rw [if_pos q2, if_pos q2]
        have := Sc.cur_lt q2
        have h1 : s.pl + 1 ≤ (s.go.look 7).skip.pl := Nat.le_add_right _ _
        exact beginO_more f g _ (by show s.z.length - _ < f; omega) (by show s.z.length - _ < g; omega)
      · rw [if_neg q2, if_neg q2]
        by_cases q3 : s.cur = some 33
        · rw [if_pos q3, if_pos q3]
          have := Sc.cur_lt q3
          have h1 : s.pl + 1 ≤ (s.go.look 8).skip.pl := Nat.le_add_right _ _
          exact beginO_more f g _ (by show s.z.length - _ < f; omega) (by show s.z.length - _ < g; omega)
        · rw [if_neg q3, if_neg q3]
theorem beg_open {s : Sc} (hc : s.skip.cur = some 40) (hn : s.skip.go.skip.cur ≠ some 41) : beg s = beg s.skip.go.skip.enter := by
  have := Sc.cur_lt hc
  have h1 : s.skip.pl + 1 ≤ s.skip.go.skip.enter.skip.pl := Nat.le_trans (show s.skip.pl + 1 ≤ s.skip.go.skip.pl from Nat.le_add_right _ _) (Nat.le_add_right _ _)
  have h2 : s.skip.z.length = s.z.length := rfl
  show beginO (s.z.length + 1) s.skip = _
  rw [beginO, if_pos hc, if_neg hn]
  exact beginO_more _ _ _ (by show s.z.length - _ < _; omega) (by show s.z.length - _ < s.z.length + 1; omega)
theorem beg_none {s : Sc} (hc : s.skip.cur = some 40) (hn : s.skip.go.skip.cur = some 41) : beg s = .ok (s.skip.go.skip.go.add 2 eS 0) := by
  show beginO (s.z.length + 1) s.skip = _
  rw [beginO, if_pos hc, if_pos hn]
theorem beg_look7 {s : Sc} (hc : s.skip.cur = some 38) : beg s = beg (s.skip.go.look 7) := by
  have := Sc.cur_lt hc
  have h1 : s.skip.pl + 1 ≤ (s.skip.go.look 7).skip.pl := Nat.le_add_right _ _
  have h2 : s.skip.z.length = s.z.length := rfl
  show beginO (s.z.length + 1) s.skip = _
  rw [beginO, if_neg (by rw [hc]; decide), if_pos hc]
  exact beginO_more _ _ _ (by show s.z.length - _ < _; omega) (by show s.z.length - _ < s.z.length + 1; omega)
theorem beg_look8 {s : Sc} (hc : s.skip.cur = some 33) : beg s = beg (s.skip.go.look 8) := by
  have := Sc.cur_lt hc
  have h1 : s.skip.pl + 1 ≤ (s.skip.go.look 8).skip.pl := Nat.le_add_right _ _
  have h2 : s.skip.z.length = s.z.length := rfl
  show beginO (s.z.length + 1) s.skip = _
  rw [beginO, if_neg (by rw [hc]; decide), if_neg (by rw [hc]; decide), if_pos hc]
  exact beginO_more _ _ _ (by show s.z.length - _ < _; omega) (by show s.z.length - _ < s.z.length + 1; omega)
theorem beg_single {s : Sc} (h1 : s.skip.cur ≠ some 40) (h2 : s.skip.cur ≠ some 38) (h3 : s.skip.cur ≠ some 33) : beg s = singleO s.skip := by
  show beginO (s.z.length + 1) s.skip = _
  rw [beginO, if_neg h1, if_neg h2, if_neg h3]
theorem begins_no {o : Option Nat} (h : begins o = false) : isL o = false ∧ o ≠ some 46 ∧ o ≠ some 60 ∧ o ≠ some 40 ∧ o ≠ some 38 ∧ o ≠ some 33 := by
  unfold begins one1 at h
  simp only [Bool.or_eq_false_iff, decide_eq_false_iff_not] at h
  exact ⟨h.1.1.1.1.1, h.1.1.1.1.2, h.1.1.1.2, h.1.1.2, h.1.2, h.2⟩
theorem beg_bad {s : Sc} (h : begins s.skip.cur = false) : beg s = .bad s.skip.pl := by
  obtain ⟨h1, h2, h3, h4, h5, h6⟩ := begins_no h
  rw [beg_single h4 h5 h6]
  unfold singleO
  rw [if_neg h2, if_neg h3, h1, if_neg Bool.false_ne_true]
/-! ### from here on: what the scanner ends with -/
def tailO (f : Nat) (s : Sc) : Out :=
  if s.cur = none ∧ s.rows.length = 1 then .ok s.endChoice
  else if s.cur = some 41 ∧ 1 < s.rows.length then wayO f s.go.endChoice.leave
  else if s.cur = some 47 then (beg s.go.endRow).bind (wayO f)
  else (beg s).bind (wayO f)
def GoO (s : Sc) (t : Out → Prop) : Prop := ∃ f0, ∀ f, f0 ≤ f → t (wayO f s)
def BeO (s : Sc) (t : Out → Prop) : Prop := ∃ f0, ∀ f, f0 ≤ f → t ((beg s).bind (wayO f))
def AfO (s : Sc) (t : Out → Prop) : Prop := ∃ f0, ∀ f, f0 ≤ f → t (tailO f s)
variable {s : Sc} {t : Out → Prop} {z R M : List Nat} {L : List (List Nat)} {S : List Stp}
theorem go_ofO (h : AfO s.endWay.skip t) : GoO s t := by
  obtain ⟨f0, h⟩ := h
  refine ⟨f0 + 1, fun f hf => ?_⟩
  obtain ⟨g, rfl⟩ : ∃ g, f = g + 1 := ⟨f - 1, by omega⟩
  exact h g (by omega)
theorem be_ok {s1 : Sc} (e : beg s = .ok s1) (h : GoO s1 t) : BeO s t := by
  obtain ⟨f0, h⟩ := h
  exact ⟨f0, fun f hf => by rw [e]; exact h f hf⟩
theorem be_bad {p : Nat} (e : beg s = .bad p) (h : t (.bad p)) : BeO s t := ⟨0, fun f _ => by rw [e]; exact h⟩
theorem be_to {s1 : Sc} (e : beg s = beg s1) (h : BeO s1 t) : BeO s t := by
  obtain ⟨f0, h⟩ := h
  exact ⟨f0, fun f hf => by rw [e]; exact h f hf⟩
/-- no right sign stands here -/
theorem af_bad (hs : s.skip = s) (hb : begins s.cur = false) (h47 : s.cur ≠ some 47) (h41 : s.cur = some 41 → s.rows.length = 1) (hn : s.cur = none → s.rows.length ≠ 1) (h : t (.bad s.pl)) : AfO s t := by
  refine ⟨0, fun f _ => ?_⟩
  unfold tailO
  rw [if_neg (fun q => hn q.1 q.2), if_neg (fun q => by have := h41 q.1; omega), if_neg h47, beg_bad (by rw [hs]; exact hb), hs]
  exact h
theorem af_more (hb : begins s.cur = true) (h : BeO s t) : AfO s t := by
  obtain ⟨f0, h⟩ := h
  refine ⟨f0, fun f hf => ?_⟩
  have hne : ∀ c, begins (some c) = false → s.cur ≠ some c := fun c hc e => by rw [e, hc] at hb; cases hb
  unfold tailO
  rw [if_neg (fun q => by rw [q.1] at hb; exact absurd hb (by decide)), if_neg (fun q => hne 41 (by decide) q.1), if_neg (hne 47 (by decide))]
  exact h f hf
theorem posts_app : ∀ (a b : List W), posts (a ++ b) = posts a ++ posts b
  | [], b => rfl
  | w :: a, b => by
    show post w ++ posts (a ++ b) = (post w ++ posts a) ++ posts b
    rw [posts_app a b, List.append_assoc]
theorem posts_snoc (ws : List W) (w : W) : posts (ws ++ [w]) = posts ws ++ post w := by
  rw [posts_app]
  show _ ++ (post w ++ []) = _
  rw [List.append_nil]
def rowfin (m : Nat) (X : List Stp) : List Stp := X ++ (if 1 < m then [(3, eS, m)] else [])
theorem row_fin {ws : List W} (h : ws ≠ []) : rowfin ws.length (S ++ posts ws) = S ++ post (rowOf ws) := by
  unfold rowfin rowOf
  match ws with
  | [] => exact absurd rfl h
  | [w] => rw [if_neg (by simp)]; show _ ++ (post w ++ []) ++ [] = _; simp
  | a :: b :: r => rw [if_pos (by simp)]; show _ = S ++ (posts (a :: b :: r) ++ [(3, eS, (a :: b :: r).length)]); rw [List.append_assoc]
theorem choice_fin {ws : List W} {w : W} : (S ++ posts ws ++ post w) ++ (if 1 < ws.length + 1 then [(4, eS, ws.length + 1)] else []) = S ++ post (choiceOf (ws ++ [w])) := by
  unfold choiceOf
  match ws with
  | [] => rw [if_neg (by simp)]; show (S ++ [] ++ post w) ++ [] = _; simp
  | [a] => rw [if_pos (by simp)]; show _ = S ++ (posts [a, w] ++ [(4, eS, 2)]); show (S ++ (post a ++ []) ++ post w) ++ _ = S ++ ((post a ++ (post w ++ [])) ++ _); simp
  | a :: b :: r =>
    rw [if_pos (by simp)]
    show _ = S ++ (posts (a :: b :: r ++ [w]) ++ [(4, eS, (a :: b :: r ++ [w]).length)])
    rw [posts_snoc]
    simp [List.length_append]
/-- marks behind a way -/
theorem simMarks : ∀ (f : Nat) (w : W) (i : Nat) (s : Sc), St s z R M L (S ++ post w) → s.pl = i → St (Sc.marksK f s.skip) z R M L (S ++ post (rdMarks f z w i).1) ∧ (Sc.marksK f s.skip).pl = sk z (rdMarks f z w i).2
  | 0, w, i, s, h, hp => by
    refine ⟨h.skip, ?_⟩
    show s.pl + blanks (s.z.drop s.pl) = _
    rw [h.z, hp]; rfl
  | f + 1, w, i, s, h, hp => by
    have hk : s.skip.pl = sk z i := by show s.pl + blanks (s.z.drop s.pl) = _; rw [h.z, hp]; rfl
    have hc : s.skip.cur = z[sk z i]? := by show s.z[s.skip.pl]? = _; rw [h.z, hk]
    unfold Sc.marksK rdMarks
    rw [hc]
    by_cases q1 : z[sk z i]? = some 42
    · rw [if_pos q1, if_pos q1]
      have h2 : St (s.skip.go.add 5 eS 1) z R M L (S ++ post (.again w)) := by
        have := h.skip.go.add 5 eS 1
        rw [List.append_assoc] at this
        exact this
      exact simMarks f (.again w) _ _ h2 (by show s.skip.pl + 1 = _; rw [hk])
    · rw [if_neg q1, if_neg q1]
      by_cases q2 : z[sk z i]? = some 63
      · rw [if_pos q2, if_pos q2]
        have h2 : St (s.skip.go.add 6 eS 1) z R M L (S ++ post (.maybe w)) := by
          have := h.skip.go.add 6 eS 1
          rw [List.append_assoc] at this
          exact this
        exact simMarks f (.maybe w) _ _ h2 (by show s.skip.pl + 1 = _; rw [hk])
      · rw [if_neg q2, if_neg q2]
        exact ⟨h.skip, hk⟩
theorem simEnd {w : W} {i m : Nat} {ls : List Nat} (h : St s z R (M ++ [m]) (L ++ [ls]) (S ++ post w)) (hp : s.pl = i) :
    St s.endWay.skip z R (M ++ [m + 1]) (L ++ [[]]) (S ++ post (rdMarks (z.length + 1) z w i).1 ++ ls.reverse.map (fun k => (k, eS, 1))) ∧ s.endWay.skip.pl = sk z (rdMarks (z.length + 1) z w i).2 := by
  have hz : s.z.length = z.length := by rw [h.z]
  obtain ⟨h1, h2⟩ := simMarks (s.z.length + 1) w i s h hp
  have e2 : s.endWay = s.marks.fin := rfl
  have e1 : s.marks = Sc.marksK (s.z.length + 1) s.skip := rfl
  rw [e2, e1]
  rw [hz] at *
  generalize Sc.marksK (z.length + 1) s.skip = u at *
  refine ⟨⟨h1.z, h1.r, by show setLast u.many (lastD u.many + 1) = _; rw [h1.m, lastD_snoc, setLast_snoc], by show setLast u.looks [] = _; rw [h1.l, setLast_snoc],
    by show u.steps ++ (lastL u.looks).reverse.map _ = _; rw [h1.s, h1.l, lastL_snoc]⟩, ?_⟩
  show u.pl + blanks (u.z.drop u.pl) = _
  rw [h1.z, h2]
  exact sk_sk z _
/-- the end of a row and of a choice: what is kept -/
theorem st_row {m : Nat} {X : List Stp} {r : Nat} (h : St s z (R ++ [r]) (M ++ [m]) L X) : St s.endRow z (R ++ [r + 1]) (M ++ [0]) L (rowfin m X) ∧ s.endRow.pl = s.pl := by
  have e1 : s.row1.rows = R ++ [r] ∧ s.row1.many = M ++ [m] ∧ s.row1.looks = L ∧ s.row1.z = z ∧ s.row1.steps = rowfin m X := by
    unfold Sc.row1 rowfin
    rw [h.m, lastD_snoc]
    by_cases q : 1 < m
    · rw [if_pos q, if_pos q]; exact ⟨h.r, h.m, h.l, h.z, by show s.steps ++ _ = _; rw [h.s]⟩
    · rw [if_neg q, if_neg q, List.append_nil]; exact ⟨h.r, h.m, h.l, h.z, h.s⟩
  refine ⟨⟨e1.2.2.2.1, ?_, ?_, e1.2.2.1, e1.2.2.2.2⟩, (row1_place s).2⟩
  · show setLast s.row1.rows (lastD s.row1.rows + 1) = _
    rw [e1.1, lastD_snoc, setLast_snoc]
  · show setLast s.row1.many 0 = _
    rw [e1.2.1, setLast_snoc]
theorem closeO {r m : Nat} {X Y : List Stp} (h : St s z (R ++ [r]) (M ++ [m]) (L ++ [[]]) X) (e : fini r m X = Y) (hR : R ≠ []) (hc : s.cur = some 41) (k : ∀ s', St s' z R M L Y → s'.pl = s.pl + 1 → GoO s' t) : AfO s t := by
  have hr : 1 < s.rows.length := by
    rw [h.r, List.length_append, List.length_singleton]
    have := List.length_pos_iff.mpr hR
    omega
  have hg := h.go
  obtain ⟨h1, h2⟩ := st_row hg
  have e3 : s.go.endChoice.rows = R ++ [r + 1] ∧ s.go.endChoice.many = M ++ [0] ∧ s.go.endChoice.looks = L ++ [[]] ∧ s.go.endChoice.z = z ∧ s.go.endChoice.steps = Y := by
    unfold Sc.endChoice
    rw [h1.r, lastD_snoc, ← e]
    unfold fini
    by_cases q : 1 < r + 1
    · rw [if_pos q, if_pos q]; exact ⟨h1.r, h1.m, h1.l, h1.z, by show s.go.endRow.steps ++ _ = _; rw [h1.s]; rfl⟩
    · rw [if_neg q, if_neg q, List.append_nil]; exact ⟨h1.r, h1.m, h1.l, h1.z, h1.s⟩
  obtain ⟨f0, hk⟩ := k s.go.endChoice.leave ⟨e3.2.2.2.1, by show s.go.endChoice.rows.dropLast = _; rw [e3.1, List.dropLast_concat], by show s.go.endChoice.many.dropLast = _; rw [e3.2.1, List.dropLast_concat], by show s.go.endChoice.looks.dropLast = _; rw [e3.2.2.1, List.dropLast_concat], e3.2.2.2.2⟩ (choice_place s.go).2
  refine ⟨f0, fun f hf => ?_⟩
  unfold tailO
  rw [if_neg (fun q => by rw [hc] at q; cases q.1), if_pos ⟨hc, hr⟩]
  exact hk f hf
/-- what one wishes for a result -/
def Wi (t : Out → Prop) (k : W → Nat → Prop) : Rd → Prop
  | .ok w e => k w e
  | .bad p => t (.bad p)
theorem skip_pl (h : s.z = z) {i : Nat} (hp : s.pl = i) : s.skip.pl = sk z i ∧ s.skip.cur = z[sk z i]? := by
  have hk : s.skip.pl = sk z i := by show s.pl + blanks (s.z.drop s.pl) = _; rw [h, hp]; rfl
  exact ⟨hk, by show s.z[s.skip.pl]? = _; rw [h, hk]⟩
theorem nm_pos {z : List Nat} {i : Nat} : nmLen 12 (z.drop i) = 0 ↔ isL z[i]? = false := by
  constructor
  · intro h
    cases q : isL z[i]? with
    | false => rfl
    | true => rw [nmLen_more q] at h; cases h
  · intro h; exact nmLen_end (.inl h)
def SOne (n : Nat) : Prop := ∀ (z : List Nat) (i : Nat) (r : Rd), rdOne n z i = some r → ∀ (s : Sc) (t : Out → Prop) (R M : List Nat) (L : List (List Nat)) (S : List Stp) (m : Nat) (ls : List Nat), St s z R (M ++ [m]) (L ++ [ls]) S → R ≠ [] → s.skip.pl = i → z[i]? ≠ some 38 → z[i]? ≠ some 33 →
  Wi t (fun w e => ∀ s1, St s1 z R (M ++ [m]) (L ++ [ls]) (S ++ post w) → s1.pl = e → GoO s1 t) r → BeO s t
def SLook (n : Nat) : Prop := ∀ (z : List Nat) (i : Nat) (r : Rd), rdLook n z i = some r → ∀ (s : Sc) (t : Out → Prop) (R M : List Nat) (L : List (List Nat)) (S : List Stp) (m : Nat) (ls : List Nat), St s z R (M ++ [m]) (L ++ [ls]) S → R ≠ [] → s.pl = i →
  Wi t (fun w e => ∀ s', St s' z R (M ++ [m + 1]) (L ++ [[]]) (S ++ post w ++ ls.reverse.map (fun k => (k, eS, 1))) → s'.pl = sk z e → s'.skip = s' → AfO s' t) r → BeO s t
def KRow (t : Out → Prop) (z R M : List Nat) (L : List (List Nat)) (S : List Stp) (w : W) (e : Nat) : Prop :=
  ∀ (s' : Sc) (m' : Nat) (X : List Stp), St s' z R (M ++ [m']) (L ++ [[]]) X → rowfin m' X = S ++ post w → s'.pl = e → s'.skip = s' → begins z[e]? = false → AfO s' t
def SRow (n : Nat) : Prop := ∀ (z : List Nat) (i : Nat) (ws : List W) (r : Rd), rdRow n z i ws = some r → ∀ (s : Sc) (t : Out → Prop) (R M : List Nat) (L : List (List Nat)) (S : List Stp), St s z R (M ++ [ws.length]) (L ++ [[]]) (S ++ posts ws) → R ≠ [] →
  Wi t (KRow t z R M L S) r → (ws = [] → s.pl = i → BeO s t) ∧ (ws ≠ [] → s.pl = sk z i → s.skip = s → AfO s t)
def SCh (n : Nat) : Prop := ∀ (z : List Nat) (i : Nat) (ws : List W) (r : Rd), rdCh n z i ws = some r → ∀ (s : Sc) (t : Out → Prop) (R M : List Nat) (L : List (List Nat)) (S : List Stp), St s z (R ++ [ws.length]) (M ++ [0]) (L ++ [[]]) (S ++ posts ws) → s.pl = i →
  Wi t (fun w e => ∀ (s' : Sc) (r' m' : Nat) (X : List Stp), St s' z (R ++ [r']) (M ++ [m']) (L ++ [[]]) X → fini r' m' X = S ++ post w → s'.pl = e → s'.skip = s' → z[e]? ≠ some 47 → begins z[e]? = false → AfO s' t) r → BeO s t
theorem simOne {n : Nat} (hC : SCh n) : SOne (n + 1) := by
  intro z i r h s t R M L S m ls hs hR hp n38 n33 hw
  obtain ⟨_, _⟩ : True ∧ True := ⟨trivial, trivial⟩
  have hz := hs.z
  have hcur : s.skip.cur = z[i]? := by show s.z[s.skip.pl]? = _; rw [hz, hp]
  have hg : s.skip.go.pl = i + 1 := by show s.skip.pl + 1 = _; rw [hp]
  obtain ⟨g1, g2⟩ := skip_pl (s := s.skip.go) (z := z) hz hg
  rw [rdOne] at h
  by_cases q0 : one1 z[i]? = false
  · rw [if_pos q0] at h
    cases h
    refine be_bad (p := i) ?_ hw
    have hb : begins s.skip.cur = false := by
      rw [hcur]; unfold begins; rw [q0, decide_eq_false n38, decide_eq_false n33]; rfl
    rw [beg_bad hb, hp]
  rw [if_neg q0] at h
  by_cases q60 : z[i]? = some 60
  · rw [if_pos q60] at h
    cases h
    have hb := beg_single (s := s) (by rw [hcur, q60]; decide) (by rw [hcur, q60]; decide) (by rw [hcur, q60]; decide)
    unfold rdCall at hw
    have hnm : s.skip.go.skip.nm = nmLen 12 (z.drop (sk z (i + 1))) := by show nmLen 12 (s.z.drop s.skip.go.skip.pl) = _; rw [hz, g1]
    have hpn : s.skip.go.skip.named.pl = nl z (sk z (i + 1)) := by show s.skip.go.skip.pl + s.skip.go.skip.nm = _; rw [hnm, g1]; rfl
    obtain ⟨c1, c2⟩ := skip_pl (s := s.skip.go.skip.named) (z := z) hz hpn
    by_cases q1 : nmLen 12 (z.drop (sk z (i + 1))) = 0
    · rw [if_pos q1] at hw
      refine be_bad (p := sk z (i + 1)) ?_ hw
      have ql := nm_pos.mp q1
      rw [hb]
      unfold singleO
      rw [if_neg (by rw [hcur, q60]; decide), if_pos (by rw [hcur, q60]), if_neg (by rw [g2, ql]; exact Bool.false_ne_true), g1]
    · rw [if_neg q1] at hw
      have ql : isL z[sk z (i + 1)]? = true := by
        cases q : isL z[sk z (i + 1)]? with
        | true => rfl
        | false => exact absurd (nm_pos.mpr q) q1
      have hsing : singleO s.skip = if s.skip.go.skip.named.skip.cur = some 62 then .ok (s.skip.go.skip.named.skip.go.add 9 s.skip.go.skip.word 0) else .bad s.skip.go.skip.named.skip.pl := by
        unfold singleO
        rw [if_neg (by rw [hcur, q60]; decide), if_pos (by rw [hcur, q60]), if_pos (by rw [g2, ql])]
      by_cases q2 : isL z[nl z (sk z (i + 1))]? = true
      · rw [if_pos q2] at hw
        refine be_bad (p := nl z (sk z (i + 1))) ?_ hw
        have hns : s.skip.go.skip.named.skip = s.skip.go.skip.named := Sc.skip_no _ (fun e => by
          have e' : z[nl z (sk z (i + 1))]? = some 32 := by rw [← hpn, ← hz]; exact e
          rw [e'] at q2; exact absurd q2 (by decide))
        rw [hb, hsing, hns, if_neg, hpn]
        intro e
        have e' : z[nl z (sk z (i + 1))]? = some 62 := by rw [← hpn, ← hz]; exact e
        rw [e'] at q2; exact absurd q2 (by decide)
      · rw [if_neg q2] at hw
        by_cases q3 : z[sk z (nl z (sk z (i + 1)))]? = some 62
        · rw [if_pos q3] at hw
          have hw' : ∀ s1, St s1 z R (M ++ [m]) (L ++ [ls]) (S ++ post (.call (tx ((z.drop (sk z (i + 1))).take (nmLen 12 (z.drop (sk z (i + 1)))))))) → s1.pl = sk z (nl z (sk z (i + 1))) + 1 → GoO s1 t := hw
          refine be_ok (s1 := s.skip.go.skip.named.skip.go.add 9 s.skip.go.skip.word 0) (by rw [hb, hsing, if_pos (by rw [c2]; exact q3)]) (hw' _ ?_ (by show s.skip.go.skip.named.skip.pl + 1 = _; rw [c1]))
          have ew : s.skip.go.skip.word = tx ((z.drop (sk z (i + 1))).take (nmLen 12 (z.drop (sk z (i + 1))))) := by
            show tx ((s.z.drop s.skip.go.skip.pl).take s.skip.go.skip.nm) = _
            rw [hnm, hz, g1]
          rw [ew]
          exact ⟨hz, hs.r, hs.m, hs.l, by show s.steps ++ _ = _; rw [hs.s]; rfl⟩
        · rw [if_neg q3] at hw
          refine be_bad (p := sk z (nl z (sk z (i + 1)))) ?_ hw
          rw [hb, hsing, if_neg (by rw [c2]; exact q3), c1]
  rw [if_neg q60] at h
  by_cases q40 : z[i]? = some 40
  · rw [if_neg (fun q => q q40)] at h
    by_cases q41 : z[sk z (i + 1)]? = some 41
    · rw [if_pos q41] at h
      cases h
      have hw' : ∀ s1, St s1 z R (M ++ [m]) (L ++ [ls]) (S ++ post .nothing) → s1.pl = sk z (i + 1) + 1 → GoO s1 t := hw
      exact be_ok (beg_none (by rw [hcur]; exact q40) (by rw [g2]; exact q41)) (hw' _ (hs.skip.go.skip.go.add 2 eS 0) (by show s.skip.go.skip.pl + 1 = _; rw [g1]))
    · rw [if_neg q41] at h
      refine be_to (beg_open (by rw [hcur]; exact q40) (by rw [g2]; exact q41)) ?_
      cases hr : rdCh n z (sk z (i + 1)) [] with
      | none => rw [hr] at h; cases h
      | some r' =>
        rw [hr] at h
        have he := hs.skip.go.skip.enter
        refine hC z _ [] r' hr s.skip.go.skip.enter t R (M ++ [m]) (L ++ [ls]) S (by show St _ z (R ++ [0]) _ _ (S ++ []); rw [List.append_nil]; exact he) g1 ?_
        cases r' with
        | bad p => cases h; exact hw
        | ok w e =>
          cases h
          intro s' r' m' X h' ef hp' hk' h47 hbg
          have hc' : s'.cur = z[e]? := by show s'.z[s'.pl]? = _; rw [h'.z, hp']
          have hse : sk z e = e := by
            have := (skip_pl (s := s') (z := z) h'.z hp').1
            rw [hk', hp'] at this; exact this.symm
          rw [hse] at hw
          by_cases q : z[e]? = some 41
          · rw [if_pos q] at hw
            have hw' : ∀ s1, St s1 z R (M ++ [m]) (L ++ [ls]) (S ++ post w) → s1.pl = e + 1 → GoO s1 t := hw
            exact closeO h' ef hR (by rw [hc']; exact q) fun s6 h6 p6 => hw' s6 h6 (by rw [p6, hp'])
          · rw [if_neg q] at hw
            have hlen : s'.rows.length ≠ 1 := by
              rw [h'.r, List.length_append, List.length_singleton]
              have := List.length_pos_iff.mpr hR
              omega
            exact af_bad hk' (by rw [hc']; exact hbg) (by rw [hc']; exact h47) (fun e' => absurd (by rw [← hc']; exact e') q) (fun _ => hlen) (by rw [hp']; exact hw)
  · rw [if_pos q40] at h
    cases h
    have hb := beg_single (s := s) (by rw [hcur]; exact q40) (by rw [hcur]; exact n38) (by rw [hcur]; exact n33)
    have hw' : ∀ s1, St s1 z R (M ++ [m]) (L ++ [ls]) (S ++ post (if z[i]? = some 46 then W.one else .letter (z[i]?.getD 0))) → s1.pl = i + 1 → GoO s1 t := hw
    by_cases q46 : z[i]? = some 46
    · rw [if_pos q46] at hw'
      exact be_ok (s1 := s.skip.go.add 1 eS 0) (by rw [hb]; unfold singleO; rw [if_pos (by rw [hcur]; exact q46)]) (hw' _ (hs.skip.go.add 1 eS 0) hg)
    · rw [if_neg q46] at hw'
      have ql : isL z[i]? = true := by
        have q0' : one1 z[i]? = true := by simpa using q0
        unfold one1 at q0'
        simp only [Bool.or_eq_true, decide_eq_true_eq] at q0'
        rcases q0' with ((q | q) | q) | q
        · exact q
        · exact absurd q q46
        · exact absurd q q60
        · exact absurd q q40
      obtain ⟨c, hc⟩ : ∃ c, z[i]? = some c := by
        cases q : z[i]? with
        | none => rw [q] at ql; cases ql
        | some c => exact ⟨c, rfl⟩
      refine be_ok (s1 := s.skip.go.add 0 (sgn s.skip.cur) 0) (by rw [hb]; unfold singleO; rw [if_neg (by rw [hcur]; exact q46), if_neg (by rw [hcur]; exact q60), if_pos (by rw [hcur]; exact ql)]) (hw' _ ?_ hg)
      have := hs.skip.go.add 0 (sgn s.skip.cur) 0
      rw [hcur, hc] at this
      rw [hcur, hc]
      exact this
theorem simLook {n : Nat} (hO : SOne n) (hL : SLook n) : SLook (n + 1) := by
  intro z i r h s t R M L S m ls hs hR hp hw
  have hz := hs.z
  obtain ⟨k1, k2⟩ := skip_pl hz hp
  rw [rdLook] at h
  by_cases q38 : z[sk z i]? = some 38
  · rw [if_pos q38] at h
    refine be_to (beg_look7 (by rw [k2]; exact q38)) ?_
    cases hr : rdLook n z (sk z i + 1) with
    | none => rw [hr] at h; cases h
    | some r' =>
      rw [hr] at h
      refine hL z _ r' hr (s.skip.go.look 7) t R M L S m (ls ++ [7]) (hs.skip.go.look 7) hR (by show s.skip.pl + 1 = _; rw [k1]) ?_
      cases r' with
      | bad p => cases h; exact hw
      | ok w e =>
        cases h
        intro s' h' p' kk
        refine hw s' ?_ p' kk
        rw [List.reverse_append, List.map_append] at h'
        show St s' z R _ _ (S ++ (post w ++ [(7, eS, 1)]) ++ _)
        simpa [List.append_assoc] using h'
  · rw [if_neg q38] at h
    by_cases q33 : z[sk z i]? = some 33
    · rw [if_pos q33] at h
      refine be_to (beg_look8 (by rw [k2]; exact q33)) ?_
      cases hr : rdLook n z (sk z i + 1) with
      | none => rw [hr] at h; cases h
      | some r' =>
        rw [hr] at h
        refine hL z _ r' hr (s.skip.go.look 8) t R M L S m (ls ++ [8]) (hs.skip.go.look 8) hR (by show s.skip.pl + 1 = _; rw [k1]) ?_
        cases r' with
        | bad p => cases h; exact hw
        | ok w e =>
          cases h
          intro s' h' p' kk
          refine hw s' ?_ p' kk
          rw [List.reverse_append, List.map_append] at h'
          show St s' z R _ _ (S ++ (post w ++ [(8, eS, 1)]) ++ _)
          simpa [List.append_assoc] using h'
    · rw [if_neg q33] at h
      cases hr : rdOne n z (sk z i) with
      | none => rw [hr] at h; cases h
      | some r' =>
        rw [hr] at h
        refine hO z _ r' hr s t R M L S m ls hs hR k1 q38 q33 ?_
        cases r' with
        | bad p => cases h; exact hw
        | ok w e =>
          cases h
          intro s1 h1 p1
          refine go_ofO ?_
          obtain ⟨h2, p2⟩ := simEnd h1 p1
          exact hw _ h2 p2 (Sc.skip_skip _)
theorem simRow {n : Nat} (hL : SLook n) (hR' : SRow n) : SRow (n + 1) := by
  intro z i ws r h s t R M L S hs hR hw
  have hz := hs.z
  rw [rdRow] at h
  have step : ∀ (r' : Rd), rdLook n z (sk z i) = some r' → (match r' with | .bad p => some (.bad p) | .ok w e => rdRow n z e (ws ++ [w])) = some r → ∀ s1 : Sc, St s1 z R (M ++ [ws.length]) (L ++ [[]]) (S ++ posts ws) → (s1.pl = sk z i ∨ s1.pl = i) → BeO s1 t := by
    intro r' hr hrr s1 h1 hp1
    have base : ∀ s2 : Sc, St s2 z R (M ++ [ws.length]) (L ++ [[]]) (S ++ posts ws) → s2.pl = sk z i → BeO s2 t := by
      intro s2 h2 hp2
      refine hL z _ r' hr s2 t R M L (S ++ posts ws) ws.length [] h2 hR hp2 ?_
      cases r' with
      | bad p => cases hrr; exact hw
      | ok w e =>
        intro s' h' p' kk
        have h3 : St s' z R (M ++ [(ws ++ [w]).length]) (L ++ [[]]) (S ++ posts (ws ++ [w])) := by
          rw [posts_snoc, List.length_append, List.length_singleton, ← List.append_assoc]
          simpa using h'
        exact (hR' z e (ws ++ [w]) r hrr s' t R M L S h3 hR hw).2 (by simp) p' kk
    rcases hp1 with hp1 | hp1
    · exact base s1 h1 hp1
    · obtain ⟨k1, _⟩ := skip_pl h1.z hp1
      have := base s1.skip h1.skip k1
      refine be_to ?_ this
      show beginO _ _ = beginO _ _
      rw [Sc.skip_skip]
      rfl
  refine ⟨fun hws hp => ?_, fun hws hp hk => ?_⟩
  · rw [if_neg (fun q => q.1 hws)] at h
    cases hr : rdLook n z (sk z i) with
    | none => rw [hr] at h; cases h
    | some r' =>
      rw [hr] at h
      exact step r' hr (by cases r' <;> exact h) s hs (.inr hp)
  · have hc : s.cur = z[sk z i]? := by show s.z[s.pl]? = _; rw [hz, hp]
    by_cases q : begins z[sk z i]? = false
    · rw [if_pos ⟨hws, q⟩] at h
      cases h
      exact hw s ws.length _ hs (row_fin hws) hp hk q
    · rw [if_neg (fun q' => q q'.2)] at h
      refine af_more (by rw [hc]; simpa using q) ?_
      cases hr : rdLook n z (sk z i) with
      | none => rw [hr] at h; cases h
      | some r' =>
        rw [hr] at h
        exact step r' hr (by cases r' <;> exact h) s hs (.inl hp)
theorem simCh {n : Nat} (hRw : SRow n) (hC : SCh n) : SCh (n + 1) := by
  intro z i ws r h s t R M L S hs hp hw
  rw [rdCh] at h
  cases hr : rdRow n z i [] with
  | none => rw [hr] at h; cases h
  | some r' =>
    rw [hr] at h
    refine (hRw z i [] r' hr s t (R ++ [ws.length]) M L (S ++ posts ws) (by show St s z _ (M ++ [0]) _ (S ++ posts ws ++ []); rw [List.append_nil]; exact hs) (by simp) ?_).1 rfl hp
    cases r' with
    | bad p => cases h; exact hw
    | ok w e =>
      intro s' m' X h' ef hp' hk' hbg
      have hc' : s'.cur = z[e]? := by show s'.z[s'.pl]? = _; rw [h'.z, hp']
      have hse : sk z e = e := by
        have := (skip_pl (s := s') (z := z) h'.z hp').1
        rw [hk', hp'] at this; exact this.symm
      have h : (if z[sk z e]? = some 47 then rdCh n z (sk z e + 1) (ws ++ [w]) else some (.ok (choiceOf (ws ++ [w])) (sk z e))) = some r := h
      rw [hse] at h
      by_cases q : z[e]? = some 47
      · rw [if_pos q] at h
        obtain ⟨g1, g2⟩ := st_row h'.go
        have hb : BeO s'.go.endRow t := by
          refine hC z (e + 1) (ws ++ [w]) r h s'.go.endRow t R M L S ?_ (by rw [g2]; show s'.pl + 1 = _; rw [hp']) hw
          rw [posts_snoc, List.length_append, List.length_singleton, ← List.append_assoc, ← ef]
          exact g1
        obtain ⟨f0, hb⟩ := hb
        refine ⟨f0, fun f hf => ?_⟩
        unfold tailO
        rw [if_neg (fun q' => by rw [hc', q] at q'; cases q'.1), if_neg (fun q' => by rw [hc', q] at q'; exact absurd q'.1 (by decide)), if_pos (by rw [hc']; exact q)]
        exact hb f hf
      · rw [if_neg q] at h
        cases h
        refine hw s' ws.length m' X h' ?_ hp' hk' q hbg
        show (X ++ _) ++ _ = _
        rw [show X ++ (if 1 < m' then [(3, eS, m')] else []) = rowfin m' X from rfl, ef]
        exact choice_fin
theorem sim : ∀ n : Nat, SOne n ∧ SLook n ∧ SRow n ∧ SCh n
  | 0 => ⟨fun z i r h => by (rw [rdOne] at h; cases h), fun z i r h => by (rw [rdLook] at h; cases h), fun z i ws r h => by (rw [rdRow] at h; cases h), fun z i ws r h => by (rw [rdCh] at h; cases h)⟩
  | n + 1 => by
    obtain ⟨a, b, c, d⟩ := sim n
    exact ⟨simOne d, simLook a b, simRow b c, simCh c d⟩
end Wx
/-! the law's reading comes to an end, and what it tells of whole texts: pure facts -/
namespace Wx
open PySem PySem.Spec PyProof.Rows L2 Wv Ws
theorem sk_len {z : List Nat} {i : Nat} (h : i ≤ z.length) : sk z i ≤ z.length := by
  have := blanks_le (z.drop i)
  rw [List.length_drop] at this
  show i + blanks (z.drop i) ≤ _
  omega
theorem nl_len {z : List Nat} {i : Nat} (h : i ≤ z.length) : i ≤ nl z i ∧ nl z i ≤ z.length := by
  have := (nmLen_le 12 (z.drop i)).2
  rw [List.length_drop] at this
  show i ≤ i + _ ∧ i + _ ≤ _
  omega
theorem get_lt {z : List Nat} {i c : Nat} (h : z[i]? = some c) : i < z.length := (List.getElem?_eq_some_iff.mp h).1
theorem marks_le : ∀ (f : Nat) (z : List Nat) (w : W) (i : Nat), i ≤ z.length → i ≤ (rdMarks f z w i).2 ∧ (rdMarks f z w i).2 ≤ z.length
  | 0, z, w, i, h => ⟨Nat.le_refl _, h⟩
  | f + 1, z, w, i, h => by
    unfold rdMarks
    split
    · rename_i q
      have := marks_le f z (.again w) (sk z i + 1) (get_lt q)
      have := sk_le z i
      omega
    · split
      · rename_i q
        have := marks_le f z (.maybe w) (sk z i + 1) (get_lt q)
        have := sk_le z i
        omega
      · exact ⟨Nat.le_refl _, h⟩
/-- a right part ends behind where it begins -/
def Up (i : Nat) (z : List Nat) : Rd → Prop
  | .ok _ e => i < e ∧ e ≤ z.length
  | .bad p => i ≤ p ∧ p ≤ z.length
theorem up_le {i j : Nat} {z : List Nat} {r : Rd} (h : Up j z r) (hij : i ≤ j) : Up i z r := by
  cases r with
  | ok w e => exact ⟨Nat.lt_of_le_of_lt hij h.1, h.2⟩
  | bad p => exact ⟨Nat.le_trans hij h.1, h.2⟩
theorem call_up {z : List Nat} {i : Nat} (h : i ≤ z.length) : Up i z (rdCall z i) := by
  unfold rdCall
  obtain ⟨n1, n2⟩ := nl_len h
  split
  · exact ⟨Nat.le_refl _, h⟩
  · split
    · exact ⟨n1, n2⟩
    · have := sk_le z (nl z i)
      split
      · rename_i q
        have := get_lt q
        exact ⟨by omega, by omega⟩
      · exact ⟨by omega, sk_len n2⟩
theorem ups : ∀ n : Nat, (∀ z i r, rdOne n z i = some r → i ≤ z.length → Up i z r) ∧ (∀ z i r, rdLook n z i = some r → i ≤ z.length → Up i z r) ∧
    (∀ z i ws r, rdRow n z i ws = some r → i ≤ z.length → match r with | .ok _ e => (i ≤ e ∧ (ws = [] → i < e)) ∧ e ≤ z.length | .bad p => i ≤ p ∧ p ≤ z.length) ∧ (∀ z i ws r, rdCh n z i ws = some r → i ≤ z.length → Up i z r)
  | 0 => ⟨fun z i r h => by (rw [rdOne] at h; cases h), fun z i r h => by (rw [rdLook] at h; cases h), fun z i ws r h => by (rw [rdRow] at h; cases h), fun z i ws r h => by (rw [rdCh] at h; cases h)⟩
  | n + 1 => by
    obtain ⟨a, b, c, d⟩ := ups n
    refine ⟨fun z i r h hi => ?_, fun z i r h hi => ?_, fun z i ws r h hi => ?_, fun z i ws r h hi => ?_⟩
    · rw [rdOne] at h
      split at h
      · cases h; exact ⟨Nat.le_refl _, hi⟩
      · split at h
        · rename_i q
          cases h
          have h1 := sk_le z (i + 1)
          exact up_le (call_up (sk_len (get_lt q))) (by omega)
        · split at h
          · rename_i q0 q60 q40
            cases h
            have : i < z.length := by
              cases q : z[i]? with
              | none => rw [q] at q0; exact absurd rfl q0
              | some x => exact get_lt q
            exact ⟨Nat.lt_succ_self _, this⟩
          · rename_i q40
            have q40 : z[i]? = some 40 := by simpa using q40
            have hl := get_lt q40
            have h1 := sk_le z (i + 1)
            split at h
            · rename_i q
              cases h
              have := get_lt q
              exact ⟨by omega, by omega⟩
            · cases hr : rdCh n z (sk z (i + 1)) [] with
              | none => rw [hr] at h; cases h
              | some r' =>
                rw [hr] at h
                have hu := d z _ [] r' hr (sk_len hl)
                cases r' with
                | bad p => cases h; exact up_le hu (by omega)
                | ok w e =>
                  have hu : sk z (i + 1) < e ∧ e ≤ z.length := hu
                  have h2 := sk_le z e
                  cases h
                  split
                  · rename_i q
                    have := get_lt q
                    exact ⟨by omega, by omega⟩
                  · exact ⟨by omega, sk_len hu.2⟩
    · rw [rdLook] at h
      have h1 := sk_le z i
      have h2 := sk_len hi
      split at h
      · rename_i q
        have hl := get_lt q
        cases hr : rdLook n z (sk z i + 1) with
        | none => rw [hr] at h; cases h
        | some r' =>
          rw [hr] at h
          have hu := b z _ r' hr hl
          cases r' with
          | bad p => cases h; exact up_le hu (by omega)
          | ok w e =>
            cases h
            have hu : sk z i + 1 < e ∧ e ≤ z.length := hu
            exact ⟨by omega, hu.2⟩
      · split at h
        · rename_i q
          have hl := get_lt q
          cases hr : rdLook n z (sk z i + 1) with
          | none => rw [hr] at h; cases h
          | some r' =>
            rw [hr] at h
            have hu := b z _ r' hr hl
            cases r' with
            | bad p => cases h; exact up_le hu (by omega)
            | ok w e =>
              cases h
              have hu : sk z i + 1 < e ∧ e ≤ z.length := hu
              exact ⟨by omega, hu.2⟩
        · cases hr : rdOne n z (sk z i) with
          | none => rw [hr] at h; cases h
          | some r' =>
            rw [hr] at h
            have hu := a z _ r' hr h2
            cases r' with
            | bad p => cases h; exact up_le hu (by omega)
            | ok w e =>
              cases h
              have hu : sk z i < e ∧ e ≤ z.length := hu
              have := marks_le (z.length + 1) z w e hu.2
              exact ⟨by omega, this.2⟩
    · rw [rdRow] at h
      have h1 := sk_le z i
      have h2 := sk_len hi
      split at h
      · rename_i q
        cases h
        exact ⟨⟨h1, fun e => absurd e q.1⟩, h2⟩
      · cases hr : rdLook n z (sk z i) with
        | none => rw [hr] at h; cases h
        | some r' =>
          rw [hr] at h
          have hu := b z _ r' hr h2
          cases r' with
          | bad p =>
            cases h
            have hu : sk z i ≤ p ∧ p ≤ z.length := hu
            exact ⟨by omega, hu.2⟩
          | ok w e =>
            have hu : sk z i < e ∧ e ≤ z.length := hu
            have hv := c z e (ws ++ [w]) r h hu.2
            cases r with
            | bad p => exact ⟨by have := hv.1; omega, hv.2⟩
            | ok w' e' => exact ⟨⟨by have := hv.1.1; omega, fun _ => by have := hv.1.1; omega⟩, hv.2⟩
    · rw [rdCh] at h
      cases hr : rdRow n z i [] with
      | none => rw [hr] at h; cases h
      | some r' =>
        rw [hr] at h
        have hu := c z i [] r' hr hi
        cases r' with
        | bad p => cases h; exact hu
        | ok w e =>
          have hu : (i ≤ e ∧ (([] : List W) = [] → i < e)) ∧ e ≤ z.length := hu
          have h3 := sk_le z e
          have h4 := hu.1.2 rfl
          have h : (if z[sk z e]? = some 47 then rdCh n z (sk z e + 1) (ws ++ [w]) else some (.ok (choiceOf (ws ++ [w])) (sk z e))) = some r := h
          split at h
          · rename_i q
            exact up_le (d z _ _ r h (get_lt q)) (by omega)
          · cases h
            exact ⟨by omega, sk_len hu.2⟩
theorem marks_size : ∀ (f : Nat) (z : List Nat) (w : W) (i : Nat), (rdMarks f z w i).1.size + 2 * i ≤ w.size + 2 * (rdMarks f z w i).2
  | 0, z, w, i => Nat.le_refl _
  | f + 1, z, w, i => by
    unfold rdMarks
    have h1 := sk_le z i
    split
    · have := marks_size f z (.again w) (sk z i + 1)
      have e : (W.again w).size = 1 + w.size := rfl
      omega
    · split
      · have := marks_size f z (.maybe w) (sk z i + 1)
        have e : (W.maybe w).size = 1 + w.size := rfl
        omega
      · exact Nat.le_refl _
theorem sizes_app : ∀ (a : List W) (w : W), W.sizes (a ++ [w]) = W.sizes a + w.size
  | [], w => by show w.size + 0 = 0 + w.size; omega
  | x :: a, w => by show x.size + W.sizes (a ++ [w]) = x.size + W.sizes a + w.size; rw [sizes_app a w]; omega
theorem rowOf_size {ws : List W} (h : ws ≠ []) : (rowOf ws).size + 1 ≤ W.sizes ws + ws.length := by
  unfold rowOf
  match ws with
  | [] => exact absurd rfl h
  | [w] => show w.size + 1 ≤ w.size + 0 + 1; omega
  | a :: b :: r =>
    show 1 + W.sizes (a :: b :: r) + 1 ≤ W.sizes (a :: b :: r) + (a :: b :: r).length
    simp only [List.length_cons]; omega
theorem choiceOf_size {ws : List W} (h : ws ≠ []) : (choiceOf ws).size + 1 ≤ W.sizes ws + ws.length := by
  unfold choiceOf
  match ws with
  | [] => exact absurd rfl h
  | [w] => show w.size + 1 ≤ w.size + 0 + 1; omega
  | a :: b :: r =>
    show 1 + W.sizes (a :: b :: r) + 1 ≤ W.sizes (a :: b :: r) + (a :: b :: r).length
    simp only [List.length_cons]; omega
/-- how large it is -/
theorem szs : ∀ n : Nat, (∀ z i w e, rdOne n z i = some (.ok w e) → i ≤ z.length → w.size + 1 + 2 * i ≤ 2 * e) ∧ (∀ z i w e, rdLook n z i = some (.ok w e) → i ≤ z.length → w.size + 1 + 2 * i ≤ 2 * e) ∧
    (∀ z i ws w e, rdRow n z i ws = some (.ok w e) → i ≤ z.length → ∀ B, W.sizes ws + ws.length ≤ B → w.size + 1 + 2 * i ≤ B + 2 * e) ∧ (∀ z i ws w e, rdCh n z i ws = some (.ok w e) → i ≤ z.length → ∀ B, W.sizes ws + ws.length ≤ B → w.size + 1 + 2 * i ≤ B + 2 * e)
  | 0 => ⟨fun z i w e h => by (rw [rdOne] at h; cases h), fun z i w e h => by (rw [rdLook] at h; cases h), fun z i ws w e h => by (rw [rdRow] at h; cases h), fun z i ws w e h => by (rw [rdCh] at h; cases h)⟩
  | n + 1 => by
    obtain ⟨a, b, c, d⟩ := szs n
    refine ⟨fun z i w e h hi => ?_, fun z i w e h hi => ?_, fun z i ws w e h hi B hB => ?_, fun z i ws w e h hi B hB => ?_⟩
    · rw [rdOne] at h
      split at h
      · cases h
      · split at h
        · rename_i q
          have h1 := sk_le z (i + 1)
          have hc := call_up (sk_len (get_lt q))
          cases hr : rdCall z (sk z (i + 1)) with
          | bad p => rw [hr] at h; cases h
          | ok w' e' =>
            rw [hr] at h hc
            cases h
            have hc : sk z (i + 1) < e ∧ _ := hc
            have : w.size = 1 := by
              unfold rdCall at hr
              split at hr
              · cases hr
              · split at hr
                · cases hr
                · split at hr
                  · cases hr; rfl
                  · cases hr
            omega
        · split at h
          · cases h
            split <;> (show 1 + 1 + 2 * i ≤ 2 * (i + 1); omega)
          · rename_i q40
            have q40 : z[i]? = some 40 := by simpa using q40
            have hl := get_lt q40
            have h1 := sk_le z (i + 1)
            split at h
            · cases h; show 1 + 1 + 2 * i ≤ _; omega
            · cases hr : rdCh n z (sk z (i + 1)) [] with
              | none => rw [hr] at h; cases h
              | some r' =>
                rw [hr] at h
                cases r' with
                | bad p => cases h
                | ok w' e' =>
                  have := d z _ [] w' e' hr (sk_len hl) 0 (Nat.le_refl _)
                  have h2 := sk_le z e'
                  have h : some (if z[sk z e']? = some 41 then Rd.ok w' (sk z e' + 1) else .bad (sk z e')) = some (.ok w e) := h
                  split at h
                  · cases h; omega
                  · cases h
    · rw [rdLook] at h
      have h1 := sk_le z i
      have h2 := sk_len hi
      split at h
      · rename_i q
        have hl := get_lt q
        cases hr : rdLook n z (sk z i + 1) with
        | none => rw [hr] at h; cases h
        | some r' =>
          rw [hr] at h
          cases r' with
          | bad p => cases h
          | ok w' e' =>
            cases h
            have := b z _ w' e hr hl
            show 1 + w'.size + 1 + 2 * i ≤ _
            omega
      · split at h
        · rename_i q
          have hl := get_lt q
          cases hr : rdLook n z (sk z i + 1) with
          | none => rw [hr] at h; cases h
          | some r' =>
            rw [hr] at h
            cases r' with
            | bad p => cases h
            | ok w' e' =>
              cases h
              have := b z _ w' e hr hl
              show 1 + w'.size + 1 + 2 * i ≤ _
              omega
        · cases hr : rdOne n z (sk z i) with
          | none => rw [hr] at h; cases h
          | some r' =>
            rw [hr] at h
            cases r' with
            | bad p => cases h
            | ok w' e' =>
              have := a z _ w' e' hr h2
              have := marks_size (z.length + 1) z w' e'
              cases h
              omega
    · rw [rdRow] at h
      have h1 := sk_le z i
      have h2 := sk_len hi
      split at h
      · rename_i q
        cases h
        have := rowOf_size q.1
        omega
      · cases hr : rdLook n z (sk z i) with
        | none => rw [hr] at h; cases h
        | some r' =>
          rw [hr] at h
          cases r' with
          | bad p => cases h
          | ok w' e' =>
            have hu : sk z i < e' ∧ e' ≤ z.length := (ups n).2.1 z _ _ hr h2
            have h3 := b z _ w' e' hr h2
            have h4 := c z e' (ws ++ [w']) w e h hu.2 (B + w'.size + 1) (by rw [sizes_app, List.length_append, List.length_singleton]; omega)
            omega
    · rw [rdCh] at h
      cases hr : rdRow n z i [] with
      | none => rw [hr] at h; cases h
      | some r' =>
        rw [hr] at h
        cases r' with
        | bad p => cases h
        | ok w' e' =>
          have hu : (i ≤ e' ∧ (([] : List W) = [] → i < e')) ∧ e' ≤ z.length := (ups n).2.2.1 z i [] _ hr hi
          have h3 := sk_le z e'
          have h4 := c z i [] w' e' hr hi 0 (Nat.le_refl _)
          have h : (if z[sk z e']? = some 47 then rdCh n z (sk z e' + 1) (ws ++ [w']) else some (.ok (choiceOf (ws ++ [w'])) (sk z e'))) = some (.ok w e) := h
          split at h
          · rename_i q
            have h5 := d z _ _ w e h (get_lt q) (B + w'.size + 1) (by rw [sizes_app, List.length_append, List.length_singleton]; omega)
            omega
          · cases h
            have h5 := choiceOf_size (ws := ws ++ [w']) (by simp)
            rw [sizes_app, List.length_append, List.length_singleton] at h5
            omega
/-- enough fuel -/
theorem tots : ∀ n : Nat, (∀ z i, i ≤ z.length → 4 * (z.length - i) + 1 ≤ n → rdOne n z i ≠ none) ∧ (∀ z i, i ≤ z.length → 4 * (z.length - i) + 2 ≤ n → rdLook n z i ≠ none) ∧
    (∀ z i ws, i ≤ z.length → 4 * (z.length - i) + 3 ≤ n → rdRow n z i ws ≠ none) ∧ (∀ z i ws, i ≤ z.length → 4 * (z.length - i) + 4 ≤ n → rdCh n z i ws ≠ none)
  | 0 => ⟨fun z i _ h => by omega, fun z i _ h => by omega, fun z i ws _ h => by omega, fun z i ws _ h => by omega⟩
  | n + 1 => by
    obtain ⟨a, b, c, d⟩ := tots n
    refine ⟨fun z i hi hn => ?_, fun z i hi hn => ?_, fun z i ws hi hn => ?_, fun z i ws hi hn => ?_⟩
    · rw [rdOne]
      split
      · exact fun e => by cases e
      · split
        · exact fun e => by cases e
        · split
          · exact fun e => by cases e
          · rename_i q40
            have q40 : z[i]? = some 40 := by simpa using q40
            have hl := get_lt q40
            have h1 := sk_le z (i + 1)
            split
            · exact fun e => by cases e
            · cases hr : rdCh n z (sk z (i + 1)) [] with
              | none => exact absurd hr (d z _ [] (sk_len hl) (by omega))
              | some r' => cases r' <;> exact fun e => by cases e
    · rw [rdLook]
      have h1 := sk_le z i
      have h2 := sk_len hi
      split
      · rename_i q
        have hl := get_lt q
        cases hr : rdLook n z (sk z i + 1) with
        | none => exact absurd hr (b z _ hl (by omega))
        | some r' => cases r' <;> exact fun e => by cases e
      · split
        · rename_i q
          have hl := get_lt q
          cases hr : rdLook n z (sk z i + 1) with
          | none => exact absurd hr (b z _ hl (by omega))
          | some r' => cases r' <;> exact fun e => by cases e
        · cases hr : rdOne n z (sk z i) with
          | none => exact absurd hr (a z _ h2 (by omega))
          | some r' => cases r' <;> exact fun e => by cases e
    · rw [rdRow]
      have h1 := sk_le z i
      have h2 := sk_len hi
      split
      · exact fun e => by cases e
      · cases hr : rdLook n z (sk z i) with
        | none => exact absurd hr (b z _ h2 (by omega))
        | some r' =>
          cases r' with
          | bad p => exact fun e => by cases e
          | ok w e =>
            have hu : sk z i < e ∧ e ≤ z.length := (ups n).2.1 z _ _ hr h2
            exact c z e _ hu.2 (by omega)
    · rw [rdCh]
      cases hr : rdRow n z i [] with
      | none => exact absurd hr (c z i [] hi (by omega))
      | some r' =>
        cases r' with
        | bad p => exact fun e => by cases e
        | ok w e =>
          have hu : (i ≤ e ∧ (([] : List W) = [] → i < e)) ∧ e ≤ z.length := (ups n).2.2.1 z i [] _ hr hi
          have h3 := sk_le z e
          have h4 := hu.1.2 rfl
          show (if z[sk z e]? = some 47 then rdCh n z (sk z e + 1) (ws ++ [w]) else some (.ok (choiceOf (ws ++ [w])) (sk z e))) ≠ none
          split
          · rename_i q
            exact d z _ _ (get_lt q) (by have := get_lt q; omega)
          · exact fun e => by cases e
/-- the reading of a whole text -/
def dueOf (z : List Nat) (r : Rd) : W ⊕ Nat := match r with
  | .bad p => .inr p
  | .ok w e => if sk z e = z.length then .inl w else .inr (sk z e)
/-- what Way.read tells of the text -/
def Outs (z : List Nat) (d : W ⊕ Nat) (o : Out) : Prop := match d with
  | .inl w => ∃ u, o = .ok u ∧ u.steps = post w
  | .inr p => o = .bad p
theorem read_top {z : List Nat} {ln : Int} {n : Nat} {r : Rd} (h : rdCh n z 0 [] = some r) : ∃ f0, ∀ f, f0 ≤ f → Outs z (dueOf z r) ((beg (Sc.new z ln)).bind (wayO f)) := by
  have hs : St (Sc.new z ln) z ([] ++ [0]) ([] ++ [0]) ([] ++ [[]]) ([] ++ posts []) := ⟨rfl, rfl, rfl, rfl, rfl⟩
  have hu := (ups n).2.2.2 z 0 [] r h (Nat.zero_le _)
  refine (sim n).2.2.2 z 0 [] r h (Sc.new z ln) (fun o => Outs z (dueOf z r) o) [] [] [] [] hs rfl ?_
  cases r with
  | bad p => exact rfl
  | ok w e =>
    intro s' r' m' X h' ef hp hk h47 hbg
    have hu : 0 < e ∧ e ≤ z.length := hu
    have hc : s'.cur = z[e]? := by show s'.z[s'.pl]? = _; rw [h'.z, hp]
    have hse : sk z e = e := by
      have := (skip_pl (s := s') (z := z) h'.z hp).1
      rw [hk, hp] at this; exact this.symm
    have hl : s'.rows.length = 1 := by rw [h'.r]; rfl
    by_cases q : e = z.length
    · refine ⟨0, fun f _ => ?_⟩
      have hn : s'.cur = none := by rw [hc, q]; simp
      unfold tailO
      rw [if_pos ⟨hn, hl⟩]
      show Outs z (if sk z e = z.length then .inl w else .inr (sk z e)) _
      rw [hse, if_pos q]
      exact ⟨_, rfl, whole_end h' (by rw [ef]; rfl)⟩
    · have hn : s'.cur ≠ none := by rw [hc]; intro e'; have := List.getElem?_eq_none_iff.mp e'; omega
      refine af_bad hk (by rw [hc]; exact hbg) (by rw [hc]; exact h47) (fun _ => hl) (fun e' => absurd e' hn) ?_
      show Outs z (if sk z e = z.length then .inl w else .inr (sk z e)) _
      rw [hse, if_neg q, hp]
      exact rfl
end Wx
namespace Wx
open PySem PySem.Spec PyProof.Rows L2 Wv Ws Bk
/-! ### Way.read, whatever the text -/
def spReadX (c : Cs) (BT : Addr) : Sp := fun vs H Q E => ∃ (v : V) (z : List Nat) (n : Nat) (r : Rd), vs = [v, .str (tx z)] ∧ z.length ≤ 400 ∧ rdCh n z 0 [] = some r ∧
  (∀ w, dueOf z r = .inl w → ∀ (u : V) (H' : Hp), Same H H' → ObjAt c H' u w → Q u H') ∧ ∀ p, dueOf z r = .inr p → Bad H BT 1 p E
theorem due_size {z : List Nat} {n : Nat} {r : Rd} {w : W} (h : rdCh n z 0 [] = some r) (hw : dueOf z r = .inl w) (hz : z.length ≤ 400) : w.size ≤ 800 := by
  cases r with
  | bad p => cases hw
  | ok w' e =>
    have hu : 0 < e ∧ e ≤ z.length := (ups n).2.2.2 z 0 [] _ h (Nat.zero_le _)
    have hs := (szs n).2.2.2 z 0 [] w' e h (Nat.zero_le _) 0 (Nat.le_refl _)
    unfold dueOf at hw
    split at hw
    · cases hw
    · rename_i q
      cases q
      split at hw
      · cases hw; omega
      · cases hw
section
variable {P : Program} {w : World} {K : PySem.W.Frag} {mg : Str → Option Value} {base : Heap} {C BT : Addr} {c : Cs}
abbrev s_Way_read : Stmt := inClass (top 20) 1
theorem sc_Way_read : FnScope ["cls", "text"] ["cls", "text"] (defScope s_Way_read) := ⟨rfl, rfl, rfl, by decide +kernel, rfl, by decide +kernel, by decide +kernel⟩
theorem ok_readX {f : Addr} {fd : FuncData} (F : Fun K "read" "Way.read" s_Way_read f fd) (G_Scan : ClsOk P w K mg base 1 "Scan" C ["self", "text", "line"] (spNew C)) (X_read_way : MxOk P w K mg base C 8 "read_way" ["self"] (spWayX C BT))
    (G_way_of_steps : DefOk P w K mg base 5 "way_of_steps" ["steps"] (spSteps c)) : FnOk P w K mg base (L2.CX P w) 9 f fd ["cls", "text"] (spReadX c BT) := by
  refine F.okX sc_Way_read (fun vs H Q E h => by obtain ⟨_, _, _, _, rfl, _⟩ := h; rfl) (fun cdv A outer s' H vs Q E hr h => ?_)
  obtain ⟨v, z, n, r, rfl, hz, hrd, kq, kb⟩ := h
  refine ⟨_, (pss_one (ps_ret (pe_callD G_way_of_steps (hr.mono (by first | decide | omega)) rfl (pa_cons (pe_methX0 (E := E) X_read_way (hr.mono (by first | decide | omega)) (passes_call (takes_of rfl rfl rfl rfl) (fun _ _ _ _ h => h)) (pe_makeD G_Scan (hr.mono (by first | decide | omega)) rfl (pa_cons (pv 1) (pa_cons pe_int pa_nil)))) pa_nil)))), ?_⟩
  refine ⟨_, rfl, fun x dx hx hd ne => ?_⟩
  have sm : Same H (upd (upd H dx (.own x)) x (.ins C dx [])) := fun b o e => by rw [upd_ne (ne_of_none e hx), upd_ne (ne_of_none e hd)]; exact e
  refine ⟨x, dx, z, 1, H, rfl, upd_same, hx, sm, by omega, fun H1 q eq h1 => ⟨rfl, ?_⟩⟩
  obtain ⟨dx1, e1⟩ := h1.ins
  rw [eq] at e1
  have hle : (Sc.new z 1).Lens := ⟨rfl, rfl, by show [0] ≠ []; simp, Nat.zero_le _⟩
  obtain ⟨f0, hf⟩ := read_top (ln := 1) hrd
  have ho := hf (max f0 z.length) (Nat.le_max_left _ _)
  refine ⟨x, dx1, _, rfl, e1, rfl, x, H, Sc.new z 1, max f0 z.length, rfl, ⟨q, eq, h1⟩, hle, ?_, by show z.length - 0 ≤ _; exact Nat.le_trans (Nat.sub_le _ _) (Nat.le_max_right _ _), ?_⟩
  · show 0 + 1 + 1 + 1 + 0 + 8 * (z.length - 0) ≤ 100000
    omega
  generalize (beg (Sc.new z 1)).bind (wayO (max f0 z.length)) = o at ho ⊢
  cases hd2 : dueOf z r with
  | inr p =>
    rw [hd2] at ho
    have ho : o = .bad p := ho
    subst ho
    exact kb p hd2
  | inl w =>
    rw [hd2] at ho
    obtain ⟨u, rfl, hst⟩ := ho
    intro H2 p2 ep2 h2
    obtain ⟨vs2, v1, v2⟩ := h2.steps
    rw [hst] at v2
    exact ⟨p2.st, vs2, post w, w, rfl, v1, v2, post_whole w, by rw [post_len]; have := due_size hrd hd2 hz; omega, fun u H3 s3 hu => kq w hd2 u H3 (h2.same.trans s3) hu⟩
end
end Wx
namespace Wy
open PySem PySem.Spec PyProof.Rows L2 Wv Ws Bk Oq Wx
/-! ### the law's reading, def by def -/
/-- what a text still may cost in depth -/
def w1 (c : Nat) : Nat := if c = 40 then 4 else if c = 38 then 1 else if c = 33 then 1 else 0
def wt (l : List Nat) : Nat := (l.map w1).sum
theorem wt_app (a b : List Nat) : wt (a ++ b) = wt a + wt b := by unfold wt; rw [List.map_append, List.sum_append]
theorem wt_cons (c : Nat) (l : List Nat) : wt (c :: l) = w1 c + wt l := by unfold wt; rw [List.map_cons, List.sum_cons]
theorem wt_drop (l : List Nat) (i : Nat) : wt (l.drop i) ≤ wt l := by
  have := wt_app (l.take i) (l.drop i)
  rw [List.take_append_drop] at this
  omega
theorem wt_le {z : List Nat} {i j : Nat} (h : i ≤ j) : wt (z.drop j) ≤ wt (z.drop i) := by
  have e : z.drop j = (z.drop i).drop (j - i) := by rw [List.drop_drop]; congr 1; omega
  rw [e]; exact wt_drop _ _
theorem wt_at {z : List Nat} {i c : Nat} (h : z[i]? = some c) : wt (z.drop i) = w1 c + wt (z.drop (i + 1)) := by
  obtain ⟨hl, e⟩ := List.getElem?_eq_some_iff.mp h
  rw [List.drop_eq_getElem_cons hl, e, wt_cons]
/-- what a call has made -/
def Fr (H H' : Hp) : Hp := fun a => match H a with
  | none => H' a
  | some _ => none
theorem fr_at {H H' : Hp} {a : Addr} {o : HO} (h : H a = none) (h' : H' a = some o) : Fr H H' a = some o := by unfold Fr; rw [h]; exact h'
theorem same_none {H H1 : Hp} {t : Addr} (s : Same H H1) (ht : H1 t = none) : H t = none := by
  cases q : H t with
  | none => rfl
  | some o => rw [s _ _ q] at ht; cases ht
theorem fr_new {H H1 : Hp} {t : Addr} {o : HO} (s : Same H H1) (ht : H1 t = none) : Fr H (upd H1 t o) t = some o := fr_at (same_none s ht) upd_same
theorem fr_out {H H' : Hp} : Same (Fr H H') H' := fun a o h => by
  unfold Fr at h
  cases q : H a with
  | none => rw [q] at h; exact h
  | some o' => rw [q] at h; cases h
theorem fr_mono {H H1 H2 H3 : Hp} (a : Same H H1) (b : Same H2 H3) : Same (Fr H1 H2) (Fr H H3) := fun t o h => by
  cases q : H1 t with
  | none => exact fr_at (same_none a q) (b _ _ (fr_out _ _ h))
  | some o' => unfold Fr at h; rw [q] at h; cases h
/-- a result in the heap -/
def Res (H : Hp) (v : V) (r : Rd) : Prop := ∃ t, v = .ref t ∧ match r with
  | .ok w e => ∃ u, H t = some (.tup [u, .int (e : Nat)]) ∧ WayAt H u w
  | .bad p => H t = some (.tup [.non, .int (p : Nat)])
def spSkip : Sp := fun vs H Q _ => ∃ (z : List Nat) (i : Nat), vs = [.str (tx z), .int (i : Nat)] ∧ z.length ≤ 400 ∧ i ≤ z.length ∧ Q (.int (sk z i : Nat)) H
def spBegs : Sp := fun vs H Q _ => ∃ (o : Option Nat), vs = [.str (sgn o)] ∧ Q (.bl (begins o)) H
def spCall : Sp := fun vs H Q _ => ∃ (z : List Nat) (i : Nat), vs = [.str (tx z), .int (i : Nat)] ∧ z.length ≤ 400 ∧ i ≤ z.length ∧ ∀ (v : V) (H' : Hp), Same H H' → Res (Fr H H') v (rdCall z i) → Q v H'
theorem txl {z : List Nat} (h : z.length ≤ 400) : (tx z).length ≤ sizeLine := by rw [tx_len]; exact Nat.le_trans h (by decide)
theorem sk_at {z : List Nat} {i : Nat} (h : z[i]? = some 32) : sk z (i + 1) = sk z i := by
  obtain ⟨hl, e⟩ := List.getElem?_eq_some_iff.mp h
  show i + 1 + blanks (z.drop (i + 1)) = i + blanks (z.drop i)
  rw [List.drop_eq_getElem_cons hl, e]
  show _ = i + (if (32 : Nat) = 32 then blanks (z.drop (i + 1)) + 1 else 0)
  rw [if_pos rfl]; omega
theorem sk_no {z : List Nat} {i : Nat} (h : z[i]? ≠ some 32) : sk z i = i := by
  have : blanks (z.drop i) = 0 := by
    cases q : z.drop i with
    | nil => rfl
    | cons c r =>
      have hc : z[i]? = some c := by
        have : (z.drop i)[0]? = some c := by rw [q]; rfl
        rw [List.getElem?_drop] at this
        simpa using this
      exact if_neg fun e => h (by rw [hc, e])
  show i + _ = i
  rw [this]; rfl
theorem zAl : (Str.ofString "abcdefghijklmnopqrstuvwxyz.<(&!").cps.toList = alpha ++ [46, 60, 40, 38, 33] := by decide +kernel
theorem zAl1 : (Str.ofString "abcdefghijklmnopqrstuvwxyz.<(").cps.toList = alpha ++ [46, 60, 40] := by decide +kernel
theorem zAl0 : (Str.ofString "abcdefghijklmnopqrstuvwxyz").cps.toList = alpha := by decide +kernel
theorem alpha_mem (c : Nat) : decide (c ∈ alpha) = isL (some c) := by
  show _ = (decide (97 ≤ c) && decide (c ≤ 122))
  rw [Bool.eq_iff_iff, decide_eq_true_iff, Bool.and_eq_true, decide_eq_true_iff, decide_eq_true_iff]
  constructor
  · intro h
    simp only [alpha, List.mem_cons, List.not_mem_nil, or_false] at h
    omega
  · rintro ⟨h1, h2⟩
    simp only [alpha, List.mem_cons, List.not_mem_nil, or_false]
    omega
theorem in_begins (c : Nat) : decide (c ∈ (Str.ofString "abcdefghijklmnopqrstuvwxyz.<(&!").cps.toList) = begins (some c) := by
  rw [zAl]
  unfold begins one1
  rw [← alpha_mem, Bool.eq_iff_iff, decide_eq_true_iff, List.mem_append]
  simp only [Bool.or_eq_true, decide_eq_true_eq, List.mem_cons, List.not_mem_nil, or_false, Option.some.injEq]
  constructor
  · rintro (h | h | h | h | h | h) <;> simp [h]
  · rintro (((((h | h) | h) | h) | h) | h) <;> simp [h]
theorem in_one1 (c : Nat) : decide (c ∈ (Str.ofString "abcdefghijklmnopqrstuvwxyz.<(").cps.toList) = one1 (some c) := by
  rw [zAl1]
  unfold one1
  rw [← alpha_mem, Bool.eq_iff_iff, decide_eq_true_iff, List.mem_append]
  simp only [Bool.or_eq_true, decide_eq_true_eq, List.mem_cons, List.not_mem_nil, or_false, Option.some.injEq]
  constructor
  · rintro (h | h | h | h) <;> simp [h]
  · rintro (((h | h) | h) | h) <;> simp [h]
section
variable {P : Program} {w : World} {K : PySem.W.Frag} {mg : Str → Option Value} {base : Heap}
abbrev s_l_skip : Stmt := top 54
theorem sc_l_skip : FnScope ["_law_text", "_law_at"] ["_law_text", "_law_at"] (defScope s_l_skip) := ⟨rfl, rfl, rfl, by decide +kernel, rfl, by decide +kernel, by decide +kernel⟩
theorem d_skip (h : Here K mg "_law_skip" s_l_skip ["_law_text", "_law_at"]) : DefOk P w K mg base 1 "_law_skip" ["_law_text", "_law_at"] spSkip := by
  refine h.ok sc_l_skip (fun vs H Q E h => by obtain ⟨_, _, rfl, _⟩ := h; rfl) (fun f cdv A outer s' H vs Q E hr h => ?_)
  obtain ⟨z, i, rfl, hz, hi, k⟩ := h
  refine ⟨_, (pss_cons (ps_while PassesOwn.never (pt_cmpR op_eq (pe_slice sl_str (pv 0) (po_some (pv 1)) (po_some (pe_op op_add (pv 1) pe_int))) pe_str (nomark _)) (pss_one (ps_set (i := 1) sc_l_skip.nd rfl (Or.inl rfl) (pe_op op_add (pv 1) pe_int))))
  (pss_one (ps_ret (pv 1)))), ?_⟩
  refine while_r (fun m σ H' => ∃ j : Nat, σ = [some (.str (tx z)), some (.int (j : Nat))] ∧ H' = H ∧ sk z j = sk z i ∧ j ≤ z.length ∧ m = z.length - j) (z.length - i) ⟨i, rfl, rfl, rfl, hi, rfl⟩ ?_
  rintro m σ H1 ⟨j, rfl, rfl, ej, hj, rfl⟩
  refine ⟨fun b H' => b = decide (z[j]? = some 32) ∧ H' = H1, fun Q' hq => ?_, ?_⟩
  · refine ⟨_, rfl, _, rfl, _, rfl, _, rfl, _, _, rfl, rfl, _, rfl, _, rfl, txl hz, ?_⟩
    rw [cut1]
    refine ⟨rfl, _, rfl, ?_⟩
    rw [c32, sgn_eq]
    exact hq _ _ ⟨rfl, rfl⟩
  rintro b _ ⟨rfl, rfl⟩
  refine ite2 (fun t => ?_) (fun t => ?_)
  · have t : z[j]? = some 32 := of_decide_eq_true t
    have hl := get_lt t
    walk_at "nx"
    walk_at "rd"
    exact ⟨z.length - (j + 1), by omega, j + 1, rfl, rfl, (sk_at t).trans ej, hl, rfl⟩
  · have t : z[j]? ≠ some 32 := fun q => t (decide_eq_true q)
    walk_at "nx"
    refine ⟨_, rfl, ?_⟩
    rw [sk_no t] at ej
    rw [ej]
    exact k
abbrev s_l_begins : Stmt := top 55
theorem sc_l_begins : FnScope ["_law_sign"] ["_law_sign"] (defScope s_l_begins) := ⟨rfl, rfl, rfl, by decide +kernel, rfl, by decide +kernel, by decide +kernel⟩
theorem d_begins (h : Here K mg "_law_begins" s_l_begins ["_law_sign"]) : DefOk P w K mg base 1 "_law_begins" ["_law_sign"] spBegs := by
  refine h.ok sc_l_begins (fun vs H Q E h => by obtain ⟨_, rfl, _⟩ := h; rfl) (fun f cdv A outer s' H vs Q E hr h => ?_)
  obtain ⟨o, rfl, k⟩ := h
  refine ⟨_, (pss_one (ps_ret (pe_and (pe_cmpR op_ne (pv 0) pe_str (nomark _)) (pe_one (pe_cmpR op_in_sign (pv 0) pe_str (by rfl)))))), ?_⟩
  refine ⟨_, rfl, rfl, ?_⟩
  rw [sgn_nil]
  cases o with
  | none => exact ⟨_, rfl, iteF k⟩
  | some c =>
    refine ⟨_, rfl, iteT ⟨_, rfl, c, _, rfl, rfl, ?_⟩⟩
    rw [in_begins]
    exact k
theorem nm_le {z : List Nat} {i : Nat} (h : i ≤ z.length) : nmLen 12 (z.drop i) ≤ 12 ∧ i + nmLen 12 (z.drop i) ≤ z.length := by
  have := nmLen_le 12 (z.drop i)
  rw [List.length_drop] at this
  omega
abbrev s_l_read_call : Stmt := top 60
theorem sc_l_read_call : FnScope ["_law_text", "_law_at", "_law_end", "_law_close"] ["_law_text", "_law_at"] (defScope s_l_read_call) := ⟨rfl, rfl, rfl, by decide +kernel, rfl, by decide +kernel, by decide +kernel⟩
theorem d_rdcall (h : Here K mg "_law_read_call" s_l_read_call ["_law_text", "_law_at"]) (G_l_skip : DefOk P w K mg base 1 "_law_skip" ["_law_text", "_law_at"] spSkip) : DefOk P w K mg base 2 "_law_read_call" ["_law_text", "_law_at"] spCall := by
  refine h.ok sc_l_read_call (fun vs H Q E h => by obtain ⟨_, _, rfl, _⟩ := h; rfl) (fun f cdv A outer s' H vs Q E hr h => ?_)
  obtain ⟨z, i, rfl, hz, hi, k⟩ := h
  refine ⟨_, (pss_cons (ps_set (i := 2) sc_l_read_call.nd rfl (Or.inl rfl) (pv 1))
  (pss_cons (ps_while PassesOwn.never (PW.pt (pw_and (pt_cmpR op_lt (pe_op op_sub (pv 2) (pv 1)) pe_int (nomark _)) (pw_and (pt_cmpR op_ne (pe_slice sl_str (pv 0) (po_some (pv 2)) (po_some (pe_op op_add (pv 2) pe_int))) pe_str (nomark _)) (pw_and1 (pt_cmpR op_in_sign (pe_ix ix_str (pv 0) (pv 2) (fun _ _ => rfl)) pe_str (by rfl)))))) (pss_one (ps_set (i := 2) sc_l_read_call.nd rfl (Or.inl rfl) (pe_op op_add (pv 2) pe_int))))
  (pss_cons (ps_if (PW.pt (pw_or (pt_cmpR op_eq (pv 2) (pv 1) (nomark _)) (pw_or1 (PW.pt (pw_and (pt_cmpR op_ne (pe_slice sl_str (pv 0) (po_some (pv 2)) (po_some (pe_op op_add (pv 2) pe_int))) pe_str (nomark _)) (pw_and1 (pt_cmpR op_in_sign (pe_ix ix_str (pv 0) (pv 2) (fun _ _ => rfl)) pe_str (by rfl)))))))) (pss_one (ps_ret (pe_tup (pa_cons pe_non (pa_cons (pv 2) pa_nil))))) pss_nil)
  (pss_cons (ps_set (i := 3) sc_l_read_call.nd rfl (Or.inl rfl) (pe_callD G_l_skip (hr.mono (by first | decide | omega)) rfl (pa_cons (pv 0) (pa_cons (pv 2) pa_nil))))
  (pss_one (ps_ret (pe_ifExp (pt_cmpR op_eq (pe_slice sl_str (pv 0) (po_some (pv 3)) (po_some (pe_op op_add (pv 3) pe_int))) pe_str (nomark _)) (pe_tup (pa_cons (pe_tup (pa_cons pe_str (pa_cons (pe_slice sl_str (pv 0) (po_some (pv 1)) (po_some (pv 2))) pa_nil))) (pa_cons (pe_op op_add (pv 3) pe_int) pa_nil))) (pe_tup (pa_cons pe_non (pa_cons (pv 3) pa_nil)))))))))), ?_⟩
  obtain ⟨n1, n2⟩ := nm_le hi
  refine ⟨_, rfl, ?_⟩
  refine Wv.gset ?_
  with_reducible refine st_cut (fun σ' H' => σ' = [some (.str (tx z)), some (.int (i : Nat)), some (.int ((nl z i : Nat) : Int)), none] ∧ H' = H) (fun nx' go => ?_) ?_
  · refine while_r (fun m σ H' => ∃ n : Nat, σ = [some (.str (tx z)), some (.int (i : Nat)), some (.int ((i + n : Nat) : Int)), none] ∧ H' = H ∧ n ≤ 12 ∧ i + n ≤ z.length ∧ n + nmLen (12 - n) (z.drop (i + n)) = nmLen 12 (z.drop i) ∧ m = 12 - n) 12 ⟨0, rfl, rfl, by omega, hi, by show 0 + nmLen 12 _ = _; rw [Nat.zero_add]; rfl, rfl⟩ ?_
    rintro m σ H1 ⟨n, rfl, rfl, hn, hin, en, rfl⟩
    refine ⟨fun b H' => b = (decide (n < 12) && isL z[i + n]?) ∧ H' = H1, fun Q' hq => ?_, ?_⟩
    · refine ⟨_, rfl, _, rfl, _, _, rfl, rfl, _, _, rfl, rfl, ?_⟩
      refine ⟨_, rfl, ?_⟩
      have hlt : (((i + n : Nat) : Int) - (i : Nat) < 12) ↔ n < 12 := by omega
      have hd : decide (((i + n : Nat) : Int) - (i : Nat) < 12) = decide (n < 12) := decide_eq_decide.mpr hlt
      rw [hd]
      refine ite2 (fun t => ?_) (fun t => ?_)
      · refine ⟨_, rfl, _, rfl, _, rfl, _, rfl, _, _, rfl, rfl, _, rfl, _, rfl, txl hz, ?_⟩
        rw [cut1]
        refine ⟨rfl, _, rfl, ?_⟩
        rw [sgn_nil]
        cases q : z[i + n]? with
        | none => exact iteF (hq _ _ ⟨by rw [t, q]; rfl, rfl⟩)
        | some c =>
          refine iteT ?_
          refine ⟨_, rfl, _, rfl, tx z, _, c, rfl, rfl, txl hz, atI_nat q, c, _, rfl, rfl, _, rfl, ?_⟩
          rw [zAl0, alpha_mem]
          exact hq _ _ ⟨by rw [t, q, Bool.true_and], rfl⟩
      · refine hq _ _ ⟨?_, rfl⟩
        have t' : decide (n < 12) = false := by simpa using t
        rw [t']; rfl
    · rintro b _ ⟨rfl, rfl⟩
      refine ite2 (fun t => ?_) (fun t => ?_)
      · rw [Bool.and_eq_true] at t
        have t1 : n < 12 := of_decide_eq_true t.1
        have t2 := t.2
        have hl : i + n < z.length := by
          cases q : z[i + n]? with
          | none => rw [q] at t2; cases t2
          | some c => exact get_lt q
        walk_at "rd"
        refine ⟨12 - (n + 1), by omega, n + 1, by rw [← Nat.add_assoc]; rfl, rfl, by omega, by omega, ?_, rfl⟩
        rw [show 12 - n = (12 - (n + 1)) + 1 by omega, nmLen_more t2] at en
        rw [show i + (n + 1) = i + n + 1 by omega]
        omega
      · have e0 : nmLen (12 - n) (z.drop (i + n)) = 0 := by
          apply nmLen_end
          by_cases q : n < 12
          · left
            have t' : (decide (n < 12) && isL z[i + n]?) = false := by simpa using t
            rw [decide_eq_true q, Bool.true_and] at t'
            exact t'
          · right; omega
        refine go _ _ ⟨?_, rfl⟩
        have : nl z i = i + n := by show i + nmLen 12 (z.drop i) = _; omega
        rw [this]
  · rintro σ' H1 ⟨rfl, e1⟩
    subst e1
    have hn := nl_len hi
    have hcmp : (V.int ((nl z i : Nat) : Int) = V.int ((i : Nat) : Int)) ↔ nmLen 12 (z.drop i) = 0 := by
      constructor
      · intro e
        have := V.int.inj e
        have h2 : nl z i = i + nmLen 12 (z.drop i) := rfl
        omega
      · intro e
        have h2 : nl z i = i + nmLen 12 (z.drop i) := rfl
        rw [h2, e]; rfl
    have hd : decide (V.int ((nl z i : Nat) : Int) = V.int ((i : Nat) : Int)) = decide (nmLen 12 (z.drop i) = 0) := decide_eq_decide.mpr hcmp
    walk_at "nx"
    refine withB (E := tOr _ _) (fun b H' => b = (decide (nmLen 12 (z.drop i) = 0) || isL z[nl z i]?) ∧ H' = H1) (fun Q' go => ?_) ?_
    · refine ⟨_, rfl, _, rfl, rfl, _, rfl, ?_⟩
      rw [hd]
      refine ite2 (fun t => go _ _ ⟨by rw [t]; rfl, rfl⟩) (fun t => ?_)
      have t' : decide (nmLen 12 (z.drop i) = 0) = false := by simpa using t
      refine ⟨_, rfl, _, rfl, _, rfl, _, rfl, _, _, rfl, rfl, _, rfl, _, rfl, txl hz, ?_⟩
      rw [cut1]
      refine ⟨rfl, _, rfl, ?_⟩
      rw [sgn_nil]
      cases q : z[nl z i]? with
      | none => exact iteF (go _ _ ⟨by rw [t', q]; rfl, rfl⟩)
      | some c =>
        refine iteT ?_
        refine ⟨_, rfl, _, rfl, tx z, _, c, rfl, rfl, txl hz, atI_nat q, c, _, rfl, rfl, _, rfl, ?_⟩
        rw [zAl0, alpha_mem]
        exact go _ _ ⟨by rw [t', q, Bool.false_or], rfl⟩
    rintro b H2 ⟨rfl, e2⟩
    subst e2
    unfold rdCall at k
    refine ite2 (fun t => ?_) (fun t => ?_)
    · refine ⟨_, rfl, by show 2 ≤ sizeLine; decide, fun r hr => k _ _ (Same.new hr _) ⟨r, rfl, ?_⟩⟩
      by_cases q : nmLen 12 (z.drop i) = 0
      · rw [if_pos q]
        have e0 : nl z i = i := by show i + nmLen 12 (z.drop i) = i; omega
        show Fr _ _ r = _
        rw [e0]; exact fr_new (fun _ _ h => h) hr
      · rw [if_neg q]
        rw [decide_eq_false q, Bool.false_or] at t
        rw [if_pos t]
        exact fr_new (fun _ _ h => h) hr
    · have t' : decide (nmLen 12 (z.drop i) = 0) = false ∧ isL z[nl z i]? = false := by
        have : (decide (nmLen 12 (z.drop i) = 0) || isL z[nl z i]?) = false := by simpa using t
        exact Bool.or_eq_false_iff.mp this
      rw [if_neg (of_decide_eq_false t'.1), if_neg (by rw [t'.2]; exact Bool.false_ne_true)] at k
      walk_at "nx"
      refine ⟨_, rfl, _, rfl, z, nl z i, rfl, hz, hn.2, ?_⟩
      walk_at "nx"
      refine ⟨_, rfl, _, rfl, _, rfl, _, rfl, _, _, rfl, rfl, _, rfl, _, rfl, txl hz, ?_⟩
      rw [cut1]
      refine ⟨rfl, _, rfl, ?_⟩
      rw [c62, sgn_eq]
      refine ite2 (fun t2 => ?_) (fun t2 => ?_)
      · rw [if_pos (of_decide_eq_true t2)] at k
        refine ⟨_, rfl, _, rfl, _, rfl, _, rfl, _, rfl, _, rfl, txl hz, by show 2 ≤ sizeLine; decide, fun u hu => ⟨_, rfl, _, _, rfl, rfl, by show 2 ≤ sizeLine; decide, fun t3 ht3 => ?_⟩⟩
        have ec : cutS (tx z) (some ((i : Nat) : Int)) (some ((nl z i : Nat) : Int)) = tx ((z.drop i).take (nmLen 12 (z.drop i))) := cutn z i _ n2
        rw [ec] at ht3 ⊢
        exact k _ _ ((Same.new hu _).trans (Same.new ht3 _)) ⟨t3, rfl, .ref u, fr_new (Same.new hu _) ht3, u, rfl, fr_mono (fun _ _ h => h) (Same.new ht3 _) _ _ (fr_new (fun _ _ h => h) hu)⟩
      · rw [if_neg (fun q => t2 (decide_eq_true q))] at k
        exact ⟨_, rfl, by show 2 ≤ sizeLine; decide, fun r hr => k _ _ (Same.new hr _) ⟨r, rfl, fr_new (fun _ _ h => h) hr⟩⟩
end
end Wy
namespace Wy
open PySem PySem.Spec PyProof.Rows L2 Wv Ws Bk Oq Wx
/-! ### the law's reading of one part -/
def spRo (g : Nat → List Nat → Nat → Option Rd) (N o : Nat) : Sp := fun vs H Q _ => ∃ (z : List Nat) (i n : Nat) (r : Rd), vs = [.str (tx z), .int (i : Nat)] ∧ z.length ≤ 400 ∧ i ≤ z.length ∧ wt (z.drop i) + o ≤ N ∧ g n z i = some r ∧ ∀ (v : V) (H' : Hp), Same H H' → Res (Fr H H') v r → Q v H'
def gCh (n : Nat) (z : List Nat) (i : Nat) : Option Rd := rdCh n z i []
def gRow (n : Nat) (z : List Nat) (i : Nat) : Option Rd := rdRow n z i []
theorem down {P : Program} {w : World} {K : PySem.W.Frag} {mg : Str → Option Value} {base : Heap} {x : Str} {st : Stmt} {ps : List Str} {g : Nat → List Nat → Nat → Option Rd} {N o a k : Nat} (hh : Here K mg x st ps) (h : ∀ M, M < N → DefOk P w K mg base (M + a) x ps (spRo g M 0)) (ho : 0 < o) (hk : N + a ≤ k + o) :
    DefOk P w K mg base k x ps (spRo g N o) := by
  by_cases q : o ≤ N
  · obtain ⟨f, fd, m, kp, b, F⟩ := (h (N - o) (by omega)).ex
    exact ⟨f, fd, m, kp, b, (F.imp fun vs H Q E ⟨z, i, n, r, e, h1, h2, h3, h4⟩ => ⟨z, i, n, r, e, h1, h2, by omega, h4⟩).mono (by omega)⟩
  · obtain ⟨f, fd, F, m, b⟩ := hh.ex
    have no : ∀ vs H Q E, ¬ spRo g N o vs H Q E := fun vs H Q E ⟨z, i, n, r, e, h1, h2, h3, h4⟩ => by omega
    exact ⟨f, fd, m, F.kp, b, ⟨fun vs H Q E h => absurd h (no vs H Q E), fun A outer s H args us vs Q E _ _ _ _ h => absurd h (no vs H Q E)⟩⟩
section
variable {P : Program} {w : World} {K : PySem.W.Frag} {mg : Str → Option Value} {base : Heap}
theorem sgn_ne (o : Option Nat) (c : Nat) : (!decide (V.str (sgn o) = V.str (sg c))) = decide (o ≠ some c) := by
  rw [sgn_eq]
  by_cases h : o = some c
  · rw [decide_eq_true h, decide_eq_false (fun q => q h)]; rfl
  · rw [decide_eq_false h, decide_eq_true h]; rfl
abbrev s_l_read_one : Stmt := top 59
theorem sc_l_read_one : FnScope ["_law_text", "_law_at", "_law_sign", "_law_inner_here", "_law_way_here"] ["_law_text", "_law_at"] (defScope s_l_read_one) := ⟨rfl, rfl, rfl, by decide +kernel, rfl, by decide +kernel, by decide +kernel⟩
theorem step_one (N : Nat) (h : Here K mg "_law_read_one" s_l_read_one ["_law_text", "_law_at"]) (G_l_skip : DefOk P w K mg base 1 "_law_skip" ["_law_text", "_law_at"] spSkip) (G_l_read_call : DefOk P w K mg base 2 "_law_read_call" ["_law_text", "_law_at"] spCall)
    (G_l_read_choice : DefOk P w K mg base (N + 3) "_law_read_choice" ["_law_text", "_law_at"] (spRo gCh N 4)) : DefOk P w K mg base (N + 4) "_law_read_one" ["_law_text", "_law_at"] (spRo rdOne N 0) := by
  refine h.ok sc_l_read_one (fun vs H Q E h => by obtain ⟨_, _, _, _, rfl, _⟩ := h; rfl) (fun f cdv A outer s' H vs Q E hr h => ?_)
  obtain ⟨z, i, n, r, rfl, hz, hi, hwt, hrd, k⟩ := h
  refine ⟨_, (pss_cons (ps_set (i := 2) sc_l_read_one.nd rfl (Or.inl rfl) (pe_slice sl_str (pv 0) (po_some (pv 1)) (po_some (pe_op op_add (pv 1) pe_int))))
  (pss_cons (ps_if (PW.pt (pw_or (pt_cmpR op_eq (pv 2) pe_str (nomark _)) (pw_or1 (pt_cmpR op_notIn_sign (pv 2) pe_str (by rfl))))) (pss_one (ps_ret (pe_tup (pa_cons pe_non (pa_cons (pv 1) pa_nil))))) pss_nil)
  (pss_cons (ps_if (pt_cmpR op_eq (pv 2) pe_str (nomark _)) (pss_one (ps_ret (pe_callD G_l_read_call (hr.mono (by first | decide | omega)) rfl (pa_cons (pv 0) (pa_cons (pe_callD G_l_skip (hr.mono (by first | decide | omega)) rfl (pa_cons (pv 0) (pa_cons (pe_op op_add (pv 1) pe_int) pa_nil))) pa_nil))))) pss_nil)
  (pss_cons (ps_if (pt_cmpR op_ne (pv 2) pe_str (nomark _)) (pss_one (ps_ret (pe_tup (pa_cons (pe_ifExp (pt_cmpR op_eq (pv 2) pe_str (nomark _)) (pe_tup (pa_cons pe_str pa_nil)) (pe_tup (pa_cons pe_str (pa_cons (pv 2) pa_nil)))) (pa_cons (pe_op op_add (pv 1) pe_int) pa_nil))))) pss_nil)
  (pss_cons (ps_set (i := 3) sc_l_read_one.nd rfl (Or.inl rfl) (pe_callD G_l_skip (hr.mono (by first | decide | omega)) rfl (pa_cons (pv 0) (pa_cons (pe_op op_add (pv 1) pe_int) pa_nil))))
  (pss_cons (ps_if (pt_cmpR op_eq (pe_slice sl_str (pv 0) (po_some (pv 3)) (po_some (pe_op op_add (pv 3) pe_int))) pe_str (nomark _)) (pss_one (ps_ret (pe_tup (pa_cons (pe_tup (pa_cons pe_str pa_nil)) (pa_cons (pe_op op_add (pv 3) pe_int) pa_nil))))) pss_nil)
  (pss_cons (ps_asg (pe_callD G_l_read_choice (hr.mono (by first | decide | omega)) rfl (pa_cons (pv 0) (pa_cons (pv 3) pa_nil))) (pg_tup rfl (pgs_cons (pg_name (i := 4) sc_l_read_one.nd rfl (Or.inl rfl)) (pgs_cons (pg_name (i := 1) sc_l_read_one.nd rfl (Or.inl rfl)) pgs_nil))))
  (pss_cons (ps_if (pt_cmpR op_isN (pv 4) pe_non (nomark _)) (pss_one (ps_ret (pe_tup (pa_cons pe_non (pa_cons (pv 1) pa_nil))))) pss_nil)
  (pss_cons (ps_set (i := 1) sc_l_read_one.nd rfl (Or.inl rfl) (pe_callD G_l_skip (hr.mono (by first | decide | omega)) rfl (pa_cons (pv 0) (pa_cons (pv 1) pa_nil))))
  (pss_one (ps_ret (pe_ifExp (pt_cmpR op_eq (pe_slice sl_str (pv 0) (po_some (pv 1)) (po_some (pe_op op_add (pv 1) pe_int))) pe_str (nomark _)) (pe_tup (pa_cons (pv 4) (pa_cons (pe_op op_add (pv 1) pe_int) pa_nil))) (pe_tup (pa_cons pe_non (pa_cons (pv 1) pa_nil))))))))))))))), ?_⟩
  cases n with
  | zero => rw [rdOne] at hrd; cases hrd
  | succ n =>
  rw [rdOne] at hrd
  refine ⟨_, rfl, _, rfl, _, rfl, _, rfl, _, _, rfl, rfl, _, rfl, _, rfl, txl hz, ?_⟩
  rw [cut1]
  walk_at "nx"
  refine withB (E := tOr _ _) (fun b H' => b = (!one1 z[i]?) ∧ H' = H) (fun Q' go => ?_) ?_
  · refine ⟨_, rfl, rfl, _, rfl, ?_⟩
    rw [sgn_nil]
    cases q : z[i]? with
    | none => exact iteT (go _ _ ⟨by rw [q]; rfl, rfl⟩)
    | some c =>
      refine iteF ?_
      refine ⟨_, rfl, c, _, rfl, rfl, _, rfl, ?_⟩
      rw [in_one1]
      exact go _ _ ⟨by rw [q], rfl⟩
  rintro b H1 ⟨rfl, e1⟩
  subst e1
  have two : ∀ {u v : V} {Q' : VK} {H0 : Hp}, (∀ t, H0 t = none → Q' (.ref t) (upd H0 t (.tup [u, v]))) → ([u, v] : List V).length ≤ sizeLine ∧ ∀ t, H0 t = none → Q' (.ref t) (upd H0 t (.tup [u, v])) := fun h => ⟨by show 2 ≤ sizeLine; decide, h⟩
  cases q0 : one1 z[i]? with
  | false =>
    rw [if_pos q0] at hrd
    cases hrd
    refine iteT ?_
    exact ⟨_, rfl, two fun t ht => k _ _ (Same.new ht _) ⟨t, rfl, fr_new (fun _ _ h => h) ht⟩⟩
  | true =>
  rw [if_neg (by rw [q0]; decide)] at hrd
  refine iteF ?_
  obtain ⟨c, hc⟩ : ∃ c, z[i]? = some c := by
    cases q : z[i]? with
    | none => rw [q] at q0; cases q0
    | some c => exact ⟨c, rfl⟩
  have hl := get_lt hc
  have hsk := sk_len hl
  walk_at "nx"
  refine ⟨_, rfl, rfl, _, rfl, ?_⟩
  rw [c60, sgn_eq]
  refine ite2 (fun t => ?_) (fun t => ?_)
  · have t := of_decide_eq_true t
    rw [if_pos t] at hrd
    cases hrd
    refine ⟨_, rfl, _, rfl, _, rfl, _, _, rfl, rfl, z, i + 1, rfl, hz, hl, z, sk z (i + 1), rfl, hz, hsk, k⟩
  have t : z[i]? ≠ some 60 := fun q => t (decide_eq_true q)
  rw [if_neg t] at hrd
  walk_at "nx"
  refine ⟨_, rfl, rfl, _, rfl, ?_⟩
  rw [c40, sgn_ne]
  refine ite2 (fun t2 => ?_) (fun t2 => ?_)
  · rw [if_pos (of_decide_eq_true t2)] at hrd
    cases hrd
    refine withQ (E := tIf _ _ _) (fun v H' => Same H1 H' ∧ WayAt (Fr H1 H') v (if z[i]? = some 46 then .one else .letter (z[i]?.getD 0))) (fun Q' go => ?_) ?_
    · refine ⟨_, rfl, rfl, _, rfl, ?_⟩
      rw [c46, sgn_eq]
      refine ite2 (fun t3 => ?_) (fun t3 => ?_)
      · rw [if_pos (of_decide_eq_true t3)] at go
        exact ⟨by show 1 ≤ sizeLine; decide, fun u hu => go _ _ ⟨Same.new hu _, u, rfl, fr_new (fun _ _ h => h) hu⟩⟩
      · rw [if_neg (fun q => t3 (decide_eq_true q))] at go
        refine ⟨_, rfl, two fun u hu => go _ _ ⟨Same.new hu _, u, rfl, ?_⟩⟩
        rw [hc]; exact fr_new (fun _ _ h => h) hu
    · rintro v H2 ⟨s2, hv⟩
      refine ⟨_, rfl, _, _, rfl, rfl, two fun t3 ht3 => k _ _ (s2.trans (Same.new ht3 _)) ⟨t3, rfl, v, fr_new s2 ht3, WayAt.keep (Keep.of (fr_mono (fun _ _ h => h) (Same.new ht3 _))) _ _ hv⟩⟩
  have t2 : z[i]? = some 40 := by
    have : ¬ decide (z[i]? ≠ some 40) = true := t2
    simpa using this
  rw [if_neg (fun q => q t2)] at hrd
  walk_at "nx"
  refine ⟨_, rfl, _, rfl, _, _, rfl, rfl, z, i + 1, rfl, hz, hl, ?_⟩
  walk_at "nx"
  refine ⟨_, rfl, _, rfl, _, rfl, _, rfl, _, _, rfl, rfl, _, rfl, _, rfl, txl hz, ?_⟩
  rw [cut1]
  refine ⟨rfl, _, rfl, ?_⟩
  rw [c41, sgn_eq]
  refine ite2 (fun t3 => ?_) (fun t3 => ?_)
  · rw [if_pos (of_decide_eq_true t3)] at hrd
    cases hrd
    refine ⟨by show 1 ≤ sizeLine; decide, fun u hu => ⟨_, rfl, _, _, rfl, rfl, two fun t4 ht4 => k _ _ ((Same.new hu _).trans (Same.new ht4 _)) ⟨t4, rfl, .ref u, fr_new (Same.new hu _) ht4, u, rfl, fr_mono (fun _ _ h => h) (Same.new ht4 _) _ _ (fr_new (fun _ _ h => h) hu)⟩⟩⟩
  rw [if_neg (fun q => t3 (decide_eq_true q))] at hrd
  walk_at "nx"
  cases hr2 : rdCh n z (sk z (i + 1)) [] with
  | none => rw [hr2] at hrd; cases hrd
  | some r' =>
  rw [hr2] at hrd
  have hw2 : wt (z.drop (sk z (i + 1))) + 4 ≤ N := by
    have a1 := wt_at t2
    have a2 := wt_le (z := z) (sk_le z (i + 1))
    have a3 : w1 40 = 4 := by decide
    omega
  refine ⟨_, rfl, _, rfl, z, sk z (i + 1), n, r', rfl, hz, hsk, hw2, hr2, fun v H2 s2 hv => ?_⟩
  obtain ⟨t4, rfl, hv⟩ := hv
  cases r' with
  | bad p =>
    cases hrd
    have hv : H2 t4 = some (.tup [.non, .int (p : Nat)]) := fr_out _ _ hv
    refine ⟨t4, _, rfl, SqT.of hv, rfl, _, _, rfl, _, _, rfl, rfl, ?_⟩
    walk_at "nx"
    refine ⟨_, rfl, rfl, _, rfl, ?_⟩
    rw [decide_eq_true rfl]
    refine iteT ?_
    exact ⟨_, rfl, two fun t ht => k _ _ (s2.trans (Same.new ht _)) ⟨t, rfl, fr_new s2 ht⟩⟩
  | ok w2 e =>
    obtain ⟨u, hv, hw⟩ := hv
    have hv := fr_out _ _ hv
    have hu : sk z (i + 1) < e ∧ e ≤ z.length := (ups n).2.2.2 z _ [] _ hr2 hsk
    obtain ⟨a, _, rfl, _⟩ := hw.head
    refine ⟨t4, _, rfl, SqT.of hv, rfl, _, _, rfl, _, _, rfl, rfl, ?_⟩
    walk_at "nx"
    refine ⟨_, rfl, rfl, _, rfl, ?_⟩
    rw [decide_eq_false (fun e => by cases e)]
    refine iteF ?_
    walk_at "nx"
    refine ⟨_, rfl, _, rfl, z, e, rfl, hz, hu.2, ?_⟩
    walk_at "nx"
    refine ⟨_, rfl, _, rfl, _, rfl, _, rfl, _, _, rfl, rfl, _, rfl, _, rfl, txl hz, ?_⟩
    rw [cut1]
    refine ⟨rfl, _, rfl, ?_⟩
    rw [sgn_eq]
    have hrd : some (if z[sk z e]? = some 41 then Rd.ok w2 (sk z e + 1) else .bad (sk z e)) = some r := hrd
    refine ite2 (fun t5 => ?_) (fun t5 => ?_)
    · rw [if_pos (of_decide_eq_true t5)] at hrd
      cases hrd
      exact ⟨_, rfl, _, rfl, _, _, rfl, rfl, two fun t ht => k _ _ (s2.trans (Same.new ht _)) ⟨t, rfl, _, fr_new s2 ht, WayAt.keep (Keep.of (fr_mono (fun _ _ h => h) (Same.new ht _))) _ _ hw⟩⟩
    · rw [if_neg (fun q => t5 (decide_eq_true q))] at hrd
      cases hrd
      exact ⟨_, rfl, two fun t ht => k _ _ (s2.trans (Same.new ht _)) ⟨t, rfl, fr_new s2 ht⟩⟩
end
end Wy
namespace Wy
open PySem PySem.Spec PyProof.Rows L2 Wv Ws Bk Oq Wx
/-! ### looks, rows and choices of the law's reading -/
theorem in_amp (o : Option Nat) : inV (.str (sgn o)) [.str (Str.ofString "&"), .str (Str.ofString "!")] = (decide (o = some 38) || decide (o = some 33)) := by
  rw [c38, c33]
  show ([V.str (sg 38), V.str (sg 33)].any fun y => eqV y (.str (sgn o))) = _
  rw [List.any_cons, List.any_cons, List.any_nil, eqV_sgn, eqV_sgn, Bool.or_false]
theorem in_star (o : Option Nat) : inV (.str (sgn o)) [.str (Str.ofString "*"), .str (Str.ofString "?")] = (decide (o = some 42) || decide (o = some 63)) := by
  rw [c42, c63]
  show ([V.str (sg 42), V.str (sg 63)].any fun y => eqV y (.str (sgn o))) = _
  rw [List.any_cons, List.any_cons, List.any_nil, eqV_sgn, eqV_sgn, Bool.or_false]
theorem two {u v : V} {Q' : VK} {H0 : Hp} (h : ∀ t, H0 t = none → Q' (.ref t) (upd H0 t (.tup [u, v]))) : ([u, v] : List V).length ≤ sizeLine ∧ ∀ t, H0 t = none → Q' (.ref t) (upd H0 t (.tup [u, v])) := ⟨by show 2 ≤ sizeLine; decide, h⟩
section
variable {P : Program} {w : World} {K : PySem.W.Frag} {mg : Str → Option Value} {base : Heap}
abbrev s_l_read_look : Stmt := top 58
theorem sc_l_read_look : FnScope ["_law_text", "_law_at", "_law_way_here", "_law_end"] ["_law_text", "_law_at"] (defScope s_l_read_look) := ⟨rfl, rfl, rfl, by decide +kernel, rfl, by decide +kernel, by decide +kernel⟩
theorem step_look (N : Nat) (h : Here K mg "_law_read_look" s_l_read_look ["_law_text", "_law_at"]) (G_l_skip : DefOk P w K mg base 1 "_law_skip" ["_law_text", "_law_at"] spSkip)
    (G_l_read_one : DefOk P w K mg base (N + 4) "_law_read_one" ["_law_text", "_law_at"] (spRo rdOne N 0)) (G_l_read_look : DefOk P w K mg base (N + 4) "_law_read_look" ["_law_text", "_law_at"] (spRo rdLook N 1)) : DefOk P w K mg base (N + 5) "_law_read_look" ["_law_text", "_law_at"] (spRo rdLook N 0) := by
  refine h.ok sc_l_read_look (fun vs H Q E h => by obtain ⟨_, _, _, _, rfl, _⟩ := h; rfl) (fun f cdv A outer s' H vs Q E hr h => ?_)
  obtain ⟨z, i, n, r, rfl, hz, hi, hwt, hrd, k⟩ := h
  refine ⟨_, (pss_cons (ps_set (i := 1) sc_l_read_look.nd rfl (Or.inl rfl) (pe_callD G_l_skip (hr.mono (by first | decide | omega)) rfl (pa_cons (pv 0) (pa_cons (pv 1) pa_nil))))
  (pss_cons (ps_if (pt_cmpR op_in_seq (pe_slice sl_str (pv 0) (po_some (pv 1)) (po_some (pe_op op_add (pv 1) pe_int))) (pe_lst (pa_cons pe_str (pa_cons pe_str pa_nil))) (by rfl)) (pss_cons (ps_asg (pe_callD G_l_read_look (hr.mono (by first | decide | omega)) rfl (pa_cons (pv 0) (pa_cons (pe_op op_add (pv 1) pe_int) pa_nil))) (pg_tup rfl (pgs_cons (pg_name (i := 2) sc_l_read_look.nd rfl (Or.inl rfl)) (pgs_cons (pg_name (i := 3) sc_l_read_look.nd rfl (Or.inl rfl)) pgs_nil))))
  (pss_cons (ps_if (pt_cmpR op_isN (pv 2) pe_non (nomark _)) (pss_one (ps_ret (pe_tup (pa_cons pe_non (pa_cons (pv 3) pa_nil))))) pss_nil)
  (pss_one (ps_ret (pe_tup (pa_cons (pe_tup (pa_cons (pe_ifExp (pt_cmpR op_eq (pe_ix ix_str (pv 0) (pv 1) (fun _ _ => rfl)) pe_str (nomark _)) pe_str pe_str) (pa_cons (pv 2) pa_nil))) (pa_cons (pv 3) pa_nil))))))) pss_nil)
  (pss_cons (ps_asg (pe_callD G_l_read_one (hr.mono (by first | decide | omega)) rfl (pa_cons (pv 0) (pa_cons (pv 1) pa_nil))) (pg_tup rfl (pgs_cons (pg_name (i := 2) sc_l_read_look.nd rfl (Or.inl rfl)) (pgs_cons (pg_name (i := 1) sc_l_read_look.nd rfl (Or.inl rfl)) pgs_nil))))
  (pss_cons (ps_if (pt_cmpR op_isN (pv 2) pe_non (nomark _)) (pss_one (ps_ret (pe_tup (pa_cons pe_non (pa_cons (pv 1) pa_nil))))) pss_nil)
  (pss_cons (ps_while PassesOwn.never (pt_cmpR op_in_seq (pe_slice sl_str (pv 0) (po_some (pe_callD G_l_skip (hr.mono (by first | decide | omega)) rfl (pa_cons (pv 0) (pa_cons (pv 1) pa_nil)))) (po_some (pe_op op_add (pe_callD G_l_skip (hr.mono (by first | decide | omega)) rfl (pa_cons (pv 0) (pa_cons (pv 1) pa_nil))) pe_int))) (pe_lst (pa_cons pe_str (pa_cons pe_str pa_nil))) (by rfl)) (pss_cons (ps_set (i := 1) sc_l_read_look.nd rfl (Or.inl rfl) (pe_callD G_l_skip (hr.mono (by first | decide | omega)) rfl (pa_cons (pv 0) (pa_cons (pv 1) pa_nil))))
  (pss_cons (ps_set (i := 2) sc_l_read_look.nd rfl (Or.inl rfl) (pe_tup (pa_cons (pe_ifExp (pt_cmpR op_eq (pe_ix ix_str (pv 0) (pv 1) (fun _ _ => rfl)) pe_str (nomark _)) pe_str pe_str) (pa_cons (pv 2) pa_nil))))
  (pss_one (ps_set (i := 1) sc_l_read_look.nd rfl (Or.inl rfl) (pe_op op_add (pv 1) pe_int))))))
  (pss_one (ps_ret (pe_tup (pa_cons (pv 2) (pa_cons (pv 1) pa_nil)))))))))), ?_⟩
  cases n with
  | zero => rw [rdLook] at hrd; cases hrd
  | succ n =>
  rw [rdLook] at hrd
  have hsk := sk_len hi
  have hsl := sk_le z i
  have hwl := wt_le (z := z) hsl
  refine ⟨_, rfl, _, rfl, z, i, rfl, hz, hi, ?_⟩
  walk_at "nx"
  generalize sk z i = j at *
  refine withB (E := tTest _) (fun b H' => b = (decide (z[j]? = some 38) || decide (z[j]? = some 33)) ∧ Same H H') (fun Q' go => ?_) ?_
  · refine ⟨_, rfl, _, rfl, _, rfl, _, rfl, _, _, rfl, rfl, _, rfl, _, rfl, txl hz, ?_⟩
    rw [cut1]
    refine ⟨by show 2 ≤ sizeLine; decide, fun q hq => ?_⟩
    refine ⟨q, _, rfl, .inl (SqL.of upd_same), rfl, by decide +kernel, ?_⟩
    rw [if_neg Bool.false_ne_true, in_amp]
    exact ⟨_, rfl, go _ _ ⟨rfl, Same.new hq _⟩⟩
  rintro b H1 ⟨rfl, s1⟩
  refine ite2 (fun t => ?_) (fun t => ?_)
  · have t : z[j]? = some 38 ∨ z[j]? = some 33 := by simpa using t
    obtain ⟨c, hc, hcc⟩ : ∃ c, z[j]? = some c ∧ (c = 38 ∨ c = 33) := by
      rcases t with t | t
      · exact ⟨_, t, .inl rfl⟩
      · exact ⟨_, t, .inr rfl⟩
    have hl := get_lt hc
    have hw1 : wt (z.drop (j + 1)) + 1 ≤ N := by
      have a1 := wt_at hc
      have a3 : w1 c = 1 := by rcases hcc with rfl | rfl <;> decide
      omega
    have hrd2 : ∃ r', rdLook n z (j + 1) = some r' ∧ r = (match r' with | .bad p => .bad p | .ok w e => .ok (if z[j]? = some 38 then .ahead w else .unless w) e) := by
      rcases t with t | t
      · rw [if_pos t] at hrd
        cases hr2 : rdLook n z (j + 1) with
        | none => rw [hr2] at hrd; cases hrd
        | some r' => rw [hr2] at hrd; exact ⟨r', rfl, by cases r' <;> cases hrd <;> simp only [if_pos t]⟩
      · rw [if_neg (by rw [t]; decide), if_pos t] at hrd
        cases hr2 : rdLook n z (j + 1) with
        | none => rw [hr2] at hrd; cases hrd
        | some r' => rw [hr2] at hrd; exact ⟨r', rfl, by cases r' <;> cases hrd <;> simp only [if_neg (show z[j]? ≠ some 38 by rw [t]; decide)]⟩
    obtain ⟨r', hr2, er⟩ := hrd2
    refine ⟨_, rfl, _, rfl, _, _, rfl, rfl, z, j + 1, n, r', rfl, hz, hl, hw1, hr2, fun v H2 s2 hv => ?_⟩
    have s12 := s1.trans s2
    obtain ⟨t4, rfl, hv⟩ := hv
    cases r' with
    | bad p =>
      have er : r = .bad p := er
      subst er
      have hv : H2 t4 = some (.tup [.non, .int (p : Nat)]) := fr_out _ _ hv
      refine ⟨t4, _, rfl, SqT.of hv, rfl, _, _, rfl, _, _, rfl, rfl, ?_⟩
      walk_at "nx"
      refine ⟨_, rfl, rfl, _, rfl, ?_⟩
      rw [decide_eq_true rfl]
      refine iteT ?_
      exact ⟨_, rfl, two fun t ht => k _ _ (s12.trans (Same.new ht _)) ⟨t, rfl, fr_new s12 ht⟩⟩
    | ok w2 e =>
      have er : r = .ok (if z[j]? = some 38 then .ahead w2 else .unless w2) e := er
      subst er
      obtain ⟨u, hv, hw⟩ := hv
      have hv := fr_out _ _ hv
      have hw := WayAt.keep (Keep.of (fr_mono s1 (fun _ _ h => h))) _ _ hw
      obtain ⟨a, _, rfl, _⟩ := hw.head
      refine ⟨t4, _, rfl, SqT.of hv, rfl, _, _, rfl, _, _, rfl, rfl, ?_⟩
      walk_at "nx"
      refine ⟨_, rfl, rfl, _, rfl, ?_⟩
      rw [decide_eq_false (fun e => by cases e)]
      refine iteF ?_
      walk_at "nx"
      refine withQ (E := tIf _ _ _) (fun y H' => y = .str (if z[j]? = some 38 then Str.ofString "ahead" else Str.ofString "unless") ∧ H' = H2) (fun Q' go => ?_) ?_
      · refine ⟨_, rfl, _, rfl, tx z, _, c, rfl, rfl, txl hz, atI_nat hc, rfl, _, rfl, ?_⟩
        rw [c38, show (⟨#[c]⟩ : Str) = sgn (some c) from rfl, sgn_eq, ← hc]
        refine ite2 (fun t5 => ?_) (fun t5 => ?_)
        · exact go _ _ ⟨by rw [if_pos (of_decide_eq_true t5)], rfl⟩
        · exact go _ _ ⟨by rw [if_neg (fun q => t5 (decide_eq_true q))], rfl⟩
      · rintro y H3 ⟨rfl, e3⟩
        subst e3
        refine ⟨_, rfl, ⟨by show 2 ≤ sizeLine; decide, fun t6 ht6 => ?_⟩⟩
        refine ⟨_, rfl, two fun t7 ht7 => k _ _ ((s12.trans (Same.new ht6 _)).trans (Same.new ht7 _)) ⟨t7, rfl, .ref t6, fr_new (s12.trans (Same.new ht6 _)) ht7, ?_⟩⟩
        have hw6 := WayAt.keep (Keep.of (fr_mono (H := H) (fun _ _ h => h) ((Same.new ht6 (.tup [.str (if z[j]? = some 38 then Str.ofString "ahead" else Str.ofString "unless"), .ref a])).trans (Same.new ht7 (.tup [.ref t6, .int (e : Nat)]))))) _ _ hw
        have ht6' := fr_mono (H := H) (fun _ _ h => h) (Same.new ht7 (.tup [.ref t6, .int (e : Nat)])) _ _ (fr_new (o := .tup [.str (if z[j]? = some 38 then Str.ofString "ahead" else Str.ofString "unless"), .ref a]) s12 ht6)
        by_cases q : z[j]? = some 38
        · rw [if_pos q] at ht6' hw6 ⊢
          rw [if_pos q]
          exact ⟨t6, _, rfl, ht6', hw6⟩
        · rw [if_neg q] at ht6' hw6 ⊢
          rw [if_neg q]
          exact ⟨t6, _, rfl, ht6', hw6⟩
  · have t : z[j]? ≠ some 38 ∧ z[j]? ≠ some 33 := by simpa using t
    rw [if_neg t.1, if_neg t.2] at hrd
    walk_at "nx"
    cases hr2 : rdOne n z j with
    | none => rw [hr2] at hrd; cases hrd
    | some r' =>
    rw [hr2] at hrd
    refine ⟨_, rfl, _, rfl, z, j, n, r', rfl, hz, hsk, by omega, hr2, fun v H2 s2 hv => ?_⟩
    have s12 := s1.trans s2
    obtain ⟨t4, rfl, hv⟩ := hv
    cases r' with
    | bad p =>
      cases hrd
      have hv : H2 t4 = some (.tup [.non, .int (p : Nat)]) := fr_out _ _ hv
      refine ⟨t4, _, rfl, SqT.of hv, rfl, _, _, rfl, _, _, rfl, rfl, ?_⟩
      walk_at "nx"
      refine ⟨_, rfl, rfl, _, rfl, ?_⟩
      rw [decide_eq_true rfl]
      refine iteT ?_
      exact ⟨_, rfl, two fun t ht => k _ _ (s12.trans (Same.new ht _)) ⟨t, rfl, fr_new s12 ht⟩⟩
    | ok w2 e =>
      cases hrd
      obtain ⟨u, hv, hw⟩ := hv
      have hv := fr_out _ _ hv
      have hw := WayAt.keep (Keep.of (fr_mono s1 (fun _ _ h => h))) _ _ hw
      have hu : j < e ∧ e ≤ z.length := (ups n).1 z _ _ hr2 hsk
      obtain ⟨a, _, rfl, _⟩ := hw.head
      refine ⟨t4, _, rfl, SqT.of hv, rfl, _, _, rfl, _, _, rfl, rfl, ?_⟩
      walk_at "nx"
      refine ⟨_, rfl, rfl, _, rfl, ?_⟩
      rw [decide_eq_false (fun e => by cases e)]
      refine iteF ?_
      -- the marks
      have tx3 : ∀ x3 : Option V, True := fun _ => trivial
      refine while_r (fun m σ H' => ∃ (w3 : W) (v3 : V) (e3 : Nat) (x3 : Option V), σ = [some (.str (tx z)), some (.int (e3 : Nat)), some v3, x3] ∧ Same H H' ∧ WayAt (Fr H H') v3 w3 ∧ e3 ≤ z.length ∧ z.length - e3 < m ∧ rdMarks m z w3 e3 = rdMarks (z.length + 1) z w2 e) (z.length + 1) ⟨w2, _, e, _, rfl, s12, hw, hu.2, by omega, rfl⟩ ?_
      rintro m σ H3 ⟨w3, v3, e3, x3, rfl, s3, hw3, he3, hm, em⟩
      cases m with
      | zero => exact absurd hm (Nat.not_lt_zero _)
      | succ m =>
      have hs3 := sk_len he3
      have hsl3 := sk_le z e3
      refine ⟨fun b H' => b = (decide (z[sk z e3]? = some 42) || decide (z[sk z e3]? = some 63)) ∧ Same H3 H', fun Q' go => ?_, ?_⟩
      · refine ⟨_, rfl, _, rfl, _, rfl, z, e3, rfl, hz, he3, _, rfl, _, rfl, _, rfl, z, e3, rfl, hz, he3, _, _, rfl, rfl, _, rfl, _, rfl, txl hz, ?_⟩
        rw [cut1]
        refine ⟨by show 2 ≤ sizeLine; decide, fun q hq => ?_⟩
        refine ⟨q, _, rfl, .inl (SqL.of upd_same), rfl, by decide +kernel, ?_⟩
        rw [if_neg Bool.false_ne_true, in_star]
        exact ⟨_, rfl, go _ _ ⟨rfl, Same.new hq _⟩⟩
      rintro b H4 ⟨rfl, s4⟩
      rw [show rdMarks (m + 1) z w3 e3 = (if z[sk z e3]? = some 42 then rdMarks m z w3.again (sk z e3 + 1) else if z[sk z e3]? = some 63 then rdMarks m z w3.maybe (sk z e3 + 1) else (w3, e3)) from rfl] at em
      refine ite2 (fun t5 => ?_) (fun t5 => ?_)
      · have t5 : z[sk z e3]? = some 42 ∨ z[sk z e3]? = some 63 := by simpa using t5
        obtain ⟨c, hc⟩ : ∃ c, z[sk z e3]? = some c := t5.elim (fun q => ⟨_, q⟩) fun q => ⟨_, q⟩
        have hl := get_lt hc
        refine ⟨_, rfl, _, rfl, z, e3, rfl, hz, he3, ?_⟩
        walk_at "nx"
        refine withQ (E := tIf _ _ _) (fun y H' => y = .str (if z[sk z e3]? = some 42 then Str.ofString "again" else Str.ofString "maybe") ∧ H' = H4) (fun Q' go => ?_) ?_
        · refine ⟨_, rfl, _, rfl, tx z, _, c, rfl, rfl, txl hz, atI_nat hc, rfl, _, rfl, ?_⟩
          rw [c42, show (⟨#[c]⟩ : Str) = sgn (some c) from rfl, sgn_eq, ← hc]
          refine ite2 (fun t5 => ?_) (fun t5 => ?_)
          · exact go _ _ ⟨by rw [if_pos (of_decide_eq_true t5)], rfl⟩
          · exact go _ _ ⟨by rw [if_neg (fun q => t5 (decide_eq_true q))], rfl⟩
        · rintro y H5 ⟨rfl, e5⟩
          subst e5
          refine ⟨_, rfl, ⟨by show 2 ≤ sizeLine; decide, fun t6 ht6 => ?_⟩⟩
          have hw6 := WayAt.keep (Keep.of (fr_mono (H := H) (fun _ _ h => h) (s4.trans (Same.new ht6 (.tup [.str (if z[sk z e3]? = some 42 then Str.ofString "again" else Str.ofString "maybe"), v3]))))) _ _ hw3
          have hs6 := (s3.trans s4).trans (Same.new ht6 (.tup [.str (if z[sk z e3]? = some 42 then Str.ofString "again" else Str.ofString "maybe"), v3]))
          walk_at "nx"
          walk_at "rd"
          by_cases q : z[sk z e3]? = some 42
          · rw [if_pos q] at em
            refine ⟨m, Nat.lt_succ_self _, .again w3, _, sk z e3 + 1, _, rfl, hs6, ⟨t6, _, rfl, ?_, hw6⟩, hl, by omega, em⟩
            rw [if_pos q]; exact fr_new (s3.trans s4) ht6
          · rw [if_neg q] at em
            rw [if_pos (t5.elim (fun z => absurd z q) id)] at em
            refine ⟨m, Nat.lt_succ_self _, .maybe w3, _, sk z e3 + 1, _, rfl, hs6, ⟨t6, _, rfl, ?_, hw6⟩, hl, by omega, em⟩
            rw [if_neg q]; exact fr_new (s3.trans s4) ht6
      · have t5 : z[sk z e3]? ≠ some 42 ∧ z[sk z e3]? ≠ some 63 := by simpa using t5
        rw [if_neg t5.1, if_neg t5.2] at em
        rw [← em] at k
        walk_at "nx"
        refine ⟨_, rfl, _, rfl, two fun t7 ht7 => k _ _ ((s3.trans s4).trans (Same.new ht7 _)) ⟨t7, rfl, v3, fr_new (s3.trans s4) ht7, WayAt.keep (Keep.of (fr_mono (fun _ _ h => h) (s4.trans (Same.new ht7 _)))) _ _ hw3⟩⟩
end
end Wy
namespace Wy
open PySem PySem.Spec PyProof.Rows L2 Wv Ws Bk Oq Wx
/-! ### rows and choices of the law's reading -/
/-- nothing that was there is gone -/
def Dom (H H' : Hp) : Prop := ∀ a, H' a = none → H a = none
theorem Dom.of {H H' : Hp} (s : Same H H') : Dom H H' := fun _ h => same_none s h
theorem Dom.trans {H H1 H2 : Hp} (a : Dom H H1) (b : Dom H1 H2) : Dom H H2 := fun t h => a t (b t h)
theorem fr_dom {H H1 H2 H3 : Hp} (a : Dom H H1) (b : Same H2 H3) : Same (Fr H1 H2) (Fr H H3) := fun t o h => by
  cases q : H1 t with
  | none => exact fr_at (a _ q) (b _ _ (fr_out _ _ h))
  | some o' => unfold Fr at h; rw [q] at h; cases h
theorem st_nx {nx : L2.St → Hp → Prop} {rt : VK} {bk ct : L2.St → Hp → Prop} {σ : L2.St} {H : Hp} (h : nx σ H) : (Ends.mk nx rt bk ct).nx σ H := h
/-- what is made since does not know of a list that was there -/
theorem fr_list {H H' : Hp} {p : Addr} {o : HO} (h : H p ≠ none) : Same (Fr H H') (Fr H (upd H' p o)) := fun t u hu => by
  cases q : H t with
  | none =>
    have ne : t ≠ p := fun e => h (by rw [← e]; exact q)
    exact fr_at q (by rw [upd_ne ne]; exact fr_out _ _ hu)
  | some o' => unfold Fr at hu; rw [q] at hu; cases hu
theorem rowOf_at {H : Hp} {t p : Addr} {vs : List V} {ws : List W} (hn : ws.length ≠ 1) (h : H t = some (.tup [.str (Str.ofString "row"), .ref p])) (h2 : H p = some (.lst vs)) (h3 : WaysAt H vs ws) : WayAt H (.ref t) (rowOf ws) := by
  match ws, hn with
  | [], _ => exact ⟨t, p, vs, rfl, h, h2, h3⟩
  | [w], hn => exact absurd rfl hn
  | _ :: _ :: _, _ => exact ⟨t, p, vs, rfl, h, h2, h3⟩
theorem choiceOf_at {H : Hp} {t p : Addr} {vs : List V} {ws : List W} (hn : ws.length ≠ 1) (h : H t = some (.tup [.str (Str.ofString "choice"), .ref p])) (h2 : H p = some (.lst vs)) (h3 : WaysAt H vs ws) : WayAt H (.ref t) (choiceOf ws) := by
  match ws, hn with
  | [], _ => exact ⟨t, p, vs, rfl, h, h2, h3⟩
  | [w], hn => exact absurd rfl hn
  | _ :: _ :: _, _ => exact ⟨t, p, vs, rfl, h, h2, h3⟩
section
variable {P : Program} {w : World} {K : PySem.W.Frag} {mg : Str → Option Value} {base : Heap}
abbrev s_l_read_row : Stmt := top 57
theorem sc_l_read_row : FnScope ["_law_text", "_law_at", "_law_ways", "_law_way_here"] ["_law_text", "_law_at"] (defScope s_l_read_row) := ⟨rfl, rfl, rfl, by decide +kernel, rfl, by decide +kernel, by decide +kernel⟩
theorem step_row (N : Nat) (B : Bs mg) (h : Here K mg "_law_read_row" s_l_read_row ["_law_text", "_law_at"]) (G_l_skip : DefOk P w K mg base 1 "_law_skip" ["_law_text", "_law_at"] spSkip) (G_l_begins : DefOk P w K mg base 1 "_law_begins" ["_law_sign"] spBegs)
    (G_l_read_look : DefOk P w K mg base (N + 5) "_law_read_look" ["_law_text", "_law_at"] (spRo rdLook N 0)) : DefOk P w K mg base (N + 6) "_law_read_row" ["_law_text", "_law_at"] (spRo gRow N 0) := by
  have B_len := B.len
  refine h.ok sc_l_read_row (fun vs H Q E h => by obtain ⟨_, _, _, _, rfl, _⟩ := h; rfl) (fun f cdv A outer s' H vs Q E hr h => ?_)
  obtain ⟨z, i, n, r, rfl, hz, hi, hwt, hrd, k⟩ := h
  refine ⟨_, (pss_cons (ps_set (i := 2) sc_l_read_row.nd rfl (Or.inl rfl) (pe_lst pa_nil))
  (pss_one (ps_while PassesOwn.never (pt_val pe_bl) (pss_cons (ps_set (i := 1) sc_l_read_row.nd rfl (Or.inl rfl) (pe_callD G_l_skip (hr.mono (by first | decide | omega)) rfl (pa_cons (pv 0) (pa_cons (pv 1) pa_nil))))
  (pss_cons (ps_if (PW.pt (pw_and (pt_cmpR (op_neB (rcB_list (.inr rfl) monB_flat eqB_flat) (hr.mono (by first | decide | omega))) (pv 2) (pe_lst pa_nil) (nomark _)) (pw_and1 (pt_not (pt_val (pe_callD G_l_begins (hr.mono (by first | decide | omega)) rfl (pa_cons (pe_slice sl_str (pv 0) (po_some (pv 1)) (po_some (pe_op op_add (pv 1) pe_int))) pa_nil))))))) (pss_one (ps_ret (pe_tup (pa_cons (pe_ifExp (pt_cmpR op_eq (pe_callB call_len_seq rfl B_len PySem.boot_len (pa_cons (pv 2) pa_nil)) pe_int (nomark _)) (pe_ix ix_list (pv 2) pe_int (fun _ _ => rfl)) (pe_tup (pa_cons pe_str (pa_cons (pv 2) pa_nil)))) (pa_cons (pv 1) pa_nil))))) pss_nil)
  (pss_cons (ps_asg (pe_callD G_l_read_look (hr.mono (by first | decide | omega)) rfl (pa_cons (pv 0) (pa_cons (pv 1) pa_nil))) (pg_tup rfl (pgs_cons (pg_name (i := 3) sc_l_read_row.nd rfl (Or.inl rfl)) (pgs_cons (pg_name (i := 1) sc_l_read_row.nd rfl (Or.inl rfl)) pgs_nil))))
  (pss_cons (ps_if (pt_cmpR op_isN (pv 3) pe_non (nomark _)) (pss_one (ps_ret (pe_tup (pa_cons pe_non (pa_cons (pv 1) pa_nil))))) pss_nil)
  (pss_one (ps_expr (pe_bm PySem.F.plainAttrs_list PySem.F.slot_list_append PySem.F.type_list_append mt_append (pv 2) (pa_cons (pv 3) pa_nil))))))))))), ?_⟩
  refine ⟨by show 0 ≤ sizeLine; decide, fun p hp => ?_⟩
  refine st_nx ?_
  refine while_r (fun m σ H' => ∃ (i1 : Nat) (ws : List W) (vs : List V) (x3 : Option V), σ = [some (.str (tx z)), some (.int (i1 : Nat)), some (.ref p), x3] ∧ Same H H' ∧ Dom (upd H p (.lst [])) H' ∧ H' p = some (.lst vs) ∧ WaysAt (Fr (upd H p (.lst [])) H') vs ws ∧ i ≤ i1 ∧ i1 ≤ z.length ∧ ws.length ≤ i1 ∧ rdRow m z i1 ws = some r) n ?_ ?_
  · exact ⟨i, [], [], _, rfl, Same.new hp _, fun _ h => h, upd_same, rfl, Nat.le_refl _, hi, Nat.zero_le _, hrd⟩
  rintro m σ H3 ⟨i1, ws, vs, x3, rfl, s3, d3, hp3, hw3, hi1, hi2, hlen, em⟩
  have hpn : upd H p (.lst []) p ≠ none := by rw [upd_same]; exact fun e => by cases e
  have hvl := WaysAt.len _ _ hw3
  cases m with
  | zero => rw [rdRow] at em; cases em
  | succ m =>
  rw [rdRow] at em
  refine ⟨fun b H' => b = true ∧ H' = H3, fun Q' go => ⟨_, rfl, go _ _ ⟨rfl, rfl⟩⟩, ?_⟩
  rintro b H4 ⟨rfl, e4⟩
  subst e4
  refine iteT ?_
  have hsk := sk_len hi2
  have hsl := sk_le z i1
  have hwl := wt_le (z := z) (Nat.le_trans hi1 hsl)
  refine ⟨_, rfl, _, rfl, z, i1, rfl, hz, hi2, ?_⟩
  walk_at "nx"
  generalize sk z i1 = j at *
  refine withB (E := tAnd _ _) (fun b H' => b = (decide (ws ≠ []) && !begins z[j]?) ∧ Same H4 H') (fun Q' go => ?_) ?_
  · refine ⟨_, rfl, by show 0 ≤ sizeLine; decide, fun q hq => ?_⟩
    have hp4 : upd H4 q (.lst []) p = some (.lst vs) := Same.new hq _ _ _ hp3
    refine ⟨decide (ws = []), ⟨p, q, vs, [], rfl, rfl, hp4, upd_same, ?_, fun e => ?_⟩, fun H5 e5 => ?_⟩
    · cases ws with
      | nil => rw [show vs = [] from hw3]; rfl
      | cons x xs =>
        obtain ⟨u, us, rfl, _⟩ := hw3
        rfl
    · rw [e, hq] at hp3
      cases hp3
    · have s5 : Same H4 H5 := (Same.new hq _).trans (fun b o q => e5 b o q)
      refine ⟨_, rfl, ?_⟩
      rw [show opB CmpOp.NotEq (decide (ws = [])) = decide (ws ≠ []) by by_cases q : ws = [] <;> simp [q, opB]]
      refine ite2 (fun t => ?_) (fun t => ?_)
      · refine ⟨_, rfl, _, rfl, _, rfl, _, rfl, _, _, rfl, rfl, _, rfl, _, rfl, txl hz, ?_⟩
        rw [cut1]
        refine ⟨_, rfl, _, rfl, go _ _ ⟨?_, s5⟩⟩
        rw [show decide (ws ≠ []) = true from t, Bool.true_and]
      · exact go _ _ ⟨by simp [show ws = [] by simpa using t], s5⟩
  rintro b H5 ⟨rfl, s5⟩
  refine ite2 (fun t => ?_) (fun t => ?_)
  · have t : ws ≠ [] ∧ begins z[j]? = false := by simpa using t
    rw [if_pos t] at em
    cases em
    have hp5 := s5 _ _ hp3
    have hw5 := WaysAt.keep (Keep.of (fr_dom (fun _ h => h) s5)) _ _ hw3
    have s35 := s3.trans s5
    refine withQ (E := tIf _ _ _) (fun y H' => Same H5 H' ∧ WayAt (Fr H H') y (rowOf ws)) (fun Q' go => ?_) ?_
    · refine ⟨_, rfl, p, vs, rfl, .inl (SqL.of hp5), rfl, _, rfl, ?_⟩
      refine ite2 (fun t1 => ?_) (fun t1 => ?_)
      · have hl : vs.length = 1 := by have := V.int.inj (of_decide_eq_true t1); omega
        obtain ⟨x, rfl⟩ := List.length_eq_one_iff.mp (show ws.length = 1 by omega)
        obtain ⟨u, us, rfl, hu, hus⟩ := hw5
        exact ⟨_, rfl, p, _, 0, u, rfl, rfl, SqL.of hp5, atI_nat (rfl : (u :: us)[0]? = some u), go _ _ ⟨fun _ _ h => h, WayAt.keep (Keep.of (fr_mono (Same.new hp _) (fun _ _ h => h))) _ _ hu⟩⟩
      · have hl : ws.length ≠ 1 := fun e => t1 (decide_eq_true (by rw [hvl, e]; rfl))
        refine ⟨_, rfl, two fun t ht => go _ _ ⟨Same.new ht _, rowOf_at hl (fr_new s35 ht) (fr_at hp (Same.new ht _ _ _ hp5)) ?_⟩⟩
        exact WaysAt.keep (Keep.of ((fr_mono (Same.new hp _) (Same.new ht _)))) _ _ hw5
    · rintro y H6 ⟨s6, hy⟩
      exact ⟨_, rfl, two fun t ht => k _ _ ((s35.trans s6).trans (Same.new ht _)) ⟨t, rfl, y, fr_new (s35.trans s6) ht, WayAt.keep (Keep.of (fr_mono (fun _ _ h => h) (Same.new ht _))) _ _ hy⟩⟩
  · have t : ¬ (ws ≠ [] ∧ begins z[j]? = false) := fun e => t (by rw [decide_eq_true e.1, e.2]; rfl)
    rw [if_neg t] at em
    walk_at "nx"
    cases hr2 : rdLook m z j with
    | none => rw [hr2] at em; cases em
    | some r' =>
    rw [hr2] at em
    refine ⟨_, rfl, _, rfl, z, j, m, r', rfl, hz, hsk, by omega, hr2, fun v H6 s6 hv => ?_⟩
    have s36 := (s3.trans s5).trans s6
    obtain ⟨t4, rfl, hv⟩ := hv
    cases r' with
    | bad p' =>
      cases em
      have hv : H6 t4 = some (.tup [.non, .int (p' : Nat)]) := fr_out _ _ hv
      refine ⟨t4, _, rfl, SqT.of hv, rfl, _, _, rfl, _, _, rfl, rfl, ?_⟩
      walk_at "nx"
      refine ⟨_, rfl, rfl, _, rfl, ?_⟩
      rw [decide_eq_true rfl]
      refine iteT ?_
      exact ⟨_, rfl, two fun t ht => k _ _ (s36.trans (Same.new ht _)) ⟨t, rfl, fr_new s36 ht⟩⟩
    | ok w2 e =>
      obtain ⟨u, hv, hw⟩ := hv
      have hv := fr_out _ _ hv
      have hu : j < e ∧ e ≤ z.length := (ups m).2.1 z _ _ hr2 hsk
      obtain ⟨a, _, rfl, _⟩ := hw.head
      refine ⟨t4, _, rfl, SqT.of hv, rfl, _, _, rfl, _, _, rfl, rfl, ?_⟩
      walk_at "nx"
      refine ⟨_, rfl, rfl, _, rfl, ?_⟩
      rw [decide_eq_false (fun e => by cases e)]
      refine iteF ?_
      walk_at "nx"
      have hp6 := (s5.trans s6) _ _ hp3
      have hlv : vs.length < sizeLine := Nat.lt_of_le_of_lt (show vs.length ≤ 400 by omega) (by decide)
      refine ⟨_, rfl, .inl ⟨rfl, _, SqL.of hp6⟩, _, rfl, p, vs, _, rfl, rfl, hp6, hlv, ?_⟩
      refine ⟨m, Nat.lt_succ_self _, e, ws ++ [w2], vs ++ [.ref a], _, rfl, Same.put hp s36 _, fun t ht => ?_, upd_same, ?_, by omega, hu.2, ?_, em⟩
      · refine d3.trans (Dom.of (s5.trans s6)) t ?_
        by_cases q : t = p
        · rw [q, upd_same] at ht; cases ht
        · rw [upd_ne q] at ht; exact ht
      · have d5 := d3.trans (Dom.of s5)
        exact WaysAt.app _ _ (WaysAt.keep (Keep.of ((fr_dom (fun _ h => h) (s5.trans s6)).trans (fr_list hpn))) _ _ hw3) ⟨_, [], rfl, WayAt.keep (Keep.of ((fr_dom d5 (fun _ _ h => h)).trans (fr_list hpn))) _ _ hw, rfl⟩
      · rw [List.length_append, List.length_singleton]; omega
end
end Wy
namespace Wy
open PySem PySem.Spec PyProof.Rows L2 Wv Ws Bk Oq Wx
section
variable {P : Program} {w : World} {K : PySem.W.Frag} {mg : Str → Option Value} {base : Heap}
abbrev s_l_read_choice : Stmt := top 56
theorem sc_l_read_choice : FnScope ["_law_text", "_law_at", "_law_ways", "_law_way_here"] ["_law_text", "_law_at"] (defScope s_l_read_choice) := ⟨rfl, rfl, rfl, by decide +kernel, rfl, by decide +kernel, by decide +kernel⟩
theorem step_choice (N : Nat) (B : Bs mg) (h : Here K mg "_law_read_choice" s_l_read_choice ["_law_text", "_law_at"]) (G_l_skip : DefOk P w K mg base 1 "_law_skip" ["_law_text", "_law_at"] spSkip)
    (G_l_read_row : DefOk P w K mg base (N + 6) "_law_read_row" ["_law_text", "_law_at"] (spRo gRow N 0)) : DefOk P w K mg base (N + 7) "_law_read_choice" ["_law_text", "_law_at"] (spRo gCh N 0) := by
  have B_len := B.len
  refine h.ok sc_l_read_choice (fun vs H Q E h => by obtain ⟨_, _, _, _, rfl, _⟩ := h; rfl) (fun f cdv A outer s' H vs Q E hr h => ?_)
  obtain ⟨z, i, n, r, rfl, hz, hi, hwt, hrd, k⟩ := h
  refine ⟨_, (pss_cons (ps_set (i := 2) sc_l_read_choice.nd rfl (Or.inl rfl) (pe_lst pa_nil))
  (pss_one (ps_while PassesOwn.never (pt_val pe_bl) (pss_cons (ps_asg (pe_callD G_l_read_row (hr.mono (by first | decide | omega)) rfl (pa_cons (pv 0) (pa_cons (pv 1) pa_nil))) (pg_tup rfl (pgs_cons (pg_name (i := 3) sc_l_read_choice.nd rfl (Or.inl rfl)) (pgs_cons (pg_name (i := 1) sc_l_read_choice.nd rfl (Or.inl rfl)) pgs_nil))))
  (pss_cons (ps_if (pt_cmpR op_isN (pv 3) pe_non (nomark _)) (pss_one (ps_ret (pe_tup (pa_cons pe_non (pa_cons (pv 1) pa_nil))))) pss_nil)
  (pss_cons (ps_expr (pe_bm PySem.F.plainAttrs_list PySem.F.slot_list_append PySem.F.type_list_append mt_append (pv 2) (pa_cons (pv 3) pa_nil)))
  (pss_cons (ps_set (i := 1) sc_l_read_choice.nd rfl (Or.inl rfl) (pe_callD G_l_skip (hr.mono (by first | decide | omega)) rfl (pa_cons (pv 0) (pa_cons (pv 1) pa_nil))))
  (pss_cons (ps_if (pt_cmpR op_ne (pe_slice sl_str (pv 0) (po_some (pv 1)) (po_some (pe_op op_add (pv 1) pe_int))) pe_str (nomark _)) (pss_one (ps_ret (pe_tup (pa_cons (pe_ifExp (pt_cmpR op_eq (pe_callB call_len_seq rfl B_len PySem.boot_len (pa_cons (pv 2) pa_nil)) pe_int (nomark _)) (pe_ix ix_list (pv 2) pe_int (fun _ _ => rfl)) (pe_tup (pa_cons pe_str (pa_cons (pv 2) pa_nil)))) (pa_cons (pv 1) pa_nil))))) pss_nil)
  (pss_one (ps_set (i := 1) sc_l_read_choice.nd rfl (Or.inl rfl) (pe_op op_add (pv 1) pe_int))))))))))), ?_⟩
  refine ⟨by show 0 ≤ sizeLine; decide, fun p hp => ?_⟩
  refine st_nx ?_
  refine while_r (fun m σ H' => ∃ (i1 : Nat) (ws : List W) (vs : List V) (x3 : Option V), σ = [some (.str (tx z)), some (.int (i1 : Nat)), some (.ref p), x3] ∧ Same H H' ∧ Dom (upd H p (.lst [])) H' ∧ H' p = some (.lst vs) ∧ WaysAt (Fr (upd H p (.lst [])) H') vs ws ∧ i ≤ i1 ∧ i1 ≤ z.length ∧ ws.length ≤ i1 ∧ rdCh m z i1 ws = some r) n ?_ ?_
  · exact ⟨i, [], [], _, rfl, Same.new hp _, fun _ h => h, upd_same, rfl, Nat.le_refl _, hi, Nat.zero_le _, hrd⟩
  rintro m σ H3 ⟨i1, ws, vs, x3, rfl, s3, d3, hp3, hw3, hi1, hi2, hlen, em⟩
  have hpn : upd H p (.lst []) p ≠ none := by rw [upd_same]; exact fun e => by cases e
  have hvl := WaysAt.len _ _ hw3
  cases m with
  | zero => rw [rdCh] at em; cases em
  | succ m =>
  rw [rdCh] at em
  refine ⟨fun b H' => b = true ∧ H' = H3, fun Q' go => ⟨_, rfl, go _ _ ⟨rfl, rfl⟩⟩, ?_⟩
  rintro b H4 ⟨rfl, e4⟩
  subst e4
  refine iteT ?_
  have hwl := wt_le (z := z) hi1
  cases hr2 : rdRow m z i1 [] with
  | none => rw [hr2] at em; cases em
  | some r' =>
  rw [hr2] at em
  refine ⟨_, rfl, _, rfl, z, i1, m, r', rfl, hz, hi2, by omega, hr2, fun v H6 s6 hv => ?_⟩
  have s36 := s3.trans s6
  obtain ⟨t4, rfl, hv⟩ := hv
  cases r' with
  | bad p' =>
    cases em
    have hv : H6 t4 = some (.tup [.non, .int (p' : Nat)]) := fr_out _ _ hv
    refine ⟨t4, _, rfl, SqT.of hv, rfl, _, _, rfl, _, _, rfl, rfl, ?_⟩
    walk_at "nx"
    refine ⟨_, rfl, rfl, _, rfl, ?_⟩
    rw [decide_eq_true rfl]
    refine iteT ?_
    exact ⟨_, rfl, two fun t ht => k _ _ (s36.trans (Same.new ht _)) ⟨t, rfl, fr_new s36 ht⟩⟩
  | ok w2 e =>
    obtain ⟨u, hv, hw⟩ := hv
    have hv := fr_out _ _ hv
    have hu0 := (ups m).2.2.1 z _ [] _ hr2 hi2
    have hu : i1 < e ∧ e ≤ z.length := ⟨hu0.1.2 rfl, hu0.2⟩
    have em : (if z[sk z e]? = some 47 then rdCh m z (sk z e + 1) (ws ++ [w2]) else some (Rd.ok (choiceOf (ws ++ [w2])) (sk z e))) = some r := em
    obtain ⟨a, _, rfl, _⟩ := hw.head
    refine ⟨t4, _, rfl, SqT.of hv, rfl, _, _, rfl, _, _, rfl, rfl, ?_⟩
    walk_at "nx"
    refine ⟨_, rfl, rfl, _, rfl, ?_⟩
    rw [decide_eq_false (fun e => by cases e)]
    refine iteF ?_
    walk_at "nx"
    have hp6 := s6 _ _ hp3
    have hlv : vs.length < sizeLine := Nat.lt_of_le_of_lt (show vs.length ≤ 400 by omega) (by decide)
    refine ⟨_, rfl, .inl ⟨rfl, _, SqL.of hp6⟩, _, rfl, p, vs, _, rfl, rfl, hp6, hlv, ?_⟩
    have s37 : Same H (upd H6 p (.lst (vs ++ [.ref a]))) := Same.put hp s36 _
    have d7 : Dom (upd H p (.lst [])) (upd H6 p (.lst (vs ++ [.ref a]))) := fun t ht => by
      refine d3.trans (Dom.of s6) t ?_
      by_cases q : t = p
      · rw [q, upd_same] at ht; cases ht
      · rw [upd_ne q] at ht; exact ht
    have hw7 : WaysAt (Fr (upd H p (.lst [])) (upd H6 p (.lst (vs ++ [.ref a])))) (vs ++ [.ref a]) (ws ++ [w2]) :=
      WaysAt.app _ _ (WaysAt.keep (Keep.of ((fr_dom (fun _ h => h) s6).trans (fr_list hpn))) _ _ hw3) ⟨_, [], rfl, WayAt.keep (Keep.of ((fr_dom d3 (fun _ _ h => h)).trans (fr_list hpn))) _ _ hw, rfl⟩
    have hp7 : upd H6 p (.lst (vs ++ [.ref a])) p = some (.lst (vs ++ [.ref a])) := upd_same
    have hl7 : (ws ++ [w2]).length ≤ e := by rw [List.length_append, List.length_singleton]; omega
    have hvl7 : (vs ++ [V.ref a]).length = (ws ++ [w2]).length := WaysAt.len _ _ hw7
    generalize upd H6 p (.lst (vs ++ [.ref a])) = H7 at *
    generalize vs ++ [V.ref a] = vs7 at *
    generalize ws ++ [w2] = ws7 at *
    walk_at "nx"
    have hsk := sk_len hu.2
    have hsl := sk_le z e
    refine ⟨_, rfl, _, rfl, z, e, rfl, hz, hu.2, ?_⟩
    walk_at "nx"
    generalize sk z e = j at *
    refine ⟨_, rfl, _, rfl, _, rfl, _, rfl, _, _, rfl, rfl, _, rfl, _, rfl, txl hz, ?_⟩
    rw [cut1]
    refine ⟨rfl, _, rfl, ?_⟩
    rw [c47, sgn_ne]
    refine ite2 (fun t => ?_) (fun t => ?_)
    · rw [if_neg (of_decide_eq_true t)] at em
      cases em
      refine withQ (E := tIf _ _ _) (fun y H' => Same H7 H' ∧ WayAt (Fr H H') y (choiceOf ws7)) (fun Q' go => ?_) ?_
      · refine ⟨_, rfl, p, vs7, rfl, .inl (SqL.of hp7), rfl, _, rfl, ?_⟩
        refine ite2 (fun t1 => ?_) (fun t1 => ?_)
        · have hl : vs7.length = 1 := by have := V.int.inj (of_decide_eq_true t1); omega
          obtain ⟨x, rfl⟩ := List.length_eq_one_iff.mp (show ws7.length = 1 by omega)
          obtain ⟨u, us, rfl, hu, hus⟩ := hw7
          exact ⟨_, rfl, p, _, 0, u, rfl, rfl, SqL.of hp7, atI_nat (rfl : (u :: us)[0]? = some u), go _ _ ⟨fun _ _ h => h, WayAt.keep (Keep.of (fr_mono (Same.new hp _) (fun _ _ h => h))) _ _ hu⟩⟩
        · have hl : ws7.length ≠ 1 := fun e => t1 (decide_eq_true (by rw [hvl7, e]; rfl))
          refine ⟨_, rfl, two fun t ht => go _ _ ⟨Same.new ht _, choiceOf_at hl (fr_new s37 ht) (fr_at hp (Same.new ht _ _ _ hp7)) ?_⟩⟩
          exact WaysAt.keep (Keep.of ((fr_mono (Same.new hp _) (Same.new ht _)))) _ _ hw7
      · rintro y H8 ⟨s8, hy⟩
        exact ⟨_, rfl, two fun t ht => k _ _ ((s37.trans s8).trans (Same.new ht _)) ⟨t, rfl, y, fr_new (s37.trans s8) ht, WayAt.keep (Keep.of (fr_mono (fun _ _ h => h) (Same.new ht _))) _ _ hy⟩⟩
    · have t : z[j]? = some 47 := by
        have : ¬ decide (z[j]? ≠ some 47) = true := t
        simpa using this
      rw [if_pos t] at em
      have hj := get_lt t
      walk_at "nx"
      exact ⟨_, rfl, _, _, rfl, rfl, m, Nat.lt_succ_self _, j + 1, ws7, vs7, _, rfl, s37, d7, hp7, hw7, by omega, hj, by omega, em⟩
end
end Wy
namespace Wy
open PySem PySem.Spec PyProof.Rows L2 Wv Ws Bk Oq Wx
section
variable {P : Program} {w : World} {K : PySem.W.Frag} {mg : Str → Option Value} {base : Heap} {c : Cs}
theorem d_reads (B : Bs mg) (h1 : Here K mg "_law_read_one" s_l_read_one ["_law_text", "_law_at"]) (h2 : Here K mg "_law_read_look" s_l_read_look ["_law_text", "_law_at"]) (h3 : Here K mg "_law_read_row" s_l_read_row ["_law_text", "_law_at"]) (h4 : Here K mg "_law_read_choice" s_l_read_choice ["_law_text", "_law_at"])
    (G_l_skip : DefOk P w K mg base 1 "_law_skip" ["_law_text", "_law_at"] spSkip) (G_l_begins : DefOk P w K mg base 1 "_law_begins" ["_law_sign"] spBegs) (G_l_read_call : DefOk P w K mg base 2 "_law_read_call" ["_law_text", "_law_at"] spCall) :
    ∀ N, DefOk P w K mg base (N + 7) "_law_read_choice" ["_law_text", "_law_at"] (spRo gCh N 0) ∧ DefOk P w K mg base (N + 5) "_law_read_look" ["_law_text", "_law_at"] (spRo rdLook N 0) := by
  intro N
  induction N using Nat.strongRecOn with
  | ind N ih =>
    have a1 := step_one N h1 G_l_skip G_l_read_call (down h4 (fun M hM => (ih M hM).1) (by decide) (by omega))
    have a2 := step_look N h2 G_l_skip a1 (down h2 (fun M hM => (ih M hM).2) (by decide) (by omega))
    exact ⟨step_choice N B h4 G_l_skip (step_row N B h3 G_l_skip G_l_begins a2), a2⟩
/-- what the text asks for: a way, or the place where it is refused -/
def AskAt (c : Cs) (H : Hp) (v : V) : W ⊕ Nat → Prop
  | .inl w => ObjAt c H v w
  | .inr p => v = .int (p : Nat)
def spDueW (c : Cs) (N : Nat) : Sp := fun vs H Q _ => ∃ (z : List Nat) (n : Nat) (r : Rd), vs = [.str (tx z)] ∧ z.length ≤ 100 ∧ wt z ≤ N ∧ rdCh n z 0 [] = some r ∧ ∀ (v : V) (H' : Hp), Same H H' → AskAt c H' v (dueOf z r) → Q v H'
theorem due_size' {z : List Nat} {n : Nat} {r : Rd} {w : W} (h : rdCh n z 0 [] = some r) (hw : dueOf z r = .inl w) : w.size ≤ 2 * z.length := by
  cases r with
  | bad p => cases hw
  | ok w' e =>
    have hu : 0 < e ∧ e ≤ z.length := (ups n).2.2.2 z 0 [] _ h (Nat.zero_le _)
    have hs := (szs n).2.2.2 z 0 [] w' e h (Nat.zero_le _) 0 (Nat.le_refl _)
    unfold dueOf at hw
    split at hw
    · cases hw
    · rename_i q
      cases q
      split at hw
      · cases hw; omega
      · cases hw
abbrev s_l_due : Stmt := top 61
theorem sc_l_due : FnScope ["_law_text", "_law_way_here", "_law_at"] ["_law_text"] (defScope s_l_due) := ⟨rfl, rfl, rfl, by decide +kernel, rfl, by decide +kernel, by decide +kernel⟩
theorem d_due (N : Nat) (h : Here K mg "_law_due" s_l_due ["_law_text"]) (B : Bs mg) (G_l_skip : DefOk P w K mg base 1 "_law_skip" ["_law_text", "_law_at"] spSkip) (G_l_read_choice : DefOk P w K mg base (N + 7) "_law_read_choice" ["_law_text", "_law_at"] (spRo gCh N 0))
    (G_l_made : DefOk P w K mg base (3 + 200) "_law_made" ["_law_way_here"] (spMade c 200)) (hN : N ≤ 190) : DefOk P w K mg base 204 "_law_due" ["_law_text"] (spDueW c N) := by
  have B_len := B.len
  refine h.ok sc_l_due (fun vs H Q E h => by obtain ⟨_, _, _, rfl, _⟩ := h; rfl) (fun f cdv A outer s' H vs Q E hr h => ?_)
  obtain ⟨z, n, r, rfl, hz, hwt, hrd, k⟩ := h
  refine ⟨_, (pss_cons (ps_asg (pe_callD G_l_read_choice (hr.mono (by first | decide | omega)) rfl (pa_cons (pv 0) (pa_cons pe_int pa_nil))) (pg_tup rfl (pgs_cons (pg_name (i := 1) sc_l_due.nd rfl (Or.inl rfl)) (pgs_cons (pg_name (i := 2) sc_l_due.nd rfl (Or.inl rfl)) pgs_nil))))
  (pss_cons (ps_if (pt_cmpR op_isN (pv 1) pe_non (nomark _)) (pss_one (ps_ret (pv 2))) pss_nil)
  (pss_cons (ps_set (i := 2) sc_l_due.nd rfl (Or.inl rfl) (pe_callD G_l_skip (hr.mono (by first | decide | omega)) rfl (pa_cons (pv 0) (pa_cons (pv 2) pa_nil))))
  (pss_one (ps_ret (pe_ifExp (pt_cmpR op_eq (pv 2) (pe_callB call_len_str rfl B_len PySem.boot_len (pa_cons (pv 0) pa_nil)) (nomark _)) (pe_callD G_l_made (hr.mono (by first | decide | omega)) rfl (pa_cons (pv 1) pa_nil)) (pv 2))))))), ?_⟩
  refine ⟨_, rfl, z, 0, n, r, rfl, by omega, Nat.zero_le _, hwt, hrd, fun v H2 s2 hv => ?_⟩
  obtain ⟨t4, rfl, hv⟩ := hv
  have hz4 : z.length ≤ 400 := by omega
  cases r with
  | bad p' =>
    have hv : H2 t4 = some (.tup [.non, .int (p' : Nat)]) := fr_out _ _ hv
    refine ⟨t4, _, rfl, SqT.of hv, rfl, _, _, rfl, _, _, rfl, rfl, ?_⟩
    walk_at "nx"
    refine ⟨_, rfl, rfl, _, rfl, ?_⟩
    rw [decide_eq_true rfl]
    refine iteT ?_
    exact ⟨_, rfl, k _ _ s2 rfl⟩
  | ok w2 e =>
    obtain ⟨u, hv, hw⟩ := hv
    have hv := fr_out _ _ hv
    have hw := WayAt.keep (Keep.of fr_out) _ _ hw
    have hu : 0 < e ∧ e ≤ z.length := (ups n).2.2.2 z 0 [] _ hrd (Nat.zero_le _)
    obtain ⟨a, _, rfl, _⟩ := hw.head
    refine ⟨t4, _, rfl, SqT.of hv, rfl, _, _, rfl, _, _, rfl, rfl, ?_⟩
    walk_at "nx"
    refine ⟨_, rfl, rfl, _, rfl, ?_⟩
    rw [decide_eq_false (fun e => by cases e)]
    refine iteF ?_
    walk_at "nx"
    refine ⟨_, rfl, _, rfl, z, e, rfl, hz4, hu.2, ?_⟩
    walk_at "nx"
    have hds := @due_size' z n _ w2 hrd
    have hdu : dueOf z (Rd.ok w2 e) = if sk z e = z.length then .inl w2 else .inr (sk z e) := rfl
    rw [hdu] at k hds
    refine ⟨_, rfl, _, rfl, _, rfl, txl hz4, rfl, _, rfl, ?_⟩
    rw [tx_len]
    refine ite2 (fun t => ?_) (fun t => ?_)
    · have t : sk z e = z.length := by have := V.int.inj (of_decide_eq_true t); omega
      rw [if_pos t] at k hds
      have := hds rfl
      exact ⟨_, rfl, _, w2, rfl, hw, by omega, by omega, fun u3 H3 s3 hu3 => k _ _ (s2.trans s3) hu3⟩
    · have t : sk z e ≠ z.length := fun q => t (decide_eq_true (by rw [q]))
      rw [if_neg t] at k
      exact ⟨_, rfl, k _ _ s2 rfl⟩
end
end Wy
namespace Wy
open PySem PySem.Spec PyProof.Rows L2 Wv Ws Bk Oq Wx
/-! ### the law's told: what Way.read tells -/
structure BadX (K : PySem.W.Frag) (mg : Str → Option Value) (BT WY : Addr) : Prop where
  m : mg "BadText" = some (.ref BT)
  mW : mg "WayError" = some (.ref WY)
  xc : ExcC K BT
  xk : (PySem.W.clsIn K BT).isSome = true
  xf : XfC K BT
  nl : PySem.W.findIn K (.ref BT) "line" = some none
  np : PySem.W.findIn K (.ref BT) "place" = some none
  kw : PySem.W.kitOne K (.ref BT) (.ref WY) = some true
  ex : PySem.W.exmOne K (.ref BT) (.ref BT) = some true
structure ReadX (P : Program) (w : World) (K : PySem.W.Frag) (mg : Str → Option Value) (base : Heap) (wy : Addr) (n : Nat) (sp : Sp) : Prop where
  ex : ∃ (mc : Value) (p g : Addr), ClX.CRead K wy mc ∧ ClX.CMet K wy mc "read" p g ∧ FnR P w K mg base (L2.CX P w) n g sp
theorem takes_len {X : Cx} {W : WX} (t : Takes X W) : Takes X (fun c d σ H => σ.length = X.N.length → W c d σ H) := fun u s' ⟨a, B, sI, pins, σ, H, cls, d, e, I, nb, up, sky, na, os, ag, w⟩ =>
  t u s' ⟨a, B, sI, pins, σ, H, cls, d, e, I, nb, up, sky, na, os, ag, w I.len⟩
theorem pss_ech {X : Cx} {b : List Stmt} {tb : XK → TS} {R : XK → Prop} (h : ∀ E, R E → PSs X b (tb E)) : PSs X b (fun D σ H => ∃ E, R E ∧ tb E D σ H) := ⟨fun pins s σ H D I ⟨E, r, q⟩ => (h E r).run pins s σ H D I q⟩
def spTold (c : Cs) : Sp := fun vs H Q _ => ∃ (z : List Nat) (n : Nat) (r : Rd), vs = [.str (tx z)] ∧ z.length ≤ 400 ∧ rdCh n z 0 [] = some r ∧ ∀ (v : V) (H' : Hp), Same H H' → AskAt c H' v (dueOf z r) → Q v H'
section
variable {P : Program} {w : World} {K : PySem.W.Frag} {mg : Str → Option Value} {base : Heap} {c : Cs} {BT WY wy : Addr}
abbrev s_l_told : Stmt := top 62
theorem sc_l_told : FnScope ["_law_text", "_law_told_here", "e"] ["_law_text"] (defScope s_l_told) := ⟨rfl, rfl, rfl, by decide +kernel, rfl, by decide +kernel, by decide +kernel⟩
theorem d_told (h : Here K mg "_law_told" s_l_told ["_law_text"]) (B : Bs mg) (T : BadX K mg BT WY) (GK_Way : mg "Way" = some (.ref wy)) (G_read : ReadX P w K mg base wy 9 (spReadX c BT)) : DefOk P w K mg base 10 "_law_told" ["_law_text"] (spTold c) := by
  have B_len := B.len; have B_isinstance := B.isinstance
  have GK_BadText := T.m; have GK_WayError := T.mW
  have XC_BadText := T.xc; have XK_BadText := T.xk; have XF_BadText := T.xf; have NO_line := T.nl; have NO_place := T.np
  obtain ⟨mc, pr, gr, GR_Way, GM_read, GF_read⟩ := G_read.ex
  refine h.ok sc_l_told (fun vs H Q E h => by obtain ⟨_, _, _, rfl, _⟩ := h; rfl) (fun f cdv A outer s' H vs Q E hr h => ?_)
  obtain ⟨z, n, r, rfl, hz, hrd, k⟩ := h
  refine ⟨_, (pss_cons (ps_try_as (X := (cxOf CX0 P w K mg base ["_law_text", "_law_told_here", "e"] "_law_told" (defScope s_l_told) f cdv A outer s' H E).nox) (n := "e") (i := 2)
      (tb := fun W D σ H => ∃ Ech : XK, (∀ cls d σ' H', Ech cls d H' → σ'.length = 3 → W cls d σ' H') ∧ tAsg (ClX.tCMeth wy (spReadX c BT) Ech (tC (.ref wy)) (tCons (tVar 0) tNil)) (gName 1) D σ H)
      rfl rfl sc_l_told.nd rfl rfl ⟨rfl, by decide, .inl GK_BadText⟩ takes0 (fun W pn xe tk po => ?_)
   (fun a oe cls d pn hz hf => (pss_one (ps_ret (pe_ifExp (PW.pt (pw_and (pt_cmpR op_eq (pe_xfK (K := K) rfl XF_BadText NO_line hz hf (pv 2)) pe_int (nomark _)) (pw_and1 (pt_val (pe_callB (call_isEDK (K := K) rfl XC_BadText XK_BadText hz hf) rfl B_isinstance (by decide +kernel) (pa_cons (pv 2) (pa_cons (pe_globC rfl GK_WayError) pa_nil))))))) (pe_xfK (K := K) rfl XF_BadText NO_place hz hf (pv 2)) pe_str)))))
  (pss_one (ps_ret (pv 1)))), ?_⟩
  · refine pss_ech (R := fun Ech => ∀ cls d σ' H', Ech cls d H' → σ'.length = 3 → W cls d σ' H') (tb := fun Ech => tAsg (ClX.tCMeth wy (spReadX c BT) Ech (tC (.ref wy)) (tCons (tVar 0) tNil)) (gName 1)) ?_
    intro Ech hW
    exact pss_one (ps_set (i := 1) sc_l_told.nd rfl (Or.inl rfl) (ClX.pe_cmeth (pe_globC rfl GK_Way) GR_Way GM_read GF_read (hr.mono (by first | decide | omega)) (passes_call (takes_len tk) hW) (pa_cons (pv 0) pa_nil)))
  · refine ⟨fun cls d H' => cls = .ref BT ∧ ∃ (dd : Addr) (p : Nat), d = some dd ∧ H' dd = some (.xd (bad 1 p)) ∧ Q (.int (p : Nat)) H', fun cls d σ' H' h' hl => ?_, rfl, _, rfl, _, z, n, r, rfl, hz, hrd, fun w' hw u H2 s2 hu => ?_, fun p hp d H2 s2 hd => ⟨rfl, d, p, rfl, hd, k _ _ s2 (by rw [hp]; exact rfl)⟩⟩
    · obtain ⟨rfl, dd, p, rfl, hd, kq⟩ := h'
      have h2 : ∀ a : Addr, (σ'.set 2 (some (V.ref a)))[2]? = some (some (V.ref a)) := fun a => by rw [List.getElem?_set_self (by omega)]
      refine ⟨true, T.ex, fun _ a ha => ?_, fun z => by cases z⟩
      refine ⟨_, h2 a, rfl, rfl, dd, _, _, rfl, hd, rfl, rfl, _, rfl, iteT ?_⟩
      refine ⟨_, h2 a, .ref WY, .ref WY, true, dd, _, rfl, fun u ru => ru, rfl, rfl, hd, T.kw, _, rfl, iteT ?_⟩
      exact ⟨_, h2 a, rfl, rfl, dd, _, _, rfl, hd, rfl, kq⟩
    · exact ⟨_, rfl, k _ _ s2 (by rw [hw]; exact hu)⟩
end
end Wy
namespace Wy
open PySem PySem.Spec PyProof.Rows L2 Wv Ws Bk Oq Wx
/-! ### texts bent -/
theorem cut_to {z : List Nat} {a : Nat} (h : a ≤ z.length) : cutS (tx z) none (some ((a : Nat) : Int)) = tx (z.take a) := by
  unfold cutS
  rw [HT.sIx_nat]
  have ez : (tx z).cps.toList = z := by simp [tx]
  have e0 : HT.sIx (tx z).length 0 none = 0 := rfl
  rw [e0, ez, tx_len, Nat.min_eq_left h]
  rfl
theorem cut_from {z : List Nat} {b : Nat} : cutS (tx z) (some ((b : Nat) : Int)) none = tx (z.drop b) := by
  unfold cutS
  rw [HT.sIx_nat]
  have ez : (tx z).cps.toList = z := by simp [tx]
  have e0 : HT.sIx (tx z).length (tx z).length none = (tx z).length := rfl
  rw [e0, ez, tx_len]
  show (⟨(List.take _ _).toArray⟩ : Str) = tx _
  rw [List.take_of_length_le (by rw [List.length_drop]; omega)]
  by_cases h : b ≤ z.length
  · rw [Nat.min_eq_left h]; rfl
  · rw [Nat.min_eq_right (by omega), List.drop_length, List.drop_eq_nil_of_le (by omega)]; rfl
theorem w1_le (c : Nat) : w1 c ≤ 4 := by
  unfold w1
  split
  · exact Nat.le_refl _
  · split
    · decide
    · split <;> decide
def odds : List (List Nat) := [[97], [98], [46], [40], [41], [47], [42], [63], [38], [33], [60], [62], [32], [65], [49], [10], [9], [60, 97, 98, 62]]
theorem odds_small : ∀ o ∈ odds, o.length ≤ 4 ∧ wt o ≤ 4 := by decide +kernel
theorem wt_take (l : List Nat) (i : Nat) : wt (l.take i) + wt (l.drop i) = wt l := by rw [← wt_app, List.take_append_drop]
def spBent (K : PySem.W.Frag) : Sp := fun vs H Q _ => ∃ (p : Pen) (z : List Nat) (n : Nat), vs = [.ref p.d, .str (tx z)] ∧ PenAt K H p n ∧ n + 10 < LIM ∧ z.length ≤ 300 ∧
  ∀ (z' : List Nat) (H' : Hp), z'.length ≤ z.length + 4 → wt z' ≤ wt z + 4 → Keep H H' → PenAt K H' p (n + 3) → Q (.str (tx z')) H'
section
variable {P : Program} {w : World} {K : PySem.W.Frag} {mg : Str → Option Value} {base : Heap}
abbrev s_l_bent : Stmt := top 63
theorem sc_l_bent : FnScope ["_law_pen_here", "_law_text", "_law_at", "_law_sort", "_law_odd"] ["_law_pen_here", "_law_text"] (defScope s_l_bent) := ⟨rfl, rfl, rfl, by decide +kernel, rfl, by decide +kernel, by decide +kernel⟩
theorem d_bent (h : Here K mg "_law_bent" s_l_bent ["_law_pen_here", "_law_text"]) (B : Bs mg) (B_max : mg "max" = none) (G_l_draw : DefOk P w K mg base 1 "_law_draw" ["_law_pen_here", "_law_many"] (spDraw K)) (G_l_pick : DefOk P w K mg base 2 "_law_pick" ["_law_pen_here", "_law_items"] (spPick K)) : DefOk P w K mg base 3 "_law_bent" ["_law_pen_here", "_law_text"] (spBent K) := by
  have B_len := B.len
  refine h.ok sc_l_bent (fun vs H Q E h => by obtain ⟨_, _, _, rfl, _⟩ := h; rfl) (fun f cdv A outer s' H vs Q E hr h => ?_)
  obtain ⟨p, z, n, rfl, hP, hn, hz, k⟩ := h
  refine ⟨_, (pss_cons (ps_par (i := 2) (j := 3) rfl sc_l_bent.nd rfl rfl (by decide) rfl rfl (pa_cons (pe_callD G_l_draw (hr.mono (by first | decide | omega)) rfl (pa_cons (pv 0) (pa_cons (pe_op op_add (pe_callB call_len_str rfl B_len PySem.boot_len (pa_cons (pv 1) pa_nil)) pe_int) pa_nil))) (pa_cons (pe_callD G_l_draw (hr.mono (by first | decide | omega)) rfl (pa_cons (pv 0) (pa_cons pe_int pa_nil))) pa_nil)) (by rfl))
  (pss_cons (ps_set (i := 4) sc_l_bent.nd rfl (Or.inl rfl) (pe_lst (pa_cons pe_str (pa_cons pe_str (pa_cons pe_str (pa_cons pe_str (pa_cons pe_str (pa_cons pe_str (pa_cons pe_str (pa_cons pe_str (pa_cons pe_str (pa_cons pe_str (pa_cons pe_str (pa_cons pe_str (pa_cons pe_str (pa_cons pe_str (pa_cons pe_str (pa_cons pe_str (pa_cons pe_str (pa_cons pe_str pa_nil))))))))))))))))))))
  (pss_cons (ps_set (i := 4) sc_l_bent.nd rfl (Or.inl rfl) (pe_callD G_l_pick (hr.mono (by first | decide | omega)) rfl (pa_cons (pv 0) (pa_cons (pv 4) pa_nil))))
  (pss_cons (ps_if (pt_cmpR op_eq (pv 3) pe_int (nomark _)) (pss_one (ps_ret (pe_op op_add_str (pe_slice sl_str (pv 1) po_none (po_some (pv 2))) (pe_slice sl_str (pv 1) (po_some (pe_op op_add (pv 2) pe_int)) po_none)))) pss_nil)
  (pss_cons (ps_if (pt_cmpR op_eq (pv 3) pe_int (nomark _)) (pss_one (ps_ret (pe_op op_add_str (pe_op op_add_str (pe_slice sl_str (pv 1) po_none (po_some (pv 2))) (pv 4)) (pe_slice sl_str (pv 1) (po_some (pv 2)) po_none)))) pss_nil)
  (pss_cons (ps_if (pt_cmpR op_eq (pv 3) pe_int (nomark _)) (pss_one (ps_ret (pe_op op_add_str (pe_op op_add_str (pe_slice sl_str (pv 1) po_none (po_some (pv 2))) (pv 4)) (pe_slice sl_str (pv 1) (po_some (pe_op op_add (pv 2) pe_int)) po_none)))) pss_nil)
  (pss_one (ps_ret (pe_ifExp (pt_cmpR op_eq (pv 3) pe_int (nomark _)) (pe_op op_add_str (pe_slice sl_str (pv 1) po_none (po_some (pv 2))) (pe_slice sl_str (pv 1) (po_some (pe_callB (call_max2 rfl) rfl B_max (by decide +kernel) (pa_cons pe_int (pa_cons (pe_op op_sub (pv 2) pe_int) pa_nil)))) po_none)) (pe_slice sl_str (pv 1) po_none (po_some (pv 2)))))))))))), ?_⟩
  have hlen : ∀ x : List Nat, x.length ≤ 400 → (tx x).length ≤ sizeLine := fun x hx => txl hx
  have hadd : ∀ x y : List Nat, x.length + y.length ≤ 1000 → (tx x).length + (tx y).length ≤ sizeLine := fun x y h => by rw [tx_len, tx_len]; exact Nat.le_trans h (by decide)
  have hn' : n < LIM := by omega
  refine ⟨_, rfl, _, rfl, _, rfl, txl (by omega), _, _, rfl, rfl, p, _, n, rfl, hP, hn', by omega, by rw [tx_len]; omega, fun d H2 d0 d1 k2 hP2 => ?_⟩
  have hdz : d.toNat ≤ z.length := by rw [tx_len] at d1; omega
  obtain ⟨a, rfl⟩ : ∃ a : Nat, d = (a : Int) := ⟨d.toNat, by omega⟩
  have ha : a ≤ z.length := by omega
  refine ⟨_, rfl, p, 5, n + 1, rfl, hP2, by omega, by decide, by decide, fun e H3 e0 e1 k3 hP3 => ⟨_, _, rfl, ?_⟩⟩
  walk_at "nx"
  refine ⟨by show 18 ≤ sizeLine; decide, fun q hq => ?_⟩
  walk_at "nx"
  have hP4 : PenAt K (upd H3 q (.lst (odds.map fun o => V.str (tx o)))) p (n + 2) := PenAt.same hP3 (Same.new hq _)
  have eo : [V.str (Str.ofString "a"), .str (Str.ofString "b"), .str (Str.ofString "."), .str (Str.ofString "("), .str (Str.ofString ")"), .str (Str.ofString "/"), .str (Str.ofString "*"), .str (Str.ofString "?"), .str (Str.ofString "&"), .str (Str.ofString "!"), .str (Str.ofString "<"), .str (Str.ofString ">"), .str (Str.ofString " "), .str (Str.ofString "A"), .str (Str.ofString "1"), .str (Str.ofString "\n"), .str (Str.ofString "\t"), .str (Str.ofString "<ab>")] = odds.map fun o => V.str (tx o) := by decide +kernel
  rw [eo]
  refine ⟨_, rfl, _, rfl, p, _, n + 2, rfl, hP4, by omega, .inl ⟨q, _, rfl, SqL.of upd_same, by decide, by decide, fun v H5 hv k5 hP5 => ?_⟩⟩
  obtain ⟨o, ho, rfl⟩ := List.mem_map.mp hv
  have hos := odds_small o ho
  have k15 : Keep H H5 := k2.trans (k3.trans ((Keep.of (Same.new hq _)).trans k5))
  walk_at "nx"
  have wa := wt_take z a
  refine ⟨_, rfl, rfl, _, rfl, ?_⟩
  have c1 : cutS (tx z) none (some (a : Int)) = tx (z.take a) := cut_to ha
  have c2 : cutS (tx z) (some ((a : Int) + 1)) none = tx (z.drop (a + 1)) := cut_from (b := a + 1)
  have c3 : cutS (tx z) (some (a : Int)) none = tx (z.drop a) := cut_from (b := a)
  have c4 : cutS (tx z) (some (if (a : Int) - 1 > 0 then (a : Int) - 1 else 0)) none = tx (z.drop (a - 1)) := by
    have : (if (a : Int) - 1 > 0 then (a : Int) - 1 else 0) = ((a - 1 : Nat) : Int) := by split <;> omega
    rw [this]; exact cut_from
  have l1 : (z.take a).length = a := by rw [List.length_take]; omega
  have l2 : (z.drop (a + 1)).length = z.length - (a + 1) := List.length_drop
  have l3 : (z.drop a).length = z.length - a := List.length_drop
  have l4 : (z.drop (a - 1)).length = z.length - (a - 1) := List.length_drop
  have w2 := wt_le (z := z) (show a ≤ a + 1 by omega)
  have w4 : wt (z.drop (a - 1)) ≤ wt (z.drop a) + 4 := by
    by_cases q : a = 0
    · subst q; exact Nat.le_add_right _ _
    · have hl : a - 1 < z.length := by omega
      have := wt_at (List.getElem?_eq_getElem hl)
      rw [show a - 1 + 1 = a by omega] at this
      have hw1 := w1_le z[a - 1]
      omega
  refine ite2 (fun t => ?_) (fun t => ?_)
  · refine ⟨_, rfl, _, rfl, _, rfl, _, rfl, hlen z (by omega), ?_⟩
    rw [c1]
    refine ⟨_, rfl, _, rfl, _, _, rfl, rfl, _, rfl, _, rfl, hlen z (by omega), ?_⟩
    rw [c2]
    refine ⟨_, _, rfl, rfl, hadd _ _ (by omega), ?_⟩
    rw [tx_app]
    exact k _ _ (by rw [List.length_append]; omega) (by rw [wt_app]; omega) k15 hP5
  walk_at "nx"
  refine ⟨_, rfl, rfl, _, rfl, ?_⟩
  refine ite2 (fun t => ?_) (fun t => ?_)
  · refine ⟨_, rfl, _, rfl, _, rfl, _, rfl, hlen z (by omega), ?_⟩
    rw [c1]
    refine ⟨_, rfl, _, _, rfl, rfl, hadd _ _ (by omega), ?_⟩
    rw [tx_app]
    refine ⟨_, rfl, _, rfl, _, rfl, _, rfl, hlen z (by omega), ?_⟩
    rw [c3]
    refine ⟨_, _, rfl, rfl, hadd _ _ (by rw [List.length_append]; omega), ?_⟩
    rw [tx_app]
    exact k _ _ (by rw [List.length_append, List.length_append]; omega) (by rw [wt_app, wt_app]; omega) k15 hP5
  walk_at "nx"
  refine ⟨_, rfl, rfl, _, rfl, ?_⟩
  refine ite2 (fun t => ?_) (fun t => ?_)
  · refine ⟨_, rfl, _, rfl, _, rfl, _, rfl, hlen z (by omega), ?_⟩
    rw [c1]
    refine ⟨_, rfl, _, _, rfl, rfl, hadd _ _ (by omega), ?_⟩
    rw [tx_app]
    refine ⟨_, rfl, _, rfl, _, _, rfl, rfl, _, rfl, _, rfl, hlen z (by omega), ?_⟩
    rw [c2]
    refine ⟨_, _, rfl, rfl, hadd _ _ (by rw [List.length_append]; omega), ?_⟩
    rw [tx_app]
    exact k _ _ (by rw [List.length_append, List.length_append]; omega) (by rw [wt_app, wt_app]; omega) k15 hP5
  walk_at "nx"
  refine ⟨_, rfl, rfl, _, rfl, ?_⟩
  refine ite2 (fun t => ?_) (fun t => ?_)
  · refine ⟨_, rfl, _, rfl, _, rfl, _, rfl, hlen z (by omega), ?_⟩
    rw [c1]
    refine ⟨_, rfl, _, rfl, _, _, rfl, rfl, _, _, rfl, _, rfl, _, rfl, hlen z (by omega), ?_⟩
    rw [c4]
    refine ⟨_, _, rfl, rfl, hadd _ _ (by omega), ?_⟩
    rw [tx_app]
    exact k _ _ (by rw [List.length_append]; omega) (by rw [wt_app]; omega) k15 hP5
  · refine ⟨_, rfl, _, rfl, _, rfl, _, rfl, hlen z (by omega), ?_⟩
    rw [c1]
    exact k _ _ (by omega) (by omega) k15 hP5
end
end Wy
/-! how long the text of a way is, and how deep it may be read: pure facts -/
namespace Wy
open PySem PySem.Spec PyProof.Rows L2 Wv Ws
theorem tx_cps (x : Str) : x = tx x.cps.toList := by
  show x = ⟨x.cps.toList.toArray⟩
  rw [Array.toArray_toList]
theorem join_tx' : ∀ xs : List Str, PySem.Str.join (Str.ofString "") xs = tx (xs.flatMap fun x => x.cps.toList)
  | [] => rfl
  | [x] => by
    show x = _
    rw [List.flatMap_cons, List.flatMap_nil, List.append_nil]
    exact tx_cps x
  | x :: y :: r => by
    show x ++ Str.ofString "" ++ PySem.Str.join (Str.ofString "") (y :: r) = _
    rw [join_tx' (y :: r), empty_tx, List.flatMap_cons]
    conv => lhs; rw [tx_cps x]
    rw [tx_app, tx_app, List.append_nil]
    rfl
theorem txt_cod (w : W) : txt w = tx (cod w) := by
  unfold txt
  rw [(TL.join_eq _ _).trans (join_tx' _), cod_pcs]
theorem sum_flat : ∀ xs : List Str, ((xs.map (·.length)).sum) = (xs.flatMap fun x => x.cps.toList).length
  | [] => rfl
  | x :: xs => by
    have e : x.length = x.cps.toList.length := by show x.cps.size = _; rw [Array.length_toList]
    rw [List.map_cons, List.sum_cons, sum_flat xs, List.flatMap_cons, List.length_append, e]
theorem br_len (b : Bool) (l : List Nat) : (brC b l).length ≤ l.length + 2 := by
  unfold brC
  split
  · rw [List.length_cons, List.length_append, List.length_singleton]
    omega
  · omega
def bk (w : W) : Nat := if w.kind = 3 ∨ w.kind = 4 ∨ w.kind = 7 ∨ w.kind = 8 then 4 else 0
theorem bk_le (w : W) : bk w ≤ 4 := by unfold bk; split <;> omega
theorem br_wt (w : W) (k : Nat) : wt (brC (needs w.kind k) (cod w)) ≤ wt (cod w) + bk w := by
  unfold brC
  split
  · rename_i h
    have e4 : bk w = 4 := by
      unfold bk
      rw [if_pos]
      unfold needs at h
      by_cases h3 : w.kind = 3
      · exact .inl h3
      · rw [if_neg h3] at h
        by_cases h7 : w.kind = 7 ∨ w.kind = 8
        · exact .inr (.inr h7)
        · rw [if_neg h7] at h
          exact .inr (.inl (of_decide_eq_true h))
    have e1 : w1 40 = 4 := by decide
    have e2 : wt [41] = 0 := by decide
    rw [wt_cons, wt_app, e1, e2, e4]
    omega
  · omega
mutual
theorem cod_len5 (z : List Nat) : ∀ w : W, w.wf z → (cod w).length + 5 ≤ 7 * w.size
  | .nothing, _ => by simp [cod, W.size]
  | .one, _ => by simp [cod, W.size]
  | .letter _, _ => by simp [cod, W.size]
  | .call _, h => h.elim
  | .row ws, h => by
    have := codJ_len5 z 3 [32] (by decide) true ws h.2
    show (codJ 3 [32] true ws).length + 5 ≤ 7 * (1 + W.sizes ws)
    omega
  | .choice ws, h => by
    have := codJ_len5 z 4 [32, 47, 32] (by decide) true ws h.2
    show (codJ 4 [32, 47, 32] true ws).length + 5 ≤ 7 * (1 + W.sizes ws)
    omega
  | .again w, h => by
    have h1 := cod_len5 z w h
    have h2 := br_len (needs w.kind 5) (cod w)
    show (brC (needs w.kind 5) (cod w) ++ [42]).length + 5 ≤ 7 * (1 + w.size)
    rw [List.length_append, List.length_singleton]
    omega
  | .maybe w, h => by
    have h1 := cod_len5 z w h
    have h2 := br_len (needs w.kind 6) (cod w)
    show (brC (needs w.kind 6) (cod w) ++ [63]).length + 5 ≤ 7 * (1 + w.size)
    rw [List.length_append, List.length_singleton]
    omega
  | .ahead w, h => by
    have h1 := cod_len5 z w h
    have h2 := br_len (needs w.kind 7) (cod w)
    show (38 :: brC (needs w.kind 7) (cod w)).length + 5 ≤ 7 * (1 + w.size)
    rw [List.length_cons]
    omega
  | .unless w, h => by
    have h1 := cod_len5 z w h
    have h2 := br_len (needs w.kind 8) (cod w)
    show (33 :: brC (needs w.kind 8) (cod w)).length + 5 ≤ 7 * (1 + w.size)
    rw [List.length_cons]
    omega
theorem codJ_len5 (z : List Nat) (k : Nat) (b : List Nat) (hb : b.length ≤ 3) : ∀ (f : Bool) (ws : List W), W.wfs z ws → (codJ k b f ws).length ≤ 7 * W.sizes ws
  | _, [], _ => Nat.zero_le _
  | f, w :: ws, h => by
    have h1 := cod_len5 z w h.1
    have h2 := br_len (needs w.kind k) (cod w)
    have h3 := codJ_len5 z k b hb false ws h.2
    have h4 : (if f = true then ([] : List Nat) else b).length ≤ 3 := by
      split
      · exact Nat.zero_le _
      · exact hb
    show ((if f = true then [] else b) ++ (brC (needs w.kind k) (cod w) ++ codJ k b false ws)).length ≤ 7 * (w.size + W.sizes ws)
    rw [List.length_append, List.length_append]
    omega
end
mutual
theorem cod_wt (z : List Nat) : ∀ w : W, w.wf z → wt (cod w) + bk w ≤ 5 * w.size
  | .nothing, _ => by decide +kernel
  | .one, _ => by decide +kernel
  | .letter c, _ => by
    have := w1_le c
    show w1 c + 0 + 0 ≤ 5 * 1
    omega
  | .call _, h => h.elim
  | .row ws, h => by
    have := codJ_wt z 3 [32] (by decide) true ws h.2
    have h2 := bk_le (.row ws)
    show wt (codJ 3 [32] true ws) + bk (.row ws) ≤ 5 * (1 + W.sizes ws)
    omega
  | .choice ws, h => by
    have := codJ_wt z 4 [32, 47, 32] (by decide) true ws h.2
    have h2 := bk_le (.choice ws)
    show wt (codJ 4 [32, 47, 32] true ws) + bk (.choice ws) ≤ 5 * (1 + W.sizes ws)
    omega
  | .again w, h => by
    have h1 := cod_wt z w h
    have h2 := br_wt w 5
    show wt (brC (needs w.kind 5) (cod w) ++ [42]) + 0 ≤ 5 * (1 + w.size)
    rw [wt_app, show wt [42] = 0 by decide]
    omega
  | .maybe w, h => by
    have h1 := cod_wt z w h
    have h2 := br_wt w 6
    show wt (brC (needs w.kind 6) (cod w) ++ [63]) + 0 ≤ 5 * (1 + w.size)
    rw [wt_app, show wt [63] = 0 by decide]
    omega
  | .ahead w, h => by
    have h1 := cod_wt z w h
    have h2 := br_wt w 7
    show wt (38 :: brC (needs w.kind 7) (cod w)) + 4 ≤ 5 * (1 + w.size)
    rw [wt_cons, show w1 38 = 1 by decide]
    omega
  | .unless w, h => by
    have h1 := cod_wt z w h
    have h2 := br_wt w 8
    show wt (33 :: brC (needs w.kind 8) (cod w)) + 4 ≤ 5 * (1 + w.size)
    rw [wt_cons, show w1 33 = 1 by decide]
    omega
theorem codJ_wt (z : List Nat) (k : Nat) (b : List Nat) (hb : wt b = 0) : ∀ (f : Bool) (ws : List W), W.wfs z ws → wt (codJ k b f ws) ≤ 5 * W.sizes ws
  | _, [], _ => Nat.zero_le _
  | f, w :: ws, h => by
    have h1 := cod_wt z w h.1
    have h2 := br_wt w k
    have h3 := codJ_wt z k b hb false ws h.2
    have h4 : wt (if f = true then ([] : List Nat) else b) = 0 := by
      split
      · rfl
      · exact hb
    show wt ((if f = true then [] else b) ++ (brC (needs w.kind k) (cod w) ++ codJ k b false ws)) ≤ 5 * (w.size + W.sizes ws)
    rw [wt_app, wt_app, h4]
    omega
end
end Wy
namespace Bo
open PySem PySem.Spec PyProof.Rows L2 Wv Bk Oq
/-! ### ways that are equal, or of two kinds -/
def spSameN (c : Cs) : Sp := fun vs H Q _ => ∃ (a b : V) (x y : W), vs = [a, b] ∧ ObjAt c H a x ∧ ObjAt c H b y ∧ x.kind ≠ y.kind ∧ ∀ H', Same H H' → Q (.bl false) H'
/-- both promises of one def -/
def Sp.or (p q : Sp) : Sp := fun vs H Q E => p vs H Q E ∨ q vs H Q E
theorem fnOr {CXx : CXT} {P : Program} {w : World} {K : PySem.W.Frag} {mg : Str → Option Value} {base : Heap} {k : Nat} {f : Addr} {fd : FuncData} {ps : List Str} {p q : Sp} (F : FnOk P w K mg base CXx k f fd ps p) (G : FnOk P w K mg base CXx k f fd ps q) :
    FnOk P w K mg base CXx k f fd ps (Sp.or p q) :=
  ⟨fun vs H Q E h => h.elim (F.len vs H Q E) (G.len vs H Q E), fun A outer s H args us vs Q E hr e0 hb hv h => h.elim (F.run A outer s H args us vs Q E hr e0 hb hv) (G.run A outer s H args us vs Q E hr e0 hb hv)⟩
theorem kind_int {x y : W} (h : x.kind ≠ y.kind) : decide (V.int (x.kind : Nat) = V.int ((y.kind : Nat) : Int)) = false := decide_eq_false fun e => h (by have := V.int.inj e; omega)
section
variable {P : Program} {w : World} {K : PySem.W.Frag} {mg : Str → Option Value} {base : Heap} {c : Cs}
abbrev s_same_ways : Stmt := top 37
theorem sc_same_ways : FnScope ["one", "other", "todo", "left", "right"] ["one", "other"] (defScope s_same_ways) := ⟨rfl, rfl, rfl, by decide +kernel, rfl, by decide +kernel, by decide +kernel⟩
theorem ok_same_ne {f : Addr} {fd : FuncData} (F : Fun K "same_ways" "same_ways" s_same_ways f fd) (B : Bs mg) (G_made_of : DefOk P w K mg base 1 "made_of" ["way"] (spMadeOf c)) (G_kind_of : DefOk P w K mg base 1 "kind_of" ["way"] (spKind c)) (G_word_of : DefOk P w K mg base 1 "word_of" ["way"] (spWord c)) :
    FnOk P w K mg base CX0 2 f fd ["one", "other"] (spSameN c) := by
  have B_len := B.len; have B_list := B.list; have B_zip := B.zip
  refine F.ok sc_same_ways (fun vs H Q E h => by obtain ⟨a, b, x, y, rfl, _⟩ := h; rfl) (fun cdv A' outer s H vs Q E hr h => ?_)
  obtain ⟨a, b, x, y, rfl, ha, hb, hxy, k⟩ := h
  refine ⟨_, (pss_cons (ps_set (i := 2) sc_same_ways.nd rfl (Or.inl rfl) (pe_lst (pa_cons (pe_tup (pa_cons (pv 0) (pa_cons (pv 1) pa_nil))) pa_nil)))
  (pss_cons (ps_while PassesOwn.never (pt_truth (pv 2) (by intro _; rfl)) (pss_cons (ps_asg (pe_bm0 PySem.F.plainAttrs_list PySem.F.slot_list_pop PySem.F.type_list_pop mt_pop (pv 2)) (pg_tup rfl (pgs_cons (pg_name (i := 3) sc_same_ways.nd rfl (Or.inl rfl)) (pgs_cons (pg_name (i := 4) sc_same_ways.nd rfl (Or.inl rfl)) pgs_nil))))
  (pss_cons (ps_if (PW.pt (pw_or (pt_cmpR op_ne (pe_callD G_kind_of (hr.mono (by first | decide | omega)) rfl (pa_cons (pv 3) pa_nil)) (pe_callD G_kind_of (hr.mono (by first | decide | omega)) rfl (pa_cons (pv 4) pa_nil)) (nomark _)) (pw_or1 (pt_cmpR op_ne (pe_callD G_word_of (hr.mono (by first | decide | omega)) rfl (pa_cons (pv 3) pa_nil)) (pe_callD G_word_of (hr.mono (by first | decide | omega)) rfl (pa_cons (pv 4) pa_nil)) (nomark _))))) (pss_one (ps_ret pe_bl)) pss_nil)
  (pss_cons (ps_if (pt_cmpR op_ne (pe_callB call_len_seq rfl B_len PySem.boot_len (pa_cons (pe_callD G_made_of (hr.mono (by first | decide | omega)) rfl (pa_cons (pv 3) pa_nil)) pa_nil)) (pe_callB call_len_seq rfl B_len PySem.boot_len (pa_cons (pe_callD G_made_of (hr.mono (by first | decide | omega)) rfl (pa_cons (pv 4) pa_nil)) pa_nil)) (nomark _)) (pss_one (ps_ret pe_bl)) pss_nil)
  (pss_one (ps_expr (pe_bm PySem.F.plainAttrs_list PySem.F.slot_list_extend PySem.F.type_list_extend mt_extend (pv 2) (pa_cons (Wz.pe_listZip rfl rfl B_list rfl B_zip (pa_cons (pe_callD G_made_of (hr.mono (by first | decide | omega)) rfl (pa_cons (pv 3) pa_nil)) (pa_cons (pe_callD G_made_of (hr.mono (by first | decide | omega)) rfl (pa_cons (pv 4) pa_nil)) pa_nil))) pa_nil))))))))
  (pss_one (ps_ret pe_bl)))), ?_⟩
  walk_at "rd"
  refine ⟨by show 2 ≤ sizeLine; decide, fun r hr => ?_⟩
  have s1 := Same.new hr (.tup [a, b])
  refine ⟨by show 1 ≤ sizeLine; decide, fun t ht => ?_⟩
  have s2 := s1.trans (Same.new ht (.lst [.ref r]))
  have nrt : r ≠ t := ne_of_none upd_same ht
  have htH : H t = none := by rw [upd_ne nrt.symm] at ht; exact ht
  have hr1 : upd (upd H r (.tup [a, b])) t (.lst [.ref r]) r = some (.tup [a, b]) := by rw [upd_ne nrt]; exact upd_same
  have ht1 : upd (upd H r (.tup [a, b])) t (.lst [.ref r]) t = some (.lst [.ref r]) := upd_same
  walk_at "nx"
  refine Wv.while_m (fun m σ H' => σ = [some a, some b, some (.ref t), none, none] ∧ H' t = some (.lst [.ref r]) ∧ H' r = some (.tup [a, b]) ∧ m = 1 ∧ Same H H') 1 ?_ ?_
    (fun σ H Q Q' hq ⟨v, e, b, tv, h⟩ => ⟨v, e, b, tv, hq _ _ h⟩)
  · exact ⟨rfl, ht1, hr1, rfl, s2⟩
  · rintro m σ H1 ⟨rfl, ht1, hr1, rfl, s3⟩
    refine ⟨_, rfl, _, tru_lst ht1, ?_⟩
    refine Wv.iteT' (by simp) ?_
    walk_at "nx"
    refine ⟨_, rfl, .inl ⟨rfl, _, SqL.of ht1⟩, t, _, _, rfl, rfl, ht1, last_get [] _, ?_⟩
    have s4 : Same H (upd H1 t (.lst (List.dropLast [V.ref r]))) := Same.put htH s3 _
    have hr2 : upd H1 t (.lst (List.dropLast [V.ref r])) r = some (.tup [a, b]) := by rw [upd_ne nrt]; exact hr1
    generalize upd H1 t (.lst (List.dropLast [V.ref r])) = H2 at *
    refine ⟨r, [a, b], rfl, SqT.of hr2, rfl, ?_⟩
    refine ⟨a, [b], rfl, ?_⟩
    walk_at "nx"
    refine ⟨b, [], rfl, ?_⟩
    walk_at "nx"
    refine ⟨rfl, ?_⟩
    walk_at "nx"
    refine ⟨_, rfl, a, x, rfl, ObjAt.keep (stillS s4) _ _ ha, _, rfl, b, y, rfl, ObjAt.keep (stillS s4) _ _ hb, rfl, ?_⟩
    rw [kind_int hxy]
    exact ⟨_, rfl, iteT (k H2 s4)⟩
theorem d_same_both (h : Here K mg "same_ways" s_same_ways ["one", "other"]) (B : Bs mg) (G_made_of : DefOk P w K mg base 1 "made_of" ["way"] (spMadeOf c)) (G_kind_of : DefOk P w K mg base 1 "kind_of" ["way"] (spKind c)) (G_word_of : DefOk P w K mg base 1 "word_of" ["way"] (spWord c)) :
    DefOk P w K mg base 2 "same_ways" ["one", "other"] (Sp.or (spSameW c) (spSameN c)) := by
  obtain ⟨f, fd, F, m, b⟩ := h.ex
  exact ⟨f, fd, m, F.kp, b, fnOr (ok_same_ways F B G_made_of G_kind_of G_word_of) (ok_same_ne F B G_made_of G_kind_of G_word_of)⟩
abbrev s_Way_eq : Stmt := inClass (top 20) 3
theorem sc_Way_eq : FnScope ["self", "other"] ["self", "other"] (defScope s_Way_eq) := ⟨rfl, rfl, rfl, by decide +kernel, rfl, by decide +kernel, by decide +kernel⟩
/-- the text's == of ways as a promise of both answers -/
def RW (c : Cs) (a : Addr) (y : V) (b : Bool) (H : Hp) : Prop := (b = true ∧ ∃ x : W, x.size ≤ 1000 ∧ ObjAt c H (.ref a) x ∧ ObjAt c H y x) ∨ (b = false ∧ ∃ x u : W, ObjAt c H (.ref a) x ∧ ObjAt c H y u ∧ x.kind ≠ u.kind)
theorem ok_Way_eqB {f wy : Addr} {fd : FuncData} (F : Fun K "__eq__" "Way.__eq__" s_Way_eq f fd) (A : AllF K mg c) (GK_Way : mg "Way" = some (.ref wy)) (hW : ∀ x : W, PySem.W.kitOne K (.ref (c.of x)) (.ref wy) = some true) (B : Bs mg)
    (G1 : DefOk P w K mg base 2 "same_ways" ["one", "other"] (Sp.or (spSameW c) (spSameN c))) : FnOk P w K mg base CX0 3 f fd ["self", "other"] (spEqB (RW c)) := by
  have B_isinstance := B.isinstance
  have G_same_ways := G1
  refine F.ok sc_Way_eq (fun vs H Q E h => by obtain ⟨a, y, b, rfl, _⟩ := h; rfl) (fun cdv A' outer s H vs Q E hr h => ?_)
  obtain ⟨a, y, b, rfl, hR, k⟩ := h
  refine ⟨_, (pss_one (ps_ret (pe_and (pe_callB call_isi rfl B_isinstance (by decide +kernel) (pa_cons (pv 1) (pa_cons (pe_globC rfl GK_Way) pa_nil))) (pe_one (pe_callD G_same_ways (hr.mono (by first | decide | omega)) rfl (pa_cons (pv 0) (pa_cons (pv 1) pa_nil))))))), ?_⟩
  rcases hR with ⟨rfl, x, hx, ha, hb⟩ | ⟨rfl, x, u, ha, hb, hn⟩
  · refine ⟨_, rfl, y, .ref wy, _, _, _, rfl, .own _, hb.ty A, hW x, _, rfl, ?_⟩
    refine iteT ?_
    exact ⟨_, rfl, _, rfl, .inl ⟨.ref a, y, x, rfl, ha, hb, hx, fun H' s => k H' s⟩⟩
  · refine ⟨_, rfl, y, .ref wy, _, _, _, rfl, .own _, hb.ty A, hW u, _, rfl, ?_⟩
    refine iteT ?_
    exact ⟨_, rfl, _, rfl, .inr ⟨.ref a, y, x, u, rfl, ha, hb, hn, fun H' s => k H' s⟩⟩
end
end Bo
namespace Bo
open PySem PySem.Spec PyProof.Rows L2 Wv Ws Bk Oq
/-! ### ways, flat values and pairs of them: equal or not -/
structure WEq (P : Program) (w : World) (K : PySem.W.Frag) (mg : Str → Option Value) (base : Heap) (c : Cs) (n : Nat) : Prop where
  ex : ∃ (f : Addr) (fd : FuncData) (ps : List Str), FnOk P w K mg base CX0 n f fd ps (spEqB (RW c)) ∧ (∀ u : W, PySem.W.findIn K (.ref (c.of u)) "__eq__" = some (some (.ref f))) ∧ PySem.W.isFn K (.ref f) = true ∧ Binds K fd ps []
  nf : ∀ x u : W, PySem.W.notFirst K (c.of x) (.ref (c.of u)) = true
  kit : ∀ w u : W, PySem.W.kitOne K (.ref (c.of w)) (.ref (c.of u)) = some (decide (w.tag = u.tag))
def DWay (c : Cs) : Eqb := fun x y b H => ∃ a, x = .ref a ∧ RW c a y b H
theorem monB_way {c : Cs} : MonB (DWay c) := fun x y b H H' e ⟨a, hx, r⟩ => ⟨a, hx, r.elim
  (fun ⟨hb, u, hu, h1, h2⟩ => .inl ⟨hb, u, hu, ObjAt.keep (stillS e) _ _ h1, ObjAt.keep (stillS e) _ _ h2⟩)
  (fun ⟨hb, u, z, h1, h2, hn⟩ => .inr ⟨hb, u, z, ObjAt.keep (stillS e) _ _ h1, ObjAt.keep (stillS e) _ _ h2, hn⟩)⟩
theorem kind_tag {x u : W} (h : x.tag = u.tag) : x.kind = u.kind := by
  cases x <;> cases u <;> first
    | rfl
    | exact absurd h (by simp only [W.tag]; decide +kernel)
/-- one object is of one kind -/
theorem kind_one {K : PySem.W.Frag} {c : Cs} {H : Hp} {v : V} {x u : W} (kit : ∀ w u : W, PySem.W.kitOne K (.ref (c.of w)) (.ref (c.of u)) = some (decide (w.tag = u.tag))) (h1 : ObjAt c H v x) (h2 : ObjAt c H v u) : x.kind = u.kind := by
  obtain ⟨a1, _, _, e1, g1⟩ := h1.head
  obtain ⟨a2, _, _, e2, g2⟩ := h2.head
  subst e1
  cases e2
  rw [g1] at g2
  have ec : c.of x = c.of u := by
    injection g2 with g2
    injection g2
  have k1 := kit x x
  have k2 := kit x u
  rw [← ec, k1, decide_eq_true rfl] at k2
  exact kind_tag (of_decide_eq_true (Option.some.inj k2).symm)
section
variable {X : Cx} {c : Cs} {n : Nat}
theorem eq_way (G : WEq X.prog X.w X.K X.mg X.base c n) : RcB X n .Eq (DWay c) := by
  obtain ⟨f, fd, ps, F, hs, hf, hb⟩ := G.ex
  intro A pins s σ H x y b u v sb I rx ry d
  obtain ⟨a, rfl, r⟩ := d
  have go : ∀ (x1 u1 : W), ObjAt c H (.ref a) x1 → ObjAt c H y u1 → wpAny (model X.prog X.w) A (richCompare .Eq u v) (fun r s' => r = .bool (opB .Eq b) ∧ ∃ H', Inv X pins σ H' s' ∧ L2.Ext H H') X.xe s := fun x1 u1 h1 h2 => by
    obtain ⟨a1, d1, fs1, e1, ha1⟩ := h1.head
    cases e1
    exact rcB_ins (C := c.of x1) (T := fun y t H => ∃ z, ObjAt c H y z ∧ t = .ref (c.of z)) (R := RW c) F (hs x1) hf hb pass0 (fun pins σ H s y t v I ry ⟨z, hz, et⟩ => by
      subst et
      obtain ⟨a2, d2, fs2, e2, ha2⟩ := hz.head
      subst e2
      cases ry
      obtain ⟨mA, J, _⟩ := ins_get I.hok ha2
      obtain ⟨od, J, _⟩ := J.look
      exact ⟨J.type, G.nf x1 z⟩) A pins s σ H _ _ b _ _ sb I rx ry ⟨a, d1, fs1, .ref (c.of u1), rfl, ha1, ⟨u1, h2, rfl⟩, r⟩
  rcases r with ⟨_, x1, _, h1, h2⟩ | ⟨_, x1, u1, h1, h2, _⟩
  · exact go x1 x1 h1 h2
  · exact go x1 u1 h1 h2
def DIt (c : Cs) : Eqb := fun x y b H => DFlat x y b H ∨ DWay c x y b H
theorem eqB_it (G : WEq X.prog X.w X.K X.mg X.base c n) : EqB X n (DIt c) := EqB.or (eqB_flat.mono (Nat.zero_le _)) ((eq_way G).eqB fun x y b H d => by
  obtain ⟨a, rfl, r⟩ := d
  rcases r with ⟨hb, x1, _, h1, h2⟩ | ⟨hb, x1, u1, h1, h2, hn⟩
  · obtain ⟨a2, _, _, e2, _⟩ := h2.head
    exact ⟨a, a2, rfl, e2, fun _ => hb⟩
  · obtain ⟨a2, _, _, e2, g2⟩ := h2.head
    refine ⟨a, a2, rfl, e2, fun e => ?_⟩
    subst e
    subst e2
    exact absurd (kind_one G.kit h1 h2) hn)
theorem monB_it : MonB (DIt c) := monB_flat.or monB_way
abbrev DPr (K : PySem.W.Frag) (c : Cs) : Eqb := DTupB K (DIt c)
theorem eqB_pr (G : WEq X.prog X.w X.K X.mg X.base c n) : EqB X (n + 1) (DPr X.K c) := eqB_tup monB_it (eqB_it G)
end
end Bo
/-! == of numbers, strings and ways -/
namespace Wy
open PySem PySem.Spec PyProof.Rows L2 Wv Ws Bk Oq Wx Bo
theorem opR_or {X : Cx} {f : Value → Value → Sem Value} {r r' : R2} (h : OpR X f r) (h' : OpR X f r') : OpR X f (fun x y H Q => r x y H Q ∨ r' x y H Q) := fun pins s σ H x y v u Q I rx ry q => q.elim (h pins s σ H x y v u Q I rx ry) (h' pins s σ H x y v u Q I rx ry)
theorem op_mix {X : Cx} {c : Cs} {n : Nat} (G : WEq X.prog X.w X.K X.mg X.base c n) (hr : Room n X.A) : OpR X (compareOp .Eq) (fun x y H Q => rEq x y H Q ∨ rCmpB .Eq (DWay c) x y H Q) := opR_or op_eq (op_eqB (eq_way G) hr)
end Wy
namespace Wy
open PySem PySem.Spec PyProof.Rows L2 Wv Ws Bk Oq Wx Bo
/-! ### the law -/
theorem told_due {c : Cs} {H : Hp} {v u : V} {d : W ⊕ Nat} (h1 : AskAt c H v d) (h2 : AskAt c H u d) (hs : ∀ w, d = .inl w → w.size ≤ 1000) {Q : VK} (k : ∀ H', L2.Ext H H' → Q (.bl true) H') : (fun x y H Q => rEq x y H Q ∨ rCmpB .Eq (DWay c) x y H Q) v u H Q := by
  cases d with
  | inl w =>
    obtain ⟨a, _, _, e, _⟩ := ObjAt.head h1
    subst e
    exact .inr ⟨true, ⟨a, rfl, .inl ⟨rfl, w, hs w rfl, h1, h2⟩⟩, fun H' e => k H' e⟩
  | inr p =>
    cases h1
    cases h2
    exact .inl ⟨rfl, by rw [decide_eq_true rfl]; exact k _ (fun _ _ h => h)⟩
theorem AskAt.keep {c : Cs} {H H' : Hp} (s : Same H H') : ∀ (d : W ⊕ Nat) {v : V}, AskAt c H v d → AskAt c H' v d
  | .inl w, v, h => ObjAt.keep (stillS s) _ _ h
  | .inr _, _, h => h
theorem reading (z : List Nat) : ∃ n r, rdCh n z 0 [] = some r := by
  have h := (tots (4 * (z.length - 0) + 4)).2.2.2 z 0 [] (Nat.zero_le _) (Nat.le_refl _)
  cases q : rdCh (4 * (z.length - 0) + 4) z 0 [] with
  | none => exact absurd q h
  | some r => exact ⟨_, r, q⟩
theorem due_small {z : List Nat} {n : Nat} {r : Rd} (h : rdCh n z 0 [] = some r) (hz : z.length ≤ 100) : ∀ w, dueOf z r = .inl w → w.size ≤ 1000 := fun w hw => by
  have := due_size' h hw
  omega
def lasts : List (List Nat) := ["", " ", "<abcdefghijklmn>", "<abcdefghijkl>", "< ab >", "<a b>", "a //b", "( )", "a b )", "()*?"].map fun x => x.toList.map Char.toNat
theorem lasts_small : ∀ o ∈ lasts, o.length ≤ 20 ∧ wt o ≤ 20 := by decide +kernel
/-- isinstance(v, Way) -/
def isWay : W ⊕ Nat → Bool
  | .inl _ => true
  | .inr _ => false
def spLaw (K : PySem.W.Frag) : Sp := fun vs H Q _ => ∃ (a : Addr) (ns : List Int), vs = [.ref a] ∧ SqL K H a (ns.map V.int) ∧ ns.length ≤ 63 ∧ ∀ H', Q (.bl true) H'
theorem ask_is {K : PySem.W.Frag} {c : Cs} {wy : Addr} (A : AllF K mg c) (kw : ∀ w : W, PySem.W.kitOne K (.ref (c.of w)) (.ref wy) = some true) (ki : PySem.W.kitOne K (.type "int") (.ref wy) = some false) {H : Hp} {v : V} {d : W ⊕ Nat} {Q : VK} (h : AskAt c H v d) (k : Q (.bl (isWay d)) H) : rIsi K [v, .ref wy] H Q := by
  cases d with
  | inl w => exact ⟨v, _, _, _, true, rfl, .own wy, ObjAt.ty A h, kw w, k⟩
  | inr p =>
    cases h
    exact ⟨_, _, .type "int", _, false, rfl, .own wy, .base (by first | exact .int _ | exact .int | constructor), ki, k⟩
theorem isi_at {K : PySem.W.Frag} {c : Cs} {wy : Addr} (A : AllF K mg c) (kw : ∀ w : W, PySem.W.kitOne K (.ref (c.of w)) (.ref wy) = some true) (ki : PySem.W.kitOne K (.type "int") (.ref wy) = some false) {σ : L2.St} {i : Nat} {H : Hp} {v : V} {d : W ⊕ Nat} {Q : VK} (hv : σ[i]? = some (some v)) (h : AskAt c H v d) (k : Q (.bl (isWay d)) H) :
    tCB (rIsi K) (tCons (tVar i) (tCons (tC (V.ref wy)) tNil)) σ H Q := ⟨v, hv, ask_is A kw ki h k⟩
section
variable {P : Program} {w : World} {K : PySem.W.Frag} {mg : Str → Option Value} {base : Heap} {c : Cs} {wy : Addr}
abbrev s_law : Stmt := top 64
theorem sc_law : FnScope ["_law_script", "_law_pen_here", "_law_turn", "_law_signs_here", "_law_text", "_law_again", "_law_bent_here", "_law_change", "_law_told_here", "_law_due_here"] ["_law_script"] (defScope s_law) := ⟨rfl, rfl, rfl, by decide +kernel, rfl, by decide +kernel, by decide +kernel⟩
theorem ok_law {f : Addr} {fd : FuncData} (F : Fun K "law" "law" s_law f fd) (B : Bs mg) (B_str : mg "str" = none) (GK_Way : mg "Way" = some (.ref wy)) (G_l_pen : DefOk P w K mg base 1 "_law_pen" ["_law_script"] (spPen K)) (G_l_draw : DefOk P w K mg base 1 "_law_draw" ["_law_pen_here", "_law_many"] (spDraw K))
    (G_l_signs : DefOk P w K mg base 2 "_law_signs" ["_law_pen_here", "_law_many"] (spSigns K)) (G_l_way : DefOk P w K mg base 34 "_law_way" ["_law_pen_here", "_law_signs_here", "_law_most"] (Wv.spWay K)) (G_l_made : DefOk P w K mg base (3 + 200) "_law_made" ["_law_way_here"] (spMade c 200))
    (G_l_told : DefOk P w K mg base 10 "_law_told" ["_law_text"] (spTold c)) (G_l_due : DefOk P w K mg base 204 "_law_due" ["_law_text"] (spDueW c 100)) (G_l_bent : DefOk P w K mg base 3 "_law_bent" ["_law_pen_here", "_law_text"] (spBent K))
    (G_str : StrOk P w K mg base c 6 (spStr c)) (GW : WEq P w K mg base c 3) (A : AllF K mg c) (kw : ∀ w : W, PySem.W.kitOne K (.ref (c.of w)) (.ref wy) = some true) (ki : PySem.W.kitOne K (.type "int") (.ref wy) = some false) : FnOk P w K mg base CX0 205 f fd ["_law_script"] (spLaw K) := by
  have B_len := B.len; have B_range := B.range; have B_min := B.min; have B_isinstance := B.isinstance
  refine F.ok sc_law (fun vs H Q E h => by obtain ⟨p, v, rfl, _⟩ := h; rfl) (fun cdv A' outer s' H vs Q E hr h => ?_)
  obtain ⟨a, ns, rfl, hns, hnl, k⟩ := h
  refine ⟨_, (pss_cons (ps_set (i := 1) sc_law.nd rfl (Or.inl rfl) (pe_callD G_l_pen (hr.mono (by first | decide | omega)) rfl (pa_cons (pv 0) pa_nil)))
  (pss_cons (ps_for PassesOwn.never rfl (pi_range1 rfl B_range (pa_cons (pe_op op_add pe_int (pe_callB (call_min2 rfl) rfl B_min (by decide +kernel) (pa_cons pe_int (pa_cons (pe_callB call_len_seq rfl B_len PySem.boot_len (pa_cons (pv 0) pa_nil)) pa_nil)))) pa_nil)) (pg_name (i := 2) sc_law.nd rfl (Or.inl rfl))
   (pss_cons (ps_set (i := 3) sc_law.nd rfl (Or.inl rfl) (pe_callD G_l_signs (hr.mono (by first | decide | omega)) rfl (pa_cons (pv 1) (pa_cons (pe_op op_add pe_int (pe_callD G_l_draw (hr.mono (by first | decide | omega)) rfl (pa_cons (pv 1) (pa_cons pe_int pa_nil)))) pa_nil))))
  (pss_cons (ps_set (i := 4) sc_law.nd rfl (Or.inl rfl) (pe_callTy (call_strW G_str (hr.mono (by first | decide | omega))) rfl B_str (by decide +kernel) (pa_cons (pe_callD G_l_made (hr.mono (by first | decide | omega)) rfl (pa_cons (pe_callD G_l_way (hr.mono (by first | decide | omega)) rfl (pa_cons (pv 1) (pa_cons (pv 3) (pa_cons pe_int pa_nil)))) pa_nil)) pa_nil)))
  (pss_cons (ps_if (pt_not (pt_cmpR (op_mix GW (hr.mono (by first | decide | omega))) (pe_callD G_l_told (hr.mono (by first | decide | omega)) rfl (pa_cons (pv 4) pa_nil)) (pe_callD G_l_due (hr.mono (by first | decide | omega)) rfl (pa_cons (pv 4) pa_nil)) (nomark _))) (pss_one (ps_ret pe_bl)) pss_nil)
  (pss_one (ps_for PassesOwn.never rfl (pi_range1 rfl B_range (pa_cons pe_int pa_nil)) (pg_name (i := 5) sc_law.nd rfl (Or.inl rfl))
   (pss_cons (ps_set (i := 6) sc_law.nd rfl (Or.inl rfl) (pv 4))
  (pss_cons (ps_for PassesOwn.never rfl (pi_range1 rfl B_range (pa_cons (pe_op op_add pe_int (pe_callD G_l_draw (hr.mono (by first | decide | omega)) rfl (pa_cons (pv 1) (pa_cons pe_int pa_nil)))) pa_nil)) (pg_name (i := 7) sc_law.nd rfl (Or.inl rfl))
   (pss_one (ps_set (i := 6) sc_law.nd rfl (Or.inl rfl) (pe_callD G_l_bent (hr.mono (by first | decide | omega)) rfl (pa_cons (pv 1) (pa_cons (pv 6) pa_nil))))))
  (pss_cons (ps_par (i := 8) (j := 9) rfl sc_law.nd rfl rfl (by decide) rfl rfl (pa_cons (pe_callD G_l_told (hr.mono (by first | decide | omega)) rfl (pa_cons (pv 6) pa_nil)) (pa_cons (pe_callD G_l_due (hr.mono (by first | decide | omega)) rfl (pa_cons (pv 6) pa_nil)) pa_nil)) (by rfl))
  (pss_one (ps_if (PW.pt (pw_or (pt_cmpR op_ne (pe_callB call_isi rfl B_isinstance (by decide +kernel) (pa_cons (pv 8) (pa_cons (pe_globC rfl GK_Way) pa_nil))) (pe_callB call_isi rfl B_isinstance (by decide +kernel) (pa_cons (pv 9) (pa_cons (pe_globC rfl GK_Way) pa_nil))) (nomark _)) (pw_or1 (pt_not (pt_cmpR (op_mix GW (hr.mono (by first | decide | omega))) (pv 8) (pv 9) (nomark _)))))) (pss_one (ps_ret pe_bl)) pss_nil)))))))))))
  (pss_cons (ps_for PassesOwn.never rfl (pi_list (pe_lst (pa_cons pe_str (pa_cons pe_str (pa_cons pe_str (pa_cons pe_str (pa_cons pe_str (pa_cons pe_str (pa_cons pe_str (pa_cons pe_str (pa_cons pe_str (pa_cons pe_str pa_nil)))))))))))) (pg_name (i := 4) sc_law.nd rfl (Or.inl rfl))
   (pss_one (ps_if (pt_not (pt_cmpR (op_mix GW (hr.mono (by first | decide | omega))) (pe_callD G_l_told (hr.mono (by first | decide | omega)) rfl (pa_cons (pv 4) pa_nil)) (pe_callD G_l_due (hr.mono (by first | decide | omega)) rfl (pa_cons (pv 4) pa_nil)) (nomark _))) (pss_one (ps_ret pe_bl)) pss_nil)))
  (pss_one (ps_ret pe_bl))))), ?_⟩
  refine ⟨_, rfl, a, ns, rfl, hns, hnl, fun p H0 s0 hP0 => ?_⟩
  walk_at "nx"
  have hm : ∃ n : Nat, n ≤ 11 ∧ 5 + (if (((ns.map V.int).length : Nat) : Int) < 6 then (((ns.map V.int).length : Nat) : Int) else 6) = (n : Int) := by
    by_cases h8 : (((ns.map V.int).length : Nat) : Int) < 6
    · rw [if_pos h8]; exact ⟨(ns.map V.int).length + 5, by omega, by omega⟩
    · rw [if_neg h8]; exact ⟨11, by omega, by omega⟩
  obtain ⟨n, hn, en⟩ := hm
  refine ⟨_, rfl, a, _, rfl, .inl (s0.seq hns), _, _, rfl, _, _, rfl, rfl, (n : Int), ?_, by omega, by omega, ?_⟩
  · exact congrArg (fun z => [V.int z]) en
  refine for_range (lo := 0) (n := (n : Int).toNat) (fun i σ H' => ∃ x2 x3 x4 x5 x6 x7 x8 x9 : Option V, σ = [some (.ref a), some (.ref p.d), x2, x3, x4, x5, x6, x7, x8, x9] ∧ PenAt K H' p (4000 * i)) ?_ ?_ ?_
  · exact ⟨_, _, _, _, _, _, _, _, rfl, hP0⟩
  · rintro i σ H1 hi ⟨x2, x3, x4, x5, x6, x7, x8, x9, rfl, hP1⟩
    have hi' : i < 11 := by omega
    walk_at "nx"
    -- signs
    refine ⟨_, rfl, _, rfl, p, 3, _, rfl, hP1, by unfold LIM; omega, by decide, by decide, fun d H2 d0 d1 k2 hP2 => ?_⟩
    have e1 : (1 + d) = ((d.toNat + 1 : Nat) : Int) := by omega
    refine ⟨_, _, rfl, rfl, p, d.toNat + 1, _, by rw [← e1]; rfl, hP2, by unfold LIM; omega, by omega, fun z H3 hzl _ hza k3 hP3 => ?_⟩
    walk_at "nx"
    -- the way and its text
    refine ⟨_, rfl, _, rfl, p, z, 10, _, rfl, hP3, by unfold LIM; omega, by omega, by omega, hza, by decide, by decide, fun v y H4 hy hwf hv k4 hP4 => ?_⟩
    have hv4 := WayAt.keep newer_le _ _ hv
    have hcl := cod_len5 z y hwf
    have hcw := cod_wt z y hwf
    refine ⟨v, y, rfl, hv4, by omega, by omega, fun u H5 s5 hu => ?_⟩
    have hsum : ((pcs y).map (·.length)).sum ≤ 1000000 := by rw [sum_flat, cod_pcs]; omega
    refine ⟨u, y, rfl, hu, u, y, rfl, hu, by omega, hsum, fun H6 s6 => ?_⟩
    rw [txt_cod]
    have hP6 : PenAt K H6 p (4000 * i + 1000) := (hP4.mono (by omega)).same (s5.trans s6)
    have hx : (cod y).length ≤ 65 := by omega
    have hw : wt (cod y) ≤ 50 := by omega
    generalize cod y = x at *
    refine ⟨_, rfl, ?_⟩
    walk_at "nx"
    -- the text as it is
    obtain ⟨n1, r1, hr1⟩ := reading x
    refine ⟨_, rfl, x, n1, r1, rfl, by omega, hr1, fun v1 H7 s7 h7 => ⟨_, rfl, x, n1, r1, rfl, by omega, by omega, hr1, fun u1 H8 s8 h8 => ?_⟩⟩
    refine told_due (h7.keep s8) h8 (due_small hr1 (by omega)) (fun H9 e9 => ⟨_, rfl, iteF ?_⟩)
    walk_at "nx"
    have hP9 := hP6.same ((s7.trans s8).trans (fun b o q => e9 b o q))
    -- and bent
    refine ⟨8, rfl, by decide, by decide, ?_⟩
    refine for_range (lo := 0) (n := 8) (fun j σ H' => ∃ x5 x6 x7 x8 x9 : Option V, σ = [some (.ref a), some (.ref p.d), some (.int (0 + (i : Nat))), some (.str (tx z)), some (.str (tx x)), x5, x6, x7, x8, x9] ∧ PenAt K H' p (4000 * i + 1000 + 100 * j)) ?_ ?_ ?_
    · exact ⟨_, _, _, _, _, rfl, hP9⟩
    · rintro j σ H10 hj ⟨x5, x6, x7, x8, x9, rfl, hP10⟩
      walk_at "nx"
      refine ⟨_, rfl, ?_⟩
      walk_at "nx"
      refine ⟨_, rfl, p, 2, _, rfl, hP10, by unfold LIM; omega, by decide, by decide, fun d H11 d0 d1 k11 hP11 => ?_⟩
      obtain ⟨m, rfl⟩ : ∃ m : Nat, d = (m : Int) := ⟨d.toNat, by omega⟩
      have hm2 : m ≤ 1 := by omega
      refine ⟨_, _, rfl, rfl, _, rfl, by omega, by omega, ?_⟩
      have hend : ∀ (l : Nat) (σ : L2.St) (H' : Hp), True := fun _ _ _ => trivial
      refine for_range (lo := 0) (n := (1 + (m : Int)).toNat) (fun l σ H' => ∃ (x' : List Nat) (x7 x8 x9 : Option V), σ = [some (.ref a), some (.ref p.d), some (.int (0 + (i : Nat))), some (.str (tx z)), some (.str (tx x)), some (.int (0 + (j : Nat))), some (.str (tx x')), x7, x8, x9] ∧ PenAt K H' p (4000 * i + 1000 + 100 * j + 1 + 3 * l) ∧ x'.length ≤ 65 + 4 * l ∧ wt x' ≤ 50 + 4 * l) ?_ ?_ ?_
      · exact ⟨x, _, _, _, rfl, hP11, hx, hw⟩
      · rintro l σ H12 hl ⟨x', x7, x8, x9, rfl, hP12, hx', hw'⟩
        walk_at "nx"
        refine ⟨_, rfl, _, rfl, p, x', _, rfl, hP12, by unfold LIM; omega, by omega, fun x2 H13 l2 w2 k13 hP13 => ?_⟩
        exact ⟨x2, _, _, _, rfl, hP13, by omega, by omega⟩
      · rintro σ H12 ⟨x', x7, x8, x9, rfl, hP12, hx', hw'⟩
        have hx2 : x'.length ≤ 73 := by omega
        have hw2 : wt x' ≤ 58 := by omega
        walk_at "nx"
        obtain ⟨n2, r2, hr2⟩ := reading x'
        refine ⟨_, rfl, x', n2, r2, rfl, by omega, hr2, fun v2 H13 s13 h13 => ⟨_, rfl, x', n2, r2, rfl, by omega, by omega, hr2, fun u2 H14 s14 h14 => ⟨_, _, rfl, ?_⟩⟩⟩
        have h13 := h13.keep s14
        have hP14 := hP12.same (s13.trans s14)
        refine st_nx ?_
        refine withB (E := tOr _ _) (fun b H' => b = false ∧ L2.Ext H14 H') (fun Q' go => ?_) ?_
        · show tCB _ _ _ _ _
          refine isi_at A kw ki rfl h13 ?_
          show tCB _ _ _ _ _
          refine isi_at A kw ki rfl h14 ?_
          refine ⟨rfl, _, rfl, ?_⟩
          rw [decide_eq_true rfl]
          refine iteF ?_
          refine ⟨_, rfl, _, rfl, ?_⟩
          exact told_due h13 h14 (due_small hr2 (by omega)) (fun H15 e15 => ⟨_, rfl, go _ _ ⟨rfl, e15⟩⟩)
        rintro b H15 ⟨rfl, e15⟩
        refine iteF ?_
        have hP15 := hP14.same (fun b o q => e15 b o q)
        exact ⟨_, _, _, _, _, rfl, hP15.mono (by omega)⟩
    · rintro σ H10 ⟨x5, x6, x7, x8, x9, rfl, hP10⟩
      exact ⟨_, _, _, _, _, _, _, _, rfl, hP10.mono (by omega)⟩
  · rintro σ H1 ⟨x2, x3, x4, x5, x6, x7, x8, x9, rfl, hP1⟩
    walk_at "nx"
    refine ⟨by show 10 ≤ sizeLine; decide, fun q hq => ?_⟩
    have eo : [V.str (Str.ofString ""), .str (Str.ofString " "), .str (Str.ofString "<abcdefghijklmn>"), .str (Str.ofString "<abcdefghijkl>"), .str (Str.ofString "< ab >"), .str (Str.ofString "<a b>"), .str (Str.ofString "a //b"), .str (Str.ofString "( )"), .str (Str.ofString "a b )"), .str (Str.ofString "()*?")] = lasts.map fun o => V.str (tx o) := by decide +kernel
    rw [eo]
    have hq1 : upd H1 q (.lst (lasts.map fun o => V.str (tx o))) q = some (.lst (lasts.map fun o => V.str (tx o))) := upd_same
    generalize upd H1 q (.lst (lasts.map fun o => V.str (tx o))) = H2 at *
    refine ⟨q, rfl, ⟨_, SqL.of hq1⟩, ?_⟩
    refine for_list (K := K) (a := q) (xs := lasts.map fun o => V.str (tx o)) (fun i σ H' => ∃ x4 : Option V, σ = [some (.ref a), some (.ref p.d), x2, x3, x4, x5, x6, x7, x8, x9] ∧ Same H2 H') ?_ ?_ ?_ ?_
    · exact ⟨_, rfl, fun _ _ h => h⟩
    · rintro i σ H' _ ⟨_, rfl, s2⟩
      exact SqL.of (s2 _ _ hq1)
    · rintro i e σ H3 he ⟨x4', rfl, s3⟩
      obtain ⟨x, hx, rfl⟩ := List.mem_map.mp (List.mem_of_getElem? he)
      have hxs := lasts_small x hx
      walk_at "nx"
      obtain ⟨n1, r1, hr1⟩ := reading x
      refine ⟨_, rfl, x, n1, r1, rfl, by omega, hr1, fun v1 H7 s7 h7 => ⟨_, rfl, x, n1, r1, rfl, by omega, by omega, hr1, fun u1 H8 s8 h8 => ?_⟩⟩
      refine told_due (h7.keep s8) h8 (due_small hr1 (by omega)) (fun H9 e9 => ⟨_, rfl, iteF ?_⟩)
      exact ⟨_, rfl, (s3.trans (s7.trans s8)).trans (fun b o q => e9 b o q)⟩
    · rintro σ H3 ⟨x4', rfl, s3⟩
      exact k _
end
end Wy
namespace Wv
open PySem PySem.Spec PyProof.Rows L2
/-! ### what the program's top leaves -/
section
variable {P : Program} {w : World} {K : PySem.W.Frag} {mg : Str → Option Value} {h : Heap}
theorem here_mk {x : Str} {st : Stmt} {ps : List Str} (X : K.In h) (G : h.Ns mainGlobals mg) {f : Addr} {oc kV dc pm cd ct : Value} {od an : Option Addr} {sl : Array (Option Value)} (a : PySem.W.nsIn K mainGlobals x = some (some (.ref f)))
    (l : K.lookup f = some ⟨oc, od, .func (PySem.W.fnOf x x (defArgs st) (defBody st) (defScope st) .none kV dc pm an cd ct), sl⟩) (c : PySem.W.codeIn K cd x = true) (k : PySem.W.keepIn K (.ref f) = true)
    (b : ∀ (kV doc pm : Value) (an : Option Addr) (cdv ct : Value) (us : List Value), us.length = ps.length → bindArgs (PySem.W.fnOf x x (defArgs st) (defBody st) (defScope st) .none kV doc pm an cdv ct) ⟨us, []⟩ = pure (ps.zip us)) : Here K mg x st ps :=
  ⟨f, _, fun_mk l c k, PySem.W.mg_of X G a, (fun_mk l c k).binds b⟩
/-- a def within a class -/
structure In1 (K : PySem.W.Frag) (m q : Str) (st : Stmt) (ps : List Str) (f : Addr) : Prop where
  fn : PySem.W.isFn K (.ref f) = true
  ex : ∃ fd : FuncData, Fun K m q st f fd ∧ Binds K fd ps []
theorem in_mk {m q : Str} {st : Stmt} {ps : List Str} {f : Addr} {oc kV dc pm cd ct : Value} {od an : Option Addr} {sl : Array (Option Value)} (i : PySem.W.isFn K (.ref f) = true)
    (l : K.lookup f = some ⟨oc, od, .func (PySem.W.fnOf m q (defArgs st) (defBody st) (defScope st) .none kV dc pm an cd ct), sl⟩) (c : PySem.W.codeIn K cd q = true) (k : PySem.W.keepIn K (.ref f) = true)
    (b : ∀ (kV doc pm : Value) (an : Option Addr) (cdv ct : Value) (us : List Value), us.length = ps.length → bindArgs (PySem.W.fnOf m q (defArgs st) (defBody st) (defScope st) .none kV doc pm an cdv ct) ⟨us, []⟩ = pure (ps.zip us)) : In1 K m q st ps f :=
  ⟨i, _, fun_mk l c k, (fun_mk l c k).binds b⟩
/-- a class of ways -/
structure ClT (K : PySem.W.Frag) (mg : Str → Option Value) (x : Str) (C wy at_ eq_ len_ : Addr) : Prop where
  m : mg x = some (.ref C)
  f : ClsF K C
  mks : PySem.W.makesIn K C = true
  kc : PySem.W.keepIn K (.ref C) = true
  ty : PySem.W.typeIn K (.ref C) = some (.type "type")
  cls : ∃ cd, PySem.W.clsIn K C = some cd ∧ cd.mro = [.ref C, .ref wy, .type "object"]
  mat : PySem.W.findIn K (.ref C) "at" = some (some (.ref at_))
  meq : PySem.W.findIn K (.ref C) "__eq__" = some (some (.ref eq_))
  mln : PySem.W.findIn K (.ref C) "__len__" = some (some (.ref len_))
theorem clt_mk {x : Str} {C wy at_ eq_ len_ : Addr} {cd : ClassData} (X : K.In h) (G : h.Ns mainGlobals mg) (a : PySem.W.nsIn K mainGlobals x = some (some (.ref C))) (pg : PySem.W.plainGet K C Str.empty = true) (hd : PySem.W.hasDictIn K C = true) (po : PySem.W.plainOver K C = true)
    (sa : PySem.W.findIn K (.ref C) "__setattr__" = some (some (.builtin "object.__setattr__"))) (nl : PySem.W.findIn K (.ref C) "letter" = some none) (nn : PySem.W.findIn K (.ref C) "name" = some none) (nw : PySem.W.findIn K (.ref C) "ways" = some none) (np : PySem.W.findIn K (.ref C) "part" = some none) (nc : PySem.W.findIn K (.ref C) "called" = some none) (nr : PySem.W.findIn K (.ref C) "rounds" = some none) (nm : PySem.W.findIn K (.ref C) "mark" = some none)
    (ha : PySem.W.findIn K (.ref C) "__class__" = some (some (.builtin "object.__class__"))) (hm : PySem.W.mroIn K C (.type "object") = some true) (mk : PySem.W.makesIn K C = true) (kc : PySem.W.keepIn K (.ref C) = true) (ty : PySem.W.typeIn K (.ref C) = some (.type "type"))
    (cl : PySem.W.clsIn K C = some cd) (cm : cd.mro = [.ref C, .ref wy, .type "object"]) (mat : PySem.W.findIn K (.ref C) "at" = some (some (.ref at_))) (meq : PySem.W.findIn K (.ref C) "__eq__" = some (some (.ref eq_))) (mln : PySem.W.findIn K (.ref C) "__len__" = some (some (.ref len_))) : ClT K mg x C wy at_ eq_ len_ :=
  ⟨PySem.W.mg_of X G a, ⟨⟨pg, hd, po, sa⟩, nl, nn, nw, np, nc, nr, nm, ha, hm⟩, mk, kc, ty, ⟨cd, cl, cm⟩, mat, meq, mln⟩
theorem ClT.kit {x y : Str} {C D wy a1 a2 a3 b1 b2 b3 : Addr} (c : ClT K mg x C wy a1 a2 a3) (d : ClT K mg y D wy b1 b2 b3) (hw : D ≠ wy) : PySem.W.kitOne K (.ref C) (.ref D) = some (decide (C = D)) := by
  obtain ⟨cd, e1, e2⟩ := c.cls
  obtain ⟨dd, g1, _⟩ := d.cls
  by_cases h : C = D
  · subst h
    rw [decide_eq_true rfl]
    unfold PySem.W.kitOne
    rw [if_pos (beq_self_eq_true _)]
  · rw [decide_eq_false h]
    unfold PySem.W.kitOne
    rw [if_neg (by simpa using h)]
    show (if ((PySem.W.clsIn K D).isSome && PySem.W.typeIn K (.ref D) == some (.type "type")) = true then PySem.W.subIn K (.ref C) (.ref D) else none) = _
    rw [g1, d.ty, if_pos (by simp)]
    show PySem.W.mroIn K C (.ref D) = _
    unfold PySem.W.mroIn
    rw [e1, Option.bind_some, e2]
    have h' : D ≠ C := fun e => h e.symm
    simp [h', hw]
theorem ClT.kitWay {x : Str} {C wy a1 a2 a3 : Addr} (c : ClT K mg x C wy a1 a2 a3) (hc : PySem.W.isClsIn K wy = true) (ht : PySem.W.typeIn K (.ref wy) = some (.type "type")) : PySem.W.kitOne K (.ref C) (.ref wy) = some true := by
  obtain ⟨cd, e1, e2⟩ := c.cls
  by_cases h : C = wy
  · subst h
    unfold PySem.W.kitOne
    rw [if_pos (beq_self_eq_true _)]
  · unfold PySem.W.kitOne
    rw [if_neg (by simpa using h)]
    show (if ((PySem.W.clsIn K wy).isSome && PySem.W.typeIn K (.ref wy) == some (.type "type")) = true then PySem.W.subIn K (.ref C) (.ref wy) else none) = _
    rw [show (PySem.W.clsIn K wy).isSome = true from hc, ht, if_pos (by simp)]
    show PySem.W.mroIn K C (.ref wy) = _
    unfold PySem.W.mroIn
    rw [e1, Option.bind_some, e2]
    simp
/-- the classes -/
structure Tops (K : PySem.W.Frag) (mg : Str → Option Value) (c : Cs) (wy at_ eq_ len_ : Addr) : Prop where
  lt : ClT K mg "Letter" c.lt wy at_ eq_ len_
  on : ClT K mg "One" c.on wy at_ eq_ len_
  no : ClT K mg "Nothing" c.no wy at_ eq_ len_
  ro : ClT K mg "Row" c.ro wy at_ eq_ len_
  ch : ClT K mg "Choice" c.ch wy at_ eq_ len_
  ag : ClT K mg "Again" c.ag wy at_ eq_ len_
  ma : ClT K mg "Maybe" c.ma wy at_ eq_ len_
  ah : ClT K mg "Ahead" c.ah wy at_ eq_ len_
  un : ClT K mg "Unless" c.un wy at_ eq_ len_
  ca : ClT K mg "Call" c.ca wy at_ eq_ len_
  nd : [c.lt, c.on, c.no, c.ro, c.ch, c.ag, c.ma, c.ah, c.un, c.ca, wy].Nodup
def W.name : W → Str
  | .letter _ => "Letter" | .one => "One" | .nothing => "Nothing" | .row _ => "Row" | .choice _ => "Choice" | .again _ => "Again" | .maybe _ => "Maybe" | .ahead _ => "Ahead" | .unless _ => "Unless" | .call _ => "Call"
theorem Tops.of {c : Cs} {wy a1 a2 a3 : Addr} (t : Tops K mg c wy a1 a2 a3) : ∀ x : W, ClT K mg x.name (c.of x) wy a1 a2 a3
  | .letter _ => t.lt | .one => t.on | .nothing => t.no | .row _ => t.ro | .choice _ => t.ch | .again _ => t.ag | .maybe _ => t.ma | .ahead _ => t.ah | .unless _ => t.un | .call _ => t.ca
theorem get_inj {α : Type} {l : List α} (n : l.Nodup) {i j : Nat} {x y : α} (h1 : l[i]? = some x) (h2 : l[j]? = some y) : x = y ↔ i = j := by
  obtain ⟨a, e1⟩ := List.getElem?_eq_some_iff.mp h1
  obtain ⟨b, e2⟩ := List.getElem?_eq_some_iff.mp h2
  subst e1 e2
  first
    | exact List.Nodup.getElem_inj_iff n
    | exact List.getElem_inj n
    | exact List.nodup_getElem_inj n
    | (constructor
       · intro e
         rcases Nat.lt_trichotomy i j with q | q | q
         · exact absurd e (List.pairwise_iff_getElem.mp n i j a b q)
         · exact q
         · exact absurd e.symm (List.pairwise_iff_getElem.mp n j i b a q)
       · intro e; subst e; rfl)
theorem W.tag_get (x : W) : [Str.ofString "letter", Str.ofString "one", Str.ofString "nothing", Str.ofString "row", Str.ofString "choice", Str.ofString "again", Str.ofString "maybe", Str.ofString "ahead", Str.ofString "unless", Str.ofString "call"][x.kind]? = some x.tag := by
  cases x <;> rfl
theorem W.tag_kind (x y : W) : x.tag = y.tag ↔ x.kind = y.kind := get_inj (by decide +kernel) x.tag_get y.tag_get
theorem Cs.of_get (c : Cs) (wy : Addr) (x : W) : [c.lt, c.on, c.no, c.ro, c.ch, c.ag, c.ma, c.ah, c.un, c.ca, wy][x.kind]? = some (c.of x) := by
  cases x <;> rfl
theorem Tops.ne {c : Cs} {wy a1 a2 a3 : Addr} (t : Tops K mg c wy a1 a2 a3) (x : W) : c.of x ≠ wy := fun e => by
  have h := (get_inj t.nd (c.of_get wy x) (show _ = some wy from (rfl : [c.lt, c.on, c.no, c.ro, c.ch, c.ag, c.ma, c.ah, c.un, c.ca, wy][10]? = some wy))).mp e
  cases x <;> cases h
theorem Tops.same {c : Cs} {wy a1 a2 a3 : Addr} (t : Tops K mg c wy a1 a2 a3) (x y : W) : decide (c.of x = c.of y) = decide (x.tag = y.tag) := by
  have h := get_inj t.nd (c.of_get wy x) (c.of_get wy y)
  rw [decide_eq_decide, h, W.tag_kind]
theorem Tops.all {c : Cs} {wy a1 a2 a3 : Addr} (t : Tops K mg c wy a1 a2 a3) (hn : PySem.W.specialIn K (.builtin "object.__class__") "__get__" = some (some (.builtin "getset_descriptor.__get__"))) (ht : PySem.W.takesIn K (.builtin "object.__class__") = some true) : AllF K mg c :=
  ⟨fun x => (t.of x).f, hn, ht, fun x y => by rw [← t.same x y]; exact (t.of x).kit (t.of y) (t.ne y), t.lt.m, t.on.m, t.no.m, t.ro.m, t.ch.m, t.ag.m, t.ma.m, t.ah.m, t.un.m, t.ca.m⟩
theorem bs_mk (X : K.In h) (G : h.Ns mainGlobals mg) (z1 : PySem.W.nsIn K mainGlobals "len" = some none) (z2 : PySem.W.nsIn K mainGlobals "int" = some none) (z3 : PySem.W.nsIn K mainGlobals "list" = some none) (z4 : PySem.W.nsIn K mainGlobals "range" = some none)
    (z5 : PySem.W.nsIn K mainGlobals "min" = some none) (z6 : PySem.W.nsIn K mainGlobals "tuple" = some none) (z7 : PySem.W.nsIn K mainGlobals "isinstance" = some none) (z8 : PySem.W.nsIn K mainGlobals "zip" = some none) (z9 : PySem.W.nsIn K mainGlobals "sum" = some none)
    (z10 : PySem.W.nsIn K mainGlobals "max" = some none) (z11 : PySem.W.nsIn K mainGlobals "reversed" = some none) (z12 : PySem.W.nsIn K mainGlobals "enumerate" = some none) (z13 : PySem.W.nsIn K mainGlobals "repr" = some none) : Bs mg :=
  have n := fun {x : Str} (z : PySem.W.nsIn K mainGlobals x = some none) => PySem.W.mg_none_of X G z
  ⟨n z1, n z2, n z3, n z4, n z5, n z6, n z7, n z8, n z9, n z10, n z11, n z12, n z13⟩
theorem kc_mk (X : K.In h) (G : h.Ns mainGlobals mg) {t0 t1 t2 t3 t4 t5 t6 t7 t8 t9 : Tok} (z0 : PySem.W.nsIn K mainGlobals "LETTER" = some (some (.int 0 t0))) (z1 : PySem.W.nsIn K mainGlobals "ONE" = some (some (.int 1 t1))) (z2 : PySem.W.nsIn K mainGlobals "NOTHING" = some (some (.int 2 t2)))
    (z3 : PySem.W.nsIn K mainGlobals "ROW" = some (some (.int 3 t3))) (z4 : PySem.W.nsIn K mainGlobals "CHOICE" = some (some (.int 4 t4))) (z5 : PySem.W.nsIn K mainGlobals "AGAIN" = some (some (.int 5 t5))) (z6 : PySem.W.nsIn K mainGlobals "MAYBE" = some (some (.int 6 t6)))
    (z7 : PySem.W.nsIn K mainGlobals "AHEAD" = some (some (.int 7 t7))) (z8 : PySem.W.nsIn K mainGlobals "UNLESS" = some (some (.int 8 t8))) (z9 : PySem.W.nsIn K mainGlobals "CALL" = some (some (.int 9 t9))) : Kc mg :=
  have n := fun {x : Str} {v : Value} (z : PySem.W.nsIn K mainGlobals x = some (some v)) => PySem.W.mg_of X G z
  ⟨⟨_, n z0⟩, ⟨_, n z1⟩, ⟨_, n z2⟩, ⟨_, n z3⟩, ⟨_, n z4⟩, ⟨_, n z5⟩, ⟨_, n z6⟩, ⟨_, n z7⟩, ⟨_, n z8⟩, ⟨_, n z9⟩⟩
theorem mk0_mk {C : Addr} {x : Str} (X : K.In h) (G : h.Ns mainGlobals mg) (a : PySem.W.nsIn K mainGlobals x = some (some (.ref C))) (mk : PySem.W.makesIn K C = true) (f : PySem.W.findIn K (.ref C) "__init__" = some (some (.builtin "object.__init__"))) (kc : PySem.W.keepIn K (.ref C) = true) : Mk0 K mg x C :=
  ⟨PySem.W.mg_of X G a, mk, f, kc⟩
theorem cls_ok {k : Nat} {x q : Str} {st : Stmt} {C wy a1 a2 a3 f : Addr} {ps : List Str} {sp : Sp} {base : Heap} (t : ClT K mg x C wy a1 a2 a3) (i : PySem.W.findIn K (.ref C) "__init__" = some (some (.ref f))) (j : In1 K "__init__" q st ps f)
    (o : ∀ fd : FuncData, Fun K "__init__" q st f fd → FnOk P w K mg base CX0 k f fd ps sp) : ClsOk P w K mg base k x C ps sp := by
  obtain ⟨fd, F, b⟩ := j.ex
  exact ⟨f, fd, t.m, ⟨t.mks, i, j.fn, t.kc⟩, b, o fd F⟩
end
end Wv
namespace Ws
open PySem PySem.Spec PyProof.Rows L2 Wv
/-! ### what the program's top leaves: the scanner's class, Way.read, str -/
abbrev s_Scan_refuse : Stmt := inClass (top 17) 3
theorem sc_Scan_refuse : FnScope ["self"] ["self"] (defScope s_Scan_refuse) := ⟨rfl, rfl, rfl, by decide +kernel, rfl, by decide +kernel, by decide +kernel⟩
section
variable {P : Program} {w : World} {K : PySem.W.Frag} {mg : Str → Option Value} {h : Heap} {base : Heap}
theorem kcs_mk (X : K.In h) (G : h.Ns mainGlobals mg) {t0 t1 t2 t3 t4 t5 t6 t7 t8 t9 tN : Tok} (z0 : PySem.W.nsIn K mainGlobals "LETTER" = some (some (.int 0 t0))) (z1 : PySem.W.nsIn K mainGlobals "ONE" = some (some (.int 1 t1))) (z2 : PySem.W.nsIn K mainGlobals "NOTHING" = some (some (.int 2 t2)))
    (z3 : PySem.W.nsIn K mainGlobals "ROW" = some (some (.int 3 t3))) (z4 : PySem.W.nsIn K mainGlobals "CHOICE" = some (some (.int 4 t4))) (z5 : PySem.W.nsIn K mainGlobals "AGAIN" = some (some (.int 5 t5))) (z6 : PySem.W.nsIn K mainGlobals "MAYBE" = some (some (.int 6 t6)))
    (z7 : PySem.W.nsIn K mainGlobals "AHEAD" = some (some (.int 7 t7))) (z8 : PySem.W.nsIn K mainGlobals "UNLESS" = some (some (.int 8 t8))) (z9 : PySem.W.nsIn K mainGlobals "CALL" = some (some (.int 9 t9))) (zN : PySem.W.nsIn K mainGlobals "LONGEST_NAME" = some (some (.int 12 tN))) : Kc mg :=
  have n := fun {x : Str} {v : Value} (z : PySem.W.nsIn K mainGlobals x = some (some v)) => PySem.W.mg_of X G z
  ⟨⟨_, n z0⟩, ⟨_, n z1⟩, ⟨_, n z2⟩, ⟨_, n z3⟩, ⟨_, n z4⟩, ⟨_, n z5⟩, ⟨_, n z6⟩, ⟨_, n z7⟩, ⟨_, n z8⟩, ⟨_, n z9⟩, ⟨_, n zN⟩⟩
theorem Kc.wv (k : Kc mg) : Wv.Kc mg := ⟨k.k0, k.k1, k.k2, k.k3, k.k4, k.k5, k.k6, k.k7, k.k8, k.k9⟩
theorem kitStr {x : Str} {C wy a1 a2 a3 : Addr} (c : ClT K mg x C wy a1 a2 a3) : PySem.W.kitOne K (.ref C) (.type "str") = some false := by
  obtain ⟨cd, e1, e2⟩ := c.cls
  have hne : Str.ofString "object" ≠ Str.ofString "str" := by decide +kernel
  unfold PySem.W.kitOne
  rw [if_neg (by simp)]
  show (if PySem.W.kitMeta "str" = true then PySem.W.subIn K (.ref C) (.type "str") else none) = _
  rw [if_pos (by decide +kernel)]
  show PySem.W.mroIn K C (.type "str") = _
  unfold PySem.W.mroIn
  rw [e1, Option.bind_some, e2]
  simp [hne, hne.symm]
/-- the class Scan -/
structure ScT (K : PySem.W.Frag) (mg : Str → Option Value) (C : Addr) : Prop where
  m : mg "Scan" = some (.ref C)
  f : ScF K C
  mks : PySem.W.makesIn K C = true
  kc : PySem.W.keepIn K (.ref C) = true
theorem sct_mk {C : Addr} (X : K.In h) (G : h.Ns mainGlobals mg) (a : PySem.W.nsIn K mainGlobals "Scan" = some (some (.ref C))) (pg : PySem.W.plainGet K C Str.empty = true) (hd : PySem.W.hasDictIn K C = true) (po : PySem.W.plainOver K C = true)
    (sa : PySem.W.findIn K (.ref C) "__setattr__" = some (some (.builtin "object.__setattr__"))) (n1 : PySem.W.findIn K (.ref C) "text" = some none) (n2 : PySem.W.findIn K (.ref C) "line" = some none) (n3 : PySem.W.findIn K (.ref C) "place" = some none)
    (n4 : PySem.W.findIn K (.ref C) "steps" = some none) (n5 : PySem.W.findIn K (.ref C) "rows" = some none) (n6 : PySem.W.findIn K (.ref C) "many" = some none) (n7 : PySem.W.findIn K (.ref C) "looks" = some none)
    (mk : PySem.W.makesIn K C = true) (kc : PySem.W.keepIn K (.ref C) = true) : ScT K mg C :=
  ⟨PySem.W.mg_of X G a, ⟨⟨pg, hd, po, sa⟩, n1, n2, n3, n4, n5, n6, n7⟩, mk, kc⟩
/-- a method of it -/
structure ScM (K : PySem.W.Frag) (C : Addr) (m q : Str) (st : Stmt) (ps : List Str) : Prop where
  ex : ∃ f : Addr, PySem.W.findIn K (.ref C) m = some (some (.ref f)) ∧ In1 K m q st ps f
theorem ScM.ok {C : Addr} {m q : Str} {st : Stmt} {ps : List Str} {n : Nat} {sp : Sp} (j : ScM K C m q st ps) (T : ScT K mg C) (o : ∀ (f : Addr) (fd : FuncData), Fun K m q st f fd → FnOk P w K mg base CX0 n f fd ps sp) : ScOk P w K mg base C n m ps sp := by
  obtain ⟨f, a, i⟩ := j.ex
  obtain ⟨fd, F, b⟩ := i.ex
  exact ⟨T.f.cl, f, fd, o f fd F, ⟨a, i.fn, F.kp⟩, b⟩
theorem ScM.make {C : Addr} {q : Str} {st : Stmt} {ps : List Str} {n : Nat} {sp : Sp} (j : ScM K C "__init__" q st ps) (T : ScT K mg C) (o : ∀ (f : Addr) (fd : FuncData), Fun K "__init__" q st f fd → FnOk P w K mg base CX0 n f fd ps sp) : ClsOk P w K mg base n "Scan" C ps sp := by
  obtain ⟨f, a, i⟩ := j.ex
  obtain ⟨fd, F, b⟩ := i.ex
  exact ⟨f, fd, T.m, ⟨T.mks, a, i.fn, T.kc⟩, b, o f fd F⟩
theorem scm_mk {C : Addr} {m q : Str} {st : Stmt} {ps : List Str} {f : Addr} (a : PySem.W.findIn K (.ref C) m = some (some (.ref f))) (i : In1 K m q st ps f) : ScM K C m q st ps := ⟨f, a, i⟩
/-- all that the scanner is made of -/
structure Scs (K : PySem.W.Frag) (C : Addr) : Prop where
  ini : ScM K C "__init__" "Scan.__init__" s_Scan_init ["self", "text", "line"]
  m1 : ScM K C "sign_here" "Scan.sign_here" s_Scan_sign_here ["self"]
  m2 : ScM K C "sign" "Scan.sign" s_Scan_sign ["self"]
  m3 : ScM K C "refuse" "Scan.refuse" s_Scan_refuse ["self"]
  m4 : ScM K C "expect" "Scan.expect" s_Scan_expect ["self", "sign"]
  m5 : ScM K C "read_name" "Scan.read_name" s_Scan_read_name ["self"]
  m6 : ScM K C "read_way" "Scan.read_way" s_Scan_read_way ["self"]
  m7 : ScM K C "begin_way" "Scan.begin_way" s_Scan_begin_way ["self"]
  m8 : ScM K C "read_single" "Scan.read_single" s_Scan_read_single ["self", "sign"]
  m9 : ScM K C "end_way" "Scan.end_way" s_Scan_end_way ["self"]
  m10 : ScM K C "end_row" "Scan.end_row" s_Scan_end_row ["self"]
  m11 : ScM K C "end_choice" "Scan.end_choice" s_Scan_end_choice ["self"]
  m12 : ScM K C "enter_bracket" "Scan.enter_bracket" s_Scan_enter_bracket ["self"]
  m13 : ScM K C "leave_bracket" "Scan.leave_bracket" s_Scan_leave_bracket ["self"]
theorem scan_all {C : Addr} (T : ScT K mg C) (S : Scs K C) (B : Bs mg) (CN : Kc mg) (hi : Here K mg "is_letter" s_is_letter ["sign"]) :
    ClsOk P w K mg base 1 "Scan" C ["self", "text", "line"] (spNew C) ∧ ScOk P w K mg base C 6 "read_way" ["self"] (spWay C) := by
  have D0 := d_is_letter (P := P) (w := w) (base := base) hi
  have M1 := S.m1.ok (P := P) (w := w) (base := base) T fun _ _ F => ok_sign_here F T.f
  have M2 := S.m2.ok T fun _ _ F => ok_sign F T.f M1
  have M3 : ScOk P w K mg base C 1 "refuse" ["self"] spNo := S.m3.ok T fun _ _ _ => ok_no
  have M4 := S.m4.ok T fun _ _ F => ok_expect F T.f M2 M3
  have M5 := S.m5.ok T fun _ _ F => ok_read_name F T.f CN D0 M1 M2 M3
  have M8 := S.m8.ok T fun _ _ F => ok_read_single F T.f CN D0 M5 M4 M3
  have M12 := S.m12.ok (P := P) (w := w) (base := base) T fun _ _ F => ok_enter F T.f
  have M13 := S.m13.ok (P := P) (w := w) (base := base) T fun _ _ F => ok_leave F T.f
  have M7 := S.m7.ok T fun _ _ F => ok_begin_way F T.f CN M2 M12 M8
  have M9 := S.m9.ok T fun _ _ F => ok_end_way F T.f CN M2
  have M10 := S.m10.ok (P := P) (w := w) (base := base) T fun _ _ F => ok_end_row F T.f CN
  have M11 := S.m11.ok T fun _ _ F => ok_end_choice F T.f CN M10
  exact ⟨S.ini.make T fun _ _ F => ok_new F T.f, S.m6.ok T fun _ _ F => ok_read_way F T.f B M2 M7 M9 M10 M11 M13⟩
/-- Way.read off the class -/
structure RdT (K : PySem.W.Frag) (wy g : Addr) : Prop where
  ex : ∃ (mc : Value) (p : Addr), ClX.CRead K wy mc ∧ ClX.CMet K wy mc "read" p g
theorem rdt_mk {wy p g : Addr} {rest : List Value} (a : PySem.W.readsIn K wy (.type "type") = true) (b : PySem.W.specialIn K (.ref wy) "__getattribute__" = some (some (.builtin "type.__getattribute__")))
    (d : PySem.W.findCls K (.ref wy) (.type "type") "read" = some (.get (.builtin "classmethod.__get__") (.ref p) .none (.ref wy))) (e : PySem.W.recIn K p "classmethod" = some (.ref g :: rest)) (f : PySem.W.fnIn K g = true) : RdT K wy g :=
  ⟨_, p, ⟨a, b⟩, ⟨d, ⟨rest, e⟩, f⟩⟩
end
end Ws
namespace Wy
open PySem PySem.Spec PyProof.Rows L2 Wv Ws Bk Oq Wx
/-! ### what the program's top leaves, and the end -/
section
variable {P : Program} {w : World} {K : PySem.W.Frag} {mg : Str → Option Value} {h : Heap}
theorem ScM.okX {base : Heap} {C : Addr} {m q : Str} {st : Stmt} {ps : List Str} {n : Nat} {sp : Sp} (j : ScM K C m q st ps) (T : ScF K C) (o : ∀ (f : Addr) (fd : FuncData), Fun K m q st f fd → FnOk P w K mg base (L2.CX P w) n f fd ps sp) : MxOk P w K mg base C n m ps sp := by
  obtain ⟨f, a, i⟩ := j.ex
  obtain ⟨fd, F, b⟩ := i.ex
  exact ⟨T.cl, f, fd, o f fd F, ⟨a, i.fn, F.kp⟩, b⟩
/-- BadText and WayError -/
structure BxT (K : PySem.W.Frag) (mg : Str → Option Value) (BT WY : Addr) : Prop where
  oex : OexC K BT
  t : BadX K mg BT WY
theorem oex_mk {C : Addr} {nm q : Str} {N : Addr} {bs bm : List Value} {sn : List Str} {sub : List Value} {ab : Bool} {col : Option Bool} {dd : Option Addr} {k0 k1 k2 k3 k5 : Option Value}
    (xL : K.lookup C = some (excClassObj nm q C N bs bm true sn sub ab col dd k0 k1 k2 k3 k5 "ValueError.__new__")) (om : PySem.HandSPX.refsVE bm = true) (os : PySem.W.findIn K (.ref C) "__setattr__" = some (some (.builtin "object.__setattr__")))
    (oe : PySem.W.subIn K (.ref C) (.type "BaseException") = some true) (ot : PySem.W.typeIn K (.ref C) = some (.type "type")) (ok : PySem.W.keepIn K (.ref C) = true) : OexC K C :=
  ⟨⟨nm, q, N, bs, bm, sn, sub, ab, col, dd, k0, k1, k2, k3, k5, xL, om⟩, os, oe, ot, ok⟩
theorem bxt_mk {BN WY : Addr} {cd : ClassData} {rest : List Value} (X : K.In h) (G : h.Ns mainGlobals mg) (oex : OexC K BN) (a : PySem.W.nsIn K mainGlobals "BadText" = some (some (.ref BN))) (b : PySem.W.nsIn K mainGlobals "WayError" = some (some (.ref WY)))
    (hg : PySem.W.findIn K (.ref BN) "__getattribute__" = some (some (.builtin "BaseException.__getattribute__"))) (hk : PySem.W.findIn K (.ref BN) "__getattr__" = some none) (hs : PySem.W.subIn K (.ref BN) (.type "BaseException") = some true) (hd : PySem.W.hasDictIn K BN = true)
    (ha : PySem.W.findIn K (.ref BN) "__class__" = some (some (.builtin "object.__class__"))) (hn : PySem.W.specialIn K (.builtin "object.__class__") "__get__" = some (some (.builtin "getset_descriptor.__get__"))) (ht : PySem.W.takesIn K (.builtin "object.__class__") = some true)
    (hm : PySem.W.mroIn K BN (.type "object") = some true) (nl : PySem.W.findIn K (.ref BN) "line" = some none) (np : PySem.W.findIn K (.ref BN) "place" = some none) (cl : PySem.W.clsIn K BN = some cd) (cm : cd.mro = .ref BN :: .ref WY :: rest) (ty : PySem.W.typeIn K (.ref BN) = some (.type "type"))
    (cw : PySem.W.isClsIn K WY = true) (tw : PySem.W.typeIn K (.ref WY) = some (.type "type")) (ss : PySem.W.subIn K (.ref BN) (.ref BN) = some true) : BxT K mg BN WY := by
  refine ⟨oex, PySem.W.mg_of X G a, PySem.W.mg_of X G b, ⟨hg, hk, hs, hd, ha, hn, ht, hm⟩, by rw [cl]; rfl, ⟨hg, hk, hs, hd⟩, nl, np, ?_, PySem.W.exm_ref hs hd ty ss⟩
  by_cases h : BN = WY
  · subst h
    unfold PySem.W.kitOne
    rw [if_pos (beq_self_eq_true _)]
  · unfold PySem.W.kitOne
    rw [if_neg (by simpa using h)]
    show (if ((PySem.W.clsIn K WY).isSome && PySem.W.typeIn K (.ref WY) == some (.type "type")) = true then PySem.W.subIn K (.ref BN) (.ref WY) else none) = _
    rw [show (PySem.W.clsIn K WY).isSome = true from cw, tw, if_pos (by simp)]
    show PySem.W.mroIn K BN (.ref WY) = _
    unfold PySem.W.mroIn
    rw [cl, Option.bind_some, cm]
    simp
theorem kit_int {wy : Addr} (cw : PySem.W.isClsIn K wy = true) (tw : PySem.W.typeIn K (.ref wy) = some (.type "type")) (sl : PySem.W.subIn K (.type "int") (.ref wy) = some false) : PySem.W.kitOne K (.type "int") (.ref wy) = some false := by
  unfold PySem.W.kitOne
  rw [if_neg (by simp)]
  show (if ((PySem.W.clsIn K wy).isSome && PySem.W.typeIn K (.ref wy) == some (.type "type")) = true then PySem.W.subIn K (.type "int") (.ref wy) else none) = _
  rw [show (PySem.W.clsIn K wy).isSome = true from cw, tw, if_pos (by simp)]
  exact sl
theorem ClT.first {x y : Str} {C D wy a1 a2 a3 b1 b2 b3 : Addr} (c : ClT K mg x C wy a1 a2 a3) (d : ClT K mg y D wy b1 b2 b3) (hw : C ≠ wy) : PySem.W.notFirst K C (.ref D) = true := by
  obtain ⟨dd, g1, g2⟩ := d.cls
  unfold PySem.W.notFirst
  by_cases h : D = C
  · subst h; simp
  · have e : PySem.W.subIn K (.ref D) (.ref C) = some false := by
      show PySem.W.mroIn K D (.ref C) = _
      unfold PySem.W.mroIn
      rw [g1, Option.bind_some, g2]
      have h' : C ≠ D := fun e => h e.symm
      simp [h', hw]
    rw [e]; simp
theorem fin {fa wy aat aeq aln ast ard sc bt we i1 i2 i3 i4 i5 i6 i7 i8 i9 i10 mkC : Addr} {lt on no ro ch ag ma ah un ca : Addr} (X : K.In h) (G : h.Ns mainGlobals mg) (hfa : mg "law" = some (.ref fa))
    (tLt : ClT K mg "Letter" lt wy aat aeq aln) (tOn : ClT K mg "One" on wy aat aeq aln) (tNo : ClT K mg "Nothing" no wy aat aeq aln) (tRo : ClT K mg "Row" ro wy aat aeq aln) (tCh : ClT K mg "Choice" ch wy aat aeq aln)
    (tAg : ClT K mg "Again" ag wy aat aeq aln) (tMa : ClT K mg "Maybe" ma wy aat aeq aln) (tAh : ClT K mg "Ahead" ah wy aat aeq aln) (tUn : ClT K mg "Unless" un wy aat aeq aln) (tCa : ClT K mg "Call" ca wy aat aeq aln)
    (nd : [lt, on, no, ro, ch, ag, ma, ah, un, ca, wy].Nodup) (hn : PySem.W.specialIn K (.builtin "object.__class__") "__get__" = some (some (.builtin "getset_descriptor.__get__"))) (ht : PySem.W.takesIn K (.builtin "object.__class__") = some true)
    (wM : PySem.W.nsIn K mainGlobals "Way" = some (some (.ref wy))) (wc : PySem.W.isClsIn K wy = true) (wt : PySem.W.typeIn K (.ref wy) = some (.type "type"))
    (ieq : In1 K "__eq__" "Way.__eq__" s_Way_eq ["self", "other"] aeq) (ist : In1 K "__str__" "Way.__str__" s_Way_str ["self"] ast) (ird : In1 K "read" "Way.read" Ws.s_Way_read ["cls", "text"] ard)
    (s1 : PySem.W.findIn K (.ref lt) "__str__" = some (some (.ref ast))) (s2 : PySem.W.findIn K (.ref on) "__str__" = some (some (.ref ast))) (s3 : PySem.W.findIn K (.ref no) "__str__" = some (some (.ref ast))) (s4 : PySem.W.findIn K (.ref ro) "__str__" = some (some (.ref ast)))
    (s5 : PySem.W.findIn K (.ref ch) "__str__" = some (some (.ref ast))) (s6 : PySem.W.findIn K (.ref ag) "__str__" = some (some (.ref ast))) (s7 : PySem.W.findIn K (.ref ma) "__str__" = some (some (.ref ast))) (s8 : PySem.W.findIn K (.ref ah) "__str__" = some (some (.ref ast)))
    (s9 : PySem.W.findIn K (.ref un) "__str__" = some (some (.ref ast))) (s10 : PySem.W.findIn K (.ref ca) "__str__" = some (some (.ref ast)))
    (f1 : PySem.W.findIn K (.ref lt) "__init__" = some (some (.ref i1))) (j1 : In1 K "__init__" "Letter.__init__" s_Letter_init ["self", "letter"] i1)
    (f2 : PySem.W.findIn K (.ref ca) "__init__" = some (some (.ref i2))) (j2 : In1 K "__init__" "Call.__init__" s_Call_init ["self", "name"] i2)
    (f3 : PySem.W.findIn K (.ref ro) "__init__" = some (some (.ref i3))) (j3 : In1 K "__init__" "Row.__init__" s_Row_init ["self", "ways"] i3)
    (f4 : PySem.W.findIn K (.ref ch) "__init__" = some (some (.ref i4))) (j4 : In1 K "__init__" "Choice.__init__" s_Choice_init ["self", "ways"] i4)
    (f5 : PySem.W.findIn K (.ref ag) "__init__" = some (some (.ref i5))) (j5 : In1 K "__init__" "Again.__init__" s_Again_init ["self", "part"] i5)
    (f6 : PySem.W.findIn K (.ref ma) "__init__" = some (some (.ref i6))) (j6 : In1 K "__init__" "Maybe.__init__" s_Maybe_init ["self", "part"] i6)
    (f7 : PySem.W.findIn K (.ref ah) "__init__" = some (some (.ref i7))) (j7 : In1 K "__init__" "Ahead.__init__" s_Ahead_init ["self", "part"] i7)
    (f8 : PySem.W.findIn K (.ref un) "__init__" = some (some (.ref i8))) (j8 : In1 K "__init__" "Unless.__init__" s_Unless_init ["self", "part"] i8)
    (f9 : PySem.W.findIn K (.ref on) "__init__" = some (some (.ref i9))) (j9 : In1 K "__init__" "One.__init__" s_One_init ["self"] i9)
    (f10 : PySem.W.findIn K (.ref no) "__init__" = some (some (.ref i10))) (j10 : In1 K "__init__" "Nothing.__init__" s_Nothing_init ["self"] i10)
    (fM : Mk0 K mg "Mark" mkC) (k1 : Here K mg "first_call" s_first_call ["ways"]) (k2 : Here K mg "most_rounds" s_most_rounds ["ways"])
    (T : ScT K mg sc) (m0 : ScM K sc "__init__" "Scan.__init__" s_Scan_init ["self", "text", "line"]) (m1 : ScM K sc "sign_here" "Scan.sign_here" s_Scan_sign_here ["self"]) (m2 : ScM K sc "sign" "Scan.sign" s_Scan_sign ["self"])
    (m3 : ScM K sc "refuse" "Scan.refuse" Ws.s_Scan_refuse ["self"]) (m4 : ScM K sc "expect" "Scan.expect" Ws.s_Scan_expect ["self", "sign"]) (m5 : ScM K sc "read_name" "Scan.read_name" Ws.s_Scan_read_name ["self"])
    (m6 : ScM K sc "read_way" "Scan.read_way" Ws.s_Scan_read_way ["self"]) (m7 : ScM K sc "begin_way" "Scan.begin_way" Ws.s_Scan_begin_way ["self"]) (m8 : ScM K sc "read_single" "Scan.read_single" Ws.s_Scan_read_single ["self", "sign"])
    (m9 : ScM K sc "end_way" "Scan.end_way" s_Scan_end_way ["self"]) (m10 : ScM K sc "end_row" "Scan.end_row" s_Scan_end_row ["self"]) (m11 : ScM K sc "end_choice" "Scan.end_choice" s_Scan_end_choice ["self"])
    (m12 : ScM K sc "enter_bracket" "Scan.enter_bracket" s_Scan_enter_bracket ["self"]) (m13 : ScM K sc "leave_bracket" "Scan.leave_bracket" s_Scan_leave_bracket ["self"])
    (R : RdT K wy ard) (D : BxT K mg bt we) (m20 : ScM K bt "__init__" "BadText.__init__" s_BadText_init ["self", "line", "place"]) (si : PySem.W.subIn K (.type "int") (.ref wy) = some false)
    (B : Bs mg) (bS : PySem.W.nsIn K mainGlobals "str" = some none) (bM : PySem.W.nsIn K mainGlobals "max" = some none) (C : Ws.Kc mg) (h1 : Here K mg "kind_of" s_kind_of ["way"]) (h2 : Here K mg "word_of" s_word_of ["way"]) (h3 : Here K mg "made_of" s_made_of ["way"]) (h5 : Here K mg "same_ways" s_same_ways ["one", "other"])
    (h6 : Here K mg "is_letter" s_is_letter ["sign"]) (h7 : Here K mg "built" s_built ["kind", "word", "inner"]) (h8 : Here K mg "way_of_steps" s_way_of_steps ["steps"]) (h9 : Here K mg "bracketed" s_bracketed ["part", "around"]) (h10 : Here K mg "joined" s_joined ["way", "between"])
    (h11 : Here K mg "spelled" s_spelled ["way"]) (h12 : Here K mg "pieces_of" s_pieces_of ["way"])
    (g1 : Here K mg "_law_pen" s_l_pen ["_law_script"]) (g2 : Here K mg "_law_draw" s_l_draw ["_law_pen_here", "_law_many"]) (g3 : Here K mg "_law_pick" s_l_pick ["_law_pen_here", "_law_items"]) (g4 : Here K mg "_law_signs" s_l_signs ["_law_pen_here", "_law_many"]) (g5 : Here K mg "_law_leaf" s_l_leaf ["_law_pen_here", "_law_signs_here"])
    (g6 : Here K mg "_law_way" s_l_way ["_law_pen_here", "_law_signs_here", "_law_most"]) (g7 : Here K mg "_law_way_of" s_l_way_of ["_law_pen_here", "_law_signs_here", "_law_size"]) (g8 : Here K mg "_law_inner" s_l_inner ["_law_way_here"]) (g9 : Here K mg "_law_made" s_l_made ["_law_way_here"])
    (g12 : Here K mg "_law_read_choice" s_l_read_choice ["_law_text", "_law_at"]) (g13 : Here K mg "_law_read_row" s_l_read_row ["_law_text", "_law_at"]) (g14 : Here K mg "_law_read_look" s_l_read_look ["_law_text", "_law_at"]) (g15 : Here K mg "_law_read_one" s_l_read_one ["_law_text", "_law_at"]) (g16 : Here K mg "_law_read_call" s_l_read_call ["_law_text", "_law_at"])
    (g17 : Here K mg "_law_begins" s_l_begins ["_law_sign"]) (g18 : Here K mg "_law_skip" s_l_skip ["_law_text", "_law_at"]) (g19 : Here K mg "_law_due" s_l_due ["_law_text"]) (g20 : Here K mg "_law_told" s_l_told ["_law_text"]) (g21 : Here K mg "_law_bent" s_l_bent ["_law_pen_here", "_law_text"]) (g11 : Here K mg "law" s_law ["_law_script"]) :
    ∃ fd : FuncData, (∀ (s : Shared) (v : Value), BindsTo s fd ⟨[v], []⟩ [("_law_script", v)]) ∧ ∀ base : Heap, K.In base → base.Ns mainGlobals mg → FnOk P w K mg base CX0 205 fa fd ["_law_script"] (spLaw K) := by
  obtain ⟨f, fd, F, m, b⟩ := g11.ex
  have e := hfa.symm.trans m
  cases e
  have bnd : ∀ (s : Shared) (v : Value), BindsTo s fd ⟨[v], []⟩ [("_law_script", v)] := by
    obtain ⟨oc, od, kV, doc, pm, an, cdv, ct, osl, rfl, _, _⟩ := F.ex
    exact fun s v => .of_eq rfl
  refine ⟨fd, bnd, fun base _ _ => ?_⟩
  have t : Tops K mg ⟨lt, on, no, ro, ch, ag, ma, ah, un, ca⟩ wy aat aeq aln := ⟨tLt, tOn, tNo, tRo, tCh, tAg, tMa, tAh, tUn, tCa, nd⟩
  have A := t.all hn ht
  have U1 := d_first_call (P := P) (w := w) (base := base) k1 A.f
  have U2 := d_most_rounds (P := P) (w := w) (base := base) k2 B A.f
  have g : Gs P w K mg base ⟨lt, on, no, ro, ch, ag, ma, ah, un, ca⟩ :=
    ⟨cls_ok tLt f1 j1 fun _ F => ok_Letter F tLt.f, cls_ok tCa f2 j2 fun _ F => ok_Call F tCa.f, cls_ok tRo f3 j3 fun _ F => ok_Row F tRo.f B U1 U2, cls_ok tCh f4 j4 fun _ F => ok_Choice F tCh.f B U1 U2, cls_ok tAg f5 j5 fun _ F => ok_Again F tAg.f A.f fM,
      cls_ok tMa f6 j6 fun _ F => ok_Maybe F tMa.f A.f, cls_ok tAh f7 j7 fun _ F => ok_Ahead F tAh.f A.f, cls_ok tUn f8 j8 fun _ F => ok_Unless F tUn.f A.f, cls_ok tOn f9 j9 fun _ F => ok_One F tOn.f, cls_ok tNo f10 j10 fun _ F => ok_Nothing F tNo.f⟩
  have bS' := PySem.W.mg_none_of X G bS
  have P1 := d_l_pen (P := P) (w := w) (base := base) g1 B
  have P2 := d_l_draw (P := P) (w := w) (base := base) g2 B
  have P3 := d_l_pick g3 B P2
  have P4 := d_l_signs g4 B P2
  have P5 := d_l_leaf g5 B P2 P3
  have P7 := d_l_way_of g7 B P2 P3 P5 30
  have P6 := d_l_way g6 P2 P7
  have P8 := d_l_inner (P := P) (w := w) (base := base) g8
  have P9 := d_l_made _ g9 g P8 200
  have P18 := d_skip (P := P) (w := w) (base := base) g18
  have P17 := d_begins (P := P) (w := w) (base := base) g17
  have P16 := d_rdcall g16 P18
  have P12 := (d_reads B g15 g14 g13 g12 P18 P17 P16 100).1
  have P19 := d_due 100 g19 B P18 P12 P9 (by decide)
  have P21 := d_bent g21 B (PySem.W.mg_none_of X G bM) P2 P3
  have Q1 := d_kind_of (P := P) (w := w) (base := base) h1 A B C.wv
  have Q2 := d_word_of (P := P) (w := w) (base := base) h2 A B
  have Q3 := d_made_of (P := P) (w := w) (base := base) h3 A B
  have Q5 := Bo.d_same_both h5 B Q3 Q1 Q2
  have Q7 := d_built h7 g C
  have Q8 := d_way_of_steps h8 B Q7
  have Q9 := d_bracketed h9 C Q1
  have Q10 := d_joined h10 A Q1 Q9
  have Q11 := d_spelled h11 A C Q1 Q9 Q10
  have Q12 := d_pieces_of h12 A (fun x => kitStr (t.of x)) bS' B Q11
  obtain ⟨N1, _⟩ := scan_all (P := P) (w := w) (base := base) T ⟨m0, m1, m2, m3, m4, m5, m6, m7, m8, m9, m10, m11, m12, m13⟩ B C h6
  have XB : ExOk P w K mg base 1 "BadText" bt ["self", "line", "place"] (spBT bt) := by
    obtain ⟨fI, a, i⟩ := m20.ex
    obtain ⟨fd, F, b⟩ := i.ex
    exact ⟨fI, fd, D.oex, a, beq_iff_eq.mp i.fn, D.t.m, b, ok_BadText F D.oex D.t.nl D.t.np⟩
  have D0 := d_is_letter (P := P) (w := w) (base := base) h6
  have M1 := m1.ok (P := P) (w := w) (base := base) T fun _ _ F => ok_sign_here F T.f
  have M2 := m2.ok T fun _ _ F => ok_sign F T.f M1
  have M3 : MxOk P w K mg base sc 3 "refuse" ["self"] (spRef sc bt) := ScM.okX m3 T.f fun _ _ F => ok_refuse F T.f XB
  have M4 : MxOk P w K mg base sc 5 "expect" ["self", "sign"] (spExpX sc bt) := ScM.okX m4 T.f fun _ _ F => ok_expX F T.f M2 M3
  have M5 : MxOk P w K mg base sc 5 "read_name" ["self"] (spNameX sc bt) := ScM.okX m5 T.f fun _ _ F => ok_nameX F T.f C D0 M1 M2 M3
  have M8 : MxOk P w K mg base sc 6 "read_single" ["self", "sign"] (spSinX sc bt) := ScM.okX m8 T.f fun _ _ F => ok_sinX F T.f C D0 M5 M4 M3
  have M12 := m12.ok (P := P) (w := w) (base := base) T fun _ _ F => ok_enter F T.f
  have M13 := m13.ok (P := P) (w := w) (base := base) T fun _ _ F => ok_leave F T.f
  have M7 : MxOk P w K mg base sc 7 "begin_way" ["self"] (spBegX sc bt) := ScM.okX m7 T.f fun _ _ F => ok_begX F T.f C M2 M12 M8
  have M9 := m9.ok T fun _ _ F => ok_end_way F T.f C M2
  have M10 := m10.ok (P := P) (w := w) (base := base) T fun _ _ F => ok_end_row F T.f C
  have M11 := m11.ok T fun _ _ F => ok_end_choice F T.f C M10
  have M6 : MxOk P w K mg base sc 8 "read_way" ["self"] (spWayX sc bt) := ScM.okX m6 T.f fun _ _ F => ok_wayX F T.f B M2 M7 M9 M10 M11 M13
  have R1 : StrOk P w K mg base ⟨lt, on, no, ro, ch, ag, ma, ah, un, ca⟩ 6 (spStr ⟨lt, on, no, ro, ch, ag, ma, ah, un, ca⟩) := by
    obtain ⟨fd, F, b⟩ := ist.ex
    refine ⟨ast, fd, _, ok_Way_str F Q12, fun u => ?_, ist.fn, b⟩
    cases u <;> assumption
  have GW : Bo.WEq P w K mg base ⟨lt, on, no, ro, ch, ag, ma, ah, un, ca⟩ 3 := by
    obtain ⟨fd, F, b⟩ := ieq.ex
    exact ⟨⟨aeq, fd, _, Bo.ok_Way_eqB F A (PySem.W.mg_of X G wM) (fun x => (t.of x).kitWay wc wt) B Q5, fun u => (t.of u).meq, ieq.fn, b⟩, fun x u => ClT.first (t.of x) (t.of u) (t.ne x), A.kit⟩
  have R3 : ReadX P w K mg base wy 9 (spReadX ⟨lt, on, no, ro, ch, ag, ma, ah, un, ca⟩ bt) := by
    obtain ⟨fd, F, b⟩ := ird.ex
    obtain ⟨mc, p, r1, r2⟩ := R.ex
    exact ⟨mc, p, ard, r1, r2, ((ok_readX F N1 M6 Q8).raw b .nil).imp fun vs H Q E hs => by rw [List.append_nil]; exact hs⟩
  have P20 := d_told g20 B D.t (PySem.W.mg_of X G wM) R3
  exact ok_law F B bS' (PySem.W.mg_of X G wM) P1 P2 P4 P6 P9 P20 P19 P21 R1 GW A (fun x => (t.of x).kitWay wc wt) (kit_int wc wt si)
end
theorem walk {l : PySem.W.OpenLaw} {q : Program} {loose : List Str} {XP : (Str → Option Value) → Heap → Prop} {YP : World → Heap → Prop} {d : DefRec} {K : Params → PySem.W.Frag} (hn : l.most = some 63) (hdf : d.params.defaults = [])
    (hY : ∀ (w : World) (h : Heap), YP w h → (K w.params).In h)
    (F : ∀ (w : World) (mg : Str → Option Value) (fa : Addr) (h : Heap), (K w.params).In h → h.Ns mainGlobals mg → mg d.name = some (.ref fa) →
      ∃ fd : FuncData, (∀ (s : Shared) (u : Value), BindsTo s fd ⟨[u], []⟩ [("_law_script", u)]) ∧ ∀ base : Heap, (K w.params).In base → base.Ns mainGlobals mg → L2.FnOk l.prog w (K w.params) mg base L2.CX0 205 fa fd ["_law_script"] (spLaw (K w.params))) :
    PySem.W.WalkO q loose XP YP l.row.toRowW d [] (fun f vs => PySem.call f vs) :=
  L2.walk_of (n := 63) (k := 205) (x := "_law_script") (CX := fun _ => L2.CX0) (sp := fun w => spLaw (K w.params)) hn (by decide) hdf ⟨rfl, by decide, by decide⟩ hY F (fun _ _ a ns hl _ hS => ⟨a, ns, rfl, hS, hl, fun _ => rfl⟩) fun _ _ _ _ _ z => z
end Wy
open PySem PySem.W PyProof.Rows
set_option maxHeartbeats 0
def PySem.W.Fast.tw459075727595345418 : Nat := 0
def PySem.W.Fast.tw861502493610598483 : Nat := 0
open_top hd for PySem.Challenge.rw_waystaken_k05_wrong_texts_of_ways
theorem PySem.Challenge.cw_waystaken_k05_wrong_texts_of_ways_holds : PySem.Challenge.rw_waystaken_k05_wrong_texts_of_ways.Holds :=
  hd (by
  k_fill
  refine Wy.walk (l := PySem.Challenge.rw_waystaken_k05_wrong_texts_of_ways) rfl rfl (fun _ _ Y => PySem.W.kIn_of Y) ?F
  case F =>
    intro w mg fa h KX G hmg
    refine' Wy.fin KX G hmg ?tLt ?tOn ?tNo ?tRo ?tCh ?tAg ?tMa ?tAh ?tUn ?tCa ?nd ?hn ?ht ?wM ?wc ?wt ?ieq ?ist ?ird ?s1 ?s2 ?s3 ?s4 ?s5 ?s6 ?s7 ?s8 ?s9 ?s10 ?f1 ?j1 ?f2 ?j2 ?f3 ?j3 ?f4 ?j4 ?f5 ?j5 ?f6 ?j6 ?f7 ?j7 ?f8 ?j8 ?f9 ?j9 ?f10 ?j10 ?fM ?k1 ?k2 ?T ?m0 ?m1 ?m2 ?m3 ?m4 ?m5 ?m6 ?m7 ?m8 ?m9 ?m10 ?m11 ?m12 ?m13 ?R ?D ?m20 ?si ?B ?bS ?bM ?C ?h1 ?h2 ?h3 ?h5 ?h6 ?h7 ?h8 ?h9 ?h10 ?h11 ?h12 ?g1 ?g2 ?g3 ?g4 ?g5 ?g6 ?g7 ?g8 ?g9 ?g12 ?g13 ?g14 ?g15 ?g16 ?g17 ?g18 ?g19 ?g20 ?g21 ?g11
    (case wM => k_is)
    (case tLt => (refine' Wv.clt_mk KX G ?a ?pg ?hd ?po ?sa ?nl ?nn ?nw ?np ?nc ?nr ?nm ?ha ?hm ?mk ?kc ?ty ?cl ?cm ?mat ?meq ?mln; (case a => k_is); (case pg => k_is); (case hd => k_is); (case po => k_is); (case sa => k_is); (case nl => k_is); (case nn => k_is); (case nw => k_is); (case np => k_is); (case nc => k_is); (case nr => k_is); (case nm => k_is); (case ha => k_is); (case hm => k_is); (case mk => k_is); (case kc => k_is); (case ty => k_is); (case cl => k_is); (case cm => exact rfl); (case mat => k_is); (case meq => k_is); (case mln => k_is)))
    (case tOn => (refine' Wv.clt_mk KX G ?a ?pg ?hd ?po ?sa ?nl ?nn ?nw ?np ?nc ?nr ?nm ?ha ?hm ?mk ?kc ?ty ?cl ?cm ?mat ?meq ?mln; (case a => k_is); (case pg => k_is); (case hd => k_is); (case po => k_is); (case sa => k_is); (case nl => k_is); (case nn => k_is); (case nw => k_is); (case np => k_is); (case nc => k_is); (case nr => k_is); (case nm => k_is); (case ha => k_is); (case hm => k_is); (case mk => k_is); (case kc => k_is); (case ty => k_is); (case cl => k_is); (case cm => exact rfl); (case mat => k_is); (case meq => k_is); (case mln => k_is)))
    (case tNo => (refine' Wv.clt_mk KX G ?a ?pg ?hd ?po ?sa ?nl ?nn ?nw ?np ?nc ?nr ?nm ?ha ?hm ?mk ?kc ?ty ?cl ?cm ?mat ?meq ?mln; (case a => k_is); (case pg => k_is); (case hd => k_is); (case po => k_is); (case sa => k_is); (case nl => k_is); (case nn => k_is); (case nw => k_is); (case np => k_is); (case nc => k_is); (case nr => k_is); (case nm => k_is); (case ha => k_is); (case hm => k_is); (case mk => k_is); (case kc => k_is); (case ty => k_is); (case cl => k_is); (case cm => exact rfl); (case mat => k_is); (case meq => k_is); (case mln => k_is)))
    (case tRo => (refine' Wv.clt_mk KX G ?a ?pg ?hd ?po ?sa ?nl ?nn ?nw ?np ?nc ?nr ?nm ?ha ?hm ?mk ?kc ?ty ?cl ?cm ?mat ?meq ?mln; (case a => k_is); (case pg => k_is); (case hd => k_is); (case po => k_is); (case sa => k_is); (case nl => k_is); (case nn => k_is); (case nw => k_is); (case np => k_is); (case nc => k_is); (case nr => k_is); (case nm => k_is); (case ha => k_is); (case hm => k_is); (case mk => k_is); (case kc => k_is); (case ty => k_is); (case cl => k_is); (case cm => exact rfl); (case mat => k_is); (case meq => k_is); (case mln => k_is)))
    (case tCh => (refine' Wv.clt_mk KX G ?a ?pg ?hd ?po ?sa ?nl ?nn ?nw ?np ?nc ?nr ?nm ?ha ?hm ?mk ?kc ?ty ?cl ?cm ?mat ?meq ?mln; (case a => k_is); (case pg => k_is); (case hd => k_is); (case po => k_is); (case sa => k_is); (case nl => k_is); (case nn => k_is); (case nw => k_is); (case np => k_is); (case nc => k_is); (case nr => k_is); (case nm => k_is); (case ha => k_is); (case hm => k_is); (case mk => k_is); (case kc => k_is); (case ty => k_is); (case cl => k_is); (case cm => exact rfl); (case mat => k_is); (case meq => k_is); (case mln => k_is)))
    (case tAg => (refine' Wv.clt_mk KX G ?a ?pg ?hd ?po ?sa ?nl ?nn ?nw ?np ?nc ?nr ?nm ?ha ?hm ?mk ?kc ?ty ?cl ?cm ?mat ?meq ?mln; (case a => k_is); (case pg => k_is); (case hd => k_is); (case po => k_is); (case sa => k_is); (case nl => k_is); (case nn => k_is); (case nw => k_is); (case np => k_is); (case nc => k_is); (case nr => k_is); (case nm => k_is); (case ha => k_is); (case hm => k_is); (case mk => k_is); (case kc => k_is); (case ty => k_is); (case cl => k_is); (case cm => exact rfl); (case mat => k_is); (case meq => k_is); (case mln => k_is)))
    (case tMa => (refine' Wv.clt_mk KX G ?a ?pg ?hd ?po ?sa ?nl ?nn ?nw ?np ?nc ?nr ?nm ?ha ?hm ?mk ?kc ?ty ?cl ?cm ?mat ?meq ?mln; (case a => k_is); (case pg => k_is); (case hd => k_is); (case po => k_is); (case sa => k_is); (case nl => k_is); (case nn => k_is); (case nw => k_is); (case np => k_is); (case nc => k_is); (case nr => k_is); (case nm => k_is); (case ha => k_is); (case hm => k_is); (case mk => k_is); (case kc => k_is); (case ty => k_is); (case cl => k_is); (case cm => exact rfl); (case mat => k_is); (case meq => k_is); (case mln => k_is)))
    (case tAh => (refine' Wv.clt_mk KX G ?a ?pg ?hd ?po ?sa ?nl ?nn ?nw ?np ?nc ?nr ?nm ?ha ?hm ?mk ?kc ?ty ?cl ?cm ?mat ?meq ?mln; (case a => k_is); (case pg => k_is); (case hd => k_is); (case po => k_is); (case sa => k_is); (case nl => k_is); (case nn => k_is); (case nw => k_is); (case np => k_is); (case nc => k_is); (case nr => k_is); (case nm => k_is); (case ha => k_is); (case hm => k_is); (case mk => k_is); (case kc => k_is); (case ty => k_is); (case cl => k_is); (case cm => exact rfl); (case mat => k_is); (case meq => k_is); (case mln => k_is)))
    (case tUn => (refine' Wv.clt_mk KX G ?a ?pg ?hd ?po ?sa ?nl ?nn ?nw ?np ?nc ?nr ?nm ?ha ?hm ?mk ?kc ?ty ?cl ?cm ?mat ?meq ?mln; (case a => k_is); (case pg => k_is); (case hd => k_is); (case po => k_is); (case sa => k_is); (case nl => k_is); (case nn => k_is); (case nw => k_is); (case np => k_is); (case nc => k_is); (case nr => k_is); (case nm => k_is); (case ha => k_is); (case hm => k_is); (case mk => k_is); (case kc => k_is); (case ty => k_is); (case cl => k_is); (case cm => exact rfl); (case mat => k_is); (case meq => k_is); (case mln => k_is)))
    (case tCa => (refine' Wv.clt_mk KX G ?a ?pg ?hd ?po ?sa ?nl ?nn ?nw ?np ?nc ?nr ?nm ?ha ?hm ?mk ?kc ?ty ?cl ?cm ?mat ?meq ?mln; (case a => k_is); (case pg => k_is); (case hd => k_is); (case po => k_is); (case sa => k_is); (case nl => k_is); (case nn => k_is); (case nw => k_is); (case np => k_is); (case nc => k_is); (case nr => k_is); (case nm => k_is); (case ha => k_is); (case hm => k_is); (case mk => k_is); (case kc => k_is); (case ty => k_is); (case cl => k_is); (case cm => exact rfl); (case mat => k_is); (case meq => k_is); (case mln => k_is)))
    (case wc => k_is)
    (case wt => k_is)
    (case hn => k_is)
    (case ht => k_is)
    (case nd => decide)
    (case s1 => k_is)
    (case s2 => k_is)
    (case s3 => k_is)
    (case s4 => k_is)
    (case s5 => k_is)
    (case s6 => k_is)
    (case s7 => k_is)
    (case s8 => k_is)
    (case s9 => k_is)
    (case s10 => k_is)
    (case T => (refine' Ws.sct_mk KX G ?a ?pg ?hd ?po ?sa ?n1 ?n2 ?n3 ?n4 ?n5 ?n6 ?n7 ?mk ?kc; (case a => k_is); (case pg => k_is); (case hd => k_is); (case po => k_is); (case sa => k_is); (case n1 => k_is); (case n2 => k_is); (case n3 => k_is); (case n4 => k_is); (case n5 => k_is); (case n6 => k_is); (case n7 => k_is); (case mk => k_is); (case kc => k_is)))
    (case R => (refine' Ws.rdt_mk ?a ?b ?d ?e ?f; (case a => k_is); (case b => k_is); (case d => k_is); (case e => k_is); (case f => k_is)))
    (case D => (refine' Wy.bxt_mk KX G (Wy.oex_mk ?ol ?om ?os ?oe ?ot ?ok) ?a ?b ?hg ?hk ?hs ?hd ?ha ?hn ?ht ?hm ?nl ?np ?cl ?cm ?ty ?cw ?tw ?ss; (case a => k_is); (case ol => k_is); (case om => exact rfl); (case os => k_is); (case oe => k_is); (case ot => k_is); (case ok => k_is); (case b => k_is); (case hg => k_is); (case hk => k_is); (case hs => k_is); (case hd => k_is); (case ha => k_is); (case hn => k_is); (case ht => k_is); (case hm => k_is); (case nl => k_is); (case np => k_is); (case cl => k_is); (case cm => exact rfl); (case ty => k_is); (case cw => k_is); (case tw => k_is); (case ss => k_is)))
    (case m20 => (refine' Ws.scm_mk ?a (Wv.in_mk ?i ?l ?c ?k ?b); (case a => k_is); (case i => k_is); (case l => k_is); (case c => k_is); (case k => k_is); (case b => exact fun _ _ _ _ _ _ us hl => match us, hl with | [_, _, _], _ => rfl)))
    (case ieq => (refine' Wv.in_mk ?i ?l ?c ?k ?b; (case i => k_is); (case l => k_is); (case c => k_is); (case k => k_is); (case b => exact fun _ _ _ _ _ _ us hl => match us, hl with | [_, _], _ => rfl)))
    (case ist => (refine' Wv.in_mk ?i ?l ?c ?k ?b; (case i => k_is); (case l => k_is); (case c => k_is); (case k => k_is); (case b => exact fun _ _ _ _ _ _ us hl => match us, hl with | [_], _ => rfl)))
    (case ird => (refine' Wv.in_mk ?i ?l ?c ?k ?b; (case i => k_is); (case l => k_is); (case c => k_is); (case k => k_is); (case b => exact fun _ _ _ _ _ _ us hl => match us, hl with | [_, _], _ => rfl)))
    (case f1 => k_is)
    (case j1 => (refine' Wv.in_mk ?i ?l ?c ?k ?b; (case i => k_is); (case l => k_is); (case c => k_is); (case k => k_is); (case b => exact fun _ _ _ _ _ _ us hl => match us, hl with | [_, _], _ => rfl)))
    (case f2 => k_is)
    (case j2 => (refine' Wv.in_mk ?i ?l ?c ?k ?b; (case i => k_is); (case l => k_is); (case c => k_is); (case k => k_is); (case b => exact fun _ _ _ _ _ _ us hl => match us, hl with | [_, _], _ => rfl)))
    (case f3 => k_is)
    (case j3 => (refine' Wv.in_mk ?i ?l ?c ?k ?b; (case i => k_is); (case l => k_is); (case c => k_is); (case k => k_is); (case b => exact fun _ _ _ _ _ _ us hl => match us, hl with | [_, _], _ => rfl)))
    (case f4 => k_is)
    (case j4 => (refine' Wv.in_mk ?i ?l ?c ?k ?b; (case i => k_is); (case l => k_is); (case c => k_is); (case k => k_is); (case b => exact fun _ _ _ _ _ _ us hl => match us, hl with | [_, _], _ => rfl)))
    (case f5 => k_is)
    (case j5 => (refine' Wv.in_mk ?i ?l ?c ?k ?b; (case i => k_is); (case l => k_is); (case c => k_is); (case k => k_is); (case b => exact fun _ _ _ _ _ _ us hl => match us, hl with | [_, _], _ => rfl)))
    (case f6 => k_is)
    (case j6 => (refine' Wv.in_mk ?i ?l ?c ?k ?b; (case i => k_is); (case l => k_is); (case c => k_is); (case k => k_is); (case b => exact fun _ _ _ _ _ _ us hl => match us, hl with | [_, _], _ => rfl)))
    (case f7 => k_is)
    (case j7 => (refine' Wv.in_mk ?i ?l ?c ?k ?b; (case i => k_is); (case l => k_is); (case c => k_is); (case k => k_is); (case b => exact fun _ _ _ _ _ _ us hl => match us, hl with | [_, _], _ => rfl)))
    (case f8 => k_is)
    (case j8 => (refine' Wv.in_mk ?i ?l ?c ?k ?b; (case i => k_is); (case l => k_is); (case c => k_is); (case k => k_is); (case b => exact fun _ _ _ _ _ _ us hl => match us, hl with | [_, _], _ => rfl)))
    (case f9 => k_is)
    (case j9 => (refine' Wv.in_mk ?i ?l ?c ?k ?b; (case i => k_is); (case l => k_is); (case c => k_is); (case k => k_is); (case b => exact fun _ _ _ _ _ _ us hl => match us, hl with | [_], _ => rfl)))
    (case f10 => k_is)
    (case j10 => (refine' Wv.in_mk ?i ?l ?c ?k ?b; (case i => k_is); (case l => k_is); (case c => k_is); (case k => k_is); (case b => exact fun _ _ _ _ _ _ us hl => match us, hl with | [_], _ => rfl)))
    (case m0 => (refine' Ws.scm_mk ?a (Wv.in_mk ?i ?l ?c ?k ?b); (case a => k_is); (case i => k_is); (case l => k_is); (case c => k_is); (case k => k_is); (case b => exact fun _ _ _ _ _ _ us hl => match us, hl with | [_, _, _], _ => rfl)))
    (case m1 => (refine' Ws.scm_mk ?a (Wv.in_mk ?i ?l ?c ?k ?b); (case a => k_is); (case i => k_is); (case l => k_is); (case c => k_is); (case k => k_is); (case b => exact fun _ _ _ _ _ _ us hl => match us, hl with | [_], _ => rfl)))
    (case m2 => (refine' Ws.scm_mk ?a (Wv.in_mk ?i ?l ?c ?k ?b); (case a => k_is); (case i => k_is); (case l => k_is); (case c => k_is); (case k => k_is); (case b => exact fun _ _ _ _ _ _ us hl => match us, hl with | [_], _ => rfl)))
    (case m3 => (refine' Ws.scm_mk ?a (Wv.in_mk ?i ?l ?c ?k ?b); (case a => k_is); (case i => k_is); (case l => k_is); (case c => k_is); (case k => k_is); (case b => exact fun _ _ _ _ _ _ us hl => match us, hl with | [_], _ => rfl)))
    (case m4 => (refine' Ws.scm_mk ?a (Wv.in_mk ?i ?l ?c ?k ?b); (case a => k_is); (case i => k_is); (case l => k_is); (case c => k_is); (case k => k_is); (case b => exact fun _ _ _ _ _ _ us hl => match us, hl with | [_, _], _ => rfl)))
    (case m5 => (refine' Ws.scm_mk ?a (Wv.in_mk ?i ?l ?c ?k ?b); (case a => k_is); (case i => k_is); (case l => k_is); (case c => k_is); (case k => k_is); (case b => exact fun _ _ _ _ _ _ us hl => match us, hl with | [_], _ => rfl)))
    (case m6 => (refine' Ws.scm_mk ?a (Wv.in_mk ?i ?l ?c ?k ?b); (case a => k_is); (case i => k_is); (case l => k_is); (case c => k_is); (case k => k_is); (case b => exact fun _ _ _ _ _ _ us hl => match us, hl with | [_], _ => rfl)))
    (case m7 => (refine' Ws.scm_mk ?a (Wv.in_mk ?i ?l ?c ?k ?b); (case a => k_is); (case i => k_is); (case l => k_is); (case c => k_is); (case k => k_is); (case b => exact fun _ _ _ _ _ _ us hl => match us, hl with | [_], _ => rfl)))
    (case m8 => (refine' Ws.scm_mk ?a (Wv.in_mk ?i ?l ?c ?k ?b); (case a => k_is); (case i => k_is); (case l => k_is); (case c => k_is); (case k => k_is); (case b => exact fun _ _ _ _ _ _ us hl => match us, hl with | [_, _], _ => rfl)))
    (case m9 => (refine' Ws.scm_mk ?a (Wv.in_mk ?i ?l ?c ?k ?b); (case a => k_is); (case i => k_is); (case l => k_is); (case c => k_is); (case k => k_is); (case b => exact fun _ _ _ _ _ _ us hl => match us, hl with | [_], _ => rfl)))
    (case m10 => (refine' Ws.scm_mk ?a (Wv.in_mk ?i ?l ?c ?k ?b); (case a => k_is); (case i => k_is); (case l => k_is); (case c => k_is); (case k => k_is); (case b => exact fun _ _ _ _ _ _ us hl => match us, hl with | [_], _ => rfl)))
    (case m11 => (refine' Ws.scm_mk ?a (Wv.in_mk ?i ?l ?c ?k ?b); (case a => k_is); (case i => k_is); (case l => k_is); (case c => k_is); (case k => k_is); (case b => exact fun _ _ _ _ _ _ us hl => match us, hl with | [_], _ => rfl)))
    (case m12 => (refine' Ws.scm_mk ?a (Wv.in_mk ?i ?l ?c ?k ?b); (case a => k_is); (case i => k_is); (case l => k_is); (case c => k_is); (case k => k_is); (case b => exact fun _ _ _ _ _ _ us hl => match us, hl with | [_], _ => rfl)))
    (case m13 => (refine' Ws.scm_mk ?a (Wv.in_mk ?i ?l ?c ?k ?b); (case a => k_is); (case i => k_is); (case l => k_is); (case c => k_is); (case k => k_is); (case b => exact fun _ _ _ _ _ _ us hl => match us, hl with | [_], _ => rfl)))
    (case fM => (refine' Wv.mk0_mk KX G ?a ?mk ?f ?kc; (case a => k_is); (case mk => k_is); (case f => k_is); (case kc => k_is)))
    (case k1 => (refine' Wv.here_mk KX G ?a ?l ?c ?k ?b; (case a => k_is); (case l => k_is); (case c => k_is); (case k => k_is); (case b => exact fun _ _ _ _ _ _ us hl => match us, hl with | [_], _ => rfl)))
    (case k2 => (refine' Wv.here_mk KX G ?a ?l ?c ?k ?b; (case a => k_is); (case l => k_is); (case c => k_is); (case k => k_is); (case b => exact fun _ _ _ _ _ _ us hl => match us, hl with | [_], _ => rfl)))
    (case B => (refine' Wv.bs_mk KX G ?z1 ?z2 ?z3 ?z4 ?z5 ?z6 ?z7 ?z8 ?z9 ?z10 ?z11 ?z12 ?z13; (case z1 => k_is); (case z2 => k_is); (case z3 => k_is); (case z4 => k_is); (case z5 => k_is); (case z6 => k_is); (case z7 => k_is); (case z8 => k_is); (case z9 => k_is); (case z10 => k_is); (case z11 => k_is); (case z12 => k_is); (case z13 => k_is)))
    (case bS => k_is)
    (case bM => k_is)
    (case si => k_is)
    (case C => (refine' Ws.kcs_mk KX G ?z0 ?z1 ?z2 ?z3 ?z4 ?z5 ?z6 ?z7 ?z8 ?z9 ?zN; (case z0 => k_is); (case z1 => k_is); (case z2 => k_is); (case z3 => k_is); (case z4 => k_is); (case z5 => k_is); (case z6 => k_is); (case z7 => k_is); (case z8 => k_is); (case z9 => k_is); (case zN => k_is)))
    (case h1 => (refine' Wv.here_mk KX G ?a ?l ?c ?k ?b; (case a => k_is); (case l => k_is); (case c => k_is); (case k => k_is); (case b => exact fun _ _ _ _ _ _ us hl => match us, hl with | [_], _ => rfl)))
    (case h2 => (refine' Wv.here_mk KX G ?a ?l ?c ?k ?b; (case a => k_is); (case l => k_is); (case c => k_is); (case k => k_is); (case b => exact fun _ _ _ _ _ _ us hl => match us, hl with | [_], _ => rfl)))
    (case h3 => (refine' Wv.here_mk KX G ?a ?l ?c ?k ?b; (case a => k_is); (case l => k_is); (case c => k_is); (case k => k_is); (case b => exact fun _ _ _ _ _ _ us hl => match us, hl with | [_], _ => rfl)))
    (case h5 => (refine' Wv.here_mk KX G ?a ?l ?c ?k ?b; (case a => k_is); (case l => k_is); (case c => k_is); (case k => k_is); (case b => exact fun _ _ _ _ _ _ us hl => match us, hl with | [_, _], _ => rfl)))
    (case h6 => (refine' Wv.here_mk KX G ?a ?l ?c ?k ?b; (case a => k_is); (case l => k_is); (case c => k_is); (case k => k_is); (case b => exact fun _ _ _ _ _ _ us hl => match us, hl with | [_], _ => rfl)))
    (case h7 => (refine' Wv.here_mk KX G ?a ?l ?c ?k ?b; (case a => k_is); (case l => k_is); (case c => k_is); (case k => k_is); (case b => exact fun _ _ _ _ _ _ us hl => match us, hl with | [_, _, _], _ => rfl)))
    (case h8 => (refine' Wv.here_mk KX G ?a ?l ?c ?k ?b; (case a => k_is); (case l => k_is); (case c => k_is); (case k => k_is); (case b => exact fun _ _ _ _ _ _ us hl => match us, hl with | [_], _ => rfl)))
    (case h9 => (refine' Wv.here_mk KX G ?a ?l ?c ?k ?b; (case a => k_is); (case l => k_is); (case c => k_is); (case k => k_is); (case b => exact fun _ _ _ _ _ _ us hl => match us, hl with | [_, _], _ => rfl)))
    (case h10 => (refine' Wv.here_mk KX G ?a ?l ?c ?k ?b; (case a => k_is); (case l => k_is); (case c => k_is); (case k => k_is); (case b => exact fun _ _ _ _ _ _ us hl => match us, hl with | [_, _], _ => rfl)))
    (case h11 => (refine' Wv.here_mk KX G ?a ?l ?c ?k ?b; (case a => k_is); (case l => k_is); (case c => k_is); (case k => k_is); (case b => exact fun _ _ _ _ _ _ us hl => match us, hl with | [_], _ => rfl)))
    (case h12 => (refine' Wv.here_mk KX G ?a ?l ?c ?k ?b; (case a => k_is); (case l => k_is); (case c => k_is); (case k => k_is); (case b => exact fun _ _ _ _ _ _ us hl => match us, hl with | [_], _ => rfl)))
    (case g1 => (refine' Wv.here_mk KX G ?a ?l ?c ?k ?b; (case a => k_is); (case l => k_is); (case c => k_is); (case k => k_is); (case b => exact fun _ _ _ _ _ _ us hl => match us, hl with | [_], _ => rfl)))
    (case g2 => (refine' Wv.here_mk KX G ?a ?l ?c ?k ?b; (case a => k_is); (case l => k_is); (case c => k_is); (case k => k_is); (case b => exact fun _ _ _ _ _ _ us hl => match us, hl with | [_, _], _ => rfl)))
    (case g3 => (refine' Wv.here_mk KX G ?a ?l ?c ?k ?b; (case a => k_is); (case l => k_is); (case c => k_is); (case k => k_is); (case b => exact fun _ _ _ _ _ _ us hl => match us, hl with | [_, _], _ => rfl)))
    (case g4 => (refine' Wv.here_mk KX G ?a ?l ?c ?k ?b; (case a => k_is); (case l => k_is); (case c => k_is); (case k => k_is); (case b => exact fun _ _ _ _ _ _ us hl => match us, hl with | [_, _], _ => rfl)))
    (case g5 => (refine' Wv.here_mk KX G ?a ?l ?c ?k ?b; (case a => k_is); (case l => k_is); (case c => k_is); (case k => k_is); (case b => exact fun _ _ _ _ _ _ us hl => match us, hl with | [_, _], _ => rfl)))
    (case g6 => (refine' Wv.here_mk KX G ?a ?l ?c ?k ?b; (case a => k_is); (case l => k_is); (case c => k_is); (case k => k_is); (case b => exact fun _ _ _ _ _ _ us hl => match us, hl with | [_, _, _], _ => rfl)))
    (case g7 => (refine' Wv.here_mk KX G ?a ?l ?c ?k ?b; (case a => k_is); (case l => k_is); (case c => k_is); (case k => k_is); (case b => exact fun _ _ _ _ _ _ us hl => match us, hl with | [_, _, _], _ => rfl)))
    (case g8 => (refine' Wv.here_mk KX G ?a ?l ?c ?k ?b; (case a => k_is); (case l => k_is); (case c => k_is); (case k => k_is); (case b => exact fun _ _ _ _ _ _ us hl => match us, hl with | [_], _ => rfl)))
    (case g9 => (refine' Wv.here_mk KX G ?a ?l ?c ?k ?b; (case a => k_is); (case l => k_is); (case c => k_is); (case k => k_is); (case b => exact fun _ _ _ _ _ _ us hl => match us, hl with | [_], _ => rfl)))
    (case g12 => (refine' Wv.here_mk KX G ?a ?l ?c ?k ?b; (case a => k_is); (case l => k_is); (case c => k_is); (case k => k_is); (case b => exact fun _ _ _ _ _ _ us hl => match us, hl with | [_, _], _ => rfl)))
    (case g13 => (refine' Wv.here_mk KX G ?a ?l ?c ?k ?b; (case a => k_is); (case l => k_is); (case c => k_is); (case k => k_is); (case b => exact fun _ _ _ _ _ _ us hl => match us, hl with | [_, _], _ => rfl)))
    (case g14 => (refine' Wv.here_mk KX G ?a ?l ?c ?k ?b; (case a => k_is); (case l => k_is); (case c => k_is); (case k => k_is); (case b => exact fun _ _ _ _ _ _ us hl => match us, hl with | [_, _], _ => rfl)))
    (case g15 => (refine' Wv.here_mk KX G ?a ?l ?c ?k ?b; (case a => k_is); (case l => k_is); (case c => k_is); (case k => k_is); (case b => exact fun _ _ _ _ _ _ us hl => match us, hl with | [_, _], _ => rfl)))
    (case g16 => (refine' Wv.here_mk KX G ?a ?l ?c ?k ?b; (case a => k_is); (case l => k_is); (case c => k_is); (case k => k_is); (case b => exact fun _ _ _ _ _ _ us hl => match us, hl with | [_, _], _ => rfl)))
    (case g17 => (refine' Wv.here_mk KX G ?a ?l ?c ?k ?b; (case a => k_is); (case l => k_is); (case c => k_is); (case k => k_is); (case b => exact fun _ _ _ _ _ _ us hl => match us, hl with | [_], _ => rfl)))
    (case g18 => (refine' Wv.here_mk KX G ?a ?l ?c ?k ?b; (case a => k_is); (case l => k_is); (case c => k_is); (case k => k_is); (case b => exact fun _ _ _ _ _ _ us hl => match us, hl with | [_, _], _ => rfl)))
    (case g19 => (refine' Wv.here_mk KX G ?a ?l ?c ?k ?b; (case a => k_is); (case l => k_is); (case c => k_is); (case k => k_is); (case b => exact fun _ _ _ _ _ _ us hl => match us, hl with | [_], _ => rfl)))
    (case g20 => (refine' Wv.here_mk KX G ?a ?l ?c ?k ?b; (case a => k_is); (case l => k_is); (case c => k_is); (case k => k_is); (case b => exact fun _ _ _ _ _ _ us hl => match us, hl with | [_], _ => rfl)))
    (case g21 => (refine' Wv.here_mk KX G ?a ?l ?c ?k ?b; (case a => k_is); (case l => k_is); (case c => k_is); (case k => k_is); (case b => exact fun _ _ _ _ _ _ us hl => match us, hl with | [_, _], _ => rfl)))
    (case g11 => (refine' Wv.here_mk KX G ?a ?l ?c ?k ?b; (case a => k_is); (case l => k_is); (case c => k_is); (case k => k_is); (case b => exact fun _ _ _ _ _ _ us hl => match us, hl with | [_], _ => rfl))))
