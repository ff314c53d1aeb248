import PyProof.Rows.All
import Wide.All
import OpenK.AllK
import Wide.FinOn
import HandS.ForMost
import HandS.IsInst
import HandS.Style
import HandS.RevRange
import HandS.OwnEq
import HandS.SortKw
import KE.DataMinMax
import HandS.Deep
import HandS.ForExc
import HandS.ExcInit
import HandS.ExcField
import HandS.ExcIs
import HandS.WordsExc
import HandS.Star
import HandS.ClsMeth
import HandS.HotCalls
import HandS.MakeKw
import HandS.Small
import HandS.ExcInitHot
import HandS.Lambda
import KE.KExcIs
import PySem.Challenge.RW_waystaken_k01_errors
set_option Elab.async false
set_option linter.all false
set_option maxRecDepth 100000
set_option maxHeartbeats 4000000
namespace Wv
open PySem PySem.Spec PyProof.Rows L2
/-! ### a def of the module, called by its name -/
section
variable {P : Program} {w : World} {K : PySem.W.Frag} {mg : Str → Option Value} {base : Heap}
structure DefOk (P : Program) (w : World) (K : PySem.W.Frag) (mg : Str → Option Value) (base : Heap) (k : Nat) (x : Str) (ps : List Str) (sp : Sp) : Prop where
  ex : ∃ (f : Addr) (fd : FuncData), mg x = some (.ref f) ∧ PySem.W.keepIn K (.ref f) = true ∧ Binds K fd ps [] ∧ FnOk P w K mg base CX0 k f fd ps sp
theorem DefOk.mono {j k : Nat} {x : Str} {ps : List Str} {sp : Sp} (h : DefOk P w K mg base j x ps sp) (q : j ≤ k) : DefOk P w K mg base k x ps sp := by
  obtain ⟨f, fd, a, b, c, d⟩ := h.ex
  exact ⟨f, fd, a, b, c, d.mono q⟩
/-- the def as the top left it -/
structure Here (K : PySem.W.Frag) (mg : Str → Option Value) (x : Str) (st : Stmt) (ps : List Str) : Prop where
  ex : ∃ (f : Addr) (fd : FuncData), Fun K x x st f fd ∧ mg x = some (.ref f) ∧ Binds K fd ps []
theorem Here.ok {x : Str} {st : Stmt} {N ps : List Str} {k : Nat} {sp : Sp} (h : Here K mg x st ps) (S : FnScope N ps (defScope st)) (len : ∀ vs H Q E, sp vs H Q E → vs.length = ps.length)
    (hbody : ∀ (f : Addr) (cdv : Value) (A : Around) (outer : List Env) (s : Shared) (H : Hp) (vs : List V) (Q : VK) (E : XK), Room k (A.deeper (envOfC x (defScope st) s.heap.objs.size f cdv)) → sp vs H Q E →
      ∃ t, PSs (cxOf CX0 P w K mg base N x (defScope st) f cdv A outer s H E).nox (defBody st) t ∧ t { nx := fun _ H' => Q .non H', rt := Q } (start N vs) H) : DefOk P w K mg base (k + 1) x ps sp := by
  obtain ⟨f, fd, F, m, b⟩ := h.ex
  exact ⟨f, fd, m, F.kp, b, F.ok S len fun cdv A outer s H vs Q E hr q => hbody f cdv A outer s H vs Q E hr q⟩
end
section
variable {X : Cx} {k : Nat} {x : Str} {ps : List Str} {sp : Sp} {e : Expr} {es : List Expr} {t : TA} {p pos : Pos}
theorem pe_callD (G : DefOk X.prog X.w X.K X.mg X.base k x ps sp) (hr : Room k X.A) (hg : Gl X x) (ha : PA X (e :: es) t) (hdb : (x == ("__debug__" : Str)) = false := by decide)
    (he : starEach (e :: es) X.env = (false, eval e X.env) :: starEach es X.env := by rfl) (hpl : (backTo pos (starEach es X.env)).any (·.1) = false := by rfl) :
    PE X (.Call (.Name x p) (e :: es) [] pos) (tCall sp [] E0 t) := by
  obtain ⟨f, fd, m, kp, b, F⟩ := G.ex
  exact pe_call F hr hg m kp b .nil pass0 ha hdb he hpl
theorem pe_callD0 (G : DefOk X.prog X.w X.K X.mg X.base k x ps sp) (hr : Room k X.A) (hg : Gl X x) (hdb : (x == ("__debug__" : Str)) = false := by decide) :
    PE X (.Call (.Name x p) [] [] pos) (tCall sp [] E0 tNil) := by
  obtain ⟨f, fd, m, kp, b, F⟩ := G.ex
  exact pe_call0 F hr hg m kp b .nil pass0 hdb
end
/-! ### a class of the module, made by its name -/
structure ClsOk (P : Program) (w : World) (K : PySem.W.Frag) (mg : Str → Option Value) (base : Heap) (k : Nat) (x : Str) (C : Addr) (ps : List Str) (sp : Sp) : Prop where
  ex : ∃ (f : Addr) (fd : FuncData), mg x = some (.ref C) ∧ Mk K C f ∧ Binds K fd ps [] ∧ FnOk P w K mg base CX0 k f fd ps sp
section
variable {X : Cx} {k : Nat} {x : Str} {C : Addr} {ps : List Str} {sp : Sp} {e : Expr} {es : List Expr} {t : TA} {p pos : Pos}
theorem pe_makeD (G : ClsOk X.prog X.w X.K X.mg X.base k x C ps sp) (hr : Room (k + 1) X.A) (hg : Gl X x) (ha : PA X (e :: es) t) (hdb : (x == ("__debug__" : Str)) = false := by decide)
    (he : starEach (e :: es) X.env = (false, eval e X.env) :: starEach es X.env := by rfl) (hpl : (backTo pos (starEach es X.env)).any (·.1) = false := by rfl) :
    PE X (.Call (.Name x p) (e :: es) [] pos) (tMake C sp [] E0 t) := by
  obtain ⟨f, fd, m, M, b, F⟩ := G.ex
  exact pe_make M F hr hg m b .nil pass0 ha hdb he hpl
theorem pe_makeD0 (G : ClsOk X.prog X.w X.K X.mg X.base k x C ps sp) (hr : Room (k + 1) X.A) (hg : Gl X x) (hdb : (x == ("__debug__" : Str)) = false := by decide) :
    PE X (.Call (.Name x p) [] [] pos) (tMake C sp [] E0 tNil) := by
  obtain ⟨f, fd, m, M, b, F⟩ := G.ex
  exact pe_make0 M F hr hg m b .nil pass0 hdb
end
/-! ### a class of the module without an __init__ of its own -/
structure Mk0 (K : PySem.W.Frag) (mg : Str → Option Value) (x : Str) (C : Addr) : Prop where
  m : mg x = some (.ref C)
  makes : PySem.W.makesIn K C = true
  init : PySem.W.findIn K (.ref C) "__init__" = some (some (.builtin "object.__init__"))
  kp : PySem.W.keepIn K (.ref C) = true
def tMake0 (C : Addr) : TE := fun _ H Q => ∀ x dx, H x = none → H dx = none → dx ≠ x → Q (.ref x) (upd (upd H dx (.own x)) x (.ins C dx []))
section
open PySem.W
variable {X : Cx} {C : Addr} {x : Str} {p pos : Pos}
theorem make0_raw {prog : Program} {w : World} {A : Around} {K : Frag} {C : Addr} {s : Shared} {R : Result → Shared → Prop} (X : K.In s.heap) (hm : makesIn K C = true) (hi : findIn K (.ref C) "__init__" = some (some (.builtin "object.__init__")))
    (z : R (.ok (.ret (.ref (s.heap.objs.size + 1)))) { s with heap := (s.heap.push emptyDict).push (instObj C s.heap.objs.size) }) :
    codeAny (model prog w) A (.call (.ref C) ⟨[], []⟩) R s := by
  obtain ⟨hh, g, d, t, os⟩ := s
  have Y := makes_of (M := model prog w) X hm
  have hx : ((hh.push emptyDict).push (instObj C hh.objs.size)).get? (hh.objs.size + 1) = some (instObj C hh.objs.size) := by heap_get
  refine make_core Y (looks_findIn X hi) (fun self => Looks.of_pure (oi_bind self)) (.inr ⟨rfl, rfl⟩) ?_
  have t1 : Looks (model prog w) ((hh.push emptyDict).push (instObj C hh.objs.size)) (typeOf (.ref (hh.objs.size + 1))) (.ref C) := (Looks.ld hx).andThen .now
  have t2 : Looks (model prog w) ((hh.push emptyDict).push (instObj C hh.objs.size)) (isInstance (.ref (hh.objs.size + 1)) (.type "object")) true := t1.andThen (Y.top.keeps fun b o e => Heap.get?_push_of_some _ (Heap.get?_push_of_some _ e))
  refine codeAny_call_builtin oi_plain entry_oi (@check_slot (model prog w) _ _ _ "object.__init__" "object" "__init__" (.ref (hh.objs.size + 1)) [] [] _ oi_kind oi_split t2 (oi_args (.ref (hh.objs.size + 1))) ?_)
  rw [oi_run]
  exact wpAny_pure (And.intro rfl z)
theorem pe_make00 (M : Mk0 X.K X.mg x C) (hg : Gl X x) (hdb : (x == ("__debug__" : Str)) = false := by decide) : PE X (.Call (.Name x p) [] [] pos) (tMake0 C) := by
  refine ⟨fun pins s σ H Q I h => ?_⟩
  refine wpAny_Call_Name_kw (ld_glob I hg M.m ?_ hdb)
  refine PySem.W.callWith_K0 I.kIn M.kp ?_
  have hq := h (s.heap.objs.size + 1) s.heap.objs.size (I.hok.fresh (Nat.le_succ _)) (I.hok.fresh (Nat.le_refl _)) (Nat.ne_of_lt (Nat.lt_succ_self _))
  have I2 := Inv.made (C := C) I
  exact wpAny_call (make0_raw I.kIn M.makes M.init ⟨.ref _, _, I2, rfl, hq⟩)
end
/-- the built-ins' names that the text leaves as they are -/
structure Bs (mg : Str → Option Value) : Prop where
  len : mg "len" = none
  int : mg "int" = none
  list : mg "list" = none
  range : mg "range" = none
  min : mg "min" = none
  tuple : mg "tuple" = none
  isinstance : mg "isinstance" = none
  zip : mg "zip" = none
  sum : mg "sum" = none
  max : mg "max" = none
  reversed : mg "reversed" = none
  enumerate : mg "enumerate" = none
  repr : mg "repr" = none
/-! ### a part of a reading by itself: what it gives, whatever follows -/
theorem withQ {E : TE} {σ : L2.St} {H : Hp} {Q : VK} (C : V → Hp → Prop) (h : ∀ Q' : VK, (∀ x H', C x H' → Q' x H') → E σ H Q') (g : ∀ x H', C x H' → Q x H') : E σ H Q := h Q g
theorem withB {E : TT} {σ : L2.St} {H : Hp} {Q : Bool → Hp → Prop} (C : Bool → Hp → Prop) (h : ∀ Q' : Bool → Hp → Prop, (∀ x H', C x H' → Q' x H') → E σ H Q') (g : ∀ x H', C x H' → Q x H') : E σ H Q := h Q g
theorem gset {i : Nat} {x : V} {σ : L2.St} {H : Hp} {Q : L2.St → Hp → Prop} (h : Q (σ.set i (some x)) H) : gName i x σ H Q := h
theorem st_seq {t u : TS} {D : Ends} {σ : L2.St} {H : Hp} (h : t { D with nx := u D } σ H) : tSeq t u D σ H := h
theorem st_asg {te : TE} {g : TG} {D : Ends} {σ : L2.St} {H : Hp} (h : te σ H fun x H1 => g x σ H1 D.nx) : tAsg te g D σ H := h
theorem st_next {D : Ends} {σ : L2.St} {H : Hp} (h : D.nx σ H) : tNext D σ H := h
theorem st_drop {te : TE} {D : Ends} {σ : L2.St} {H : Hp} (h : te σ H fun _ H1 => D.nx σ H1) : tDrop te D σ H := h
theorem st_ret {te : TE} {D : Ends} {σ : L2.St} {H : Hp} (h : te σ H D.rt) : tRet te D σ H := h
/-! ### heaps: all but the dicts stay -/
def Keep (H H' : Hp) : Prop := ∀ b o, H b = some o → H' b = some o ∨ ∃ kvs kvs', o = .dK kvs ∧ H' b = some (.dK kvs')
theorem Keep.refl (H : Hp) : Keep H H := fun _ _ h => .inl h
theorem Keep.trans {H H1 H2 : Hp} (a : Keep H H1) (b : Keep H1 H2) : Keep H H2 := fun c o h => by
  rcases a c o h with h1 | ⟨k1, k2, e, h1⟩
  · exact b c o h1
  · rcases b c _ h1 with h2 | ⟨k3, k4, e2, h2⟩
    · exact .inr ⟨k1, k2, e, h2⟩
    · exact .inr ⟨k1, k4, e, h2⟩
theorem Keep.of {H H' : Hp} (s : Same H H') : Keep H H' := fun b o h => .inl (s b o h)
theorem Keep.at_ {H H' : Hp} {a : Addr} {o : HO} (k : Keep H H') (h : H a = some o) (n : ∀ kvs, o ≠ .dK kvs) : H' a = some o := by
  rcases k a o h with q | ⟨k1, _, e, _⟩
  · exact q
  · exact absurd e (n k1)
theorem Keep.free {H H' : Hp} {a : Addr} (k : Keep H H') (h : H' a = none) : H a = none := by
  cases e : H a with
  | none => rfl
  | some o =>
    rcases k a o e with q | ⟨_, _, _, q⟩
    · rw [h] at q; cases q
    · rw [h] at q; cases q
theorem Keep.lst {H H' : Hp} {a : Addr} {xs : List V} (k : Keep H H') (h : H a = some (.lst xs)) : H' a = some (.lst xs) := k.at_ h (fun _ z => by cases z)
theorem Keep.tup {H H' : Hp} {a : Addr} {xs : List V} (k : Keep H H') (h : H a = some (.tup xs)) : H' a = some (.tup xs) := k.at_ h (fun _ z => by cases z)
theorem Keep.ins {H H' : Hp} {a C d : Addr} {fs : List (Str × V)} (k : Keep H H') (h : H a = some (.ins C d fs)) : H' a = some (.ins C d fs) := k.at_ h (fun _ z => by cases z)
theorem Keep.seq {K : PySem.W.Frag} {H H' : Hp} {a : Addr} {xs : List V} (k : Keep H H') (h : SqL K H a xs) : SqL K H' a xs := by
  rcases h with (h | ⟨o, h⟩) | h
  · exact .inl (.inl (k.lst h))
  · exact .inl (.inr ⟨o, k.at_ h (fun _ z => by cases z)⟩)
  · exact .inr h
theorem Keep.seqT {K : PySem.W.Frag} {H H' : Hp} {a : Addr} {xs : List V} (k : Keep H H') (h : SqT K H a xs) : SqT K H' a xs := by
  rcases h with (h | ⟨o, h⟩) | h
  · exact .inl (.inl (k.tup h))
  · exact .inl (.inr ⟨o, k.at_ h (fun _ z => by cases z)⟩)
  · exact .inr h
theorem Same.new {H : Hp} {p : Addr} (h : H p = none) (o : HO) : Same H (upd H p o) := fun b u q => by rw [upd_ne (ne_of_none q h)]; exact q
theorem Same.put {H H' : Hp} {p : Addr} (h : H p = none) (s : Same H H') (o : HO) : Same H (upd H' p o) := fun b u q => by rw [upd_ne (ne_of_none q h)]; exact s b u q
theorem Keep.new {H : Hp} {p : Addr} (h : H p = none) (o : HO) : Keep H (upd H p o) := .of (Same.new h o)
theorem Keep.put {H H' : Hp} {p : Addr} (h : H p = none) (s : Keep H H') (o : HO) : Keep H (upd H' p o) := fun b u q => by rw [upd_ne (ne_of_none q h)]; exact s b u q
/-! ### what is new in a heap -/
def newer (H H' : Hp) : Hp := fun a => if (H a).isSome = true then none else H' a
theorem newer_at {H H' : Hp} {a : Addr} (h : H a = none) : newer H H' a = H' a := by unfold newer; rw [h]; exact if_neg (by decide)
theorem newer_old {H H' : Hp} {a : Addr} {o : HO} (h : H a = some o) : newer H H' a = none := by unfold newer; rw [h]; exact if_pos rfl
theorem newer_of {H H' : Hp} {a : Addr} {o : HO} (h : newer H H' a = some o) : H a = none ∧ H' a = some o := by
  cases e : H a with
  | none => rw [newer_at e] at h; exact ⟨rfl, h⟩
  | some u => rw [newer_old e] at h; cases h
theorem newer_le {H H' : Hp} : Keep (newer H H') H' := fun _ _ h => .inl (newer_of h).2
theorem newer_up {H H' H'' : Hp} (k : Keep H' H'') : Keep (newer H H') (newer H H'') := fun a o h => by
  obtain ⟨h1, h2⟩ := newer_of h
  rw [newer_at h1]
  exact k a o h2
theorem newer_down {H H0 H' : Hp} (k : Keep H H0) : Keep (newer H0 H') (newer H H') := fun a o h => by
  obtain ⟨h1, h2⟩ := newer_of h
  rw [newer_at (k.free h1)]
  exact .inl h2
def Sub (H H' : Hp) : Prop := ∀ a, H' a = none → H a = none
theorem Keep.sub {H H' : Hp} (k : Keep H H') : Sub H H' := fun _ h => k.free h
theorem Sub.trans {H H1 H2 : Hp} (a : Sub H H1) (b : Sub H1 H2) : Sub H H2 := fun c h => a c (b c h)
theorem Sub.put {H H' : Hp} (s : Sub H H') (p : Addr) (o : HO) : Sub H (upd H' p o) := fun a h => by
  by_cases e : a = p
  · rw [e, upd_same] at h; cases h
  · rw [upd_ne e] at h; exact s a h
theorem newer_sub {H H0 H' : Hp} (k : Sub H H0) : Keep (newer H0 H') (newer H H') := fun a o h => by
  obtain ⟨h1, h2⟩ := newer_of h
  rw [newer_at (k a h1)]
  exact .inl h2
theorem newer_put {H H' : Hp} {p : Addr} {o u : HO} (h : H p = some u) : newer H (upd H' p o) = newer H H' := by
  funext a
  unfold newer
  by_cases e : a = p
  · rw [e, h]; rfl
  · rw [upd_ne e]
/-! ### arithmetic -/
theorem fmod_in (x : Int) {m : Int} (h : 0 < m) : 0 ≤ x.fmod m ∧ x.fmod m < m := ⟨Int.fmod_nonneg_of_pos x h, Int.fmod_lt_of_pos x h⟩
theorem small' {n : Nat} (h : n ≤ 1000000) : n < sizeLine := Nat.lt_of_le_of_lt h (by decide)
theorem atI_of {xs : List V} {i : Int} (h0 : 0 ≤ i) (h1 : i < (xs.length : Int)) : ∃ v, xs[i.toNat]? = some v ∧ atI xs i = some v := by
  have hk : i.toNat < xs.length := by omega
  have ek : i = ((i.toNat : Nat) : Int) := by omega
  refine ⟨xs[i.toNat], List.getElem?_eq_getElem hk, ?_⟩
  have q : atI xs ((i.toNat : Nat) : Int) = some xs[i.toNat] := atI_nat (List.getElem?_eq_getElem hk)
  rw [← ek] at q
  exact q
/-- a text of one sign -/
abbrev sg (c : Nat) : Str := ⟨#[c]⟩
/-- a text by its codes -/
def tx (l : List Nat) : Str := ⟨l.toArray⟩
end Wv
local macro_rules | `(tactic| walk_at "rd") => `(tactic| (repeat (first | refine ⟨_, rfl, ?_⟩ | refine ⟨_, _, rfl, rfl, ?_⟩ | refine ⟨rfl, ?_⟩ | refine Or.inl ⟨_, rfl, ?_⟩)))
local macro_rules | `(tactic| walk_at "nx") => `(tactic| (repeat (first | (with_reducible refine Wv.gset ?_) | (with_reducible refine Wv.st_seq ?_) | (with_reducible refine Wv.st_asg ?_) | (with_reducible refine Wv.st_next ?_) | (with_reducible refine Wv.st_drop ?_) | (with_reducible refine Wv.st_ret ?_))))
/-! max([..], default=d) of integers -/
namespace Wv
open PySem PySem.Spec PyProof.Rows L2
/-- the greatest one, d if there is none -/
def mx (d : Int) : List Int → Int
  | [] => d
  | n :: r => r.foldl max n
def rMaxDef (K : PySem.W.Frag) : List V → List V → Hp → VK → Prop := fun xs zs H Q => ∃ (a : Addr) (ns : List Int) (d : Int), xs = [.ref a] ∧ zs = [.int d] ∧ SqL K H a (ns.map V.int) ∧
  Q (.int (mx d ns)) H
theorem ints_alike (ns : List Int) : PySem.W.AlikeAll (ns.map PyData.int) := by
  refine ⟨fun x hx y hy => ?_, fun x hx => ?_⟩
  · obtain ⟨n, _, rfl⟩ := List.mem_map.mp hx
    obtain ⟨m, _, rfl⟩ := List.mem_map.mp hy
    rfl
  · obtain ⟨n, _, rfl⟩ := List.mem_map.mp hx
    intro e; cases e
theorem depth_ints0 : ∀ ns : List Int, PyData.depthAll (ns.map PyData.int) = 0
  | [] => rfl
  | n :: r => by
    rw [List.map_cons, PyData.depthAll, depth_ints0 r]; rfl
theorem cr_maxDef {X : Cx} (hc : X.calm = true) (hu : X.A.units + 1 < cLine) : CallRK X (.builtin "max") [Str.ofString "default"] (rMaxDef X.K) := by
  intro pins s σ H vs zs us ws Q I r1 r2 h
  obtain ⟨a, ns, d, rfl, rfl, hs, q⟩ := h
  obtain ⟨its, rv, hl, _⟩ := I.list hs
  rw [Vals.ref1 r1]
  obtain ⟨u, rfl, ru⟩ := r2.one
  obtain ⟨t, rfl⟩ := ru
  have hi := rv.ints
  obtain ⟨as, hr⟩ : ∃ as, ReadsAll s.heap its (ns.map PyData.int) as := ⟨_, hi.reads s.heap⟩
  show wpAny _ X.A (call (.builtin "max") [.ref a] [(Str.ofString "default", .int d t)]) _ _ s
  refine PySem.W.max_list_default (xs := ns.map PyData.int) (I.ok.hd hc) hl.isList (by simpa using hr) (ints_alike ns) (by rw [depth_ints0]; exact hu) (fun e h' tk hk => ?_) (fun y ys i v h' tk bs e hv hr' hk => ?_)
  · have : ns = [] := by simpa using e
    subst this
    exact ⟨.int d, H, I.kept hk, ⟨_, rfl⟩, q⟩
  · cases ns with
    | nil => cases e
    | cons n r =>
      rw [List.map_cons] at e
      obtain ⟨rfl, rfl⟩ := List.cons.inj e
      rw [PySem.W.maxD_ints] at hr'
      cases hr'
      exact ⟨.int _, H, I.kept hk, ⟨_, rfl⟩, q⟩
/-- an attribute, where K is told by itself -/
theorem pe_fldK {X : Cx} {K : PySem.W.Frag} {e : Expr} {f : Str} {pos : Pos} {ta : TE} (q : X.K = K) (he : PE X e ta) (hb : attributeBase e f X.env (eval e X.env) = eval e X.env) : PE X (.Attribute e f pos) (tFld K ta f) := q ▸ pe_fld he hb
end Wv
namespace Wv
open PySem PySem.Spec PyProof.Rows L2
/-! ### ways as data -/
inductive W where
  | nothing | one | letter (c : Nat) | call (x : Str)
  | row (ws : List W) | choice (ws : List W)
  | again (w : W) | maybe (w : W) | ahead (w : W) | unless (w : W)
mutual
def W.size : W → Nat
  | .nothing => 1 | .one => 1 | .letter _ => 1 | .call _ => 1
  | .row ws => 1 + W.sizes ws | .choice ws => 1 + W.sizes ws
  | .again w => 1 + W.size w | .maybe w => 1 + W.size w | .ahead w => 1 + W.size w | .unless w => 1 + W.size w
def W.sizes : List W → Nat
  | [] => 0
  | w :: ws => W.size w + W.sizes ws
end
theorem W.size_pos (w : W) : 0 < w.size := by cases w <;> simp only [W.size] <;> omega
theorem W.sizes_app : ∀ (a b : List W), W.sizes (a ++ b) = W.sizes a + W.sizes b
  | [], b => by simp [W.sizes]
  | x :: a, b => by simp only [List.cons_append, W.sizes, W.sizes_app a b]; omega
theorem W.sizes_len : ∀ ws : List W, ws.length ≤ W.sizes ws
  | [] => Nat.le_refl _
  | w :: ws => by
    have h := W.sizes_len ws
    have h2 := w.size_pos
    simp only [List.length_cons, W.sizes]
    omega
-- letters among these codes, rows and choices of two or more, no calls
mutual
def W.wf (z : List Nat) : W → Prop
  | .nothing => True | .one => True | .letter c => c ∈ z | .call _ => False
  | .row ws => 2 ≤ ws.length ∧ W.wfs z ws | .choice ws => 2 ≤ ws.length ∧ W.wfs z ws
  | .again w => W.wf z w | .maybe w => W.wf z w | .ahead w => W.wf z w | .unless w => W.wf z w
def W.wfs (z : List Nat) : List W → Prop
  | [] => True
  | w :: ws => W.wf z w ∧ W.wfs z ws
end
theorem W.wfs_app (z : List Nat) : ∀ (a b : List W), W.wfs z (a ++ b) ↔ W.wfs z a ∧ W.wfs z b
  | [], b => by simp [W.wfs]
  | x :: a, b => by simp only [List.cons_append, W.wfs, W.wfs_app z a b, and_assoc]
mutual

def W.data : W → PyData
  | .nothing => .tuple [.str (Str.ofString "nothing")]
  | .one => .tuple [.str (Str.ofString "one")]
  | .letter c => .tuple [.str (Str.ofString "letter"), .str (sg c)]
  | .call x => .tuple [.str (Str.ofString "call"), .str x]
  | .row ws => .tuple [.str (Str.ofString "row"), .list (W.datas ws)]
  | .choice ws => .tuple [.str (Str.ofString "choice"), .list (W.datas ws)]
  | .again w => .tuple [.str (Str.ofString "again"), W.data w]
  | .maybe w => .tuple [.str (Str.ofString "maybe"), W.data w]
  | .ahead w => .tuple [.str (Str.ofString "ahead"), W.data w]
  | .unless w => .tuple [.str (Str.ofString "unless"), W.data w]
def W.datas : List W → List PyData
  | [] => []
  | w :: ws => W.data w :: W.datas ws
end
mutual
theorem W.depth_data : ∀ w : W, (W.data w).depth ≤ 2 * w.size
  | .nothing => by simp only [W.data, W.size, PyData.depth, PyData.depthAll]; omega
  | .one => by simp only [W.data, W.size, PyData.depth, PyData.depthAll]; omega
  | .letter c => by simp only [W.data, W.size, PyData.depth, PyData.depthAll]; omega
  | .call x => by simp only [W.data, W.size, PyData.depth, PyData.depthAll]; omega
  | .row ws => by
    have h := W.depth_datas ws
    simp only [W.data, W.size, PyData.depth, PyData.depthAll]; omega
  | .choice ws => by
    have h := W.depth_datas ws
    simp only [W.data, W.size, PyData.depth, PyData.depthAll]; omega
  | .again w => by
    have h := W.depth_data w
    simp only [W.data, W.size, PyData.depth, PyData.depthAll]; omega
  | .maybe w => by
    have h := W.depth_data w
    simp only [W.data, W.size, PyData.depth, PyData.depthAll]; omega
  | .ahead w => by
    have h := W.depth_data w
    simp only [W.data, W.size, PyData.depth, PyData.depthAll]; omega
  | .unless w => by
    have h := W.depth_data w
    simp only [W.data, W.size, PyData.depth, PyData.depthAll]; omega
theorem W.depth_datas : ∀ ws : List W, PyData.depthAll (W.datas ws) ≤ 2 * W.sizes ws
  | [] => by simp [W.datas, PyData.depthAll]
  | w :: ws => by
    have h := W.depth_data w
    have h2 := W.depth_datas ws
    simp only [W.datas, W.sizes, PyData.depthAll]; omega
end
def W.tag : W → Str
  | .nothing => Str.ofString "nothing"
  | .one => Str.ofString "one"
  | .again _ => Str.ofString "again"
  | .maybe _ => Str.ofString "maybe"
  | .ahead _ => Str.ofString "ahead"
  | .unless _ => Str.ofString "unless"
  | .letter _ => Str.ofString "letter"
  | .call _ => Str.ofString "call"
  | .row _ => Str.ofString "row"
  | .choice _ => Str.ofString "choice"
mutual
def WayAt (H : Hp) : V → W → Prop
  | v, .nothing => ∃ a, v = .ref a ∧ H a = some (.tup [.str (Str.ofString "nothing")])
  | v, .one => ∃ a, v = .ref a ∧ H a = some (.tup [.str (Str.ofString "one")])
  | v, .letter c => ∃ a, v = .ref a ∧ H a = some (.tup [.str (Str.ofString "letter"), .str (sg c)])
  | v, .call x => ∃ a, v = .ref a ∧ H a = some (.tup [.str (Str.ofString "call"), .str x])
  | v, .row ws => ∃ a l vs, v = .ref a ∧ H a = some (.tup [.str (Str.ofString "row"), .ref l]) ∧ H l = some (.lst vs) ∧ WaysAt H vs ws
  | v, .choice ws => ∃ a l vs, v = .ref a ∧ H a = some (.tup [.str (Str.ofString "choice"), .ref l]) ∧ H l = some (.lst vs) ∧ WaysAt H vs ws
  | v, .again w => ∃ a u, v = .ref a ∧ H a = some (.tup [.str (Str.ofString "again"), u]) ∧ WayAt H u w
  | v, .maybe w => ∃ a u, v = .ref a ∧ H a = some (.tup [.str (Str.ofString "maybe"), u]) ∧ WayAt H u w
  | v, .ahead w => ∃ a u, v = .ref a ∧ H a = some (.tup [.str (Str.ofString "ahead"), u]) ∧ WayAt H u w
  | v, .unless w => ∃ a u, v = .ref a ∧ H a = some (.tup [.str (Str.ofString "unless"), u]) ∧ WayAt H u w
def WaysAt (H : Hp) : List V → List W → Prop
  | vs, [] => vs = []
  | vs, w :: ws => ∃ u us, vs = u :: us ∧ WayAt H u w ∧ WaysAt H us ws
end
theorem WaysAt.len {H : Hp} : ∀ (ws : List W) (vs : List V), WaysAt H vs ws → vs.length = ws.length
  | [], vs, h => by rw [show vs = [] from h]; rfl
  | w :: ws, vs, ⟨u, us, e, _, h⟩ => by rw [e, List.length_cons, List.length_cons, WaysAt.len ws us h]
theorem WaysAt.app {H : Hp} : ∀ (ws : List W) (vs : List V) {us : List V} {xs : List W}, WaysAt H vs ws → WaysAt H us xs → WaysAt H (vs ++ us) (ws ++ xs)
  | [], vs, us, xs, h, h2 => by rw [show vs = [] from h]; exact h2
  | w :: ws, vs, us, xs, ⟨u, r, e, hu, h⟩, h2 => by rw [e]; exact ⟨u, r ++ us, rfl, hu, WaysAt.app ws r h h2⟩
theorem WaysAt.at_ {H : Hp} : ∀ (ws : List W) (vs : List V) (i : Nat) (w : W), WaysAt H vs ws → ws[i]? = some w → ∃ v, vs[i]? = some v ∧ WayAt H v w
  | [], vs, i, w, h, e => by simp at e
  | x :: ws, vs, 0, w, ⟨u, us, ev, hu, h⟩, e => by
    have q : x = w := by simpa using e
    subst q
    exact ⟨u, by rw [ev]; rfl, hu⟩
  | x :: ws, vs, i + 1, w, ⟨u, us, ev, hu, h⟩, e => by
    obtain ⟨v, h1, h2⟩ := WaysAt.at_ ws us i w h (by simpa using e)
    exact ⟨v, by rw [ev]; simpa using h1, h2⟩
mutual
theorem WayAt.keep {H H' : Hp} (k : Keep H H') : ∀ (w : W) (v : V), WayAt H v w → WayAt H' v w
  | .nothing, v, ⟨a, e, h⟩ => ⟨a, e, k.tup h⟩
  | .one, v, ⟨a, e, h⟩ => ⟨a, e, k.tup h⟩
  | .letter _, v, ⟨a, e, h⟩ => ⟨a, e, k.tup h⟩
  | .call _, v, ⟨a, e, h⟩ => ⟨a, e, k.tup h⟩
  | .row ws, v, ⟨a, l, vs, e, h, h2, h3⟩ => ⟨a, l, vs, e, k.tup h, k.lst h2, WaysAt.keep k ws vs h3⟩
  | .choice ws, v, ⟨a, l, vs, e, h, h2, h3⟩ => ⟨a, l, vs, e, k.tup h, k.lst h2, WaysAt.keep k ws vs h3⟩
  | .again w, v, ⟨a, u, e, h, h2⟩ => ⟨a, u, e, k.tup h, WayAt.keep k w u h2⟩
  | .maybe w, v, ⟨a, u, e, h, h2⟩ => ⟨a, u, e, k.tup h, WayAt.keep k w u h2⟩
  | .ahead w, v, ⟨a, u, e, h, h2⟩ => ⟨a, u, e, k.tup h, WayAt.keep k w u h2⟩
  | .unless w, v, ⟨a, u, e, h, h2⟩ => ⟨a, u, e, k.tup h, WayAt.keep k w u h2⟩
theorem WaysAt.keep {H H' : Hp} (k : Keep H H') : ∀ (ws : List W) (vs : List V), WaysAt H vs ws → WaysAt H' vs ws
  | [], _, h => h
  | w :: ws, vs, ⟨u, us, e, h, h2⟩ => ⟨u, us, e, WayAt.keep k w u h, WaysAt.keep k ws us h2⟩
end
mutual
theorem WayAt.dp {K : PySem.W.Frag} {H : Hp} : ∀ (w : W) (v : V), WayAt H v w → Dp K H v (W.data w)
  | .nothing, v, ⟨a, e, h⟩ => by rw [e]; exact .tup (SqT.of h) (.cons (.str _) .nil)
  | .one, v, ⟨a, e, h⟩ => by rw [e]; exact .tup (SqT.of h) (.cons (.str _) .nil)
  | .letter _, v, ⟨a, e, h⟩ => by rw [e]; exact .tup (SqT.of h) (.cons (.str _) (.cons (.str _) .nil))
  | .call _, v, ⟨a, e, h⟩ => by rw [e]; exact .tup (SqT.of h) (.cons (.str _) (.cons (.str _) .nil))
  | .row ws, v, ⟨a, l, vs, e, h, h2, h3⟩ => by rw [e]; exact .tup (SqT.of h) (.cons (.str _) (.cons (.lst (SqL.of h2) (WaysAt.dp ws vs h3)) .nil))
  | .choice ws, v, ⟨a, l, vs, e, h, h2, h3⟩ => by rw [e]; exact .tup (SqT.of h) (.cons (.str _) (.cons (.lst (SqL.of h2) (WaysAt.dp ws vs h3)) .nil))
  | .again w, v, ⟨a, u, e, h, h2⟩ => by rw [e]; exact .tup (SqT.of h) (.cons (.str _) (.cons (WayAt.dp w u h2) .nil))
  | .maybe w, v, ⟨a, u, e, h, h2⟩ => by rw [e]; exact .tup (SqT.of h) (.cons (.str _) (.cons (WayAt.dp w u h2) .nil))
  | .ahead w, v, ⟨a, u, e, h, h2⟩ => by rw [e]; exact .tup (SqT.of h) (.cons (.str _) (.cons (WayAt.dp w u h2) .nil))
  | .unless w, v, ⟨a, u, e, h, h2⟩ => by rw [e]; exact .tup (SqT.of h) (.cons (.str _) (.cons (WayAt.dp w u h2) .nil))
theorem WaysAt.dp {K : PySem.W.Frag} {H : Hp} : ∀ (ws : List W) (vs : List V), WaysAt H vs ws → DpAll K H vs (W.datas ws)
  | [], vs, h => by rw [show vs = [] from h]; exact .nil
  | w :: ws, vs, ⟨u, us, e, h, h2⟩ => by rw [e]; exact .cons (WayAt.dp w u h) (WaysAt.dp ws us h2)
end
-- letters that are letters
abbrev Az (z : List Nat) : Prop := ∀ c ∈ z, 97 ≤ c ∧ c ≤ 122
theorem strOk_sg {c : Nat} (h : c ≤ 122) : PyData.strOk (sg c) = true := by
  show (#[c] : Array Nat).all (fun x => decide (x < 0x110000)) = true
  simp
  omega
mutual
theorem W.lay {z : List Nat} (hz : Az z) : ∀ w : W, w.wf z → (W.data w).canLay0 = true
  | .nothing, _ => by decide +kernel
  | .one, _ => by decide +kernel
  | .letter c, h => by
    have q := strOk_sg (hz c h).2
    simp only [W.data, PyData.canLay0, PyData.canLayAll0, q, Bool.and_true, Bool.and_eq_true, and_true]
    decide +kernel
  | .call x, h => by cases h
  | .row ws, h => by
    have q := W.lays hz ws h.2
    simp only [W.data, PyData.canLay0, PyData.canLayAll0, q, Bool.and_true, Bool.and_eq_true, and_true]
    decide +kernel
  | .choice ws, h => by
    have q := W.lays hz ws h.2
    simp only [W.data, PyData.canLay0, PyData.canLayAll0, q, Bool.and_true, Bool.and_eq_true, and_true]
    decide +kernel
  | .again w, h => by
    have q := W.lay hz w h
    simp only [W.data, PyData.canLay0, PyData.canLayAll0, q, Bool.and_true, Bool.and_eq_true, and_true]
    decide +kernel
  | .maybe w, h => by
    have q := W.lay hz w h
    simp only [W.data, PyData.canLay0, PyData.canLayAll0, q, Bool.and_true, Bool.and_eq_true, and_true]
    decide +kernel
  | .ahead w, h => by
    have q := W.lay hz w h
    simp only [W.data, PyData.canLay0, PyData.canLayAll0, q, Bool.and_true, Bool.and_eq_true, and_true]
    decide +kernel
  | .unless w, h => by
    have q := W.lay hz w h
    simp only [W.data, PyData.canLay0, PyData.canLayAll0, q, Bool.and_true, Bool.and_eq_true, and_true]
    decide +kernel
theorem W.lays {z : List Nat} (hz : Az z) : ∀ ws : List W, W.wfs z ws → PyData.canLayAll0 (W.datas ws) = true
  | [], _ => rfl
  | w :: ws, h => by
    simp only [W.datas, PyData.canLayAll0, W.lay hz w h.1, W.lays hz ws h.2, Bool.and_self]
end
theorem W.shaped_list {z : List Nat} (hz : Az z) {ws : List W} (h : W.wfs z ws) (hs : W.sizes ws ≤ 31) : SeqAt.shaped (.list (W.datas ws)) = true := by
  unfold SeqAt.shaped
  have d := W.depth_datas ws
  rw [Bool.and_eq_true]
  refine ⟨W.lays hz ws h, decide_eq_true ?_⟩
  simp only [PyData.depth]
  omega
theorem datas_empty (ws : List W) : (W.datas ws).isEmpty = ws.isEmpty := by cases ws <;> rfl
end Wv
namespace Wv
open PySem PySem.Spec PyProof.Rows L2
def top (i : Nat) : Stmt := PySem.Challenge.pw_waystaken_k01_errors.main.body.getD i (.Pass ⟨0, 0, 0, 0⟩)
/-! ### the source of draws: what holds of it, whatever it draws -/
abbrev kC : Key := .inr (Str.ofString "cells")
abbrev kA : Key := .inr (Str.ofString "at")
abbrev kL : Key := .inr (Str.ofString "left")
def penF (l : Addr) (a b : Int) : List (Key × V) := [(kC, .ref l), (kA, .int a), (kL, .int b)]
theorem k12 : ¬ (kC = kA) := by decide
theorem k13 : ¬ (kC = kL) := by decide
theorem k23 : ¬ (kA = kL) := by decide
theorem k32 : ¬ (kL = kA) := by decide
theorem pen_cells (l : Addr) (a b : Int) : valV (penF l a b) kC = some (.ref l) := by
  unfold penF; rw [valV_pos rfl]
theorem pen_at (l : Addr) (a b : Int) : valV (penF l a b) kA = some (.int a) := by
  unfold penF; rw [valV_neg k12, valV_pos rfl]
theorem pen_left (l : Addr) (a b : Int) : valV (penF l a b) kL = some (.int b) := by
  unfold penF; rw [valV_neg k13, valV_neg k23, valV_pos rfl]
theorem put_at (l : Addr) (a b c : Int) : putK (penF l a b) kA (.int c) = penF l c b := by
  unfold putK
  rw [valV_any, pen_at, if_pos (show (some (V.int a)).isSome = true from rfl)]
  have h1 := k12; have h2 := k32
  unfold penF
  rw [List.map_cons, List.map_cons, List.map_cons, List.map_nil, if_neg h1, if_pos rfl, if_neg h2]
theorem put_left (l : Addr) (a b c : Int) : putK (penF l a b) kL (.int c) = penF l a c := by
  unfold putK
  rw [valV_any, pen_left, if_pos (show (some (V.int b)).isSome = true from rfl)]
  have h1 := k13; have h2 := k23
  unfold penF
  rw [List.map_cons, List.map_cons, List.map_cons, List.map_nil, if_neg h1, if_neg h2, if_pos rfl]
theorem get_cells {H : Hp} {p l : Addr} {a b : Int} (h : H p = some (.dK (penF l a b))) : DGet H p (.str "cells") (some (.ref l)) := by
  rw [← pen_cells l a b]; exact DGet.k (k := kC) h
theorem get_at {H : Hp} {p l : Addr} {a b : Int} (h : H p = some (.dK (penF l a b))) : DGet H p (.str "at") (some (.int a)) := by
  rw [← pen_at l a b]; exact DGet.k (k := kA) h
theorem get_left {H : Hp} {p l : Addr} {a b : Int} (h : H p = some (.dK (penF l a b))) : DGet H p (.str "left") (some (.int b)) := by
  rw [← pen_left l a b]; exact DGet.k (k := kL) h
theorem dput_at {H : Hp} {p l : Addr} {a b : Int} (c : Int) (h : H p = some (.dK (penF l a b))) : DPut H p (.str "at") (.int c) (upd H p (.dK (penF l c b))) := by
  rw [← put_at l a b c]; exact DPut.k (k := kA) h (by show 3 < sizeLine; decide)
theorem dput_left {H : Hp} {p l : Addr} {a b : Int} (c : Int) (h : H p = some (.dK (penF l a b))) : DPut H p (.str "left") (.int c) (upd H p (.dK (penF l a c))) := by
  rw [← put_left l a b c]; exact DPut.k (k := kL) h (by show 3 < sizeLine; decide)
/-- a pen: its dict, the list of its cells -/
structure Pen where
  d : Addr
  l : Addr
/-- the pen p, of which at most n draws have been made -/
structure PenAt (K : PySem.W.Frag) (H : Hp) (p : Pen) (n : Nat) : Prop where
  ex : ∃ (a b : Int) (cs : List Int), H p.d = some (.dK (penF p.l a b)) ∧ SqL K H p.l (cs.map V.int) ∧ cs.length ≤ 63 ∧ 0 ≤ a ∧ a ≤ (n : Int)
theorem PenAt.same {K : PySem.W.Frag} {H H' : Hp} {p : Pen} {n : Nat} (h : PenAt K H p n) (s : Same H H') : PenAt K H' p n := by
  obtain ⟨a, b, cs, h1, h2, h3, h4⟩ := h.ex
  exact ⟨a, b, cs, s _ _ h1, s.seq h2, h3, h4⟩
theorem PenAt.mono {K : PySem.W.Frag} {H : Hp} {p : Pen} {n m : Nat} (h : PenAt K H p n) (q : n ≤ m) : PenAt K H p m := by
  obtain ⟨a, b, cs, h1, h2, h3, h4, h5⟩ := h.ex
  exact ⟨a, b, cs, h1, h2, h3, h4, by omega⟩
theorem Keep.pen {H : Hp} {p l : Addr} {a b a' b' : Int} (h : H p = some (.dK (penF l a b))) : Keep H (upd H p (.dK (penF l a' b'))) := fun c o e => by
  by_cases z : c = p
  · rw [z, h] at e
    exact .inr ⟨_, _, (Option.some.inj e).symm, by rw [z]; exact upd_same⟩
  · rw [upd_ne z]; exact .inl e
theorem PenAt.mk' {K : PySem.W.Frag} {H : Hp} {p : Pen} {a b a' b' : Int} {cs : List Int} {n : Nat} (h : H p.d = some (.dK (penF p.l a b))) (hs : SqL K H p.l (cs.map V.int)) (hl : cs.length ≤ 63) (h0 : 0 ≤ a') (h1 : a' ≤ (n : Int)) :
    PenAt K (upd H p.d (.dK (penF p.l a' b'))) p n := ⟨a', b', cs, upd_same, (Keep.pen h).seq hs, hl, h0, h1⟩
/-- a list that was new is written -/
theorem PenAt.put {K : PySem.W.Frag} {H H' : Hp} {p : Pen} {n m : Nat} {q : Addr} {xs ys : List V} (h0 : PenAt K H p m) (hq : H q = none) (h : PenAt K H' p n) (k : Keep H H') (e : H' q = some (.lst xs)) : PenAt K (upd H' q (.lst ys)) p n := by
  obtain ⟨_, _, cs, _, h2, h3, _⟩ := h0.ex
  obtain ⟨a, b, _, h1, _, _, h4, h5⟩ := h.ex
  have hpq : p.d ≠ q := ne_of h1 e (by intro z; cases z)
  exact ⟨a, b, cs, by rw [upd_ne hpq]; exact h1, (Keep.put hq k _).seq h2, h3, h4, h5⟩
/-! ### their promises -/
def LIM : Nat := 1000000000000
def spPen (K : PySem.W.Frag) : Sp := fun vs H Q _ => ∃ (a : Addr) (ns : List Int), vs = [.ref a] ∧ SqL K H a (ns.map V.int) ∧ ns.length ≤ 63 ∧ ∀ (p : Pen) (H' : Hp), Same H H' → PenAt K H' p 0 → Q (.ref p.d) H'
def spDraw (K : PySem.W.Frag) : Sp := fun vs H Q _ => ∃ (p : Pen) (m : Int) (n : Nat), vs = [.ref p.d, .int m] ∧ PenAt K H p n ∧ n < LIM ∧ 0 < m ∧ m < 1073741824 ∧
  ∀ (d : Int) (H' : Hp), 0 ≤ d → d < m → Keep H H' → PenAt K H' p (n + 1) → Q (.int d) H'
def spPick (K : PySem.W.Frag) : Sp := fun vs H Q _ => ∃ (p : Pen) (y : V) (n : Nat), vs = [.ref p.d, y] ∧ PenAt K H p n ∧ n < LIM ∧
  ((∃ (q : Addr) (xs : List V), y = .ref q ∧ SqL K H q xs ∧ 0 < xs.length ∧ xs.length ≤ 1000 ∧ ∀ (v : V) (H' : Hp), v ∈ xs → Keep H H' → PenAt K H' p (n + 1) → Q v H') ∨
   (∃ (z : List Nat), y = .str (tx z) ∧ 0 < z.length ∧ z.length ≤ 1000 ∧ ∀ (c : Nat) (H' : Hp), c ∈ z → Keep H H' → PenAt K H' p (n + 1) → Q (.str (sg c)) H'))
section
variable {P : Program} {w : World} {K : PySem.W.Frag} {mg : Str → Option Value} {base : Heap}
theorem dpAll_ints {H : Hp} : ∀ ns : List Int, DpAll K H (ns.map V.int) (ns.map PyData.int)
  | [] => .nil
  | n :: r => .cons (.int n) (dpAll_ints r)
theorem canLay_ints : ∀ ns : List Int, PyData.canLayAll0 (ns.map PyData.int) = true
  | [] => rfl
  | n :: r => by
    show (PyData.canLay0 (.int n) && PyData.canLayAll0 (r.map PyData.int)) = true
    rw [canLay_ints r]; rfl
theorem depth_ints : ∀ ns : List Int, PyData.depthAll (ns.map PyData.int) ≤ 1
  | [] => by decide
  | n :: r => by
    have h := depth_ints r
    simp only [List.map_cons, PyData.depthAll, PyData.depth]
    omega
theorem shaped_ints (ns : List Int) : SeqAt.shaped (.list (ns.map PyData.int)) = true := by
  unfold SeqAt.shaped
  have h := depth_ints ns
  rw [Bool.and_eq_true]
  refine ⟨?_, decide_eq_true ?_⟩
  · show PyData.canLayAll0 (ns.map PyData.int) = true
    exact canLay_ints ns
  · simp only [PyData.depth]
    omega
theorem eqv_nil (ds : List PyData) : PyData.eqv (.list ds) (.list []) = ds.isEmpty := by
  cases ds <;> simp [PyData.eqv, PyData.eqvAll]
theorem ints_get {ns : List Int} {i : Nat} {v : V} (h : (ns.map V.int)[i]? = some v) : ∃ z, v = .int z := by
  rw [List.getElem?_map] at h
  cases e : ns[i]? with
  | none => rw [e] at h; cases h
  | some z => rw [e] at h; exact ⟨z, (Option.some.inj h).symm⟩
theorem cmul_fmod (x : Int) {m : Int} (h0 : 0 < m) (h1 : m < 18446744073709551616) (j : Int) : CMul (x.fmod m) j := by
  have h := fmod_in x h0
  exact .inl ⟨by omega, by omega⟩
abbrev s_l_pen : Stmt := top 9
theorem sc_l_pen : FnScope ["_law_script"] ["_law_script"] (defScope s_l_pen) := ⟨rfl, rfl, rfl, by decide +kernel, rfl, by decide +kernel, by decide +kernel⟩
theorem cutV_len (xs : List V) (lo hi : Option Int) : (cutV xs lo hi).length ≤ xs.length := by
  unfold cutV
  rw [List.length_take, List.length_drop]
  omega
theorem cutV_ints (ns : List Int) (lo hi : Option Int) : ∃ cs : List Int, cutV (ns.map V.int) lo hi = cs.map V.int ∧ cs.length ≤ ns.length := by
  unfold cutV
  refine ⟨(ns.drop (HT.sIx (ns.map V.int).length 0 lo)).take (HT.sIx (ns.map V.int).length (ns.map V.int).length hi - HT.sIx (ns.map V.int).length 0 lo), by rw [List.map_take, List.map_drop], ?_⟩
  rw [List.length_take, List.length_drop]
  omega
theorem mergePen (l : Addr) : mergeK [] (penF l 0 0) = penF l 0 0 := by
  have e1 : putK ([] : List (Key × V)) kC (.ref l) = [(kC, V.ref l)] := putK_new _ rfl
  have e2 : putK ([(kC, V.ref l)] : List (Key × V)) kA (.int 0) = [(kC, V.ref l), (kA, V.int 0)] := putK_new _ (by rw [valV_neg k12]; rfl)
  have e3 : putK ([(kC, V.ref l), (kA, V.int 0)] : List (Key × V)) kL (.int 0) = penF l 0 0 := putK_new _ (by rw [valV_neg k13, valV_neg k23]; rfl)
  show putK (putK (putK ([] : List (Key × V)) kC (.ref l)) kA (.int 0)) kL (.int 0) = _
  rw [e1, e2, e3]
theorem d_l_pen (h : Here K mg "_law_pen" s_l_pen ["_law_script"]) (B : Bs mg) : DefOk P w K mg base 1 "_law_pen" ["_law_script"] (spPen K) := by
  have B_list := B.list
  refine h.ok sc_l_pen (fun vs H Q E h => by obtain ⟨a, ns, rfl, _⟩ := h; rfl) (fun f cdv A outer s H vs Q E hr h => ?_)
  obtain ⟨a, ns, rfl, hS, hl, k⟩ := h
  refine ⟨_, (pss_one (ps_ret (pe_disp (pps_cons pe_str (pe_callTy call_list_of rfl B_list (by decide +kernel) (pa_cons (pe_slice sl_list (pv 0) po_none (po_some pe_int)) pa_nil)) (pps_cons pe_str pe_int (pps_cons pe_str pe_int pps_nil))) (by rfl) (by rfl) (fun z => by cases z) (by decide)))), ?_⟩
  intro p hp
  have s0 : Same H (upd H p (.dK [])) := Same.new hp _
  refine ⟨_, rfl, _, rfl, a, _, rfl, s0.seq hS, fun q hq => ?_⟩
  obtain ⟨cs, ec, hc⟩ := cutV_ints ns none (some 63)
  have npq : p ≠ q := ne_of_none upd_same hq
  refine ⟨q, _, rfl, .inl (SqL.of upd_same), fun l hl' => ?_⟩
  have npl : p ≠ l := ne_of_none (by rw [upd_ne npq]; exact upd_same) hl'
  refine ⟨by rw [upd_ne npl, upd_ne npq, upd_same], penF l 0 0, rfl, by show 3 ≤ 15; decide, ?_⟩
  rw [mergePen]
  refine k ⟨p, l⟩ _ ?_ ⟨0, 0, cs, upd_same, ?_, by omega, by omega, by omega⟩
  · exact Same.put hp ((s0.trans (Same.new hq _)).trans (Same.new hl' _)) _
  · refine SqL.of ?_
    rw [upd_ne (Ne.symm npl), upd_same, ec]
abbrev s_l_draw : Stmt := top 10
theorem sc_l_draw : FnScope ["_law_pen_here", "_law_many", "_law_digit", "_law_at", "_law_cell", "_law_mixed"] ["_law_pen_here", "_law_many"] (defScope s_l_draw) := ⟨rfl, rfl, rfl, by decide +kernel, rfl, by decide +kernel, by decide +kernel⟩
theorem d_l_draw (h : Here K mg "_law_draw" s_l_draw ["_law_pen_here", "_law_many"]) (B : Bs mg) : DefOk P w K mg base 1 "_law_draw" ["_law_pen_here", "_law_many"] (spDraw K) := by
  have B_int := B.int
  have B_len := B.len
  refine h.ok sc_l_draw (fun vs H Q E h => by obtain ⟨a, ns, n, rfl, _⟩ := h; rfl) (fun f cdv A outer s H vs Q E hr h => ?_)
  obtain ⟨p, m, n, rfl, hP, hn, hm0, hm1, k⟩ := h
  obtain ⟨a, b, cs, hp, hS, hc, ha0, ha1⟩ := hP.ex
  have hu := hu_of hr
  have hnl : (n : Int) < 1000000000000 := by unfold LIM at hn; omega
  have hmn : m ≠ 0 := by omega
  have hdiv : CDivN b m := ⟨hmn, by omega⟩
  refine ⟨_, (pss_cons (ps_if (pt_cmpR op_ge (pe_dget hu (pv 0) pe_str (fun _ _ => rfl)) (pv 1) (nomark _)) (pss_cons (ps_set (i := 2) sc_l_draw.nd rfl (Or.inl rfl) (pe_op op_modN (pe_callTy call_int1 rfl B_int (by decide +kernel) (pa_cons (pe_dget hu (pv 0) pe_str (fun _ _ => rfl)) pa_nil)) (pv 1)))
  (pss_cons (ps_dput hu (pv 0) pe_str (pe_op op_fdivN (pe_dget hu (pv 0) pe_str (fun _ _ => rfl)) (pv 1)) rfl)
  (pss_one (ps_ret (pv 2))))) pss_nil)
  (pss_cons (ps_set (i := 3) sc_l_draw.nd rfl (Or.inl rfl) (pe_dget hu (pv 0) pe_str (fun _ _ => rfl)))
  (pss_cons (ps_dput hu (pv 0) pe_str (pe_op op_add (pv 3) pe_int) rfl)
  (pss_cons (ps_set (i := 4) sc_l_draw.nd rfl (Or.inl rfl) (pe_op op_add (pe_op op_mul pe_int (pv 3)) pe_int))
  (pss_cons (ps_if (pt_cmpR (op_neD hr.units) (pe_dget hu (pv 0) pe_str (fun _ _ => rfl)) (pe_lst pa_nil) (nomark _)) (pss_one (ps_set (i := 4) sc_l_draw.nd rfl (Or.inl rfl) (pe_ix ix_list (pe_dget hu (pv 0) pe_str (fun _ _ => rfl)) (pe_op op_modN (pe_callTy call_int1 rfl B_int (by decide +kernel) (pa_cons (pv 3) pa_nil)) (pe_callB call_len_seq rfl B_len PySem.boot_len (pa_cons (pe_dget hu (pv 0) pe_str (fun _ _ => rfl)) pa_nil))) (fun _ _ => rfl)))) pss_nil)
  (pss_cons (ps_if (PW.pt (pw_and (pt_cmpR op_lt (pv 3) (pe_callB call_len_seq rfl B_len PySem.boot_len (pa_cons (pe_dget hu (pv 0) pe_str (fun _ _ => rfl)) pa_nil)) (nomark _)) (pw_and1 (pt_cmpR op_ge (pv 4) (pe_op op_pow pe_int pe_int) (nomark _))))) (pss_cons (ps_dput hu (pv 0) pe_str (pe_op op_fdivN (pe_op op_sub (pv 4) (pe_op op_pow pe_int pe_int)) (pv 1)) rfl)
  (pss_one (ps_ret (pe_op op_modN (pe_callTy call_int1 rfl B_int (by decide +kernel) (pa_cons (pe_op op_sub (pv 4) (pe_op op_pow pe_int pe_int)) pa_nil)) (pv 1))))) pss_nil)
  (pss_cons (ps_set (i := 5) sc_l_draw.nd rfl (Or.inl rfl) (pe_op op_add (pe_op op_add (pe_op op_add (pe_op op_mul (pe_op op_modN (pe_callTy call_int1 rfl B_int (by decide +kernel) (pa_cons (pv 4) pa_nil)) pe_int) pe_int) (pe_op op_mul (pe_op op_mul pe_int (pv 3)) (pv 3))) (pe_op op_mul pe_int (pv 3))) pe_int))
  (pss_cons (ps_set (i := 5) sc_l_draw.nd rfl (Or.inl rfl) (pe_op op_modN (pe_callTy call_int1 rfl B_int (by decide +kernel) (pa_cons (pv 5) pa_nil)) pe_int))
  (pss_cons (ps_set (i := 5) sc_l_draw.nd rfl (Or.inl rfl) (pe_op op_modN (pe_callTy call_int1 rfl B_int (by decide +kernel) (pa_cons (pe_op op_mul (pv 5) (pe_op op_add (pv 5) pe_int)) pa_nil)) pe_int))
  (pss_one (ps_ret (pe_op op_modN (pe_callTy call_int1 rfl B_int (by decide +kernel) (pa_cons (pe_op op_fdivN (pe_op op_modN (pe_callTy call_int1 rfl B_int (by decide +kernel) (pa_cons (pe_op op_mul (pv 5) (pv 5)) pa_nil)) pe_int) pe_int) pa_nil)) (pv 1))))))))))))), ?_⟩
  -- if pen["left"] >= many
  refine ⟨_, rfl, p.d, _, rfl, get_left hp, _, rfl, _, _, rfl, rfl, _, rfl, ?_⟩
  refine ite2 (fun _ => ?_) (fun _ => ?_)
  · refine ⟨_, rfl, p.d, _, rfl, get_left hp, .inl ⟨_, rfl, _, rfl, _, _, rfl, rfl, hmn, ?_⟩⟩
    refine ⟨_, rfl, p.d, _, rfl, get_left hp, _, rfl, _, _, rfl, rfl, ⟨hmn, by omega⟩, _, rfl, p.d, _, rfl, dput_left _ hp, _, rfl, ?_⟩
    exact k _ _ (fmod_in _ hm0).1 (fmod_in _ hm0).2 (Keep.pen hp) (.mk' hp hS hc ha0 (by omega))
  · refine ⟨_, rfl, p.d, _, rfl, get_at hp, ?_⟩
    refine ⟨_, rfl, _, _, rfl, rfl, _, rfl, p.d, _, rfl, dput_at _ hp, ?_⟩
    have hp1 : upd H p.d (.dK (penF p.l (a + 1) b)) p.d = some (.dK (penF p.l (a + 1) b)) := upd_same
    have hS1 := (Keep.pen (a' := a + 1) (b' := b) hp).seq hS
    refine ⟨_, rfl, _, _, rfl, rfl, .inl ⟨by decide, by decide⟩, _, _, rfl, rfl, ?_⟩
    refine ⟨_, rfl, p.d, _, rfl, get_cells hp1, ?_⟩
    refine ⟨by show 0 ≤ sizeLine; decide, fun q hq => ?_⟩
    have s1 := Same.new hq (.lst [])
    have npq : p.d ≠ q := ne_of_none hp1 hq
    have hp2 := s1 _ _ hp1
    have hS2 := s1.seq hS1
    refine ⟨.list (cs.map PyData.int), .list [], .lst hS2 (dpAll_ints cs), .lst (SqL.of upd_same) .nil, shaped_ints cs, by decide, _, rfl, ?_⟩
    rw [eqv_nil]
    have hk : Keep H (upd (upd H p.d (.dK (penF p.l (a + 1) b))) q (.lst [])) := (Keep.pen hp).trans (.of s1)
    have hP2 : PenAt K (upd (upd H p.d (.dK (penF p.l (a + 1) b))) q (.lst [])) p (n + 1) := ⟨a + 1, b, cs, hp2, hS2, hc, by omega, by omega⟩
    have hlen : ((cs.map V.int).length : Int) ≤ 63 := by rw [List.length_map]; omega
    refine ite2 (fun e => ?_) (fun _ => ?_)
    · have hpos : 0 < ((cs.map V.int).length : Int) := by
        cases cs with
        | nil => simp at e
        | cons c r => rw [List.length_map, List.length_cons]; omega
      have hb := fmod_in a hpos
      obtain ⟨v, hv1, hv2⟩ := atI_of (xs := cs.map V.int) hb.1 hb.2
      obtain ⟨z, rfl⟩ := ints_get hv1
      refine ⟨_, rfl, p.d, _, rfl, get_cells hp2, ?_⟩
      walk_at "rd"
      refine ⟨p.d, _, rfl, get_cells hp2, _, _, rfl, .inl hS2, ?_⟩
      walk_at "rd"
      refine ⟨by omega, _, _, _, _, rfl, rfl, hS2, hv2, ?_⟩
      walk_at "rd"
      refine ⟨p.d, _, rfl, get_cells hp2, _, _, rfl, .inl hS2, ?_⟩
      walk_at "rd"
      refine ite2 (fun _ => ?_) (fun _ => ?_)
      · walk_at "rd"
        refine ⟨⟨by decide, by decide, by decide⟩, ?_⟩
        walk_at "rd"
        refine ite2 (fun _ => ?_) (fun _ => ?_)
        · walk_at "rd"
          refine ⟨⟨by decide, by decide, by decide⟩, ?_⟩
          walk_at "rd"
          refine ⟨⟨hmn, by omega⟩, ?_⟩
          walk_at "rd"
          refine ⟨p.d, _, rfl, dput_left _ hp2, ?_⟩
          walk_at "rd"
          refine ⟨⟨by decide, by decide, by decide⟩, ?_⟩
          walk_at "rd"
          refine ⟨hmn, ?_⟩
          exact k _ _ (fmod_in _ hm0).1 (fmod_in _ hm0).2 (hk.trans (Keep.pen hp2)) (.mk' hp2 hS2 hc (by omega) (by omega))
        · walk_at "rd"
          refine ⟨show (2147483587 : Int) ≠ 0 by decide, ?_⟩
          walk_at "rd"
          refine ⟨.inr ⟨by decide, by decide⟩, ?_⟩
          walk_at "rd"
          refine ⟨.inl ⟨by decide, by decide⟩, ?_⟩
          walk_at "rd"
          refine ⟨.inr ⟨by omega, by omega⟩, ?_⟩
          walk_at "rd"
          refine ⟨.inl ⟨by decide, by decide⟩, ?_⟩
          walk_at "rd"
          refine ⟨show (2147483629 : Int) ≠ 0 by decide, ?_⟩
          walk_at "rd"
          refine ⟨cmul_fmod _ (by decide) (by decide) _, ?_⟩
          walk_at "rd"
          refine ⟨show (2147483549 : Int) ≠ 0 by decide, ?_⟩
          walk_at "rd"
          refine ⟨cmul_fmod _ (by decide) (by decide) _, ?_⟩
          walk_at "rd"
          refine ⟨show (2147483579 : Int) ≠ 0 by decide, ?_⟩
          walk_at "rd"
          refine ⟨⟨by decide, by decide⟩, ?_⟩
          walk_at "rd"
          refine ⟨hmn, ?_⟩
          exact k _ _ (fmod_in _ hm0).1 (fmod_in _ hm0).2 hk hP2
      · walk_at "rd"
        refine ⟨show (2147483587 : Int) ≠ 0 by decide, ?_⟩
        walk_at "rd"
        refine ⟨.inr ⟨by decide, by decide⟩, ?_⟩
        walk_at "rd"
        refine ⟨.inl ⟨by decide, by decide⟩, ?_⟩
        walk_at "rd"
        refine ⟨.inr ⟨by omega, by omega⟩, ?_⟩
        walk_at "rd"
        refine ⟨.inl ⟨by decide, by decide⟩, ?_⟩
        walk_at "rd"
        refine ⟨show (2147483629 : Int) ≠ 0 by decide, ?_⟩
        walk_at "rd"
        refine ⟨cmul_fmod _ (by decide) (by decide) _, ?_⟩
        walk_at "rd"
        refine ⟨show (2147483549 : Int) ≠ 0 by decide, ?_⟩
        walk_at "rd"
        refine ⟨cmul_fmod _ (by decide) (by decide) _, ?_⟩
        walk_at "rd"
        refine ⟨show (2147483579 : Int) ≠ 0 by decide, ?_⟩
        walk_at "rd"
        refine ⟨⟨by decide, by decide⟩, ?_⟩
        walk_at "rd"
        refine ⟨hmn, ?_⟩
        exact k _ _ (fmod_in _ hm0).1 (fmod_in _ hm0).2 hk hP2
    · walk_at "rd"
      refine ⟨p.d, _, rfl, get_cells hp2, _, _, rfl, .inl hS2, ?_⟩
      walk_at "rd"
      refine ite2 (fun _ => ?_) (fun _ => ?_)
      · walk_at "rd"
        refine ⟨⟨by decide, by decide, by decide⟩, ?_⟩
        walk_at "rd"
        refine ite2 (fun _ => ?_) (fun _ => ?_)
        · walk_at "rd"
          refine ⟨⟨by decide, by decide, by decide⟩, ?_⟩
          walk_at "rd"
          refine ⟨⟨hmn, by omega⟩, ?_⟩
          walk_at "rd"
          refine ⟨p.d, _, rfl, dput_left _ hp2, ?_⟩
          walk_at "rd"
          refine ⟨⟨by decide, by decide, by decide⟩, ?_⟩
          walk_at "rd"
          refine ⟨hmn, ?_⟩
          exact k _ _ (fmod_in _ hm0).1 (fmod_in _ hm0).2 (hk.trans (Keep.pen hp2)) (.mk' hp2 hS2 hc (by omega) (by omega))
        · walk_at "rd"
          refine ⟨show (2147483587 : Int) ≠ 0 by decide, ?_⟩
          walk_at "rd"
          refine ⟨.inr ⟨by decide, by decide⟩, ?_⟩
          walk_at "rd"
          refine ⟨.inl ⟨by decide, by decide⟩, ?_⟩
          walk_at "rd"
          refine ⟨.inr ⟨by omega, by omega⟩, ?_⟩
          walk_at "rd"
          refine ⟨.inl ⟨by decide, by decide⟩, ?_⟩
          walk_at "rd"
          refine ⟨show (2147483629 : Int) ≠ 0 by decide, ?_⟩
          walk_at "rd"
          refine ⟨cmul_fmod _ (by decide) (by decide) _, ?_⟩
          walk_at "rd"
          refine ⟨show (2147483549 : Int) ≠ 0 by decide, ?_⟩
          walk_at "rd"
          refine ⟨cmul_fmod _ (by decide) (by decide) _, ?_⟩
          walk_at "rd"
          refine ⟨show (2147483579 : Int) ≠ 0 by decide, ?_⟩
          walk_at "rd"
          refine ⟨⟨by decide, by decide⟩, ?_⟩
          walk_at "rd"
          refine ⟨hmn, ?_⟩
          exact k _ _ (fmod_in _ hm0).1 (fmod_in _ hm0).2 hk hP2
      · walk_at "rd"
        refine ⟨show (2147483587 : Int) ≠ 0 by decide, ?_⟩
        walk_at "rd"
        refine ⟨.inr ⟨by decide, by decide⟩, ?_⟩
        walk_at "rd"
        refine ⟨.inl ⟨by decide, by decide⟩, ?_⟩
        walk_at "rd"
        refine ⟨.inr ⟨by omega, by omega⟩, ?_⟩
        walk_at "rd"
        refine ⟨.inl ⟨by decide, by decide⟩, ?_⟩
        walk_at "rd"
        refine ⟨show (2147483629 : Int) ≠ 0 by decide, ?_⟩
        walk_at "rd"
        refine ⟨cmul_fmod _ (by decide) (by decide) _, ?_⟩
        walk_at "rd"
        refine ⟨show (2147483549 : Int) ≠ 0 by decide, ?_⟩
        walk_at "rd"
        refine ⟨cmul_fmod _ (by decide) (by decide) _, ?_⟩
        walk_at "rd"
        refine ⟨show (2147483579 : Int) ≠ 0 by decide, ?_⟩
        walk_at "rd"
        refine ⟨⟨by decide, by decide⟩, ?_⟩
        walk_at "rd"
        refine ⟨hmn, ?_⟩
        exact k _ _ (fmod_in _ hm0).1 (fmod_in _ hm0).2 hk hP2
end
end Wv
/-! Rules of my own: t[::-1] of a tuple, xs.extend(t) of a tuple, constants of the module. -/
namespace Wv
open PySem PySem.Spec PyProof.Rows L2 HT
section
variable {prog : Program} {w : World} {A : Around} {E : Value → Shared → Prop} {s : Shared}
theorem adj_back (n : Nat) : Builtin.Slice.sliceAdjust none none (-1) (n : Int) = ((n : Int) - 1, -1) := by
  unfold Builtin.Slice.sliceAdjust
  simp
theorem places_back (n : Nat) : Builtin.Slice.slicePlaces ((n : Int) - 1) (-1) (-1) = n := by
  unfold Builtin.Slice.slicePlaces
  simp
  omega
theorem applied_back {sl : Addr} {n : Nat} {t : Tok} {Q : Int × Int × Nat → Shared → Prop} (hs : s.heap.IsSliceOf sl .none .none (.int (-1) t)) (h : Q ((n : Int) - 1, -1, n) s) :
    wpAny (model prog w) A (Builtin.Slice.sliceApplied (.ref sl) (pure (n : Int))) Q E s := by
  obtain ⟨os, hos, hcs, hds⟩ := id hs
  unfold Builtin.Slice.sliceApplied Builtin.Slice.sliceFields
  refine wpAny_bind (wpAny_bind (wpAny_field hos hds (x := Value.none) rfl (wpAny_bind (wpAny_field hos hds (x := Value.none) rfl (wpAny_bind (wpAny_field hos hds (x := Value.int (-1) t) rfl (wpAny_pure ?_)))))))
  refine wpAny_bind (slicePart_int ?_)
  show wpAny _ _ (if ((-1 : Int) == 0) = true then _ else _) _ _ s
  rw [if_neg (by decide)]
  refine wpAny_bind (slicePart_none (wpAny_bind (slicePart_none (wpAny_bind (wpAny_pure ?_)))))
  show wpAny _ _ (match Builtin.Slice.sliceAdjust none none (-1) (n : Int) with | (lo, hi) => pure (lo, (-1 : Int), Builtin.Slice.slicePlaces lo hi (-1))) _ _ s
  rw [adj_back n]
  show wpAny _ _ (pure ((n : Int) - 1, (-1 : Int), Builtin.Slice.slicePlaces ((n : Int) - 1) (-1) (-1))) _ _ s
  rw [places_back]
  exact wpAny_pure h
theorem pick_back (xs : Array Value) : ((List.range xs.size).filterMap fun (m : Nat) => xs[(((xs.size : Int) - 1) + (m : Int) * (-1)).toNat]?).toArray = xs.toList.reverse.toArray := by
  have e : (fun (m : Nat) => xs[(((xs.size : Int) - 1) + (m : Int) * (-1)).toNat]?) = (fun i => xs[i]?) ∘ fun m => xs.size - 1 - m := by
    funext m
    have : (((xs.size : Int) - 1) + (m : Int) * (-1)).toNat = xs.size - 1 - m := by omega
    rw [this]
    rfl
  rw [e, ← List.filterMap_map, PySem.W.krv_range, List.filterMap_reverse, PySem.W.krv_all]
theorem getItem_tuple_back {t sl : Addr} {items : Array Value} {tk : Tok} {Q : Value → Shared → Prop} (ht : IsTup s.heap t items) (hs : s.heap.IsSliceOf sl .none .none (.int (-1) tk))
    (h : Q (.ref s.heap.objs.size) { s with heap := s.heap.push { cls := .type "tuple", data := .seq items.toList.reverse.toArray } }) (hsz : items.size ≤ sizeLine) : wpAny (model prog w) A (getItem (.ref t) (.ref sl)) Q E s := by
  have htake : sizeOk (.seq items.toList.reverse.toArray) := by
    show items.toList.reverse.toArray.size ≤ sizeLine
    rw [List.size_toArray, List.length_reverse, Array.length_toList]
    exact hsz
  obtain ⟨os, hos, hcs, _⟩ := id hs
  have isSl : s.TypeIs (.ref sl) "slice" := ⟨os, hos, hcs⟩
  unfold getItem
  try with_reducible refine wpAny_holding ?_
  first | refine wpAny_bind (wpAny_pure ?_) | skip
  refine wpAny_bind (wpAny_sequenceKey ht.typeIs (by decide) ?_)
  refine wpAny_bind (wpAny_callSpecial?_slot (name := Str.ofString "__getitem__") ht.typeIs slot_tuple_getitem (wpAny_call_entry slot_tuple_getitem ht.typeIs entry_tuple_getitem ?_ (args_tuple_getitem _ _)))
  show wpAny _ _ (Builtin.Tuple.tupleItemsOf (.ref t) >>= _) _ _ s
  refine wpAny_bind (tupleItemsOf_ ht (wpAny_bind (wpAny_typeOf isSl ?_)))
  rw [if_pos (by decide)]
  refine wpAny_bind (applied_back hs ?_)
  show wpAny _ _ (if (((items.size : Int) - 1) == 0 && (-1 : Int) == 1 && items.size == items.size) = true then _ else _) _ _ s
  rw [if_neg (by simp), pick_back]
  first
    | exact wpAny_bind (m := Builtin.Tuple.tupleExact _) (wpAny_newObj_type (wpAny_pure ⟨_, rfl, wpAny_pure h⟩) htake)
    | exact wpAny_bind (wpAny_bind (m := Builtin.Tuple.tupleExact _) (wpAny_newObj_type (wpAny_pure (wpAny_pure ⟨_, rfl, wpAny_pure h⟩)) htake))
    | exact wpAny_bind (wpAny_bind (m := Builtin.Tuple.tupleExact _) (wpAny_newObj_type (wpAny_pure ⟨_, rfl, wpAny_pure h⟩) htake))
    | exact wpAny_bind (m := Builtin.Tuple.tupleExact _) (wpAny_newObj_type (wpAny_bind (wpAny_pure (wpAny_pure ⟨_, rfl, wpAny_pure h⟩))) htake)
end
/-! ### t[::-1] -/
def tRevT (K : PySem.W.Frag) (te : TE) : TE := fun σ H Q => te σ H fun x H1 => ∃ a xs, x = .ref a ∧ SqT K H1 a xs ∧ ∀ p, H1 p = none → Q (.ref p) (upd H1 p (.tup xs.reverse))
section
variable {X : Cx}
theorem pe_revT {e : Expr} {te : TE} {k : Nat} {p1 p2 p3 pos : Pos} (he : PE X e te) : PE X (.Subscript e (.Slice none none (some (.UnaryOp .USub (.Constant (.int 1) k p1) p2)) p3) pos) (tRevT X.K te) := by
  refine ⟨fun pins s σ H Q I h => ?_⟩
  refine Subscript_ (thn (he.run pins s σ H _ I h) fun v s1 ⟨x, H1, I1, r1, q1⟩ => ?_)
  obtain ⟨a, xs, ex, hx, q⟩ := q1
  subst ex
  cases r1
  have hst : PO X (some (.UnaryOp .USub (.Constant (.int 1) k p1) p2)) (tPart (tUn (rU fun i => .int (-i)) (tC (.int 1)))) := po_some (pe_un un_neg pe_int)
  refine wpAny_Slice (thn (po_none.run pins s1 σ H1 (fun o H2 => o = none ∧ H2 = H1) I1 ⟨rfl, rfl⟩) fun vl s2 ⟨l, H2, I2, pl, el, e2⟩ => ?_)
  subst el e2
  refine thn (po_none.run pins s2 σ H2 (fun o H3 => o = none ∧ H3 = H2) I2 ⟨rfl, rfl⟩) fun vu s3 ⟨u, H3, I3, pu, eu, e3⟩ => ?_
  subst eu e3
  refine thn (hst.run pins s3 σ H3 (fun o H4 => o = some (-1) ∧ H4 = H3) I3 ⟨1, rfl, -1, rfl, rfl, rfl⟩) fun vs s4 ⟨o, H4, I4, ps, eo, e4⟩ => ?_
  subst eo e4
  cases pl
  cases pu
  generalize hv : (-1 : Int) = mi at ps
  cases ps with
  | int i tk =>
    subst hv
    have I5 : Inv X pins σ H4 { s4 with heap := s4.heap.push { cls := .type "slice", data := .fields #[.none, .none, .int (-1) tk] } } := I4.kept (t' := s4.toks) fun b ob q => Heap.get?_push_of_some _ q
    obtain ⟨its, r, ht, hz⟩ := I5.tuple hx
    have hlen := r.length
    show wpAny (model X.prog X.w) X.A (subscriptTail e (.Slice none none (some (.UnaryOp .USub (.Constant (.int 1) k p1) p2)) p3) (.ref a) (.ref s4.heap.objs.size)) (EP X pins σ Q) X.xe { s4 with heap := s4.heap.push { cls := .type "slice", data := .fields #[.none, .none, .int (-1) tk] } }
    refine tail_any (ops := [.ref a, .ref s4.heap.objs.size]) ht.typeIs (PyProof.Rows.slot_tuple_getitem.lookup) ?_ (by with_unfolding_all rfl)
    refine getItem_tuple_back ht (Heap.IsSliceOf.new _ .none .none (.int (-1) tk)) ?_ (by rw [List.size_toArray]; omega)
    refine ⟨.ref _, _, I5.laid (t' := s4.toks) (o := .tup xs.reverse) (fun b ob q => Heap.get?_push_of_some _ q) (Nat.le_refl _) ?_, rfl, q _ (I5.hok.fresh (Nat.le_refl _))⟩
    exact ⟨by rw [List.length_reverse]; exact hz, _, r.reverse, IsTup.new _ _⟩
/-! ### xs.extend(t), t a tuple -/
theorem ext_tup (l : Addr) (items : Array Value) (n : Nat) (b : Addr) (items2 : Array Value) (n2 : Nat) (dd : Option Addr) (sl : Array (Option Value)) (hs0 : ¬(!items.isEmpty && Builtin.List.listTooLong (items.size + items2.size)) = true) (hs1 : items.size ≤ sizeLine) (hs2 : items.size + items2.size ≤ sizeLine + 1) :
    Meets (Builtin.«list.extend» ⟨[.ref l, .ref b], []⟩) (fun _ R s => s.heap.get? l = some { cls := .type "list", dict := none, data := .seq items n, slots := #[] } ∧ s.heap.get? b = some { cls := .type "tuple", dict := dd, data := .seq items2 n2, slots := sl } ∧
      R (.ok (.ret Value.none)) { s with heap := s.heap.update l (Obj.mapSeq fun x => x ++ items2), toks := s.toks }) :=
  .of_wp fun prog w A R s h => by
    obtain ⟨hp, g, d, tk, os⟩ := s
    obtain ⟨hl, hb, h⟩ := h
    have f1 := AutoSeq1.idx_int; have f2 := AutoSeq1.sub_tuple_tuple; have f3 := AutoSeq1.sub_list_list; have f4 := AutoSeq1.sub_tuple_list; have f5 := AutoSeq1.sub_list_tuple
    have hz' : (items ++ items2).size ≤ sizeLine + 1 := by rw [Array.size_append]; omega
    wp_walk using (wpAny_updateSeq hl rfl (hz := hs1) (_hz' := hz')), wpAny_loadPart' hl, wpAny_loadPart' hb
    exact ⟨_, rfl, h⟩
def rExtT (K : PySem.W.Frag) : V → List V → Hp → VK → Prop := fun x vs H Q => ∃ l b xs zs, x = .ref l ∧ vs = [.ref b] ∧ H l = some (.lst xs) ∧ SqT K H b zs ∧ xs.length + zs.length ≤ sizeLine ∧ Q .non (upd H l (.lst (xs ++ zs)))
theorem mt_extendT : MtR X "list.extend" (rExtT X.K) := by
  intro pins s σ H x vs v us Q I rx rv h
  obtain ⟨l, b, xs, zs, rfl, rfl, hH, hB, hz, q⟩ := h
  cases rx
  obtain ⟨u, rfl, ru⟩ := rv.one
  cases ru
  obtain ⟨z, its, n, r, hl, e⟩ := I.lstM hH
  obtain ⟨its2, r2, ht2, hl2⟩ := I.tuple hB
  obtain ⟨⟨cls2, dd2, data2, sl2⟩, e2, hc2, n2, hd2⟩ := id ht2
  simp only at hc2 hd2
  subst hc2 hd2
  have hsz : its.toArray.size + its2.toArray.size ≤ sizeLine := by rw [List.size_toArray, List.size_toArray, ← r.length, ← r2.length]; exact hz
  have hlong : ¬ (!its.toArray.isEmpty && Builtin.List.listTooLong (its.toArray.size + its2.toArray.size)) = true := by
    rw [notLongL hsz, Bool.and_false]
    exact Bool.false_ne_true
  refine call_meets PySem.F.slot_list_extend ⟨_, e, rfl⟩ PySem.F.entry_list_extend (PySem.F.args_list_extend_2 _ _) (ext_tup l its.toArray n b its2.toArray n2 dd2 sl2 hlong (by omega) (by omega)) ⟨e, e2, ?_⟩
  refine ⟨.non, _, I.lset (its' := its ++ its2) hH e (by simp) (r.append r2) ?_, rfl, q⟩
  rw [List.length_append]
  exact hz
/-! ### a constant of the module -/
theorem pe_globI {x : Str} {i : Int} {pos : Pos} (hg : Gl X x) (hm : ∃ t, X.mg x = some (.int i t)) (hd : (x == ("__debug__" : Str)) = false := by decide) : PE X (.Name x pos) (tC (.int i)) := by
  obtain ⟨t, e⟩ := hm
  exact pe_glob hg e ⟨t, rfl⟩ hd
/-- a class of the module as a value -/
theorem pe_globC {x : Str} {C : Addr} {pos : Pos} (hg : Gl X x) (hm : X.mg x = some (.ref C)) (hd : (x == ("__debug__" : Str)) = false := by decide) : PE X (.Name x pos) (tC (.ref C)) := pe_glob hg hm rfl hd
/-- t + u, also of empty ones -/
def rCatA (K : PySem.W.Frag) : R2 := fun x y H Q => ∃ a b xs ys, x = .ref a ∧ y = .ref b ∧ SqT K H a xs ∧ SqT K H b ys ∧ xs.length + ys.length ≤ sizeLine ∧
  (xs = [] → Q (.ref b) H) ∧ (xs ≠ [] → ys = [] → Q (.ref a) H) ∧ (xs ≠ [] → ys ≠ [] → ∀ p, H p = none → Q (.ref p) (upd H p (.tup (xs ++ ys))))
theorem op_catA : OpR X (binaryOp .Add) (rCatA X.K) := by
  intro pins s σ H x y v u Q I rx ry h
  obtain ⟨a, b, xs, ys, rfl, rfl, ha, hb, hz, q0, q1, q2⟩ := h
  by_cases hx : xs = []
  · subst hx
    cases rx
    cases ry
    obtain ⟨its, r1, p1, _⟩ := I.tuple ha
    obtain ⟨its2, r2, p2, _⟩ := I.tuple hb
    cases r1
    obtain ⟨⟨cls, dd, data, sl⟩, ho, hc, n, hd⟩ := id p1
    obtain ⟨⟨cls2, dd2, data2, sl2⟩, ho2, hc2, n2, hd2⟩ := id p2
    simp only at hc hd hc2 hd2
    subst hc hd hc2 hd2
    exact concat_meets ⟨_, ho, rfl⟩ ⟨_, ho2, rfl⟩ noFill_tuple_add seq_tuple_add PySem.F.slot_tuple_add PySem.F.entry_tuple_add (PySem.F.args_tuple_add_2 _ _)
      (tuple_addW0 a b #[] its2.toArray n n2 dd dd2 sl sl2 (by rfl)) ⟨ho, ho2, ⟨.ref b, H, I, rfl, q0 rfl⟩⟩
  · exact op_catT pins s σ H _ _ v u Q I rx ry ⟨a, b, xs, ys, rfl, rfl, ha, hb, hx, hz, q1 hx, q2 hx⟩
/-- what does not name the part around it: for a comprehension's block -/
theorem op_catTK {K : PySem.W.Frag} (e : X.K = K) : OpR X (binaryOp .Add) (rCatT K) := e ▸ op_catT
theorem pg_tupK {K : PySem.W.Frag} {es : List Expr} {k : Nat} {t : TGs} {n : Nat} {pos : Pos} (e : X.K = K) (hc : X.calm = true) (h : PGs X es t)
    (hn : (assignEach es X.env).length = n := by rfl) (hst : (assignEach es X.env).findIdx? (·.1) = none := by rfl) : PG X (.Tuple es k pos) (gTup K n t) := e ▸ pg_tup hc h hn hst
end
end Wv
namespace Wv
open PySem PySem.Spec PyProof.Rows L2
/-! ### texts as codes -/
theorem tx_len (l : List Nat) : (tx l).length = l.length := by simp [tx, Str.length]
theorem tx_app (a b : List Nat) : tx a ++ tx b = tx (a ++ b) := by
  show Str.mk (a.toArray ++ b.toArray) = Str.mk (a ++ b).toArray
  simp
theorem tx_list (l : List Nat) : (tx l).cps.toList = l := rfl
theorem tx_take (l : List Nat) (k : Nat) : cutS (tx l) none (some (k : Int)) = tx (l.take k) := by
  unfold cutS
  rw [tx_len, tx_list, HT.sIx_none, HT.sIx_nat, List.drop_zero, Nat.sub_zero]
  unfold tx
  congr 2
  rw [List.take_eq_take_iff]
  omega
theorem tx_drop (l : List Nat) (k : Nat) : cutS (tx l) (some (k : Int)) none = tx (l.drop k) := by
  unfold cutS
  rw [tx_len, tx_list, HT.sIx_none, HT.sIx_nat]
  unfold tx
  congr 2
  by_cases h : k ≤ l.length
  · rw [Nat.min_eq_left h, List.take_of_length_le (by rw [List.length_drop]; omega)]
  · rw [Nat.min_eq_right (by omega), Nat.sub_self, List.take_zero, List.drop_eq_nil_of_le (by omega)]
abbrev alpha : List Nat := [97, 98, 99, 100, 101, 102, 103, 104, 105, 106, 107, 108, 109, 110, 111, 112, 113, 114, 115, 116, 117, 118, 119, 120, 121, 122]
theorem alpha_tx : Str.ofString "abcdefghijklmnopqrstuvwxyz" = tx alpha := by decide +kernel
theorem empty_tx : Str.ofString "" = tx [] := by decide +kernel
theorem alpha_az : Az alpha := by decide
theorem alpha_nd : alpha.Nodup := by decide
theorem perm_move {l fd : List Nat} {k : Nat} (h : k < l.length) (q : (fd ++ l).Perm alpha) : ((fd ++ [l[k]]) ++ (l.take k ++ l.drop (k + 1))).Perm alpha := by
  refine List.Perm.trans ?_ q
  rw [List.append_assoc]
  refine List.Perm.append_left fd ?_
  have e : l = l.take k ++ (l[k] :: l.drop (k + 1)) := by rw [← List.drop_eq_getElem_cons h, List.take_append_drop]
  refine List.Perm.trans ?_ (List.Perm.of_eq e.symm)
  exact (List.perm_middle (a := l[k]) (l₁ := l.take k) (l₂ := l.drop (k + 1))).symm
def spSigns (K : PySem.W.Frag) : Sp := fun vs H Q _ => ∃ (p : Pen) (m n : Nat), vs = [.ref p.d, .int (m : Int)] ∧ PenAt K H p n ∧ n + 30 < LIM ∧ m ≤ 20 ∧
  ∀ (z : List Nat) (H' : Hp), z.length = m → z.Nodup → Az z → Keep H H' → PenAt K H' p (n + m) → Q (.str (tx z)) H'
/-- leaves: the draws that they may make are counted -/
def spLeaf (K : PySem.W.Frag) : Sp := fun vs H Q _ => ∃ (p : Pen) (z : List Nat) (n : Nat), vs = [.ref p.d, .str (tx z)] ∧ PenAt K H p n ∧ n + 30 < LIM ∧ 0 < z.length ∧ z.length ≤ 100 ∧
  ∀ (v : V) (w : W) (H' : Hp), w.size = 1 → w.wf z → WayAt (newer H H') v w → Keep H H' → PenAt K H' p (n + 2) → Q v H'
def spWayOf (K : PySem.W.Frag) (s : Nat) : Sp := fun vs H Q _ => ∃ (p : Pen) (z : List Nat) (m n : Nat), vs = [.ref p.d, .str (tx z), .int (m : Int)] ∧ PenAt K H p n ∧ n + 4 * m + 30 < LIM ∧ 0 < z.length ∧ z.length ≤ 100 ∧ Az z ∧ 0 < m ∧ m ≤ s ∧ m ≤ 30 ∧
  ∀ (v : V) (w : W) (H' : Hp), w.size = m → w.wf z → WayAt (newer H H') v w → Keep H H' → PenAt K H' p (n + (4 * m - 2)) → Q v H'
def spWay (K : PySem.W.Frag) : Sp := fun vs H Q _ => ∃ (p : Pen) (z : List Nat) (m n : Nat), vs = [.ref p.d, .str (tx z), .int (m : Int)] ∧ PenAt K H p n ∧ n + 300 < LIM ∧ 0 < z.length ∧ z.length ≤ 100 ∧ Az z ∧ 0 < m ∧ m ≤ 30 ∧
  ∀ (v : V) (w : W) (H' : Hp), w.size ≤ m → w.wf z → WayAt (newer H H') v w → Keep H H' → PenAt K H' p (n + 200) → Q v H'
section
variable {P : Program} {w : World} {K : PySem.W.Frag} {mg : Str → Option Value} {base : Heap}
abbrev s_l_pick : Stmt := top 11
theorem sc_l_pick : FnScope ["_law_pen_here", "_law_items"] ["_law_pen_here", "_law_items"] (defScope s_l_pick) := ⟨rfl, rfl, rfl, by decide +kernel, rfl, by decide +kernel, by decide +kernel⟩
theorem d_l_pick (h : Here K mg "_law_pick" s_l_pick ["_law_pen_here", "_law_items"]) (B : Bs mg) (G_l_draw : DefOk P w K mg base 1 "_law_draw" ["_law_pen_here", "_law_many"] (spDraw K)) : DefOk P w K mg base 2 "_law_pick" ["_law_pen_here", "_law_items"] (spPick K) := by
  have B_len := B.len
  refine h.ok sc_l_pick (fun vs H Q E h => by obtain ⟨a, q, n, rfl, _⟩ := h; rfl) (fun f cdv A outer s H vs Q E hr h => ?_)
  obtain ⟨p, y, n, rfl, hP, hn, ⟨q, xs, rfl, hS, h0, h1, k⟩ | ⟨z, rfl, h0, h1, k⟩⟩ := h
  · refine ⟨_, (pss_one (ps_ret (pe_ix (IxR.or ix_list (IxR.or ix_str ix_tup)) (pv 1) (pe_callD G_l_draw (hr.mono (by first | decide | omega)) rfl (pa_cons (pv 0) (pa_cons (pe_callB (CallR.or call_len_seq call_len_str) rfl B_len PySem.boot_len (pa_cons (pv 1) pa_nil)) pa_nil))) (fun _ _ => rfl)))), ?_⟩
    refine ⟨_, rfl, _, rfl, _, rfl, .inl ⟨q, _, rfl, .inl hS, ?_⟩⟩
    refine ⟨p, _, n, rfl, hP, hn, by omega, by omega, fun d H' d0 d1 kp hP' => ?_⟩
    obtain ⟨v, hv1, hv2⟩ := atI_of d0 d1
    exact .inl ⟨q, _, _, _, rfl, rfl, kp.seq hS, hv2, k v H' (List.mem_of_getElem? hv1) kp hP'⟩
  · have hl : (tx z).length = z.length := tx_len z
    have hz : (tx z).length ≤ sizeLine := by rw [hl]; exact Nat.le_of_lt (small' (by omega))
    refine ⟨_, (pss_one (ps_ret (pe_ix (IxR.or ix_list (IxR.or ix_str ix_tup)) (pv 1) (pe_callD G_l_draw (hr.mono (by first | decide | omega)) rfl (pa_cons (pv 0) (pa_cons (pe_callB (CallR.or call_len_seq call_len_str) rfl B_len PySem.boot_len (pa_cons (pv 1) pa_nil)) pa_nil))) (fun _ _ => rfl)))), ?_⟩
    refine ⟨_, rfl, _, rfl, _, rfl, .inr ⟨_, rfl, hz, ?_⟩⟩
    refine ⟨p, _, n, rfl, hP, hn, by rw [hl]; omega, by rw [hl]; omega, fun d H' d0 d1 kp hP' => ?_⟩
    rw [hl] at d1
    obtain ⟨j, rfl⟩ : ∃ j : Nat, d = (j : Int) := ⟨d.toNat, by omega⟩
    have hj : j < z.length := by omega
    exact .inr (.inl ⟨tx z, _, z[j], rfl, rfl, hz, atI_nat (by rw [tx_list]; exact List.getElem?_eq_getElem hj), k _ H' (List.getElem_mem hj) kp hP'⟩)
end
end Wv
/-! own errors with fields, methods and classes that may raise -/
namespace Bk
open PySem PySem.Spec PyProof.Rows L2 Wv
/-- an error class of the program with an __init__ of its own -/
structure ExOk (P : Program) (w : World) (K : PySem.W.Frag) (mg : Str → Option Value) (base : Heap) (k : Nat) (x : Str) (C : Addr) (ps : List Str) (sp : Sp) : Prop where
  ex : ∃ (fI : Addr) (fd : FuncData), OexC K C ∧ PySem.W.findIn K (.ref C) "__init__" = some (some (.ref fI)) ∧ PySem.W.typeIn K (.ref fI) = some (.type "function") ∧ mg x = some (.ref C) ∧ Binds K fd ps [] ∧ FnOk P w K mg base CX0 k fI fd ps sp
/-- a method of the class at C that may raise -/
structure MxOk (P : Program) (w : World) (K : PySem.W.Frag) (mg : Str → Option Value) (base : Heap) (C : Addr) (k : Nat) (m : Str) (ps : List Str) (sp : Sp) : Prop where
  cl : Cls K C
  ex : ∃ (f : Addr) (fd : FuncData), FnOk P w K mg base (L2.CX P w) k f fd ps sp ∧ Meth K C m f ∧ Binds K fd ps []
/-- a class whose __init__ may raise -/
structure CxOk (P : Program) (w : World) (K : PySem.W.Frag) (mg : Str → Option Value) (base : Heap) (k : Nat) (x : Str) (C : Addr) (ps : List Str) (sp : Sp) : Prop where
  ex : ∃ (f : Addr) (fd : FuncData), mg x = some (.ref C) ∧ Mk K C f ∧ Binds K fd ps [] ∧ FnOk P w K mg base (L2.CX P w) k f fd ps sp
section
variable {X : Cx} {k : Nat} {x m : Str} {C : Addr} {ps : List Str} {sp : Sp} {o e : Expr} {es : List Expr} {t : TA} {ta : TE} {p apos pos : Pos} {E : XK}
theorem pmk_ex (G : ExOk X.prog X.w X.K X.mg X.base k x C ps sp) (hr : Room (k + 1) X.A) (hg : Gl X x) (ha : PA X (e :: es) t) (hdb : (x == ("__debug__" : Str)) = false := by decide)
    (he : starEach (e :: es) X.env = (false, eval e X.env) :: starEach es X.env := by rfl) (hpl : (backTo pos (starEach es X.env)).any (·.1) = false := by rfl) : PMk X (.Call (.Name x p) (e :: es) [] pos) (tMkO C sp [] t) := by
  obtain ⟨fI, fd, T, iC, tI, hm, hb, F⟩ := G.ex
  exact pmk_oex T iC tI F hr hb .nil pass0 hg hm ha hdb he hpl
theorem pe_methX {pl : Sem Bool} (G : MxOk X.prog X.w X.K X.mg X.base C k m ps sp) (hr : Room k X.A) (hx : Passes (L2.CX X.prog X.w) X E) (he : PE X o ta) (ha : PA X (e :: es) t)
    (hst : starEach (e :: es) X.env = (false, eval e X.env) :: starEach es X.env := by rfl) (hpl : (backTo pos (starEach es X.env)).any (·.1) = false := by rfl)
    (ht : eval (.Call (.Attribute o m apos) (e :: es) [] pos) X.env = (do
      let ov ← eval o X.env
      standAt apos.atName
      let (f, first) ← holding [ov] (getMethod ov m pl)
      callWith pos f first (backTo pos (starEach (e :: es) X.env)) (backToKw pos (keywordEach [] X.env))) := by rfl) :
    PE X (.Call (.Attribute o m apos) (e :: es) [] pos) (tMeth C m sp [] E ta t) := by
  obtain ⟨f, fd, F, hm, hb⟩ := G.ex
  exact pe_meth he G.cl hm F hr hb .nil hx ha hst hpl ht
theorem pe_makeX (G : CxOk X.prog X.w X.K X.mg X.base k x C ps sp) (hr : Room (k + 1) X.A) (hx : Passes (L2.CX X.prog X.w) X E) (hg : Gl X x) (ha : PA X (e :: es) t) (hdb : (x == ("__debug__" : Str)) = false := by decide)
    (he : starEach (e :: es) X.env = (false, eval e X.env) :: starEach es X.env := by rfl) (hpl : (backTo pos (starEach es X.env)).any (·.1) = false := by rfl) :
    PE X (.Call (.Name x p) (e :: es) [] pos) (tMake C sp [] E t) := by
  obtain ⟨f, fd, hm, M, hb, F⟩ := G.ex
  exact pe_make M F hr hg hm hb .nil hx ha hdb he hpl
end
end Bk
/-! own exceptions made with arguments by name -/
namespace PySem
namespace HandSPX
open PySem.Spec PyProof.Rows
open Builtin Builtin.ObjectAttr
section
variable {M : Model} {A : Around} {E : Value → Shared → Prop} {h : Heap} {g : Array GenState} {d : Drawn} {t : Nat} {os : OsState}
variable {nm q : Str} {C N : Addr} {bs bm bmB : List Value} {hdct : Bool} {sn : List Str} {sub : List Value} {ab : Bool} {col : Option Bool} {dd : Option Addr} {k0 k1 k2 k3 k5 : Option Value} {B newId initId : String}
theorem newCheckKw (F : ExcBaseFacts B newId initId bmB) (same : ∀ X : String, bm.contains (.type X) = bmB.contains (.type X)) {us : List Value} {kw : List (Str × Value)} {Q : Unit → Shared → Prop}
    (cls : h.get? C = some (excClassObj nm q C N bs bm hdct sn sub ab col dd k0 k1 k2 k3 k5 newId)) (fin : Q () ⟨h, g, d, t, os⟩) : wpAny M A (checkBuiltinCall newId ⟨.ref C :: us, kw⟩) Q E ⟨h, g, d, t, os⟩ := by
  have inB : (Value.ref C :: bm).contains (.type B) = true := by
    rw [List.contains_cons, same, F.hasB]
    exact Bool.or_true _
  have ns := F.noStar
  simp only [checkBuiltinCall, F.newKind, F.newSplit, F.newRow]
  repeat (first
    | refine wpAny_loadPart_at cls ?_
    | (refine wpAny_isSubtype_exc cls ?_; rw [inB])
    | refine wpAny_staticBase_exc cls ?_
    | refine wpAny_madeBy_exc cls ?_
    | simp only [bne_self_eq_false, Bool.false_eq_true, if_false]
    | wp_step)
  exact fin
theorem typeCheckKw {us : List Value} {kw : List (Str × Value)} {Q : Unit → Shared → Prop} (cls : h.get? C = some (excClassObj nm q C N bs bm hdct sn sub ab col dd k0 k1 k2 k3 k5 newId)) (fin : Q () ⟨h, g, d, t, os⟩) :
    wpAny M A (checkBuiltinCall "type.__call__" ⟨.ref C :: us, kw⟩) Q E ⟨h, g, d, t, os⟩ := by
  have isT : (⟨h, g, d, t, os⟩ : Shared).TypeIs (.ref C) "type" := ⟨_, cls, rfl⟩
  have subT := tc_sub
  simp only [checkBuiltinCall, tc_kind, tc_split]
  repeat (any_goals (first
    | assumption
    | with_reducible refine wpAny_loadPart_at cls ?_
    | with_reducible refine wpAny_onRaise ?_
    | with_reducible refine wpAny_map ?_
    | wp_step))
end
section
variable {prog : Program} {w : World} {A : Around} {E : Value → Shared → Prop} {R : Result → Shared → Prop} {h : Heap} {g : Array GenState} {d : Drawn} {t : Nat} {os : OsState}
variable {nm q : Str} {C N : Addr} {bs bm bmB : List Value} {hdct : Bool} {sn : List Str} {sub : List Value} {ab : Bool} {col : Option Bool} {dd : Option Addr} {k0 k1 k2 k3 k5 : Option Value} {B newId initId : String}
theorem newKw (F : ExcBaseFacts B newId initId bmB) (same : ∀ X : String, bm.contains (.type X) = bmB.contains (.type X)) {us : List Value} {kw : List (Str × Value)} (cls : h.get? C = some (excClassObj nm q C N bs bm hdct sn sub ab col dd k0 k1 k2 k3 k5 newId)) (few : us.length ≤ sizeLine)
    (fin : R (.ok (.ret (.ref (h.objs.size + 1)))) ⟨(h.push (W.kdv_tup us)).push (excO C h.objs.size), g, d, t, os⟩) : codeAny (model prog w) A (.builtin newId ⟨.ref C :: us, kw⟩) R ⟨h, g, d, t, os⟩ := by
  have c0 := F.ends
  have c1 : (Value.ref C :: bm).contains (.type B) = true := by
    rw [List.contains_cons, same, F.hasB]
    exact Bool.or_true _
  have c2 : (Value.ref C :: bm).contains (.type "AttributeError") = false := by
    rw [List.contains_cons, same, F.noAttr]
    rfl
  have c3 : (Value.ref C :: bm).contains (.type "NameError") = false := by
    rw [List.contains_cons, same, F.noName]
    rfl
  refine codeAny_builtinAt F.entry (?_ : _)
  unfold Builtin.«BaseException.__new__»
  refine wpAt_bind (?_ : _)
  show wpAt _ _ _ (stack >>= _) _ _ _
  refine wpAt_bind (wpAt_stack fun _ _ => wpAt_of_wpAny ?_)
  wp_walk
  refine wpAt_of_wpAny (?_ : _)
  rw [F.owner]
  repeat (first
    | with_reducible refine wpAny_madeHere_exc F.canon cls ?_
    | with_reducible refine wpAny_loadPart_at cls ?_
    | (with_reducible refine wpAny_isSubtype_exc cls ?_; first | rw [c1] | rw [c2] | rw [c3])
    | wp_step)
  show R _ _
  rw [Heap.size_push]
  exact fin
theorem typeKw (F : ExcBaseFacts B newId initId bmB) (same : ∀ X : String, bm.contains (.type X) = bmB.contains (.type X)) {us : List Value} {kw : List (Str × Value)} {fI : Addr} {Q : Fin → Shared → Prop} (cls : h.get? C = some (excClassObj nm q C N bs bm hdct sn sub ab col dd k0 k1 k2 k3 k5 newId))
    (look : W.Looks (model prog w) h (typeLookup (.ref C) "__init__") (some (.ref fI))) (bind : ∀ self, W.Looks (model prog w) h (bindSpecial (.ref fI) self) (.ref fI, [self])) (few : us.length ≤ sizeLine)
    (ini : codeAny (model prog w) A (.call (.ref fI) ⟨.ref (h.objs.size + 1) :: us, kw⟩) (fun r s' => match r with | .ok (.ret v) => v = .none ∧ Q (.done (.ret (.ref (h.objs.size + 1)))) s' | .ok _ => False | .error e => E e s') ⟨(h.push (W.kdv_tup us)).push (excO C h.objs.size), g, d, t, os⟩) :
    wpAny (model prog w) A (Builtin.«type.__call__» ⟨.ref C :: us, kw⟩) Q E ⟨h, g, d, t, os⟩ := by
  repeat (first
    | with_reducible refine wpAny_loadPart_at cls ?_
    | with_reducible refine wpAny_madeBy_exc cls ?_
    | wp_step)
  refine codeAny_call_builtin_code (Code.quiet_builtin _ F.quiet) (newCheckKw F same cls ?_)
  refine newKw F same cls few ?_
  show wpAny _ _ _ _ _ _
  have more : ∀ b o, h.get? b = some o → ((h.push (W.kdv_tup us)).push (excO C h.objs.size)).get? b = some o := fun b o z => Heap.get?_push_of_some _ (Heap.get?_push_of_some _ z)
  have cls1 := more _ _ cls
  have obj : ((h.push (W.kdv_tup us)).push (excO C h.objs.size)).get? (h.objs.size + 1) = some (excO C h.objs.size) := by heap_get
  have inC : (Value.ref C :: bm).contains (.ref C) = true := by simp
  have look1 := look.keeps more
  have bind1 := (bind (.ref (h.objs.size + 1))).keeps more
  unfold isInstance
  repeat (first
    | with_reducible refine wpAny_loadPart_at obj ?_
    | (with_reducible refine wpAny_isSubtype_exc cls1 ?_; rw [inC])
    | wp_step)
  show wpAny _ _ (typeLookup (.ref C) _) _ _ _
  refine look1.at ?_
  refine wpAny_holding (wpAny_bind (bind1.at ?_))
  refine wpAny_bind (wpAny_call (codeAny_mono ini fun r s' z => ?_))
  rcases r with e | (v | _ | _ | _) <;> first | exact z | exact z.elim | skip
  obtain ⟨rfl, z⟩ := z
  first
    | exact wpAny_pure (wpAny_pure z)
    | (wp_walk; exact z)
theorem callKw (F : ExcBaseFacts B newId initId bmB) (same : ∀ X : String, bm.contains (.type X) = bmB.contains (.type X)) {us : List Value} {kw : List (Str × Value)} {fI : Addr} (cls : h.get? C = some (excClassObj nm q C N bs bm hdct sn sub ab col dd k0 k1 k2 k3 k5 newId))
    (look : W.Looks (model prog w) h (typeLookup (.ref C) "__init__") (some (.ref fI))) (bind : ∀ self, W.Looks (model prog w) h (bindSpecial (.ref fI) self) (.ref fI, [self])) (few : us.length ≤ sizeLine)
    (ini : codeAny (model prog w) (A.under (.builtin "type.__call__" ⟨.ref C :: us, kw⟩)) (.call (.ref fI) ⟨.ref (h.objs.size + 1) :: us, kw⟩) (W.InitBack (h.objs.size + 1) R) ⟨(h.push (W.kdv_tup us)).push (excO C h.objs.size), g, d, t, os⟩) :
    codeAny (model prog w) A (.call (.ref C) ⟨us, kw⟩) R ⟨h, g, d, t, os⟩ := by
  have t1 := tc_lookup
  have t2 := tc_bind (.ref C)
  have isT : (⟨h, g, d, t, os⟩ : Shared).TypeIs (.ref C) "type" := ⟨_, cls, rfl⟩
  refine codeAny_of_tree (?_ : _)
  show wpAny _ _ (callAny (.ref C) _) _ _ _
  repeat (any_goals (first
    | assumption
    | with_reducible refine wpAny_loadPart_at cls ?_
    | wp_step))
  refine ⟨rfl, (?_ : _)⟩
  refine codeAny_call_builtin_at (Code.quiet_builtin _ (by decide +kernel)) entry_typeCall (typeCheckKw cls (typeKw F same cls look bind few ?_))
  refine codeAny_mono ini fun r s' z => ?_
  rcases r with e | (v | _ | _ | _) <;> exact z
end
end HandSPX
end PySem
/-! own exceptions as values, and passed on while they are handled -/
namespace Ex
open PySem PySem.Spec PyProof.Rows L2 Wv
/-- C(k = v, ..), an own exception class with its own __init__, as a value -/
def tExKw (C : Addr) (m : Nat) (sp : Sp) (tk : TA) : TE := fun σ H Q => tk σ H fun zs H1 => zs.length = m ∧ ∀ a, H1 a = none → sp (.ref a :: zs.reverse) (upd H1 a (exo a C none)) (fun v H2 => v = .non ∧ Q (.ref a) H2) E0
section
variable {X : Cx} {k : Nat} {x : Str} {C fI : Addr} {fd : FuncData} {ps ks : List Str} {sp : Sp} {kws : List Keyword} {tk : TA} {p pos : Pos}
theorem run_exKw {pins : List (Addr × Obj)} {σ : L2.St} {H : Hp} {s : Shared} {Q : VK} {ws : List Value} {zs : List V} (T : OexC X.K C) (iC : PySem.W.findIn X.K (.ref C) "__init__" = some (some (.ref fI))) (tI : PySem.W.typeIn X.K (.ref fI) = some (.type "function"))
    (F1 : FnOk X.prog X.w X.K X.mg X.base CX0 k fI fd ps sp) (hr : Room (k + 1) X.A) (hb : KBn X.K fd ps 1 ks (fun us ws => us ++ ws.reverse) (fun vs zs => vs ++ zs.reverse)) (I : Inv X pins σ H s) (rz : Vals zs ws) (l2 : ws.length = ks.length)
    (h : ∀ a, H a = none → sp (.ref a :: zs.reverse) (upd H a (exo a C none)) (fun v H2 => v = .non ∧ Q (.ref a) H2) E0) : wpAny (model X.prog X.w) X.A (call (.ref C) [] (ks.zip ws)) (EP X pins σ Q) X.xe s := by
  obtain ⟨nm, q, N, bs, bm, sn, sub, ab, col, dd, k0, k1, k2, k3, k5, hC, hbm⟩ := T.cls
  obtain ⟨hp, g, dr, tk, os⟩ := s
  have up : hp.objs.size ≤ hp.objs.size + 1 := Nat.le_succ _
  have none1 : H (hp.objs.size + 1) = none := I.hok.fresh up
  have hq := h (hp.objs.size + 1) none1
  have more : ∀ b o, hp.get? b = some o → ((hp.push (PySem.W.kdv_tup [])).push (PySem.HandSPX.excO C hp.objs.size)).get? b = some o := fun b o e => Heap.get?_push_of_some _ (Heap.get?_push_of_some _ e)
  have obj : ((hp.push (PySem.W.kdv_tup [])).push (PySem.HandSPX.excO C hp.objs.size)).get? (hp.objs.size + 1) = some (PySem.HandSPX.excO C hp.objs.size) := by heap_get
  have I2 : Inv X pins σ (upd H (hp.objs.size + 1) (exo (hp.objs.size + 1) C none)) ⟨(hp.push (PySem.W.kdv_tup [])).push (PySem.HandSPX.excO C hp.objs.size), g, dr, tk, os⟩ := I.laid more up (exo_ok obj)
  have r2 := hb.rel (vs := [V.ref (hp.objs.size + 1)]) (us := [Value.ref (hp.objs.size + 1)]) (.cons rfl .nil) rz
  refine wpAny_call (PySem.HandSPX.callKw F.excBase_ValueError (fun Y => PySem.HandSPX.refsVE_contains Y bm hbm) (I.kIn _ _ hC) (PySem.W.looks_findIn I.kIn iC) (fun self => PySem.W.bind_fn I.kIn self tI) (Nat.zero_le _)
    (codeAny_mono (F1.run _ X.stack _ _ ⟨[.ref (hp.objs.size + 1)], ks.zip ws⟩ ([Value.ref (hp.objs.size + 1)] ++ ws.reverse) _ _ E0 (hr.make C [] (ks.zip ws)) (I2.env0.make C [] (ks.zip ws)) (hb.to _ [.ref (hp.objs.size + 1)] ws I2.kIn rfl l2) r2 hq) fun r s' hq' => ?_))
  cases r with
  | error er => exact pass0 (X := X) pins σ _ _ er s' I2 hq'
  | ok fl =>
    cases fl with
    | ret u =>
      obtain ⟨v, H', I3, rv, ev, q3⟩ := I2.after hq'
      subst ev
      exact ⟨rv, .ref (hp.objs.size + 1), H', I3, rfl, q3⟩
    | next => exact False.elim hq'
    | brk => exact False.elim hq'
    | cont => exact False.elim hq'
theorem pe_exKw (T : OexC X.K C) (iC : PySem.W.findIn X.K (.ref C) "__init__" = some (some (.ref fI))) (tI : PySem.W.typeIn X.K (.ref fI) = some (.type "function")) (F1 : FnOk X.prog X.w X.K X.mg X.base CX0 k fI fd ps sp) (hr : Room (k + 1) X.A)
    (hb : KBn X.K fd ps 1 ks (fun us ws => us ++ ws.reverse) (fun vs zs => vs ++ zs.reverse)) (hg : Gl X x) (hm : X.mg x = some (.ref C)) (hkw : PK X kws tk) (hall : (backToKw pos (keywordEach kws X.env)).all (·.1.isSome) = true := by rfl)
    (hks : (backToKw pos (keywordEach kws X.env)).filterMap (·.1) = ks := by rfl) (hdb : (x == ("__debug__" : Str)) = false := by decide) (hpl : ((backTo pos (starEach [] X.env)).any (·.1) || (backToKw pos (keywordEach kws X.env)).any (·.1.isNone)) = false := by rfl) :
    PE X (.Call (.Name x p) [] kws pos) (tExKw C ks.length sp tk) := by
  refine ⟨fun pins s σ H Q I h => ?_⟩
  refine wpAny_Call_Name_kw (ld_glob I hg hm ?_ hdb)
  refine PySem.W.callWith_KW0 (h₀ := X.base) I.ok.mod.kin T.kC hall ?_ hpl
  refine thn (hkw.run pos pins s σ H _ I h) fun ws s2 ⟨zs, H2, I2, rz, l2, q2⟩ => ⟨I2.kIn, ?_⟩
  rw [hks]
  exact run_exKw T iC tI F1 hr hb I2 rz (rz.length.symm.trans l2) q2
/-- C(), an own exception class without an __init__ of its own: raised -/
theorem pmk_ex0 {bmB : List Value} {B newId initId : String} (F : ExcBaseFacts B newId initId bmB) (q : PySem.W.excIn X.K C bmB newId = true) (hm : X.mg x = some (.ref C)) (kC : PySem.W.keepIn X.K (.ref C) = true) (hr : Raises X (.ref C)) (hg : Gl X x) (hdb : (x == ("__debug__" : Str)) = false := by decide) :
    PMk X (.Call (.Name x p) [] [] pos) (fun _ H Q => Q (.ref C) none H) := by
  intro pins s σ H Q I h
  refine wpAny_Call_Name_kw (ld_glob I hg hm ?_ hdb)
  refine PySem.W.callWith_K0 I.kIn kC ?_
  obtain ⟨hp, g, dr, tk, os⟩ := s
  obtain ⟨bm, N, nm, qn, bs, hdct, sn, sub, ab, col, dd, k0, k1, k2, k3, k5, mN, hC, hN, hni, hT⟩ := exc_obj I.kIn q
  exact wpAny_call_exc_subT F hT hC hN hni (fun h' e made => mk_of I made hr h (I.hok.gone made.new)) (Nat.zero_le _)
/-- C(): as a value, of which nothing is asked -/
theorem pe_ex0 {bmB : List Value} {B newId initId : String} (F : ExcBaseFacts B newId initId bmB) (q : PySem.W.excIn X.K C bmB newId = true) (hm : X.mg x = some (.ref C)) (kC : PySem.W.keepIn X.K (.ref C) = true) (hg : Gl X x) (hdb : (x == ("__debug__" : Str)) = false := by decide) :
    PE X (.Call (.Name x p) [] [] pos) (fun _ H Q => ∀ a, Q (.ref a) H) := by
  refine ⟨fun pins s σ H Q I h => ?_⟩
  refine wpAny_Call_Name_kw (ld_glob I hg hm ?_ hdb)
  refine PySem.W.callWith_K0 I.kIn kC ?_
  obtain ⟨hp, g, dr, tk, os⟩ := s
  obtain ⟨bm, N, nm, qn, bs, hdct, sn, sub, ab, col, dd, k0, k1, k2, k3, k5, mN, hC, hN, hni, hT⟩ := exc_obj I.kIn q
  exact wpAny_call_exc_subT F hT hC hN hni (fun h' e made => ⟨.ref e, H, I.kept made.keeps, rfl, h e⟩) (Nat.zero_le _)
end
/-! ### the exception that is handled, handed on -/
/-- what is known of the dict of an exception -/
def DictX (H : Hp) (d : Option Addr) (fs : List (Str × V)) : Prop := (d = none ∧ fs = []) ∨ ∃ b, d = some b ∧ H b = some (.xd fs)
section
variable {X : Cx} {a : Addr} {oe : Obj} {cls : Value} {d : Option Addr}
theorem inst_of {D : Addr} {pins : List (Addr × Obj)} {σ : L2.St} {H : Hp} {s : Shared} {fs : List (Str × V)} (I : Inv X pins σ H s) (hp : (a, oe) ∈ X.pn) (hz : Zc (.ref D) d oe) (hf : ∃ vs, oe.data = .fields vs) (hd : DictX H d fs) : ∃ od, PySem.W.InstAt s.heap a oe D od := by
  obtain ⟨stands, _⟩ := I.pin (a, oe) (List.mem_append_left _ hp)
  obtain ⟨ws, hv⟩ := hf
  rcases hd with ⟨rfl, _⟩ | ⟨b, rfl, hb⟩
  · obtain ⟨oc, od, oda, osl⟩ := oe
    obtain ⟨h1, h2⟩ := hz
    dsimp only at h1 h2 hv
    subst h1 h2 hv
    exact ⟨none, stands, rfl, rfl, trivial⟩
  · have hx : ObjOk X.prog X.w H s.heap b (.xd fs) := I.hok b _ hb
    obtain ⟨mB, hns, hr⟩ := hx
    obtain ⟨od, ho, hl⟩ := lookIn_ns hns
    exact ⟨some od, stands, hz.1, by unfold PySem.W.notCls; rw [hv] <;> rfl, by rw [hz.2]; exact ho⟩
/-- isinstance(e, c), e an exception that stands fast -/
def rIsX (K : PySem.W.Frag) (a : Addr) (cls : Value) (d : Option Addr) : List V → Hp → VK → Prop := fun xs H Q => ∃ (D : Addr) (c : V) (cv : Value) (b : Bool) (fs : List (Str × V)), cls = .ref D ∧ ExcC K D ∧ (PySem.W.clsIn K D).isSome = true ∧ xs = [.ref a, c] ∧ (∀ u, RelV c u → u = cv) ∧ DictX H d fs ∧ PySem.W.kitOne K (.ref D) cv = some b ∧ Q (.bl b) H
theorem call_isX (hp : (a, oe) ∈ X.pn) (hz : Zc cls d oe) (hf : ∃ vs, oe.data = .fields vs) : CallR X (.builtin "isinstance") (rIsX X.K a cls d) := by
  intro pins s σ H xs us Q I r h
  obtain ⟨D, c, cv, b, fs, rfl, C, hc, rfl, hcv, hd, e, q⟩ := h
  cases r with
  | cons rx rr =>
    cases rr with
    | cons rt rr =>
      cases rr
      cases rx
      have ec := hcv _ rt
      subst ec
      obtain ⟨od, J⟩ := inst_of I hp hz hf hd
      exact PySem.W.kia_one (PySem.W.kitx_exc hc C.hg C.hk C.hs C.ha C.hn C.ht C.hm) I.kIn J e (fun z => nomatch z) fun tk => ⟨.bl b, H, I.kept (t' := tk) fun _ _ z => z, rfl, q⟩
theorem call_isXK {K : PySem.W.Frag} (eK : X.K = K) (hp : (a, oe) ∈ X.pn) (hz : Zc cls d oe) (hf : ∃ vs, oe.data = .fields vs) : CallR X (.builtin "isinstance") (rIsX K a cls d) := eK ▸ call_isX hp hz hf
/-- e.f, e an exception that stands fast -/
def tXfX (K : PySem.W.Frag) (a : Addr) (cls : Value) (d : Option Addr) (f : Str) (te : TE) : TE := fun σ H Q => te σ H fun x H1 => x = .ref a ∧ ∃ (D dd : Addr) (fs : List (Str × V)) (v : V), cls = .ref D ∧ XfC K D ∧ PySem.W.findIn K (.ref D) f = some none ∧ d = some dd ∧ H1 dd = some (.xd fs) ∧ fs.lookup f = some v ∧ Q v H1
theorem pe_xfX {e : Expr} {te : TE} {pos : Pos} {n : Str} (hp : (a, oe) ∈ X.pn) (hz : Zc cls d oe) (hf : ∃ vs, oe.data = .fields vs) (he : PE X e te)
    (hb : attributeBase e n X.env (eval e X.env) = eval e X.env := by rfl) : PE X (.Attribute e n pos) (tXfX X.K a cls d n te) := by
  refine ⟨fun pins s σ H Q I h => ?_⟩
  refine attr_of hb (thn (he.run pins s σ H _ I h) fun u s1 ⟨x, H1, I1, rx, ex, D, dd, fs, v, ec, T, hno, ed, ea, l, q⟩ => ?_)
  subst ex ec
  obtain rfl : u = Value.ref a := rx
  subst ed
  obtain ⟨stands, _⟩ := I1.pin (a, oe) (List.mem_append_left _ hp)
  obtain ⟨ws, hv⟩ := hf
  have hx : ObjOk X.prog X.w H1 s1.heap dd (.xd fs) := I1.hok dd _ ea
  obtain ⟨mB, hns, hr⟩ := hx
  obtain ⟨od, ho, hl⟩ := lookIn_ns hns
  obtain ⟨y, hy, ry⟩ := RelO.some_of (v := v) (o := mB n) (by rw [← l]; exact hr n)
  have J : PySem.W.InstAt s1.heap a oe D (some od) := ⟨stands, hz.1, by unfold PySem.W.notCls; rw [hv] <;> rfl, by rw [hz.2]; exact ho⟩
  exact HandSPX.exc_get I1.kIn J T.ga T.gg T.exC (PySem.W.findObj_own T.hdC hno rfl (by rw [hl, hy])) (handed_of ry) ⟨v, H1, I1.tok _, ry, q⟩
/-- e.f, e an exception that is tracked -/
def tXfO (K : PySem.W.Frag) (f : Str) (te : TE) : TE := fun σ H Q => te σ H fun x H1 => ∃ (a C dd : Addr) (fs : List (Str × V)) (v : V), x = .ref a ∧ H1 a = some (exo a C (some dd)) ∧ H1 dd = some (exd dd fs) ∧ XfC K C ∧ PySem.W.findIn K (.ref C) f = some none ∧ fs.lookup f = some v ∧ Q v H1
theorem pe_xfO {e : Expr} {te : TE} {pos : Pos} {n : Str} (he : PE X e te) (hb : attributeBase e n X.env (eval e X.env) = eval e X.env := by rfl) : PE X (.Attribute e n pos) (tXfO X.K n te) := by
  refine ⟨fun pins s σ H Q I h => ?_⟩
  refine attr_of hb (thn (he.run pins s σ H _ I h) fun u s1 ⟨x, H1, I1, rx, a, C, dd, fs, v, ex, ea, ed, T, hno, l, q⟩ => ?_)
  subst ex
  obtain rfl : u = Value.ref a := rx
  obtain ⟨t1, stands⟩ := exo_at I1.hok ea
  obtain ⟨mB, hns, hr⟩ := exd_at I1.hok ed
  obtain ⟨od, ho, hl⟩ := lookIn_ns hns
  obtain ⟨y, hy, ry⟩ := RelO.some_of (v := v) (o := mB n) (by rw [← l]; exact hr n)
  have J : PySem.W.InstAt s1.heap a _ C (some od) := ⟨stands, rfl, rfl, ho⟩
  exact HandSPX.exc_get I1.kIn J T.ga T.gg T.exC (PySem.W.findObj_own T.hdC hno rfl (by rw [hl, hy])) (handed_of ry) ⟨v, H1, I1.tok _, ry, q⟩
end
/-- a def that is called with an exception that stands fast at a -/
structure FnX (P : Program) (w : World) (K : PySem.W.Frag) (mg : Str → Option Value) (base : Heap) (k : Nat) (f : Addr) (fd : FuncData) (ps : List Str) (sp : Addr → Value → Option Addr → Sp) : Prop where
  len : ∀ a cls d vs H Q E, sp a cls d vs H Q E → vs.length = ps.length
  run : ∀ (A : Around) (outer : List Env) (s : Shared) (H : Hp) (args : Args) (us : List Value) (vs : List V) (Q : VK) (E : XK) (a : Addr) (oe : Obj) (cls : Value) (d : Option Addr), L2H.RoomH k A → L2H.PinOk outer H s (a, oe) → Zc cls d oe → (∃ vs, oe.data = .fields vs) → Env0 P w K mg base A outer s H → BindsTo s fd args (ps.zip us) → Vals vs us → sp a cls d vs H Q E → codeAny (model P w) A (.call (.ref f) args) (CR CX0 outer P w H s Q E) s
structure DefX (P : Program) (w : World) (K : PySem.W.Frag) (mg : Str → Option Value) (base : Heap) (k : Nat) (x : Str) (ps : List Str) (sp : Addr → Value → Option Addr → Sp) : Prop where
  ex : ∃ (f : Addr) (fd : FuncData), mg x = some (.ref f) ∧ PySem.W.keepIn K (.ref f) = true ∧ Binds K fd ps [] ∧ FnX P w K mg base k f fd ps sp
section
variable {P : Program} {w : World} {K : PySem.W.Frag} {mg : Str → Option Value} {base : Heap}
theorem fnX_of {k : Nat} {f : Addr} {x qual : Str} {st : Stmt} {fd : FuncData} {N ps : List Str} {sp : Addr → Value → Option Addr → Sp} (F : Fun K x qual st f fd) (S : FnScope N ps (defScope st)) (len : ∀ a cls d vs H Q E, sp a cls d vs H Q E → vs.length = ps.length)
    (hbody : ∀ (cdv : Value) (A : Around) (outer : List Env) (s : Shared) (H : Hp) (vs : List V) (Q : VK) (E : XK) (a : Addr) (oe : Obj) (cls : Value) (d : Option Addr), Zc cls d oe → (∃ vs, oe.data = .fields vs) → L2H.RoomH k (A.deeper (envOfC qual (defScope st) s.heap.objs.size f cdv)) → sp a cls d vs H Q E →
      ∃ t, PSs (L2H.cxH CX0 P w K mg base N qual (defScope st) f cdv A outer s H E (a, oe)) (defBody st) t ∧ t { nx := fun _ H' => Q .non H', rt := Q } (start N vs) H) : FnX P w K mg base (k + 1) f fd ps sp := by
  obtain ⟨oc, od, kV, doc, pm, an, cdv, ct, osl, rfl, lk, hcd⟩ := F.ex
  refine ⟨len, fun A outer s H args us vs Q E a oe cls d hr hpin hz hf e0 hb r hsp => ?_⟩
  have hl := len _ _ _ _ _ _ _ hsp
  have KX : K.In s.heap := e0.mod.kin.keeps fun b o e => (e0.bs b o e).1
  have kinds : ∀ y ∈ ps.zip us, (defScope st).names.lookup y.1 = some .local ∨ ((defScope st).names.lookup y.1 = some .cell ∧ ((cellsFrom (s.heap.objs.size + 1) (defScope st).names []).lookup y.1).isSome = true) := by
    rintro ⟨n, v⟩ hy
    exact (S.par n (List.of_mem_zip hy).1).imp id fun q => ⟨q, PySem.W.cellsFrom_some _ _ _ (.inl q)⟩
  refine codeAny_call_function hr.depth (KX _ _ lk) rfl S.co S.gen rfl (PySem.W.codeRec_of KX hcd) (hb _ _ _ _ (wpAny_newFunctionEnv_cells S.kind kinds fun env he s1 x => ?_))
  subst he
  refine ⟨(e0.mod.nolimit.keeps fun b o e => (e0.bs b o e).1).keeps x.toInCall.keep, codeAny_func ?_⟩
  obtain ⟨t, ht, hq⟩ := hbody cdv A outer s H vs Q E a oe cls d hz hf (hr.deeper _) hsp
  refine wpAny_mono (ht.run [] s1 (start N vs) H _ (L2H.inv_startH S hpin e0 hl r x) hq) (fun fl s' hs => ?_) fun e s' hs => hs
  cases fl with
  | ret u => obtain ⟨v, σ', H', J, rv, q⟩ := hs; exact ⟨v, H', J.os, J.bare, J.base, J.hok, rv, q⟩
  | next => obtain ⟨σ', H', J, q⟩ := hs; exact ⟨.non, H', J.os, J.bare, J.base, J.hok, rfl, q⟩
  | brk => obtain ⟨_, _, _, q⟩ := hs; exact False.elim q
  | cont => obtain ⟨_, _, _, q⟩ := hs; exact False.elim q
theorem Here.okX {x : Str} {st : Stmt} {N ps : List Str} {k : Nat} {sp : Addr → Value → Option Addr → Sp} (h : Here K mg x st ps) (S : FnScope N ps (defScope st)) (len : ∀ a cls d vs H Q E, sp a cls d vs H Q E → vs.length = ps.length)
    (hbody : ∀ (f : Addr) (cdv : Value) (A : Around) (outer : List Env) (s : Shared) (H : Hp) (vs : List V) (Q : VK) (E : XK) (a : Addr) (oe : Obj) (cls : Value) (d : Option Addr), Zc cls d oe → (∃ vs, oe.data = .fields vs) → L2H.RoomH k (A.deeper (envOfC x (defScope st) s.heap.objs.size f cdv)) → sp a cls d vs H Q E →
      ∃ t, PSs (L2H.cxH CX0 P w K mg base N x (defScope st) f cdv A outer s H E (a, oe)) (defBody st) t ∧ t { nx := fun _ H' => Q .non H', rt := Q } (start N vs) H) : DefX P w K mg base (k + 1) x ps sp := by
  obtain ⟨f, fd, F, m, b⟩ := h.ex
  exact ⟨f, fd, m, F.kp, b, fnX_of F S len fun cdv A outer s H vs Q E a oe cls d hz hf hr q => hbody f cdv A outer s H vs Q E a oe cls d hz hf hr q⟩
end
section
variable {X : Cx} {k : Nat} {x : Str} {ps : List Str} {sp : Addr → Value → Option Addr → Sp} {e : Expr} {es : List Expr} {t : TA} {p pos : Pos} {a : Addr} {oe : Obj} {cls : Value} {d : Option Addr}
theorem pe_callX (G : DefX X.prog X.w X.K X.mg X.base k x ps sp) (hr : L2H.RoomH k X.A) (hp : (a, oe) ∈ X.pn) (hz : Zc cls d oe) (hf : ∃ vs, oe.data = .fields vs) (hg : Gl X x) (ha : PA X (e :: es) t) (hdb : (x == ("__debug__" : Str)) = false := by decide)
    (he : starEach (e :: es) X.env = (false, eval e X.env) :: starEach es X.env := by rfl) (hpl : (backTo pos (starEach es X.env)).any (·.1) = false := by rfl) : PE X (.Call (.Name x p) (e :: es) [] pos) (tCall (sp a cls d) [] E0 t) := by
  obtain ⟨f, fd, m, kp, hb, F⟩ := G.ex
  refine ⟨fun pins s σ H Q I h => wpAny_Call_Name_kw (ld_glob I hg m ?_ hdb)⟩
  refine PySem.W.callWith_K (h₀ := X.base) I.ok.mod.kin kp (thn (ha.run pos pins s σ H _ I h) fun us s1 ⟨vs, H1, I1, r, q⟩ => ⟨I1.kIn, ?_⟩) he hpl
  have r2 : Vals (vs ++ []) (us ++ []) := r.append .nil
  have hl : (us ++ []).length = ps.length := by rw [← r2.length]; exact F.len _ _ _ _ _ _ _ q
  have P1 := I1.pin (a, oe) (List.mem_append_left _ hp)
  have pin : L2H.PinOk X.stack H1 s1 (a, oe) := ⟨P1.1, P1.2.1, fun hm => (List.mem_cons.mp (I1.stkSub a hm)).elim P1.2.2.1 P1.2.2.2.1, P1.2.2.2.2⟩
  refine wpAny_call (codeAny_mono (F.run X.A X.stack s1 H1 ⟨us, []⟩ (us ++ []) (vs ++ []) Q E0 a oe cls d hr pin hz hf I1.env0 (hb s1 us I1.kIn hl) r2 q) fun r s' hq => ?_)
  cases r with
  | error e => exact pass0 (X := X) pins σ H1 s1 e s' I1 hq
  | ok fl =>
    cases fl with
    | ret u => exact I1.after hq
    | next => exact False.elim hq
    | brk => exact False.elim hq
    | cont => exact False.elim hq
end
end Ex
namespace Ex
open PySem PySem.Spec PyProof.Rows L2 Wv Bk
/-! ### the errors by number -/
structure Er where
  bt : Addr
  bn : Addr
  tm : Addr
  nk : Addr
  nl : Addr
  bu : Addr
def Er.of (e : Er) : Nat → Addr
  | 0 => e.bt | 1 => e.bn | 2 => e.tm | 3 => e.nk | 4 => e.nl | _ => e.bu
def flds (k : Nat) (va vb : V) : List (Str × V) := match k with
  | 0 => [(Str.ofString "place", vb), (Str.ofString "line", va)]
  | 1 => [(Str.ofString "name", va)]
  | 2 => [(Str.ofString "what", va)]
  | 3 => [(Str.ofString "guard", va)]
  | _ => []
def dues (k : Nat) (va vb : V) : List V := match k with
  | 0 => [va, vb] | 1 => [va] | 2 => [va] | 3 => [va] | _ => []
def sorts (k : Nat) : List V := (List.range 6).map fun j => .bl (decide (j = k))
abbrev fldOf (x : String) : Str := if x = "BadName" then Str.ofString "name" else if x = "TooMany" then Str.ofString "what" else Str.ofString "guard"
/-- an __init__ that keeps its arguments: what it leaves -/
def Kept (H : Hp) (a C : Addr) (fs : List (Str × V)) (Q : VK) : Prop := H a = some (exo a C none) ∧ ∀ (d : Addr) (H' : Hp), H' a = some (exo a C (some d)) → H' d = some (exd d fs) → H d = none → d ≠ a → (∀ b o, H b = some o → b ≠ a → H' b = some o) → Q .non H'
def spIni2 (C : Addr) : Sp := fun vs H Q _ => ∃ (a : Addr) (va vb : V), vs = [.ref a, va, vb] ∧ Kept H a C (flds 0 va vb) Q
def spIni1 (C : Addr) (n : Str) : Sp := fun vs H Q _ => ∃ (a : Addr) (va : V), vs = [.ref a, va] ∧ Kept H a C [(n, va)] Q
section
variable {P : Program} {w : World} {K : PySem.W.Frag} {mg : Str → Option Value} {base : Heap}
abbrev s_BadText_init : Stmt := inClass (top 2) 0
theorem sc_BadText_init : FnScope ["self", "line", "place"] ["self", "line", "place"] (defScope s_BadText_init) := ⟨rfl, rfl, rfl, by decide +kernel, rfl, by decide +kernel, by decide +kernel⟩
theorem ok_BadText {f C : Addr} {fd : FuncData} (F : Fun K "__init__" "BadText.__init__" s_BadText_init f fd) (T : OexC K C) (n1 : PySem.W.findIn K (.ref C) "line" = some none) (n2 : PySem.W.findIn K (.ref C) "place" = some none) : FnOk P w K mg base CX0 1 f fd ["self", "line", "place"] (spIni2 C) := by
  refine F.ok sc_BadText_init (fun vs H Q E h => by obtain ⟨_, _, _, rfl, _⟩ := h; rfl) (fun cdv A outer s H vs Q E hr h => ?_)
  obtain ⟨a, va, vb, rfl, ha, k⟩ := h
  refine ⟨_, (pss_cons (ps_ost (pv 0) (pv 1)) (pss_one (ps_ost (pv 0) (pv 2)))), ?_⟩
  refine ⟨_, rfl, _, rfl, a, C, rfl, T, n1, .inl ⟨ha, fun d hd hne => ?_⟩⟩
  have e1 : upd (upd H d (exd d [(Str.ofString "line", va)])) a (exo a C (some d)) d = some (exd d [(Str.ofString "line", va)]) := by rw [upd_ne hne]; exact upd_same
  refine ⟨_, rfl, _, rfl, a, C, rfl, T, n2, .inr ⟨d, _, upd_same, e1, by show 1 ≤ 900; decide, ?_⟩⟩
  refine k d _ (by rw [upd_ne hne.symm]; exact upd_same) upd_same hd hne fun b o e hb => ?_
  rw [upd_ne (ne_of_none e hd), upd_ne hb, upd_ne (ne_of_none e hd)]
  exact e
abbrev s_BadName_init : Stmt := inClass (top 3) 0
theorem sc_BadName_init : FnScope ["self", "name"] ["self", "name"] (defScope s_BadName_init) := ⟨rfl, rfl, rfl, by decide +kernel, rfl, by decide +kernel, by decide +kernel⟩
theorem ok_BadName {f C : Addr} {fd : FuncData} (F : Fun K "__init__" "BadName.__init__" s_BadName_init f fd) (T : OexC K C) (n1 : PySem.W.findIn K (.ref C) (fldOf "BadName") = some none) : FnOk P w K mg base CX0 1 f fd ["self", "name"] (spIni1 C (fldOf "BadName")) := by
  refine F.ok sc_BadName_init (fun vs H Q E h => by obtain ⟨_, _, rfl, _⟩ := h; rfl) (fun cdv A outer s H vs Q E hr h => ?_)
  obtain ⟨a, va, rfl, ha, k⟩ := h
  refine ⟨_, (pss_one (ps_ost (pv 0) (pv 1))), ?_⟩
  refine ⟨_, rfl, _, rfl, a, C, rfl, T, n1, .inl ⟨ha, fun d hd hne => ?_⟩⟩
  refine k d _ upd_same (by rw [upd_ne hne]; exact upd_same) hd hne fun b o e hb => ?_
  rw [upd_ne hb, upd_ne (ne_of_none e hd)]
  exact e
abbrev s_TooMany_init : Stmt := inClass (top 4) 0
theorem sc_TooMany_init : FnScope ["self", "what"] ["self", "what"] (defScope s_TooMany_init) := ⟨rfl, rfl, rfl, by decide +kernel, rfl, by decide +kernel, by decide +kernel⟩
theorem ok_TooMany {f C : Addr} {fd : FuncData} (F : Fun K "__init__" "TooMany.__init__" s_TooMany_init f fd) (T : OexC K C) (n1 : PySem.W.findIn K (.ref C) (fldOf "TooMany") = some none) : FnOk P w K mg base CX0 1 f fd ["self", "what"] (spIni1 C (fldOf "TooMany")) := by
  refine F.ok sc_TooMany_init (fun vs H Q E h => by obtain ⟨_, _, rfl, _⟩ := h; rfl) (fun cdv A outer s H vs Q E hr h => ?_)
  obtain ⟨a, va, rfl, ha, k⟩ := h
  refine ⟨_, (pss_one (ps_ost (pv 0) (pv 1))), ?_⟩
  refine ⟨_, rfl, _, rfl, a, C, rfl, T, n1, .inl ⟨ha, fun d hd hne => ?_⟩⟩
  refine k d _ upd_same (by rw [upd_ne hne]; exact upd_same) hd hne fun b o e hb => ?_
  rw [upd_ne hb, upd_ne (ne_of_none e hd)]
  exact e
abbrev s_NotKept_init : Stmt := inClass (top 5) 0
theorem sc_NotKept_init : FnScope ["self", "guard"] ["self", "guard"] (defScope s_NotKept_init) := ⟨rfl, rfl, rfl, by decide +kernel, rfl, by decide +kernel, by decide +kernel⟩
theorem ok_NotKept {f C : Addr} {fd : FuncData} (F : Fun K "__init__" "NotKept.__init__" s_NotKept_init f fd) (T : OexC K C) (n1 : PySem.W.findIn K (.ref C) (fldOf "NotKept") = some none) : FnOk P w K mg base CX0 1 f fd ["self", "guard"] (spIni1 C (fldOf "NotKept")) := by
  refine F.ok sc_NotKept_init (fun vs H Q E h => by obtain ⟨_, _, rfl, _⟩ := h; rfl) (fun cdv A outer s H vs Q E hr h => ?_)
  obtain ⟨a, va, rfl, ha, k⟩ := h
  refine ⟨_, (pss_one (ps_ost (pv 0) (pv 1))), ?_⟩
  refine ⟨_, rfl, _, rfl, a, C, rfl, T, n1, .inl ⟨ha, fun d hd hne => ?_⟩⟩
  refine k d _ upd_same (by rw [upd_ne hne]; exact upd_same) hd hne fun b o e hb => ?_
  rw [upd_ne hb, upd_ne (ne_of_none e hd)]
  exact e
theorem kept_raise {a C : Addr} {fs : List (Str × V)} {H1 : Hp} {Q : XK} (ha : H1 a = none) (k : ∀ (d : Addr) (H' : Hp), Same H1 H' → H' d = some (.xd fs) → Q (.ref C) (some d) H') :
    Kept (upd H1 a (exo a C none)) a C fs (fun v H2 => v = .non ∧ ∃ (d : Addr) (fs : List (Str × V)), H2 a = some (exo a C (some d)) ∧ H2 d = some (exd d fs) ∧ H1 d = none ∧ Q (.ref C) (some d) (upd (del H2 a) d (.xd fs))) := by
  refine ⟨upd_same, fun d H2 h1 h2 hd hne hk => ⟨rfl, d, fs, h1, h2, by rw [upd_ne hne] at hd; exact hd, ?_⟩⟩
  have hd' : H1 d = none := by rw [upd_ne hne] at hd; exact hd
  refine k d _ (fun b o e => ?_) upd_same
  rw [upd_ne (ne_of_none e hd'), del_ne (ne_of_none e ha)]
  exact hk b o (by rw [upd_ne (ne_of_none e ha)]; exact e) (ne_of_none e ha)
theorem kept_val {a C : Addr} {fs : List (Str × V)} {H1 : Hp} {Q : VK} (ha : H1 a = none) (k : ∀ (d : Addr) (H2 : Hp), Same H1 H2 → H2 a = some (exo a C (some d)) → H2 d = some (exd d fs) → Q (.ref a) H2) :
    Kept (upd H1 a (exo a C none)) a C fs (fun v H2 => v = .non ∧ Q (.ref a) H2) :=
  ⟨upd_same, fun d H2 h1 h2 _ _ hk => ⟨rfl, k d H2 (fun b o e => hk b o (by rw [upd_ne (ne_of_none e ha)]; exact e) (ne_of_none e ha)) h1 h2⟩⟩
/-- an error class without an __init__ of its own -/
structure Ex0 (K : PySem.W.Frag) (mg : Str → Option Value) (x : Str) (C : Addr) : Prop where
  ex : ∃ (bmB : List Value) (B newId initId : String), ExcBaseFacts B newId initId bmB ∧ PySem.W.excIn K C bmB newId = true
  m : mg x = some (.ref C)
  kp : PySem.W.keepIn K (.ref C) = true
  sb : PySem.W.subIn K (.ref C) (.type "BaseException") = some true
  ty : PySem.W.typeIn K (.ref C) = some (.type "type")
/-- what is known of the errors' classes -/
structure Errs (P : Program) (w : World) (K : PySem.W.Frag) (mg : Str → Option Value) (base : Heap) (e : Er) (we : Addr) : Prop where
  bt : ExOk P w K mg base 1 "BadText" e.bt ["self", "line", "place"] (spIni2 e.bt)
  bn : ExOk P w K mg base 1 "BadName" e.bn ["self", "name"] (spIni1 e.bn (Str.ofString "name"))
  tm : ExOk P w K mg base 1 "TooMany" e.tm ["self", "what"] (spIni1 e.tm (Str.ofString "what"))
  nk : ExOk P w K mg base 1 "NotKept" e.nk ["self", "guard"] (spIni1 e.nk (Str.ofString "guard"))
  nl : Ex0 K mg "NothingLeft" e.nl
  bu : Ex0 K mg "Busy" e.bu
  mw : mg "WayError" = some (.ref we)
  xc : ∀ k, k < 6 → ExcC K (e.of k)
  xk : ∀ k, k < 6 → (PySem.W.clsIn K (e.of k)).isSome = true
  no : ∀ k, k < 4 → ∀ n ∈ [Str.ofString "line", Str.ofString "place", Str.ofString "name", Str.ofString "what", Str.ofString "guard"], PySem.W.findIn K (.ref (e.of k)) n = some none
  kit : ∀ k j, k < 6 → j < 6 → PySem.W.kitOne K (.ref (e.of k)) (.ref (e.of j)) = some (decide (j = k))
  ve : ∀ k, k < 6 → PySem.W.kitOne K (.ref (e.of k)) (.type "ValueError") = some true
  exm : ∀ k, k < 6 → PySem.W.exmOne K (.ref (e.of k)) (.ref we) = some true
/-- the same four, made by names -/
def ExK (P : Program) (w : World) (K : PySem.W.Frag) (mg : Str → Option Value) (base : Heap) (x : Str) (C : Addr) (ps ks : List Str) (sp : Sp) : Prop := ∃ (fI : Addr) (fd : FuncData), OexC K C ∧ PySem.W.findIn K (.ref C) "__init__" = some (some (.ref fI)) ∧ PySem.W.typeIn K (.ref fI) = some (.type "function") ∧ mg x = some (.ref C) ∧
  KBn K fd ps 1 ks (fun us ws => us ++ ws.reverse) (fun vs zs => vs ++ zs.reverse) ∧ FnOk P w K mg base CX0 1 fI fd ps sp
structure ErrsK (P : Program) (w : World) (K : PySem.W.Frag) (mg : Str → Option Value) (base : Heap) (e : Er) : Prop where
  bt : ExK P w K mg base "BadText" e.bt ["self", "line", "place"] ["place", "line"] (spIni2 e.bt)
  bn : ExK P w K mg base "BadName" e.bn ["self", "name"] ["name"] (spIni1 e.bn (Str.ofString "name"))
  tm : ExK P w K mg base "TooMany" e.tm ["self", "what"] ["what"] (spIni1 e.tm (Str.ofString "what"))
  nk : ExK P w K mg base "NotKept" e.nk ["self", "guard"] ["guard"] (spIni1 e.nk (Str.ofString "guard"))
variable {e : Er} {we : Addr}
/-- a def that may raise -/
structure DefC (P : Program) (w : World) (K : PySem.W.Frag) (mg : Str → Option Value) (base : Heap) (k : Nat) (x : Str) (ps : List Str) (sp : Sp) : Prop where
  ex : ∃ (f : Addr) (fd : FuncData), mg x = some (.ref f) ∧ PySem.W.keepIn K (.ref f) = true ∧ Binds K fd ps [] ∧ FnOk P w K mg base (L2.CX P w) k f fd ps sp
def spRaise (e : Er) : Sp := fun vs H _ E => ∃ (k : Nat) (va vb : V), vs = [.int (k : Nat), va, vb] ∧ k < 6 ∧ ∀ (d : Option Addr) (H' : Hp), Same H H' → DictX H' d (flds k va vb) → E (.ref (e.of k)) d H'
abbrev s_l_raise : Stmt := top 12
theorem sc_l_raise : FnScope ["_law_k", "_law_a", "_law_b"] ["_law_k", "_law_a", "_law_b"] (defScope s_l_raise) := ⟨rfl, rfl, rfl, by decide +kernel, rfl, by decide +kernel, by decide +kernel⟩
theorem d_l_raise (h : Here K mg "_law_raise" s_l_raise ["_law_k", "_law_a", "_law_b"]) (G : Errs P w K mg base e we) : DefC P w K mg base 3 "_law_raise" ["_law_k", "_law_a", "_law_b"] (spRaise e) := by
  have G_BadText := G.bt; have G_BadName := G.bn; have G_TooMany := G.tm; have G_NotKept := G.nk
  obtain ⟨b4, c4, n4, i4, F4, q4⟩ := G.nl.ex
  obtain ⟨b5, c5, n5, i5, F5, q5⟩ := G.bu.ex
  obtain ⟨f, fd, F, m, b⟩ := h.ex
  refine ⟨f, fd, m, F.kp, b, ?_⟩
  refine F.okX sc_l_raise (fun vs H Q E h => by obtain ⟨_, _, _, rfl, _⟩ := h; rfl) (fun cdv A outer s H vs Q E hr h => ?_)
  obtain ⟨k, va, vb, rfl, hk, q⟩ := h
  refine ⟨_, (pss_cons (ps_if (pt_cmpR op_eq (pv 0) pe_int (nomark _)) (pss_one (ps_raise rfl (takes_of rfl rfl rfl rfl) (pmk_ex G_BadText (hr.mono (by omega)) rfl (pa_cons (pv 1) (pa_cons (pv 2) pa_nil))))) pss_nil)
    (pss_cons (ps_if (pt_cmpR op_eq (pv 0) pe_int (nomark _)) (pss_one (ps_raise rfl (takes_of rfl rfl rfl rfl) (pmk_ex G_BadName (hr.mono (by omega)) rfl (pa_cons (pv 1) pa_nil)))) pss_nil)
    (pss_cons (ps_if (pt_cmpR op_eq (pv 0) pe_int (nomark _)) (pss_one (ps_raise rfl (takes_of rfl rfl rfl rfl) (pmk_ex G_TooMany (hr.mono (by omega)) rfl (pa_cons (pv 1) pa_nil)))) pss_nil)
    (pss_cons (ps_if (pt_cmpR op_eq (pv 0) pe_int (nomark _)) (pss_one (ps_raise rfl (takes_of rfl rfl rfl rfl) (pmk_ex G_NotKept (hr.mono (by omega)) rfl (pa_cons (pv 1) pa_nil)))) pss_nil)
    (pss_cons (ps_if (pt_cmpR op_eq (pv 0) pe_int (nomark _)) (pss_one (ps_raise rfl (takes_of rfl rfl rfl rfl) (pmk_ex0 F4 q4 G.nl.m G.nl.kp (raises_own G.nl.sb G.nl.ty) rfl))) pss_nil)
    (pss_one (ps_raise rfl (takes_of rfl rfl rfl rfl) (pmk_ex0 F5 q5 G.bu.m G.bu.kp (raises_own G.bu.sb G.bu.ty) rfl)))))))), ?_⟩
  walk_at "nx"
  have six : k = 0 ∨ k = 1 ∨ k = 2 ∨ k = 3 ∨ k = 4 ∨ k = 5 := by omega
  rcases six with rfl | rfl | rfl | rfl | rfl | rfl
  · refine ⟨_, rfl, rfl, _, rfl, iteT ?_⟩
    exact ⟨_, rfl, _, rfl, by show 2 ≤ 1000; decide, fun a ha => ⟨a, va, vb, rfl, kept_raise ha fun d H' s' hd => q (some d) H' s' (.inr ⟨d, rfl, hd⟩)⟩⟩
  · refine ⟨_, rfl, rfl, _, rfl, iteF ?_⟩
    refine ⟨_, rfl, rfl, _, rfl, iteT ?_⟩
    exact ⟨_, rfl, by show 1 ≤ 1000; decide, fun a ha => ⟨a, va, rfl, kept_raise ha fun d H' s' hd => q (some d) H' s' (.inr ⟨d, rfl, hd⟩)⟩⟩
  · refine ⟨_, rfl, rfl, _, rfl, iteF ?_⟩
    refine ⟨_, rfl, rfl, _, rfl, iteF ?_⟩
    refine ⟨_, rfl, rfl, _, rfl, iteT ?_⟩
    exact ⟨_, rfl, by show 1 ≤ 1000; decide, fun a ha => ⟨a, va, rfl, kept_raise ha fun d H' s' hd => q (some d) H' s' (.inr ⟨d, rfl, hd⟩)⟩⟩
  · refine ⟨_, rfl, rfl, _, rfl, iteF ?_⟩
    refine ⟨_, rfl, rfl, _, rfl, iteF ?_⟩
    refine ⟨_, rfl, rfl, _, rfl, iteF ?_⟩
    refine ⟨_, rfl, rfl, _, rfl, iteT ?_⟩
    exact ⟨_, rfl, by show 1 ≤ 1000; decide, fun a ha => ⟨a, va, rfl, kept_raise ha fun d H' s' hd => q (some d) H' s' (.inr ⟨d, rfl, hd⟩)⟩⟩
  · refine ⟨_, rfl, rfl, _, rfl, iteF ?_⟩
    refine ⟨_, rfl, rfl, _, rfl, iteF ?_⟩
    refine ⟨_, rfl, rfl, _, rfl, iteF ?_⟩
    refine ⟨_, rfl, rfl, _, rfl, iteF ?_⟩
    refine ⟨_, rfl, rfl, _, rfl, iteT ?_⟩
    exact q none H (fun _ _ z => z) (.inl ⟨rfl, rfl⟩)
  · refine ⟨_, rfl, rfl, _, rfl, iteF ?_⟩
    refine ⟨_, rfl, rfl, _, rfl, iteF ?_⟩
    refine ⟨_, rfl, rfl, _, rfl, iteF ?_⟩
    refine ⟨_, rfl, rfl, _, rfl, iteF ?_⟩
    refine ⟨_, rfl, rfl, _, rfl, iteF ?_⟩
    exact q none H (fun _ _ z => z) (.inl ⟨rfl, rfl⟩)
def spNamed (e : Er) : Sp := fun vs H Q _ => ∃ (k : Nat) (va vb : V), vs = [.int (k : Nat), va, vb] ∧ k < 6 ∧ ∀ (a : Addr) (H' : Hp), Same H H' → (k < 4 → ∃ d, H' a = some (exo a (e.of k) (some d)) ∧ H' d = some (exd d (flds k va vb))) → Q (.ref a) H'
abbrev s_l_named : Stmt := top 13
theorem sc_l_named : FnScope ["_law_k", "_law_a", "_law_b"] ["_law_k", "_law_a", "_law_b"] (defScope s_l_named) := ⟨rfl, rfl, rfl, by decide +kernel, rfl, by decide +kernel, by decide +kernel⟩
theorem d_l_named (h : Here K mg "_law_named" s_l_named ["_law_k", "_law_a", "_law_b"]) (G : Errs P w K mg base e we) (E : ErrsK P w K mg base e) : DefOk P w K mg base 3 "_law_named" ["_law_k", "_law_a", "_law_b"] (spNamed e) := by
  obtain ⟨b4, c4, n4, i4, F4, q4⟩ := G.nl.ex
  obtain ⟨b5, c5, n5, i5, F5, q5⟩ := G.bu.ex
  obtain ⟨g0, x0, T0, iC0, tI0, m0, K0, f0⟩ := E.bt
  obtain ⟨g1, x1, T1, iC1, tI1, m1, K1, f1⟩ := E.bn
  obtain ⟨g2, x2, T2, iC2, tI2, m2, K2, f2⟩ := E.tm
  obtain ⟨g3, x3, T3, iC3, tI3, m3, K3, f3⟩ := E.nk
  refine h.ok sc_l_named (fun vs H Q E h => by obtain ⟨_, _, _, rfl, _⟩ := h; rfl) (fun f cdv A outer s H vs Q E hr h => ?_)
  obtain ⟨k, va, vb, rfl, hk, q⟩ := h
  refine ⟨_, (pss_cons (ps_if (pt_cmpR op_eq (pv 0) pe_int (nomark _)) (pss_one (ps_ret (pe_exKw T0 iC0 tI0 f0 (hr.mono (by omega)) K0 rfl m0 (pk_cons (pv 2) (pk_cons (pv 1) pk_nil))))) pss_nil)
    (pss_cons (ps_if (pt_cmpR op_eq (pv 0) pe_int (nomark _)) (pss_one (ps_ret (pe_exKw T1 iC1 tI1 f1 (hr.mono (by omega)) K1 rfl m1 (pk_cons (pv 1) pk_nil)))) pss_nil)
    (pss_cons (ps_if (pt_cmpR op_eq (pv 0) pe_int (nomark _)) (pss_one (ps_ret (pe_exKw T2 iC2 tI2 f2 (hr.mono (by omega)) K2 rfl m2 (pk_cons (pv 1) pk_nil)))) pss_nil)
    (pss_cons (ps_if (pt_cmpR op_eq (pv 0) pe_int (nomark _)) (pss_one (ps_ret (pe_exKw T3 iC3 tI3 f3 (hr.mono (by omega)) K3 rfl m3 (pk_cons (pv 1) pk_nil)))) pss_nil)
    (pss_one (ps_ret (pe_ifExp (pt_cmpR op_eq (pv 0) pe_int (nomark _)) (pe_ex0 F4 q4 G.nl.m G.nl.kp rfl) (pe_ex0 F5 q5 G.bu.m G.bu.kp rfl)))))))), ?_⟩
  walk_at "nx"
  have six : k = 0 ∨ k = 1 ∨ k = 2 ∨ k = 3 ∨ k = 4 ∨ k = 5 := by omega
  rcases six with rfl | rfl | rfl | rfl | rfl | rfl
  · refine ⟨_, rfl, rfl, _, rfl, iteT ?_⟩
    walk_at "nx"
    exact ⟨_, rfl, _, rfl, rfl, fun a ha => ⟨a, va, vb, rfl, kept_val ha fun d H' s' h1 h2 => q a H' s' fun _ => ⟨d, h1, h2⟩⟩⟩
  · refine ⟨_, rfl, rfl, _, rfl, iteF ?_⟩
    refine ⟨_, rfl, rfl, _, rfl, iteT ?_⟩
    walk_at "nx"
    exact ⟨_, rfl, rfl, fun a ha => ⟨a, va, rfl, kept_val ha fun d H' s' h1 h2 => q a H' s' fun _ => ⟨d, h1, h2⟩⟩⟩
  · refine ⟨_, rfl, rfl, _, rfl, iteF ?_⟩
    refine ⟨_, rfl, rfl, _, rfl, iteF ?_⟩
    refine ⟨_, rfl, rfl, _, rfl, iteT ?_⟩
    walk_at "nx"
    exact ⟨_, rfl, rfl, fun a ha => ⟨a, va, rfl, kept_val ha fun d H' s' h1 h2 => q a H' s' fun _ => ⟨d, h1, h2⟩⟩⟩
  · refine ⟨_, rfl, rfl, _, rfl, iteF ?_⟩
    refine ⟨_, rfl, rfl, _, rfl, iteF ?_⟩
    refine ⟨_, rfl, rfl, _, rfl, iteF ?_⟩
    refine ⟨_, rfl, rfl, _, rfl, iteT ?_⟩
    walk_at "nx"
    exact ⟨_, rfl, rfl, fun a ha => ⟨a, va, rfl, kept_val ha fun d H' s' h1 h2 => q a H' s' fun _ => ⟨d, h1, h2⟩⟩⟩
  · refine ⟨_, rfl, rfl, _, rfl, iteF ?_⟩
    refine ⟨_, rfl, rfl, _, rfl, iteF ?_⟩
    refine ⟨_, rfl, rfl, _, rfl, iteF ?_⟩
    refine ⟨_, rfl, rfl, _, rfl, iteF ?_⟩
    walk_at "nx"
    refine ⟨_, rfl, rfl, _, rfl, iteT ?_⟩
    exact fun a => q a H (fun _ _ z => z) fun z => absurd z (by omega)
  · refine ⟨_, rfl, rfl, _, rfl, iteF ?_⟩
    refine ⟨_, rfl, rfl, _, rfl, iteF ?_⟩
    refine ⟨_, rfl, rfl, _, rfl, iteF ?_⟩
    refine ⟨_, rfl, rfl, _, rfl, iteF ?_⟩
    walk_at "nx"
    refine ⟨_, rfl, rfl, _, rfl, iteF ?_⟩
    exact fun a => q a H (fun _ _ z => z) fun z => absurd z (by omega)
theorem DictX.same {H H' : Hp} {d : Option Addr} {fs : List (Str × V)} (s : Same H H') (h : DictX H d fs) : DictX H' d fs := h.imp id fun ⟨b, e, hb⟩ => ⟨b, e, s _ _ hb⟩
def spKinds (e : Er) : Addr → Value → Option Addr → Sp := fun a cls d vs H Q _ => ∃ (k : Nat) (fs : List (Str × V)), vs = [.ref a] ∧ k < 6 ∧ cls = .ref (e.of k) ∧ DictX H d fs ∧ ∀ (q : Addr) (H' : Hp), Same H H' → H' q = some (.lst (sorts k)) → Q (.ref q) H'
abbrev s_l_kinds : Stmt := top 14
theorem sc_l_kinds : FnScope ["_law_e", "_law_found"] ["_law_e"] (defScope s_l_kinds) := ⟨rfl, rfl, rfl, by decide +kernel, rfl, by decide +kernel, by decide +kernel⟩
theorem d_l_kinds (h : Here K mg "_law_kinds" s_l_kinds ["_law_e"]) (G : Errs P w K mg base e we) (B_isinstance : mg "isinstance" = none) (m0 : mg "BadText" = some (.ref e.bt)) (m1 : mg "BadName" = some (.ref e.bn)) (m2 : mg "TooMany" = some (.ref e.tm)) (m3 : mg "NotKept" = some (.ref e.nk)) : DefX P w K mg base 1 "_law_kinds" ["_law_e"] (spKinds e) := by
  have GK_BadText := m0; have GK_BadName := m1; have GK_TooMany := m2; have GK_NotKept := m3; have GK_NothingLeft := G.nl.m; have GK_Busy := G.bu.m
  refine Ex.Here.okX h sc_l_kinds (fun a cls d vs H Q E h => by obtain ⟨_, _, rfl, _⟩ := h; rfl) (fun f cdv A outer s H vs Q E a oe cls d hz hf hr h => ?_)
  obtain ⟨k, fs, rfl, hk, hc, hd, q⟩ := h
  have ISX := call_isX (X := L2H.cxH CX0 P w K mg base ["_law_e", "_law_found"] "_law_kinds" (defScope s_l_kinds) f cdv A outer s H E (a, oe)) (a := a) (oe := oe) (List.mem_cons_self) hz hf
  refine ⟨_, (pss_cons (ps_set (i := 1) sc_l_kinds.nd rfl (Or.inl rfl) (pe_lst (pa_cons (pe_callB ISX rfl B_isinstance (by decide +kernel) (pa_cons (pv 0) (pa_cons (pe_globC rfl GK_BadText) pa_nil))) (pa_cons (pe_callB ISX rfl B_isinstance (by decide +kernel) (pa_cons (pv 0) (pa_cons (pe_globC rfl GK_BadName) pa_nil))) (pa_cons (pe_callB ISX rfl B_isinstance (by decide +kernel) (pa_cons (pv 0) (pa_cons (pe_globC rfl GK_TooMany) pa_nil))) pa_nil)))))
    (pss_one (ps_ret (pe_op op_cat (pv 1) (pe_lst (pa_cons (pe_callB ISX rfl B_isinstance (by decide +kernel) (pa_cons (pv 0) (pa_cons (pe_globC rfl GK_NotKept) pa_nil))) (pa_cons (pe_callB ISX rfl B_isinstance (by decide +kernel) (pa_cons (pv 0) (pa_cons (pe_globC rfl GK_NothingLeft) pa_nil))) (pa_cons (pe_callB ISX rfl B_isinstance (by decide +kernel) (pa_cons (pv 0) (pa_cons (pe_globC rfl GK_Busy) pa_nil))) pa_nil)))))))), ?_⟩
  refine ⟨_, rfl, e.of k, .ref e.bt, .ref e.bt, decide (0 = k), fs, hc, G.xc k hk, G.xk k hk, rfl, fun _ r => r, hd, G.kit k 0 hk (by decide), ?_⟩
  refine ⟨_, rfl, e.of k, .ref e.bn, .ref e.bn, decide (1 = k), fs, hc, G.xc k hk, G.xk k hk, rfl, fun _ r => r, hd, G.kit k 1 hk (by decide), ?_⟩
  refine ⟨_, rfl, e.of k, .ref e.tm, .ref e.tm, decide (2 = k), fs, hc, G.xc k hk, G.xk k hk, rfl, fun _ r => r, hd, G.kit k 2 hk (by decide), ?_⟩
  refine ⟨by show 3 ≤ sizeLine; decide, fun q1 hq1 => ?_⟩
  have s1 := Same.new hq1 (.lst [.bl (decide (0 = k)), .bl (decide (1 = k)), .bl (decide (2 = k))])
  have h1 : upd H q1 (.lst [.bl (decide (0 = k)), .bl (decide (1 = k)), .bl (decide (2 = k))]) q1 = some (.lst [.bl (decide (0 = k)), .bl (decide (1 = k)), .bl (decide (2 = k))]) := upd_same
  generalize upd H q1 (.lst [.bl (decide (0 = k)), .bl (decide (1 = k)), .bl (decide (2 = k))]) = H1 at *
  have hd1 := DictX.same s1 hd
  walk_at "nx"
  refine ⟨_, rfl, ?_⟩
  refine ⟨_, rfl, e.of k, .ref e.nk, .ref e.nk, decide (3 = k), fs, hc, G.xc k hk, G.xk k hk, rfl, fun _ r => r, hd1, G.kit k 3 hk (by decide), ?_⟩
  refine ⟨_, rfl, e.of k, .ref e.nl, .ref e.nl, decide (4 = k), fs, hc, G.xc k hk, G.xk k hk, rfl, fun _ r => r, hd1, G.kit k 4 hk (by decide), ?_⟩
  refine ⟨_, rfl, e.of k, .ref e.bu, .ref e.bu, decide (5 = k), fs, hc, G.xc k hk, G.xk k hk, rfl, fun _ r => r, hd1, G.kit k 5 hk (by decide), ?_⟩
  refine ⟨by show 3 ≤ sizeLine; decide, fun q2 hq2 => ?_⟩
  have s2 := s1.trans (Same.new hq2 (.lst [.bl (decide (3 = k)), .bl (decide (4 = k)), .bl (decide (5 = k))]))
  have h2 := Same.new hq2 (.lst [.bl (decide (3 = k)), .bl (decide (4 = k)), .bl (decide (5 = k))]) _ _ h1
  refine ⟨q1, q2, _, _, rfl, rfl, h2, upd_same, by show 6 ≤ sizeLine; decide, fun q3 hq3 => ?_⟩
  exact q q3 _ (s2.trans (Same.new hq3 _)) upd_same
theorem xf_of {D : Addr} (c : ExcC K D) : XfC K D := ⟨c.hg, c.hk, c.hs, c.hd⟩
theorem dict_some {H : Hp} {d : Option Addr} {p : Str × V} {fs : List (Str × V)} (h : DictX H d (p :: fs)) : ∃ b, d = some b ∧ H b = some (.xd (p :: fs)) := by
  rcases h with ⟨_, h⟩ | h
  · cases h
  · exact h
def spFieldsX (e : Er) : Addr → Value → Option Addr → Sp := fun a cls d vs H Q _ => ∃ (k : Nat) (va vb : V), vs = [.int (k : Nat), .ref a] ∧ k < 6 ∧ cls = .ref (e.of k) ∧ DictX H d (flds k va vb) ∧ ∀ (q : Addr) (H' : Hp), Same H H' → H' q = some (.lst (dues k va vb)) → Q (.ref q) H'
abbrev s_l_fields : Stmt := top 15
theorem sc_l_fields : FnScope ["_law_k", "_law_e"] ["_law_k", "_law_e"] (defScope s_l_fields) := ⟨rfl, rfl, rfl, by decide +kernel, rfl, by decide +kernel, by decide +kernel⟩
theorem d_l_fieldsX (h : Here K mg "_law_fields" s_l_fields ["_law_k", "_law_e"]) (G : Errs P w K mg base e we) : DefX P w K mg base 1 "_law_fields" ["_law_k", "_law_e"] (spFieldsX e) := by
  refine Ex.Here.okX h sc_l_fields (fun a cls d vs H Q E h => by obtain ⟨_, _, _, rfl, _⟩ := h; rfl) (fun f cdv A outer s H vs Q E a oe cls d hz hf hr h => ?_)
  obtain ⟨k, va, vb, rfl, hk, hc, hd, q⟩ := h
  refine ⟨_, (pss_cons (ps_if (pt_cmpR op_eq (pv 0) pe_int (nomark _)) (pss_one (ps_ret (pe_lst (pa_cons (pe_xfX (List.mem_cons_self) hz hf (pv 1)) (pa_cons (pe_xfX (List.mem_cons_self) hz hf (pv 1)) pa_nil))))) pss_nil)
    (pss_cons (ps_if (pt_cmpR op_in_seq (pv 0) (pe_lst (pa_cons pe_int (pa_cons pe_int pa_nil))) (by rfl)) (pss_one (ps_ret (pe_lst (pa_cons (pe_ifExp (pt_cmpR op_eq (pv 0) pe_int (nomark _)) (pe_xfX (List.mem_cons_self) hz hf (pv 1)) (pe_xfX (List.mem_cons_self) hz hf (pv 1))) pa_nil)))) pss_nil)
    (pss_one (ps_ret (pe_ifExp (pt_cmpR op_eq (pv 0) pe_int (nomark _)) (pe_lst (pa_cons (pe_xfX (List.mem_cons_self) hz hf (pv 1)) pa_nil)) (pe_lst pa_nil)))))), ?_⟩
  walk_at "nx"
  have six : k = 0 ∨ k = 1 ∨ k = 2 ∨ k = 3 ∨ k = 4 ∨ k = 5 := by omega
  rcases six with rfl | rfl | rfl | rfl | rfl | rfl
  · refine ⟨_, rfl, rfl, _, rfl, iteT ?_⟩
    walk_at "nx"
    obtain ⟨dd, rfl, hdd⟩ := dict_some hd
    refine ⟨_, rfl, rfl, e.of 0, dd, flds 0 va vb, va, hc, xf_of (G.xc 0 (by decide)), G.no 0 (by decide) _ (by simp), rfl, hdd, rfl, ?_⟩
    refine ⟨_, rfl, rfl, e.of 0, dd, flds 0 va vb, vb, hc, xf_of (G.xc 0 (by decide)), G.no 0 (by decide) _ (by simp), rfl, hdd, rfl, by show 2 ≤ sizeLine; decide, fun q1 hq1 => ?_⟩
    exact q q1 _ (Same.new hq1 _) upd_same
  · refine ⟨_, rfl, rfl, _, rfl, iteF ?_⟩
    walk_at "nx"
    refine ⟨_, rfl, by show 2 ≤ sizeLine; decide, fun q0 hq0 => ?_⟩
    have s1 := Same.new hq0 (.lst [.int 1, .int 2])
    refine ⟨q0, _, rfl, .inl (SqL.of upd_same), rfl, by decide, ?_⟩
    generalize upd H q0 (.lst [.int 1, .int 2]) = H1 at *
    refine ⟨_, rfl, iteT ?_⟩
    walk_at "nx"
    refine ⟨_, rfl, rfl, _, rfl, iteT ?_⟩
    obtain ⟨dd, rfl, hdd⟩ := dict_some hd
    refine ⟨_, rfl, rfl, e.of 1, dd, flds 1 va vb, va, hc, xf_of (G.xc 1 (by decide)), G.no 1 (by decide) _ (by simp), rfl, (s1 _ _ hdd), rfl, by show 1 ≤ sizeLine; decide, fun q1 hq1 => ?_⟩
    exact q q1 _ (s1.trans (Same.new hq1 _)) upd_same
  · refine ⟨_, rfl, rfl, _, rfl, iteF ?_⟩
    walk_at "nx"
    refine ⟨_, rfl, by show 2 ≤ sizeLine; decide, fun q0 hq0 => ?_⟩
    have s1 := Same.new hq0 (.lst [.int 1, .int 2])
    refine ⟨q0, _, rfl, .inl (SqL.of upd_same), rfl, by decide, ?_⟩
    generalize upd H q0 (.lst [.int 1, .int 2]) = H1 at *
    refine ⟨_, rfl, iteT ?_⟩
    walk_at "nx"
    refine ⟨_, rfl, rfl, _, rfl, iteF ?_⟩
    obtain ⟨dd, rfl, hdd⟩ := dict_some hd
    refine ⟨_, rfl, rfl, e.of 2, dd, flds 2 va vb, va, hc, xf_of (G.xc 2 (by decide)), G.no 2 (by decide) _ (by simp), rfl, (s1 _ _ hdd), rfl, by show 1 ≤ sizeLine; decide, fun q1 hq1 => ?_⟩
    exact q q1 _ (s1.trans (Same.new hq1 _)) upd_same
  · refine ⟨_, rfl, rfl, _, rfl, iteF ?_⟩
    walk_at "nx"
    refine ⟨_, rfl, by show 2 ≤ sizeLine; decide, fun q0 hq0 => ?_⟩
    have s1 := Same.new hq0 (.lst [.int 1, .int 2])
    refine ⟨q0, _, rfl, .inl (SqL.of upd_same), rfl, by decide, ?_⟩
    generalize upd H q0 (.lst [.int 1, .int 2]) = H1 at *
    refine ⟨_, rfl, iteF ?_⟩
    walk_at "nx"
    refine ⟨_, rfl, rfl, _, rfl, iteT ?_⟩
    obtain ⟨dd, rfl, hdd⟩ := dict_some hd
    refine ⟨_, rfl, rfl, e.of 3, dd, flds 3 va vb, va, hc, xf_of (G.xc 3 (by decide)), G.no 3 (by decide) _ (by simp), rfl, (s1 _ _ hdd), rfl, by show 1 ≤ sizeLine; decide, fun q1 hq1 => ?_⟩
    exact q q1 _ (s1.trans (Same.new hq1 _)) upd_same
  · refine ⟨_, rfl, rfl, _, rfl, iteF ?_⟩
    walk_at "nx"
    refine ⟨_, rfl, by show 2 ≤ sizeLine; decide, fun q0 hq0 => ?_⟩
    have s1 := Same.new hq0 (.lst [.int 1, .int 2])
    refine ⟨q0, _, rfl, .inl (SqL.of upd_same), rfl, by decide, ?_⟩
    generalize upd H q0 (.lst [.int 1, .int 2]) = H1 at *
    refine ⟨_, rfl, iteF ?_⟩
    walk_at "nx"
    refine ⟨_, rfl, rfl, _, rfl, iteF ?_⟩
    refine ⟨Nat.zero_le _, fun q1 hq1 => ?_⟩
    exact q q1 _ (s1.trans (Same.new hq1 _)) upd_same
  · refine ⟨_, rfl, rfl, _, rfl, iteF ?_⟩
    walk_at "nx"
    refine ⟨_, rfl, by show 2 ≤ sizeLine; decide, fun q0 hq0 => ?_⟩
    have s1 := Same.new hq0 (.lst [.int 1, .int 2])
    refine ⟨q0, _, rfl, .inl (SqL.of upd_same), rfl, by decide, ?_⟩
    generalize upd H q0 (.lst [.int 1, .int 2]) = H1 at *
    refine ⟨_, rfl, iteF ?_⟩
    walk_at "nx"
    refine ⟨_, rfl, rfl, _, rfl, iteF ?_⟩
    refine ⟨Nat.zero_le _, fun q1 hq1 => ?_⟩
    exact q q1 _ (s1.trans (Same.new hq1 _)) upd_same
def spFieldsO (e : Er) : Sp := fun vs H Q _ => ∃ (k : Nat) (va vb : V) (a : Addr), vs = [.int (k : Nat), .ref a] ∧ k < 6 ∧ (k < 4 → ∃ d, H a = some (exo a (e.of k) (some d)) ∧ H d = some (exd d (flds k va vb))) ∧ ∀ (q : Addr) (H' : Hp), Same H H' → H' q = some (.lst (dues k va vb)) → Q (.ref q) H'
theorem d_l_fieldsO (h : Here K mg "_law_fields" s_l_fields ["_law_k", "_law_e"]) (G : Errs P w K mg base e we) : DefOk P w K mg base 1 "_law_fields" ["_law_k", "_law_e"] (spFieldsO e) := by
  refine h.ok sc_l_fields (fun vs H Q E h => by obtain ⟨_, _, _, _, rfl, _⟩ := h; rfl) (fun f cdv A outer s H vs Q E hr h => ?_)
  obtain ⟨k, va, vb, a, rfl, hk, hd, q⟩ := h
  refine ⟨_, (pss_cons (ps_if (pt_cmpR op_eq (pv 0) pe_int (nomark _)) (pss_one (ps_ret (pe_lst (pa_cons (pe_xfO (pv 1)) (pa_cons (pe_xfO (pv 1)) pa_nil))))) pss_nil)
    (pss_cons (ps_if (pt_cmpR op_in_seq (pv 0) (pe_lst (pa_cons pe_int (pa_cons pe_int pa_nil))) (by rfl)) (pss_one (ps_ret (pe_lst (pa_cons (pe_ifExp (pt_cmpR op_eq (pv 0) pe_int (nomark _)) (pe_xfO (pv 1)) (pe_xfO (pv 1))) pa_nil)))) pss_nil)
    (pss_one (ps_ret (pe_ifExp (pt_cmpR op_eq (pv 0) pe_int (nomark _)) (pe_lst (pa_cons (pe_xfO (pv 1)) pa_nil)) (pe_lst pa_nil)))))), ?_⟩
  walk_at "nx"
  have six : k = 0 ∨ k = 1 ∨ k = 2 ∨ k = 3 ∨ k = 4 ∨ k = 5 := by omega
  rcases six with rfl | rfl | rfl | rfl | rfl | rfl
  · refine ⟨_, rfl, rfl, _, rfl, iteT ?_⟩
    walk_at "nx"
    obtain ⟨dd, ha, hdd⟩ := hd (by decide)
    refine ⟨_, rfl, a, e.of 0, dd, flds 0 va vb, va, rfl, ha, hdd, xf_of (G.xc 0 (by decide)), G.no 0 (by decide) _ (by simp), rfl, ?_⟩
    refine ⟨_, rfl, a, e.of 0, dd, flds 0 va vb, vb, rfl, ha, hdd, xf_of (G.xc 0 (by decide)), G.no 0 (by decide) _ (by simp), rfl, by show 2 ≤ sizeLine; decide, fun q1 hq1 => ?_⟩
    exact q q1 _ (Same.new hq1 _) upd_same
  · refine ⟨_, rfl, rfl, _, rfl, iteF ?_⟩
    walk_at "nx"
    refine ⟨_, rfl, by show 2 ≤ sizeLine; decide, fun q0 hq0 => ?_⟩
    have s1 := Same.new hq0 (.lst [.int 1, .int 2])
    refine ⟨q0, _, rfl, .inl (SqL.of upd_same), rfl, by decide, ?_⟩
    generalize upd H q0 (.lst [.int 1, .int 2]) = H1 at *
    refine ⟨_, rfl, iteT ?_⟩
    walk_at "nx"
    refine ⟨_, rfl, rfl, _, rfl, iteT ?_⟩
    obtain ⟨dd, ha, hdd⟩ := hd (by decide)
    refine ⟨_, rfl, a, e.of 1, dd, flds 1 va vb, va, rfl, (s1 _ _ ha), (s1 _ _ hdd), xf_of (G.xc 1 (by decide)), G.no 1 (by decide) _ (by simp), rfl, by show 1 ≤ sizeLine; decide, fun q1 hq1 => ?_⟩
    exact q q1 _ (s1.trans (Same.new hq1 _)) upd_same
  · refine ⟨_, rfl, rfl, _, rfl, iteF ?_⟩
    walk_at "nx"
    refine ⟨_, rfl, by show 2 ≤ sizeLine; decide, fun q0 hq0 => ?_⟩
    have s1 := Same.new hq0 (.lst [.int 1, .int 2])
    refine ⟨q0, _, rfl, .inl (SqL.of upd_same), rfl, by decide, ?_⟩
    generalize upd H q0 (.lst [.int 1, .int 2]) = H1 at *
    refine ⟨_, rfl, iteT ?_⟩
    walk_at "nx"
    refine ⟨_, rfl, rfl, _, rfl, iteF ?_⟩
    obtain ⟨dd, ha, hdd⟩ := hd (by decide)
    refine ⟨_, rfl, a, e.of 2, dd, flds 2 va vb, va, rfl, (s1 _ _ ha), (s1 _ _ hdd), xf_of (G.xc 2 (by decide)), G.no 2 (by decide) _ (by simp), rfl, by show 1 ≤ sizeLine; decide, fun q1 hq1 => ?_⟩
    exact q q1 _ (s1.trans (Same.new hq1 _)) upd_same
  · refine ⟨_, rfl, rfl, _, rfl, iteF ?_⟩
    walk_at "nx"
    refine ⟨_, rfl, by show 2 ≤ sizeLine; decide, fun q0 hq0 => ?_⟩
    have s1 := Same.new hq0 (.lst [.int 1, .int 2])
    refine ⟨q0, _, rfl, .inl (SqL.of upd_same), rfl, by decide, ?_⟩
    generalize upd H q0 (.lst [.int 1, .int 2]) = H1 at *
    refine ⟨_, rfl, iteF ?_⟩
    walk_at "nx"
    refine ⟨_, rfl, rfl, _, rfl, iteT ?_⟩
    obtain ⟨dd, ha, hdd⟩ := hd (by decide)
    refine ⟨_, rfl, a, e.of 3, dd, flds 3 va vb, va, rfl, (s1 _ _ ha), (s1 _ _ hdd), xf_of (G.xc 3 (by decide)), G.no 3 (by decide) _ (by simp), rfl, by show 1 ≤ sizeLine; decide, fun q1 hq1 => ?_⟩
    exact q q1 _ (s1.trans (Same.new hq1 _)) upd_same
  · refine ⟨_, rfl, rfl, _, rfl, iteF ?_⟩
    walk_at "nx"
    refine ⟨_, rfl, by show 2 ≤ sizeLine; decide, fun q0 hq0 => ?_⟩
    have s1 := Same.new hq0 (.lst [.int 1, .int 2])
    refine ⟨q0, _, rfl, .inl (SqL.of upd_same), rfl, by decide, ?_⟩
    generalize upd H q0 (.lst [.int 1, .int 2]) = H1 at *
    refine ⟨_, rfl, iteF ?_⟩
    walk_at "nx"
    refine ⟨_, rfl, rfl, _, rfl, iteF ?_⟩
    refine ⟨Nat.zero_le _, fun q1 hq1 => ?_⟩
    exact q q1 _ (s1.trans (Same.new hq1 _)) upd_same
  · refine ⟨_, rfl, rfl, _, rfl, iteF ?_⟩
    walk_at "nx"
    refine ⟨_, rfl, by show 2 ≤ sizeLine; decide, fun q0 hq0 => ?_⟩
    have s1 := Same.new hq0 (.lst [.int 1, .int 2])
    refine ⟨q0, _, rfl, .inl (SqL.of upd_same), rfl, by decide, ?_⟩
    generalize upd H q0 (.lst [.int 1, .int 2]) = H1 at *
    refine ⟨_, rfl, iteF ?_⟩
    walk_at "nx"
    refine ⟨_, rfl, rfl, _, rfl, iteF ?_⟩
    refine ⟨Nat.zero_le _, fun q1 hq1 => ?_⟩
    exact q q1 _ (s1.trans (Same.new hq1 _)) upd_same
def spCaught : Sp := fun vs H Q _ => ∃ (k : Nat) (va vb : V), vs = [.int (k : Nat), va, vb] ∧ k < 6 ∧ ∀ (q q1 q2 : Addr) (H' : Hp), Same H H' → H' q = some (.lst [.ref q1, .ref q2, .bl true]) → H' q1 = some (.lst (sorts k)) → H' q2 = some (.lst (dues k va vb)) → Q (.ref q) H'
abbrev s_l_caught : Stmt := top 16
theorem sc_l_caught : FnScope ["_law_k", "_law_a", "_law_b", "_law_e"] ["_law_k", "_law_a", "_law_b"] (defScope s_l_caught) := ⟨rfl, rfl, rfl, by decide +kernel, rfl, by decide +kernel, by decide +kernel⟩
theorem d_l_caught (h : Here K mg "_law_caught" s_l_caught ["_law_k", "_law_a", "_law_b"]) (G : Errs P w K mg base e we) (B_isinstance : mg "isinstance" = none) (B_ValueError : mg "ValueError" = none) (G_raise : DefC P w K mg base 3 "_law_raise" ["_law_k", "_law_a", "_law_b"] (spRaise e))
    (G_kinds : DefX P w K mg base 1 "_law_kinds" ["_law_e"] (spKinds e)) (G_fields : DefX P w K mg base 1 "_law_fields" ["_law_k", "_law_e"] (spFieldsX e)) : DefOk P w K mg base 4 "_law_caught" ["_law_k", "_law_a", "_law_b"] spCaught := by
  have GK_WayError := G.mw
  obtain ⟨fr, dr, mr, kr, br, Fr⟩ := G_raise.ex
  refine h.ok sc_l_caught (fun vs H Q E h => by obtain ⟨_, _, _, rfl, _⟩ := h; rfl) (fun f cdv A outer s H vs Q E hr h => ?_)
  obtain ⟨k, va, vb, rfl, hk, q⟩ := h
  refine ⟨_, (pss_cons (ps_try_as rfl rfl sc_l_caught.nd (i := 3) rfl rfl ⟨rfl, by decide, .inl GK_WayError⟩ takes0 (fun W pn xe tk po => (pss_one (ps_expr (pe_callS Fr (hr.mono (by omega)) rfl mr kr br (fun σ => passAt tk σ) (pa_cons (pv 0) (pa_cons (pv 1) (pa_cons (pv 2) pa_nil)))))))
     (fun a oe cls d pn hz hf => (pss_one (ps_ret (pe_lst (pa_cons (pe_callX G_kinds (L2H.roomH_mark (hr.mono (by omega)) _) List.mem_cons_self hz hf rfl (pa_cons (pv 3) pa_nil))
       (pa_cons (pe_callX G_fields (L2H.roomH_mark (hr.mono (by omega)) _) List.mem_cons_self hz hf rfl (pa_cons (pv 0) (pa_cons (pv 3) pa_nil)))
       (pa_cons (pe_callB (call_isXK (K := K) rfl List.mem_cons_self hz hf) rfl B_isinstance (by decide +kernel) (pa_cons (pv 3) (pa_cons (pe_bltn (v := V.ty "ValueError") rfl B_ValueError (by decide +kernel) rfl) pa_nil))) pa_nil))))))))
    (pss_one (ps_ret (pe_lst pa_nil)))), ?_⟩
  walk_at "nx"
  refine ⟨_, rfl, _, rfl, _, rfl, k, va, vb, rfl, hk, fun d H1 s1 hd => ?_⟩
  refine ⟨true, G.exm k hk, fun _ a ha => ?_, fun z => nomatch z⟩
  refine ⟨_, rfl, k, _, rfl, hk, rfl, hd, fun q1 H2 s2 h2 => ?_⟩
  refine ⟨_, rfl, _, rfl, k, va, vb, rfl, hk, rfl, DictX.same s2 hd, fun q2 H3 s3 h3 => ?_⟩
  refine ⟨_, rfl, e.of k, .ty "ValueError", .type "ValueError", true, _, rfl, G.xc k hk, G.xk k hk, rfl, fun _ r => r, DictX.same (s2.trans s3) hd, G.ve k hk, ?_⟩
  refine ⟨by show 3 ≤ sizeLine; decide, fun q3 hq3 => ?_⟩
  exact q q3 q1 q2 _ ((s1.trans (s2.trans s3)).trans (Same.new hq3 _)) upd_same (Same.new hq3 _ _ _ (s3 _ _ h2)) (Same.new hq3 _ _ _ h3)
end
end Ex
namespace Ex
open PySem PySem.Spec PyProof.Rows L2 Wv Bk
/-! ### the law -/
/-- one of the fields that the law tries -/
def VaAt (H : Hp) (v : V) : Prop := (∃ n : Int, v = .int n) ∨ v = .str (Str.ofString "parts") ∨ ∃ t : Addr, v = .ref t ∧ H t = some (.tup [.str (Str.ofString "look"), .str (Str.ofString "a"), .int 3])
theorem VaAt.keep {H H' : Hp} {v : V} (k : Keep H H') (h : VaAt H v) : VaAt H' v := by
  rcases h with h | h | ⟨t, e, h⟩
  · exact .inl h
  · exact .inr (.inl h)
  · exact .inr (.inr ⟨t, e, k.tup h⟩)
/-- data that may be compared -/
def Good (d : PyData) : Prop := d.canLay0 = true ∧ d.depth ≤ 2
theorem good_int (i : Int) : Good (.int i) := ⟨by simp [PyData.canLay0], by simp [PyData.depth]⟩
theorem good_bool (b : Bool) : Good (.bool b) := ⟨by simp [PyData.canLay0], by simp [PyData.depth]⟩
theorem VaAt.dp {K : PySem.W.Frag} {H : Hp} {v : V} (h : VaAt H v) : ∃ d, Dp K H v d ∧ Good d := by
  rcases h with ⟨n, rfl⟩ | rfl | ⟨t, rfl, ht⟩
  · exact ⟨_, .int n, good_int n⟩
  · exact ⟨_, .str _, by decide +kernel, by simp [PyData.depth]⟩
  · exact ⟨.tuple [.str (Str.ofString "look"), .str (Str.ofString "a"), .int 3], .tup (SqT.of ht) (.cons (.str _) (.cons (.str _) (.cons (.int _) .nil))), by decide +kernel, by decide +kernel⟩
def Goods : List PyData → Prop
  | [] => True
  | d :: ds => Good d ∧ Goods ds
theorem goods_ok : ∀ ds : List PyData, Goods ds → PyData.canLayAll0 ds = true ∧ PyData.depthAll ds ≤ 2
  | [], _ => ⟨by simp [PyData.canLayAll0], by simp [PyData.depthAll]⟩
  | d :: ds, ⟨⟨h1, h2⟩, h⟩ => by
    obtain ⟨g1, g2⟩ := goods_ok ds h
    refine ⟨?_, ?_⟩
    · rw [PyData.canLayAll0, h1, g1]; rfl
    · rw [PyData.depthAll]; omega
theorem goods_bools : ∀ bs : List Bool, Goods (bs.map PyData.bool)
  | [] => True.intro
  | b :: r => ⟨good_bool b, goods_bools r⟩
theorem dp_bools {K : PySem.W.Frag} {H : Hp} : ∀ bs : List Bool, DpAll K H (bs.map V.bl) (bs.map PyData.bool)
  | [] => .nil
  | b :: r => .cons (.bl b) (dp_bools r)
def dueD (k : Nat) (da db : PyData) : List PyData := match k with
  | 0 => [da, db] | 1 => [da] | 2 => [da] | 3 => [da] | _ => []
theorem dues_dp {K : PySem.W.Frag} {H : Hp} {va vb : V} {da db : PyData} (ha : Dp K H va da) (hb : Dp K H vb db) : ∀ k : Nat, DpAll K H (dues k va vb) (dueD k da db)
  | 0 => .cons ha (.cons hb .nil)
  | 1 => .cons ha .nil
  | 2 => .cons ha .nil
  | 3 => .cons ha .nil
  | _ + 4 => .nil
theorem dues_good {da db : PyData} (ha : Good da) (hb : Good db) : ∀ k : Nat, Goods (dueD k da db)
  | 0 => ⟨ha, hb, True.intro⟩
  | 1 => ⟨ha, True.intro⟩
  | 2 => ⟨ha, True.intro⟩
  | 3 => ⟨ha, True.intro⟩
  | _ + 4 => True.intro
theorem list_ok {ds : List PyData} (h : Goods ds) : (PyData.list ds).canLay0 = true ∧ (PyData.list ds).depth ≤ 3 := by
  obtain ⟨a1, a2⟩ := goods_ok ds h
  refine ⟨?_, ?_⟩
  · rw [PyData.canLay0]; exact a1
  · rw [PyData.depth]; omega
theorem shaped_of {d : PyData} (h1 : d.canLay0 = true) (h2 : d.depth ≤ 64) : SeqAt.shaped d = true := by
  unfold SeqAt.shaped
  rw [h1, decide_eq_true h2]
  rfl
theorem one_ok {ds : List PyData} (h : Goods ds) : SeqAt.shaped (.list ds) = true ∧ PyData.eqv (.list ds) (.list ds) = true := by
  obtain ⟨a1, a2⟩ := list_ok h
  exact ⟨shaped_of a1 (by omega), SeqAt.eqv_refl _ a1⟩
/-- the three lists that the law compares -/
theorem three_ok {ds es : List PyData} (h1 : Goods ds) (h2 : Goods es) : SeqAt.shaped (.list [.list ds, .list es, .bool true]) = true ∧ PyData.eqv (.list [.list ds, .list es, .bool true]) (.list [.list ds, .list es, .bool true]) = true := by
  obtain ⟨a1, a2⟩ := list_ok h1
  obtain ⟨b1, b2⟩ := list_ok h2
  have c1 : (PyData.list [.list ds, .list es, .bool true]).canLay0 = true := by
    rw [PyData.canLay0, PyData.canLayAll0, PyData.canLayAll0, PyData.canLayAll0, PyData.canLayAll0, a1, b1]
    rfl
  have c2 : (PyData.list [.list ds, .list es, .bool true]).depth ≤ 64 := by
    rw [PyData.depth, PyData.depthAll, PyData.depthAll, PyData.depthAll, PyData.depthAll]
    have : (PyData.bool true).depth ≤ 2 := (good_bool true).2
    omega
  exact ⟨shaped_of c1 c2, SeqAt.eqv_refl _ c1⟩
section
variable {P : Program} {w : World} {K : PySem.W.Frag} {mg : Str → Option Value} {base : Heap} {e : Er}
def spLaw (K : PySem.W.Frag) : Sp := fun vs H Q _ => ∃ (a : Addr) (ns : List Int), vs = [.ref a] ∧ SqL K H a (ns.map V.int) ∧ ns.length ≤ 63 ∧ ∀ H', Q (.bl true) H'
abbrev s_law : Stmt := top 17
theorem sc_law : FnScope ["_law_script", "_law_pen_here", "_law_turn", "_law_k", "_law_a", "_law_digit", "_law_b", "_law_due", "_law_j"] ["_law_script"] (defScope s_law) := ⟨rfl, rfl, rfl, by decide +kernel, rfl, by decide +kernel, by decide +kernel⟩
theorem ok_law {f : Addr} {fd : FuncData} (F : Fun K "law" "law" s_law f fd) (B : Bs mg) (G_l_pen : DefOk P w K mg base 1 "_law_pen" ["_law_script"] (spPen K)) (G_l_draw : DefOk P w K mg base 1 "_law_draw" ["_law_pen_here", "_law_many"] (spDraw K)) (G_l_pick : DefOk P w K mg base 2 "_law_pick" ["_law_pen_here", "_law_items"] (spPick K))
    (G_l_caught : DefOk P w K mg base 4 "_law_caught" ["_law_k", "_law_a", "_law_b"] spCaught) (G_l_named : DefOk P w K mg base 3 "_law_named" ["_law_k", "_law_a", "_law_b"] (spNamed e)) (G_l_fields : DefOk P w K mg base 1 "_law_fields" ["_law_k", "_law_e"] (spFieldsO e)) : FnOk P w K mg base CX0 6 f fd ["_law_script"] (spLaw K) := by
  have B_len := B.len; have B_range := B.range; have B_min := B.min
  refine F.ok sc_law (fun vs H Q E h => by obtain ⟨p, v, rfl, _⟩ := h; rfl) (fun cdv A outer s' H vs Q E hr h => ?_)
  obtain ⟨a, ns, rfl, hns, hnl, k⟩ := h
  refine ⟨_, (pss_cons (ps_set (i := 1) sc_law.nd rfl (Or.inl rfl) (pe_callD G_l_pen (hr.mono (by first | decide | omega)) rfl (pa_cons (pv 0) pa_nil)))
  (pss_cons (ps_for PassesOwn.never rfl (pi_range1 rfl B_range (pa_cons (pe_op op_add pe_int (pe_callB (call_min2 rfl) rfl B_min (by decide +kernel) (pa_cons pe_int (pa_cons (pe_callB call_len_seq rfl B_len PySem.boot_len (pa_cons (pv 0) pa_nil)) pa_nil)))) pa_nil)) (pg_name (i := 2) sc_law.nd rfl (Or.inl rfl))
   (pss_cons (ps_asg (pe_tup (pa_cons (pe_ifExp (pt_cmpR op_lt (pv 2) pe_int (nomark _)) (pv 2) (pe_callD G_l_draw (hr.mono (by first | decide | omega)) rfl (pa_cons (pv 1) (pa_cons pe_int pa_nil)))) (pa_cons pe_int pa_nil))) (pg_tup rfl (pgs_cons (pg_name (i := 3) sc_law.nd rfl (Or.inr rfl)) (pgs_cons (pg_name (i := 4) sc_law.nd rfl (Or.inl rfl)) pgs_nil))))
  (pss_cons (ps_for PassesOwn.never rfl (pi_range1 rfl B_range (pa_cons pe_int pa_nil)) (pg_name (i := 5) sc_law.nd rfl (Or.inl rfl))
   (pss_one (ps_set (i := 4) sc_law.nd rfl (Or.inl rfl) (pe_op op_add (pe_op op_mul (pv 4) pe_int) (pe_callD G_l_draw (hr.mono (by first | decide | omega)) rfl (pa_cons (pv 1) (pa_cons pe_int pa_nil)))))))
  (pss_cons (ps_set (i := 4) sc_law.nd rfl (Or.inl rfl) (pe_callD G_l_pick (hr.mono (by first | decide | omega)) rfl (pa_cons (pv 1) (pa_cons (pe_lst (pa_cons (pv 4) (pa_cons (pe_op op_sub pe_int (pv 4)) (pa_cons pe_str (pa_cons (pe_tup (pa_cons pe_str (pa_cons pe_str (pa_cons pe_int pa_nil)))) pa_nil))))) pa_nil))))
  (pss_cons (ps_set (i := 6) sc_law.nd rfl (Or.inl rfl) (pe_callD G_l_draw (hr.mono (by first | decide | omega)) rfl (pa_cons (pv 1) (pa_cons pe_int pa_nil))))
  (pss_cons (ps_set (i := 7) sc_law.nd rfl (Or.inl rfl) (pe_ifExp (pt_cmpR op_eq (pv 3) pe_int (nomark _)) (pe_lst (pa_cons (pv 4) (pa_cons (pv 6) pa_nil))) (pe_ifExp (pt_cmpR op_lt (pv 3) pe_int (nomark _)) (pe_lst (pa_cons (pv 4) pa_nil)) (pe_lst pa_nil))))
  (pss_cons (ps_if (pt_cmpR (op_neD hr.units) (pe_callD G_l_caught (hr.mono (by first | decide | omega)) rfl (pa_cons (pv 3) (pa_cons (pv 4) (pa_cons (pv 6) pa_nil)))) (pe_lst (pa_cons (pe_lc (own := [("_law_j", 8)]) (g := (gName 8)) (tt := tYes) rfl sc_law.nd (pi_range1 rfl B_range (pa_cons pe_int pa_nil)) (blkOk_by (own := [("_law_j", 8)]) (N := ["_law_script", "_law_pen_here", "_law_turn", "_law_k", "_law_a", "_law_digit", "_law_b", "_law_due", "_law_j"]) (sc := defScope s_law) (by decide +kernel)) (fun _ _ _ _ _ => pg_name (i := 8) sc_law.nd rfl (Or.inl rfl)) (fun _ _ _ _ _ => pts_nil) (fun _ _ _ _ _ => (pe_cmpR op_eq (pv 8) (pv 3) (nomark _)))) (pa_cons (pv 7) (pa_cons pe_bl pa_nil)))) (nomark _)) (pss_one (ps_ret pe_bl)) pss_nil)
  (pss_one (ps_if (pt_cmpR (op_neD hr.units) (pe_callD G_l_fields (hr.mono (by first | decide | omega)) rfl (pa_cons (pv 3) (pa_cons (pe_callD G_l_named (hr.mono (by first | decide | omega)) rfl (pa_cons (pv 3) (pa_cons (pv 4) (pa_cons (pv 6) pa_nil)))) pa_nil))) (pv 7) (nomark _)) (pss_one (ps_ret pe_bl)) pss_nil)))))))))
  (pss_one (ps_ret pe_bl)))), ?_⟩
  refine ⟨_, rfl, a, ns, rfl, hns, hnl, fun p H0 s0 hP0 => ?_⟩
  walk_at "nx"
  have hm : ∃ n : Nat, n ≤ 18 ∧ 6 + (if (((ns.map V.int).length : Nat) : Int) < 12 then (((ns.map V.int).length : Nat) : Int) else 12) = (n : Int) := by
    by_cases h8 : (((ns.map V.int).length : Nat) : Int) < 12
    · rw [if_pos h8]; exact ⟨(ns.map V.int).length + 6, by omega, by omega⟩
    · rw [if_neg h8]; exact ⟨18, by omega, by omega⟩
  obtain ⟨n, hn, en⟩ := hm
  refine ⟨_, rfl, a, _, rfl, .inl (s0.seq hns), _, _, rfl, _, _, rfl, rfl, (n : Int), ?_, by omega, by omega, ?_⟩
  · exact congrArg (fun z => [V.int z]) en
  refine for_range (lo := 0) (n := (n : Int).toNat) (fun i σ H' => ∃ x2 x3 x4 x5 x6 x7 : Option V, σ = [some (.ref a), some (.ref p.d), x2, x3, x4, x5, x6, x7, none] ∧ PenAt K H' p (20 * i)) ?_ ?_ ?_
  · exact ⟨_, _, _, _, _, _, rfl, hP0⟩
  · rintro i σ H1 hi ⟨x2, x3, x4, x5, x6, x7, rfl, hP1⟩
    have hi' : i < 18 := by omega
    walk_at "nx"
    -- the number of the error
    refine withQ (E := tIf _ _ _) (fun x H2 => ∃ m : Nat, x = .int (m : Nat) ∧ m < 6 ∧ PenAt K H2 p (20 * i + 1)) (fun Q' go => ?_) ?_
    · refine ⟨_, rfl, _, _, rfl, rfl, _, rfl, ?_⟩
      refine ite2 (fun q => ?_) (fun q => ?_)
      · have q' := of_decide_eq_true q
        refine ⟨_, rfl, go _ _ ⟨i, congrArg V.int (by omega), by omega, hP1.mono (by omega)⟩⟩
      · refine ⟨_, rfl, p, 6, _, rfl, hP1, by unfold LIM; omega, by decide, by decide, fun d H2 d0 d1 k2 hP2 => ?_⟩
        exact go _ _ ⟨d.toNat, congrArg V.int (by omega), by omega, hP2⟩
    rintro _ H2 ⟨m, rfl, hm, hP2⟩
    refine ⟨by show 2 ≤ sizeLine; decide, fun qt hqt => ?_⟩
    have hP3 := hP2.same (Same.new hqt (.tup [.int (m : Nat), .int 0]))
    have hqt' : upd H2 qt (.tup [.int (m : Nat), .int 0]) qt = some (.tup [.int (m : Nat), .int 0]) := upd_same
    refine ⟨qt, [.int (m : Nat), .int 0], rfl, SqT.of hqt', rfl, .int (m : Nat), [.int 0], rfl, .int 0, [], rfl, rfl, ?_⟩
    generalize upd H2 qt (.tup [.int (m : Nat), .int 0]) = H3 at *
    walk_at "nx"
    refine ⟨7, rfl, by decide, by decide, ?_⟩
    refine for_range (lo := 0) (n := (7 : Int).toNat) (fun j σ H' => ∃ (n : Int) (x5' : Option V), σ = [some (.ref a), some (.ref p.d), some (.int (0 + (i : Nat))), some (.int (m : Nat)), some (.int n), x5', x6, x7, none] ∧ PenAt K H' p (20 * i + 1 + j)) ?_ ?_ ?_
    · exact ⟨0, _, rfl, hP3⟩
    · rintro j σ H4 hj ⟨n, x5', rfl, hP4⟩
      have hj' : j < 7 := hj
      walk_at "nx"
      refine ⟨_, rfl, _, _, rfl, rfl, ?_⟩
      refine ⟨.inr ⟨by decide, by decide⟩, ?_⟩
      refine ⟨_, rfl, p, 1000003, _, rfl, hP4, by unfold LIM; omega, by decide, by decide, fun d H5 d0 d1 k5 hP5 => ?_⟩
      exact ⟨_, _, rfl, rfl, _, _, rfl, hP5⟩
    · rintro σ H4 ⟨n, x5', rfl, hP4⟩
      have hP4 := hP4.mono (show _ ≤ 20 * i + 8 by show 20 * i + 1 + 7 ≤ _; omega)
      walk_at "nx"
      -- the fields
      refine ⟨_, rfl, _, rfl, _, rfl, _, _, rfl, rfl, by show 3 ≤ sizeLine; decide, fun t ht => ?_⟩
      have hP5 := hP4.same (Same.new ht (.tup [.str (Str.ofString "look"), .str (Str.ofString "a"), .int 3]))
      have ht' : upd H4 t (.tup [.str (Str.ofString "look"), .str (Str.ofString "a"), .int 3]) t = some (.tup [.str (Str.ofString "look"), .str (Str.ofString "a"), .int 3]) := upd_same
      generalize upd H4 t (.tup [.str (Str.ofString "look"), .str (Str.ofString "a"), .int 3]) = H5 at *
      refine ⟨by show 4 ≤ sizeLine; decide, fun ql hql => ?_⟩
      have s6 := Same.new hql (.lst [.int n, .int (0 - n), .str (Str.ofString "parts"), .ref t])
      refine ⟨p, _, _, rfl, hP5.same s6, by unfold LIM; omega, .inl ⟨ql, _, rfl, SqL.of upd_same, (by show 0 < 4; decide), (by show 4 ≤ 1000; decide), fun va H7 hva k7 hP7 => ?_⟩⟩
      have hV : VaAt H7 va := by
        refine VaAt.keep k7 ?_
        simp only [List.mem_cons, List.not_mem_nil, or_false] at hva
        rcases hva with rfl | rfl | rfl | rfl
        · exact .inl ⟨_, rfl⟩
        · exact .inl ⟨_, rfl⟩
        · exact .inr (.inl rfl)
        · exact .inr (.inr ⟨t, rfl, s6 _ _ ht'⟩)
      walk_at "nx"
      refine ⟨_, rfl, p, 1000003, _, rfl, hP7, by unfold LIM; omega, by decide, by decide, fun d H8 d0 d1 k8 hP8 => ?_⟩
      have hV8 := hV.keep k8
      walk_at "nx"
      refine withQ (E := tIf _ _ _) (fun x H9 => ∃ qd : Addr, x = .ref qd ∧ H9 qd = some (.lst (dues m va (.int d))) ∧ Same H8 H9) (fun Q' go => ?_) ?_
      · refine ⟨_, rfl, rfl, _, rfl, ?_⟩
        refine ite2 (fun q => ?_) (fun q => ?_)
        · have q' := V.int.inj (of_decide_eq_true q)
          obtain rfl : m = 0 := by omega
          refine ⟨_, rfl, _, rfl, by show 2 ≤ sizeLine; decide, fun qd hqd => ?_⟩
          exact go _ _ ⟨qd, rfl, upd_same, Same.new hqd _⟩
        · have q0 : m ≠ 0 := fun z => q (by rw [z]; rfl)
          refine ⟨_, rfl, _, _, rfl, rfl, _, rfl, ?_⟩
          refine ite2 (fun r => ?_) (fun r => ?_)
          · have r' := of_decide_eq_true r
            refine ⟨_, rfl, by show 1 ≤ sizeLine; decide, fun qd hqd => ?_⟩
            refine go _ _ ⟨qd, rfl, ?_, Same.new hqd _⟩
            have tri : m = 1 ∨ m = 2 ∨ m = 3 := by omega
            rcases tri with rfl | rfl | rfl <;> exact upd_same
          · have r' : ¬ ((m : Nat) : Int) < 4 := fun z => r (decide_eq_true z)
            refine ⟨Nat.zero_le _, fun qd hqd => ?_⟩
            refine go _ _ ⟨qd, rfl, ?_, Same.new hqd _⟩
            have two : m = 4 ∨ m = 5 := by omega
            rcases two with rfl | rfl <;> exact upd_same
      rintro _ H9 ⟨qd, rfl, hqd, s9⟩
      have hV9 := hV8.keep (Keep.of s9)
      have hP9 := hP8.same s9
      walk_at "nx"
      -- caught
      refine ⟨_, rfl, _, rfl, _, rfl, m, va, .int d, rfl, hm, fun q q1 q2 H10 s10 h0 h1 h2 => ?_⟩
      refine ⟨6, rfl, by decide, by decide, fun D hD => ?_⟩
      refine lc_range (fun j Hx => Hx D = some (.lst ((List.range j).map fun x => V.bl (decide (x = m)))) ∧ Same H10 Hx) ?_ ?_ ?_
      · exact ⟨upd_same, Same.new hD _⟩
      · rintro j Hx hj ⟨hd, sx⟩
        refine ⟨rfl, _, rfl, _, rfl, rfl, _, hd, small' (by rw [List.length_map, List.length_range]; have : j < 6 := hj; omega), ?_, Same.put hD sx _⟩
        rw [upd_same, List.range_succ, List.map_append]
        have e1 : decide (V.int (0 + ((j : Nat) : Int)) = V.int ((m : Nat) : Int)) = decide (j = m) := decide_eq_decide.mpr ⟨fun z => by have := V.int.inj z; omega, fun z => by rw [z, Int.zero_add]⟩
        rw [e1]
        rfl
      · rintro H11 ⟨hd, s11⟩
        refine ⟨_, rfl, by show 3 ≤ sizeLine; decide, fun q3 hq3 => ?_⟩
        have s12 := s11.trans (Same.new hq3 (.lst [.ref D, .ref qd, .bl true]))
        have hd12 := Same.new hq3 (.lst [.ref D, .ref qd, .bl true]) _ _ hd
        have hq12 : upd H11 q3 (.lst [.ref D, .ref qd, .bl true]) q3 = some (.lst [.ref D, .ref qd, .bl true]) := upd_same
        generalize upd H11 q3 (.lst [.ref D, .ref qd, .bl true]) = H12 at *
        have sA := s10.trans s12
        obtain ⟨da, hda, gda⟩ := (hV9.keep (Keep.of sA)).dp (K := K)
        have hdb : Dp K H12 (.int d) (.int d) := .int d
        have gS := goods_bools ((List.range 6).map fun x => decide (x = m))
        have gD := dues_good gda (good_int d) m
        obtain ⟨sh, ev⟩ := three_ok gS gD
        have eS : (List.range 6).map (fun x => V.bl (decide (x = m))) = ((List.range 6).map fun x => decide (x = m)).map V.bl := by rw [List.map_map]; rfl
        refine ⟨.list [.list (((List.range 6).map fun x => decide (x = m)).map PyData.bool), .list (dueD m da (.int d)), .bool true], .list [.list (((List.range 6).map fun x => decide (x = m)).map PyData.bool), .list (dueD m da (.int d)), .bool true], ?_, ?_, sh, sh, ?_⟩
        · refine .lst (SqL.of (s12 _ _ h0)) (.cons (.lst (SqL.of (s12 _ _ h1)) ?_) (.cons (.lst (SqL.of (s12 _ _ h2)) (dues_dp hda hdb m)) (.cons (.bl true) .nil)))
          unfold sorts
          rw [eS]
          exact dp_bools _
        · refine .lst (SqL.of hq12) (.cons (.lst (SqL.of hd12) ?_) (.cons (.lst (SqL.of (sA _ _ hqd)) (dues_dp hda hdb m)) (.cons (.bl true) .nil)))
          rw [show (6 : Int).toNat = 6 from rfl, eS]
          exact dp_bools _
        refine ⟨_, rfl, ?_⟩
        rw [ev]
        refine iteF ?_
        walk_at "nx"
        -- made by names
        refine ⟨_, rfl, _, rfl, _, rfl, _, rfl, m, va, .int d, rfl, hm, fun x H13 s13 hx => ?_⟩
        refine ⟨m, va, .int d, x, rfl, hm, hx, fun q4 H14 s14 h4 => ?_⟩
        have sB := sA.trans (s13.trans s14)
        refine ⟨_, rfl, ?_⟩
        obtain ⟨db, hdb', gdb⟩ := (hV9.keep (Keep.of sB)).dp (K := K)
        have hdc : Dp K H14 (.int d) (.int d) := .int d
        obtain ⟨sh2, ev2⟩ := one_ok (dues_good gdb (good_int d) m)
        refine ⟨.list (dueD m db (.int d)), .list (dueD m db (.int d)), .lst (SqL.of h4) (dues_dp hdb' hdc m), .lst (SqL.of (sB _ _ hqd)) (dues_dp hdb' hdc m), sh2, sh2, ?_⟩
        refine ⟨_, rfl, ?_⟩
        rw [ev2]
        refine iteF ?_
        walk_at "nx"
        exact ⟨_, _, _, _, _, _, rfl, (hP9.same sB).mono (by omega)⟩
  · rintro σ H1 ⟨_, _, _, _, _, _, rfl, _⟩
    walk_at "nx"
    exact k H1
end
end Ex
namespace Ex
open PySem PySem.Spec PyProof.Rows L2 Wv Bk
/-! ### what the program's top leaves, and the end -/
theorem at_inj {l : List Addr} (n : l.Nodup) {i j : Nat} {x : Addr} (h1 : l[i]? = some x) (h2 : l[j]? = some x) : i = j := by
  obtain ⟨a, e1⟩ := List.getElem?_eq_some_iff.mp h1
  obtain ⟨b, e2⟩ := List.getElem?_eq_some_iff.mp h2
  rcases Nat.lt_trichotomy i j with q | q | q
  · exact absurd (e1.trans e2.symm) (List.pairwise_iff_getElem.mp n i j a b q)
  · exact q
  · exact absurd (e2.trans e1.symm) (List.pairwise_iff_getElem.mp n j i b a q)
section
variable {P : Program} {w : World} {K : PySem.W.Frag} {mg : Str → Option Value} {h : Heap} {base : Heap}
theorem top_mk {x : Str} {st : Stmt} {ps : List Str} {f : Addr} {oc kV dc pm cd ct : Value} {od an : Option Addr} {sl : Array (Option Value)} (X : K.In h) (G : h.Ns mainGlobals mg) (a : PySem.W.nsIn K mainGlobals x = some (some (.ref f)))
    (l : K.lookup f = some ⟨oc, od, .func (PySem.W.fnOf x x (defArgs st) (defBody st) (defScope st) .none kV dc pm an cd ct), sl⟩) (c : PySem.W.codeIn K cd x = true) (k : PySem.W.keepIn K (.ref f) = true)
    (b : ∀ (kV doc pm : Value) (an : Option Addr) (cdv ct : Value) (us : List Value), us.length = ps.length → bindArgs (PySem.W.fnOf x x (defArgs st) (defBody st) (defScope st) .none kV doc pm an cdv ct) ⟨us, []⟩ = pure (ps.zip us)) : Here K mg x st ps :=
  ⟨f, _, fun_mk l c k, PySem.W.mg_of X G a, (fun_mk l c k).binds b⟩
/-- a def within a class, as the class finds it -/
structure CI (K : PySem.W.Frag) (C : Addr) (q : Str) (st : Stmt) (ps ks : List Str) : Prop where
  ex : ∃ (f : Addr) (fd : FuncData), PySem.W.findIn K (.ref C) "__init__" = some (some (.ref f)) ∧ PySem.W.typeIn K (.ref f) = some (.type "function") ∧ Fun K "__init__" q st f fd ∧ Binds K fd ps [] ∧ KBn K fd ps 1 ks (fun us ws => us ++ ws.reverse) (fun vs zs => vs ++ zs.reverse)
theorem rev_vals : ∀ {zs : List V} {ws : List Value}, Vals zs ws → Vals zs.reverse ws.reverse
  | [], [], _ => .nil
  | z :: zs, v :: ws, .cons r h => by
    rw [List.reverse_cons, List.reverse_cons]
    exact (rev_vals h).append (.cons r .nil)
theorem ci_mk {C : Addr} {q : Str} {st : Stmt} {ps ks : List Str} {f : Addr} {oc kV dc pm cd ct : Value} {od an : Option Addr} {sl : Array (Option Value)} (a : PySem.W.findIn K (.ref C) "__init__" = some (some (.ref f))) (i : PySem.W.isFn K (.ref f) = true)
    (l : K.lookup f = some ⟨oc, od, .func (PySem.W.fnOf "__init__" q (defArgs st) (defBody st) (defScope st) .none kV dc pm an cd ct), sl⟩) (c : PySem.W.codeIn K cd q = true) (k : PySem.W.keepIn K (.ref f) = true)
    (b : ∀ (kV doc pm : Value) (an : Option Addr) (cdv ct : Value) (us : List Value), us.length = ps.length → bindArgs (PySem.W.fnOf "__init__" q (defArgs st) (defBody st) (defScope st) .none kV doc pm an cdv ct) ⟨us, []⟩ = pure (ps.zip us))
    (kb : ∀ (kV doc pm : Value) (an : Option Addr) (cdv ct : Value) (us ws : List Value), us.length = 1 → ws.length = ks.length → bindArgs (PySem.W.fnOf "__init__" q (defArgs st) (defBody st) (defScope st) .none kV doc pm an cdv ct) ⟨us, ks.zip ws⟩ = pure (ps.zip (us ++ ws.reverse))) : CI K C q st ps ks :=
  ⟨f, _, a, beq_iff_eq.mp i, fun_mk l c k, (fun_mk l c k).binds b, ⟨fun s us ws _ l1 l2 => .of_eq (kb _ _ _ _ _ _ us ws l1 l2), fun r1 r2 => r1.append (rev_vals r2)⟩⟩
/-- a class of errors -/
structure ErC (K : PySem.W.Frag) (mg : Str → Option Value) (x : Str) (C we : Addr) : Prop where
  m : mg x = some (.ref C)
  xc : ExcC K C
  cls : ∃ cd, PySem.W.clsIn K C = some cd ∧ cd.mro = [.ref C, .ref we, .type "ValueError", .type "Exception", .type "BaseException", .type "object"]
  ty : PySem.W.typeIn K (.ref C) = some (.type "type")
  kp : PySem.W.keepIn K (.ref C) = true
  sw : PySem.W.subIn K (.ref C) (.ref we) = some true
  sv : PySem.W.subIn K (.ref C) (.type "ValueError") = some true
theorem erc_mk {x : Str} {C we : Addr} {cd : ClassData} (X : K.In h) (G : h.Ns mainGlobals mg) (a : PySem.W.nsIn K mainGlobals x = some (some (.ref C))) (hg : PySem.W.findIn K (.ref C) "__getattribute__" = some (some (.builtin "BaseException.__getattribute__"))) (hk : PySem.W.findIn K (.ref C) "__getattr__" = some none)
    (hs : PySem.W.subIn K (.ref C) (.type "BaseException") = some true) (hd : PySem.W.hasDictIn K C = true) (ha : PySem.W.findIn K (.ref C) "__class__" = some (some (.builtin "object.__class__"))) (hn : PySem.W.specialIn K (.builtin "object.__class__") "__get__" = some (some (.builtin "getset_descriptor.__get__")))
    (ht : PySem.W.takesIn K (.builtin "object.__class__") = some true) (hm : PySem.W.mroIn K C (.type "object") = some true) (cl : PySem.W.clsIn K C = some cd) (ty : PySem.W.typeIn K (.ref C) = some (.type "type")) (kp : PySem.W.keepIn K (.ref C) = true) (sw : PySem.W.subIn K (.ref C) (.ref we) = some true)
    (sv : PySem.W.subIn K (.ref C) (.type "ValueError") = some true) (cm : cd.mro = [.ref C, .ref we, .type "ValueError", .type "Exception", .type "BaseException", .type "object"]) : ErC K mg x C we :=
  ⟨PySem.W.mg_of X G a, ⟨hg, hk, hs, hd, ha, hn, ht, hm⟩, ⟨cd, cl, cm⟩, ty, kp, sw, sv⟩
theorem ErC.kit {x y : Str} {C D we : Addr} (c : ErC K mg x C we) (d : ErC K mg y D we) (hw : D ≠ we) : PySem.W.kitOne K (.ref C) (.ref D) = some (decide (D = C)) := by
  obtain ⟨cd, e1, e2⟩ := c.cls
  obtain ⟨dd, g1, _⟩ := d.cls
  by_cases q : D = C
  · subst q
    rw [decide_eq_true rfl]
    unfold PySem.W.kitOne
    rw [if_pos (beq_self_eq_true _)]
  · rw [decide_eq_false q]
    unfold PySem.W.kitOne
    rw [if_neg (by simpa using fun z : C = D => q z.symm)]
    show (if ((PySem.W.clsIn K D).isSome && PySem.W.typeIn K (.ref D) == some (.type "type")) = true then PySem.W.subIn K (.ref C) (.ref D) else none) = _
    rw [g1, d.ty, if_pos (by simp)]
    show PySem.W.mroIn K C (.ref D) = _
    unfold PySem.W.mroIn
    rw [e1, Option.bind_some, e2]
    simp [q, hw]
theorem ErC.ve {x : Str} {C we : Addr} (c : ErC K mg x C we) : PySem.W.kitOne K (.ref C) (.type "ValueError") = some true := by
  unfold PySem.W.kitOne
  rw [if_neg (by simp)]
  show (if PySem.W.kitMeta "ValueError" = true then PySem.W.subIn K (.ref C) (.type "ValueError") else none) = _
  rw [if_pos (by decide +kernel), c.sv]
/-- the class WayError -/
structure WeT (K : PySem.W.Frag) (mg : Str → Option Value) (we : Addr) : Prop where
  m : mg "WayError" = some (.ref we)
  sb : PySem.W.subIn K (.ref we) (.type "BaseException") = some true
  hd : PySem.W.hasDictIn K we = true
  ty : PySem.W.typeIn K (.ref we) = some (.type "type")
theorem wet_mk {we : Addr} (X : K.In h) (G : h.Ns mainGlobals mg) (a : PySem.W.nsIn K mainGlobals "WayError" = some (some (.ref we))) (sb : PySem.W.subIn K (.ref we) (.type "BaseException") = some true) (hd : PySem.W.hasDictIn K we = true) (ty : PySem.W.typeIn K (.ref we) = some (.type "type")) : WeT K mg we :=
  ⟨PySem.W.mg_of X G a, sb, hd, ty⟩
/-- one with an __init__ of its own -/
theorem oexc_mk {C : Addr} {nm q : Str} {N : Addr} {bs bm : List Value} {sn : List Str} {sub : List Value} {ab : Bool} {col : Option Bool} {dd : Option Addr} {k0 k1 k2 k3 k5 : Option Value}
    (xL : K.lookup C = some (excClassObj nm q C N bs bm true sn sub ab col dd k0 k1 k2 k3 k5 "ValueError.__new__")) (om : PySem.HandSPX.refsVE bm = true) (os : PySem.W.findIn K (.ref C) "__setattr__" = some (some (.builtin "object.__setattr__")))
    (oe : PySem.W.subIn K (.ref C) (.type "BaseException") = some true) (ot : PySem.W.typeIn K (.ref C) = some (.type "type")) (ok : PySem.W.keepIn K (.ref C) = true) : OexC K C :=
  ⟨⟨nm, q, N, bs, bm, sn, sub, ab, col, dd, k0, k1, k2, k3, k5, xL, om⟩, os, oe, ot, ok⟩
structure NoF (K : PySem.W.Frag) (C : Addr) : Prop where
  a : PySem.W.findIn K (.ref C) "line" = some none
  b : PySem.W.findIn K (.ref C) "place" = some none
  c : PySem.W.findIn K (.ref C) "name" = some none
  d : PySem.W.findIn K (.ref C) "what" = some none
  e : PySem.W.findIn K (.ref C) "guard" = some none
theorem NoF.all {C : Addr} (q : NoF K C) : ∀ n ∈ [Str.ofString "line", Str.ofString "place", Str.ofString "name", Str.ofString "what", Str.ofString "guard"], PySem.W.findIn K (.ref C) n = some none := by
  intro n hn
  simp only [List.mem_cons, List.not_mem_nil, or_false] at hn
  rcases hn with rfl | rfl | rfl | rfl | rfl
  · exact q.a
  · exact q.b
  · exact q.c
  · exact q.d
  · exact q.e
theorem ex0_mk {x : Str} {C we : Addr} (c : ErC K mg x C we) (q : PySem.W.excIn K C [.type "ValueError", .type "Exception", .type "BaseException", .type "object"] "ValueError.__new__" = true) : Ex0 K mg x C :=
  ⟨⟨_, _, _, _, F.excBase_ValueError, q⟩, c.m, c.kp, c.xc.hs, c.ty⟩
theorem none_mk {x : Str} (X : K.In h) (G : h.Ns mainGlobals mg) (z : PySem.W.nsIn K mainGlobals x = some none) : mg x = none := PySem.W.mg_none_of X G z
theorem names_mk (X : K.In h) (G : h.Ns mainGlobals mg) (z1 : PySem.W.nsIn K mainGlobals "len" = some none) (z2 : PySem.W.nsIn K mainGlobals "int" = some none) (z3 : PySem.W.nsIn K mainGlobals "list" = some none) (z4 : PySem.W.nsIn K mainGlobals "range" = some none)
    (z5 : PySem.W.nsIn K mainGlobals "min" = some none) (z6 : PySem.W.nsIn K mainGlobals "tuple" = some none) (z7 : PySem.W.nsIn K mainGlobals "isinstance" = some none) (z8 : PySem.W.nsIn K mainGlobals "zip" = some none) (z9 : PySem.W.nsIn K mainGlobals "sum" = some none)
    (z10 : PySem.W.nsIn K mainGlobals "max" = some none) (z11 : PySem.W.nsIn K mainGlobals "reversed" = some none) (z12 : PySem.W.nsIn K mainGlobals "enumerate" = some none) (z13 : PySem.W.nsIn K mainGlobals "repr" = some none) : Bs mg :=
  have n := fun {x : Str} (z : PySem.W.nsIn K mainGlobals x = some none) => PySem.W.mg_none_of X G z
  ⟨n z1, n z2, n z3, n z4, n z5, n z6, n z7, n z8, n z9, n z10, n z11, n z12, n z13⟩
theorem fin {fa we c0 c1 c2 c3 c4 c5 : Addr} (X : K.In h) (G : h.Ns mainGlobals mg) (hfa : mg "law" = some (.ref fa)) (W : WeT K mg we) (nd : [c0, c1, c2, c3, c4, c5, we].Nodup)
    (e0 : ErC K mg "BadText" c0 we) (e1 : ErC K mg "BadName" c1 we) (e2 : ErC K mg "TooMany" c2 we) (e3 : ErC K mg "NotKept" c3 we) (e4 : ErC K mg "NothingLeft" c4 we) (e5 : ErC K mg "Busy" c5 we)
    (o0 : OexC K c0) (o1 : OexC K c1) (o2 : OexC K c2) (o3 : OexC K c3) (n0 : NoF K c0) (n1 : NoF K c1) (n2 : NoF K c2) (n3 : NoF K c3)
    (q4 : PySem.W.excIn K c4 [.type "ValueError", .type "Exception", .type "BaseException", .type "object"] "ValueError.__new__" = true) (q5 : PySem.W.excIn K c5 [.type "ValueError", .type "Exception", .type "BaseException", .type "object"] "ValueError.__new__" = true)
    (m0 : CI K c0 "BadText.__init__" s_BadText_init ["self", "line", "place"] ["place", "line"]) (m1 : CI K c1 "BadName.__init__" s_BadName_init ["self", "name"] ["name"]) (m2 : CI K c2 "TooMany.__init__" s_TooMany_init ["self", "what"] ["what"]) (m3 : CI K c3 "NotKept.__init__" s_NotKept_init ["self", "guard"] ["guard"])
    (B : Bs mg) (bV : mg "ValueError" = none) (g1 : Here K mg "_law_pen" s_l_pen ["_law_script"]) (g2 : Here K mg "_law_draw" s_l_draw ["_law_pen_here", "_law_many"]) (g3 : Here K mg "_law_pick" s_l_pick ["_law_pen_here", "_law_items"]) (g4 : Here K mg "_law_raise" s_l_raise ["_law_k", "_law_a", "_law_b"]) (g5 : Here K mg "_law_named" s_l_named ["_law_k", "_law_a", "_law_b"])
    (g6 : Here K mg "_law_kinds" s_l_kinds ["_law_e"]) (g7 : Here K mg "_law_fields" s_l_fields ["_law_k", "_law_e"]) (g8 : Here K mg "_law_caught" s_l_caught ["_law_k", "_law_a", "_law_b"]) (g9 : Here K mg "law" s_law ["_law_script"]) :
    ∃ fd : FuncData, (∀ (s : Shared) (v : Value), BindsTo s fd ⟨[v], []⟩ [("_law_script", v)]) ∧ ∀ base : Heap, K.In base → base.Ns mainGlobals mg → FnOk P w K mg base CX0 6 fa fd ["_law_script"] (spLaw K) := by
  obtain ⟨f, fd, F, m, b⟩ := g9.ex
  have e := hfa.symm.trans m
  cases e
  have bt : ∀ (s : Shared) (v : Value), BindsTo s fd ⟨[v], []⟩ [("_law_script", v)] := by
    obtain ⟨oc, od, kV, doc, pm, an, cdv, ct, osl, rfl, _, _⟩ := F.ex
    exact fun s v => .of_eq rfl
  refine ⟨fd, bt, fun base _ _ => ?_⟩
  obtain ⟨f0, d0, i0, t0, F0, b0, k0⟩ := m0.ex
  obtain ⟨f1, d1, i1, t1, F1, b1, k1⟩ := m1.ex
  obtain ⟨f2, d2, i2, t2, F2, b2, k2⟩ := m2.ex
  obtain ⟨f3, d3, i3, t3, F3, b3, k3⟩ := m3.ex
  have R0 := ok_BadText (P := P) (w := w) (mg := mg) (base := base) F0 o0 n0.a n0.b
  have R1 := ok_BadName (P := P) (w := w) (mg := mg) (base := base) F1 o1 n1.c
  have R2 := ok_TooMany (P := P) (w := w) (mg := mg) (base := base) F2 o2 n2.d
  have R3 := ok_NotKept (P := P) (w := w) (mg := mg) (base := base) F3 o3 n3.e
  have six : ∀ k : Nat, k < 6 → k = 0 ∨ k = 1 ∨ k = 2 ∨ k = 3 ∨ k = 4 ∨ k = 5 := fun k hk => by omega
  have get : ∀ k : Nat, k < 6 → [c0, c1, c2, c3, c4, c5, we][k]? = some ((Er.mk c0 c1 c2 c3 c4 c5).of k) := fun k hk => by
    rcases six k hk with rfl | rfl | rfl | rfl | rfl | rfl <;> rfl
  have all : ∀ k : Nat, k < 6 → ∃ x : Str, ErC K mg x ((Er.mk c0 c1 c2 c3 c4 c5).of k) we := fun k hk => by
    rcases six k hk with rfl | rfl | rfl | rfl | rfl | rfl
    · exact ⟨_, e0⟩
    · exact ⟨_, e1⟩
    · exact ⟨_, e2⟩
    · exact ⟨_, e3⟩
    · exact ⟨_, e4⟩
    · exact ⟨_, e5⟩
  have S : Errs P w K mg base (Er.mk c0 c1 c2 c3 c4 c5) we := {
    bt := ⟨f0, d0, o0, i0, t0, e0.m, b0, R0⟩
    bn := ⟨f1, d1, o1, i1, t1, e1.m, b1, R1⟩
    tm := ⟨f2, d2, o2, i2, t2, e2.m, b2, R2⟩
    nk := ⟨f3, d3, o3, i3, t3, e3.m, b3, R3⟩
    nl := ex0_mk e4 q4
    bu := ex0_mk e5 q5
    mw := W.m
    xc := fun k hk => let ⟨_, c⟩ := all k hk; c.xc
    xk := fun k hk => let ⟨_, c⟩ := all k hk; let ⟨_, q, _⟩ := c.cls; by rw [q]; rfl
    no := fun k hk => by
      have four : k = 0 ∨ k = 1 ∨ k = 2 ∨ k = 3 := by omega
      rcases four with rfl | rfl | rfl | rfl
      · exact n0.all
      · exact n1.all
      · exact n2.all
      · exact n3.all
    kit := fun k j hk hj => by
      obtain ⟨_, c⟩ := all k hk
      obtain ⟨_, d⟩ := all j hj
      have nw : (Er.mk c0 c1 c2 c3 c4 c5).of j ≠ we := fun z => by
        have := at_inj nd (get j hj) (show [c0, c1, c2, c3, c4, c5, we][6]? = some ((Er.mk c0 c1 c2 c3 c4 c5).of j) by rw [z]; rfl)
        omega
      rw [c.kit d nw]
      exact congrArg some (decide_eq_decide.mpr ⟨fun z => at_inj nd (get j hj) (by rw [z]; exact get k hk), fun z => by rw [z]⟩)
    ve := fun k hk => let ⟨_, c⟩ := all k hk; c.ve
    exm := fun k hk => let ⟨_, c⟩ := all k hk; PySem.W.exm_ref W.sb W.hd W.ty c.sw }
  have SK : ErrsK P w K mg base (Er.mk c0 c1 c2 c3 c4 c5) := ⟨⟨f0, d0, o0, i0, t0, e0.m, k0, R0⟩, ⟨f1, d1, o1, i1, t1, e1.m, k1, R1⟩, ⟨f2, d2, o2, i2, t2, e2.m, k2, R2⟩, ⟨f3, d3, o3, i3, t3, e3.m, k3, R3⟩⟩
  have P1 := d_l_pen (P := P) (w := w) (base := base) g1 B
  have P2 := d_l_draw (P := P) (w := w) (base := base) g2 B
  have P3 := d_l_pick g3 B P2
  have P4 := d_l_raise g4 S
  have P5 := d_l_named g5 S SK
  have P6 := d_l_kinds g6 S B.isinstance e0.m e1.m e2.m e3.m
  have P7 := d_l_fieldsX g7 S
  have P8 := d_l_caught g8 S B.isinstance bV P4 P6 P7
  exact ok_law F B P1 P2 P3 P8 P5 (d_l_fieldsO g7 S)
end
theorem walk {l : PySem.W.OpenLaw} {q : Program} {loose : List Str} {XP : (Str → Option Value) → Heap → Prop} {YP : World → Heap → Prop} {d : DefRec} {K : Params → PySem.W.Frag} (hn : l.most = some 63) (hdf : d.params.defaults = [])
    (hY : ∀ (w : World) (h : Heap), YP w h → (K w.params).In h)
    (F : ∀ (w : World) (mg : Str → Option Value) (fa : Addr) (h : Heap), (K w.params).In h → h.Ns mainGlobals mg → mg d.name = some (.ref fa) →
      ∃ fd : FuncData, (∀ (s : Shared) (u : Value), BindsTo s fd ⟨[u], []⟩ [("_law_script", u)]) ∧ ∀ base : Heap, (K w.params).In base → base.Ns mainGlobals mg → L2.FnOk l.prog w (K w.params) mg base L2.CX0 6 fa fd ["_law_script"] (spLaw (K w.params))) :
    PySem.W.WalkO q loose XP YP l.row.toRowW d [] (fun f vs => PySem.call f vs) :=
  L2.walk_of (n := 63) (k := 6) (x := "_law_script") (CX := fun _ => L2.CX0) (sp := fun w => spLaw (K w.params)) hn (by decide) hdf ⟨rfl, by decide, by decide⟩ hY F (fun _ _ a ns hl _ hS => ⟨a, ns, rfl, hS, hl, fun _ => rfl⟩) fun _ _ _ _ _ z => z
end Ex
open PySem PySem.W PyProof.Rows
set_option maxHeartbeats 0 in
theorem PySem.Challenge.cw_waystaken_k01_errors_holds : PySem.Challenge.rw_waystaken_k01_errors.Holds := by
  w_on; o_law; k_head; (case hw => w_witness2)
  k_fill
  refine Ex.walk (l := PySem.Challenge.rw_waystaken_k01_errors) rfl rfl (fun _ _ Y => PySem.W.kIn_of Y) ?F
  case F =>
    intro w mg fa h KX G hmg
    refine' Ex.fin KX G hmg ?W ?nd ?e0 ?e1 ?e2 ?e3 ?e4 ?e5 ?o0 ?o1 ?o2 ?o3 ?n0 ?n1 ?n2 ?n3 ?q4 ?q5 ?m0 ?m1 ?m2 ?m3 ?B ?bV ?g1 ?g2 ?g3 ?g4 ?g5 ?g6 ?g7 ?g8 ?g9
    (case W => (refine' Ex.wet_mk KX G ?a ?sb ?hd ?ty; (case a => k_is); (case sb => k_is); (case hd => k_is); (case ty => k_is)))
    (case e0 => (refine' Ex.erc_mk KX G ?a ?hg ?hk ?hs ?hd ?ha ?hn ?ht ?hm ?cl ?ty ?kp ?sw ?sv ?cm; (case a => k_is); (case hg => k_is); (case hk => k_is); (case hs => k_is); (case hd => k_is); (case ha => k_is); (case hn => k_is); (case ht => k_is); (case hm => k_is); (case cl => k_is); (case ty => k_is); (case kp => k_is); (case sw => k_is); (case sv => k_is); (case cm => exact rfl)))
    (case e1 => (refine' Ex.erc_mk KX G ?a ?hg ?hk ?hs ?hd ?ha ?hn ?ht ?hm ?cl ?ty ?kp ?sw ?sv ?cm; (case a => k_is); (case hg => k_is); (case hk => k_is); (case hs => k_is); (case hd => k_is); (case ha => k_is); (case hn => k_is); (case ht => k_is); (case hm => k_is); (case cl => k_is); (case ty => k_is); (case kp => k_is); (case sw => k_is); (case sv => k_is); (case cm => exact rfl)))
    (case e2 => (refine' Ex.erc_mk KX G ?a ?hg ?hk ?hs ?hd ?ha ?hn ?ht ?hm ?cl ?ty ?kp ?sw ?sv ?cm; (case a => k_is); (case hg => k_is); (case hk => k_is); (case hs => k_is); (case hd => k_is); (case ha => k_is); (case hn => k_is); (case ht => k_is); (case hm => k_is); (case cl => k_is); (case ty => k_is); (case kp => k_is); (case sw => k_is); (case sv => k_is); (case cm => exact rfl)))
    (case e3 => (refine' Ex.erc_mk KX G ?a ?hg ?hk ?hs ?hd ?ha ?hn ?ht ?hm ?cl ?ty ?kp ?sw ?sv ?cm; (case a => k_is); (case hg => k_is); (case hk => k_is); (case hs => k_is); (case hd => k_is); (case ha => k_is); (case hn => k_is); (case ht => k_is); (case hm => k_is); (case cl => k_is); (case ty => k_is); (case kp => k_is); (case sw => k_is); (case sv => k_is); (case cm => exact rfl)))
    (case e4 => (refine' Ex.erc_mk KX G ?a ?hg ?hk ?hs ?hd ?ha ?hn ?ht ?hm ?cl ?ty ?kp ?sw ?sv ?cm; (case a => k_is); (case hg => k_is); (case hk => k_is); (case hs => k_is); (case hd => k_is); (case ha => k_is); (case hn => k_is); (case ht => k_is); (case hm => k_is); (case cl => k_is); (case ty => k_is); (case kp => k_is); (case sw => k_is); (case sv => k_is); (case cm => exact rfl)))
    (case e5 => (refine' Ex.erc_mk KX G ?a ?hg ?hk ?hs ?hd ?ha ?hn ?ht ?hm ?cl ?ty ?kp ?sw ?sv ?cm; (case a => k_is); (case hg => k_is); (case hk => k_is); (case hs => k_is); (case hd => k_is); (case ha => k_is); (case hn => k_is); (case ht => k_is); (case hm => k_is); (case cl => k_is); (case ty => k_is); (case kp => k_is); (case sw => k_is); (case sv => k_is); (case cm => exact rfl)))
    (case nd => decide)
    (case o0 => (refine' Ex.oexc_mk ?xL ?om ?os ?oe ?ot ?ok; (case xL => k_is); (case om => exact rfl); (case os => k_is); (case oe => k_is); (case ot => k_is); (case ok => k_is)))
    (case o1 => (refine' Ex.oexc_mk ?xL ?om ?os ?oe ?ot ?ok; (case xL => k_is); (case om => exact rfl); (case os => k_is); (case oe => k_is); (case ot => k_is); (case ok => k_is)))
    (case o2 => (refine' Ex.oexc_mk ?xL ?om ?os ?oe ?ot ?ok; (case xL => k_is); (case om => exact rfl); (case os => k_is); (case oe => k_is); (case ot => k_is); (case ok => k_is)))
    (case o3 => (refine' Ex.oexc_mk ?xL ?om ?os ?oe ?ot ?ok; (case xL => k_is); (case om => exact rfl); (case os => k_is); (case oe => k_is); (case ot => k_is); (case ok => k_is)))
    (case n0 => (refine' Ex.NoF.mk ?a ?b ?c ?d ?e; (case a => k_is); (case b => k_is); (case c => k_is); (case d => k_is); (case e => k_is)))
    (case n1 => (refine' Ex.NoF.mk ?a ?b ?c ?d ?e; (case a => k_is); (case b => k_is); (case c => k_is); (case d => k_is); (case e => k_is)))
    (case n2 => (refine' Ex.NoF.mk ?a ?b ?c ?d ?e; (case a => k_is); (case b => k_is); (case c => k_is); (case d => k_is); (case e => k_is)))
    (case n3 => (refine' Ex.NoF.mk ?a ?b ?c ?d ?e; (case a => k_is); (case b => k_is); (case c => k_is); (case d => k_is); (case e => k_is)))
    (case q4 => k_exc)
    (case q5 => k_exc)
    (case m0 => (refine' Ex.ci_mk ?a ?i ?l ?c ?k ?b ?kb; (case a => k_is); (case i => k_is); (case l => k_is); (case c => k_is); (case k => k_is); (case b => exact fun _ _ _ _ _ _ us hl => match us, hl with | [_, _, _], _ => rfl); (case kb => exact fun _ _ _ _ _ _ us ws h1 h2 => match us, ws, h1, h2 with | [_], [_, _], _, _ => rfl)))
    (case m1 => (refine' Ex.ci_mk ?a ?i ?l ?c ?k ?b ?kb; (case a => k_is); (case i => k_is); (case l => k_is); (case c => k_is); (case k => k_is); (case b => exact fun _ _ _ _ _ _ us hl => match us, hl with | [_, _], _ => rfl); (case kb => exact fun _ _ _ _ _ _ us ws h1 h2 => match us, ws, h1, h2 with | [_], [_], _, _ => rfl)))
    (case m2 => (refine' Ex.ci_mk ?a ?i ?l ?c ?k ?b ?kb; (case a => k_is); (case i => k_is); (case l => k_is); (case c => k_is); (case k => k_is); (case b => exact fun _ _ _ _ _ _ us hl => match us, hl with | [_, _], _ => rfl); (case kb => exact fun _ _ _ _ _ _ us ws h1 h2 => match us, ws, h1, h2 with | [_], [_], _, _ => rfl)))
    (case m3 => (refine' Ex.ci_mk ?a ?i ?l ?c ?k ?b ?kb; (case a => k_is); (case i => k_is); (case l => k_is); (case c => k_is); (case k => k_is); (case b => exact fun _ _ _ _ _ _ us hl => match us, hl with | [_, _], _ => rfl); (case kb => exact fun _ _ _ _ _ _ us ws h1 h2 => match us, ws, h1, h2 with | [_], [_], _, _ => rfl)))
    (case B => (refine' Ex.names_mk KX G ?z1 ?z2 ?z3 ?z4 ?z5 ?z6 ?z7 ?z8 ?z9 ?z10 ?z11 ?z12 ?z13; (case z1 => k_is); (case z2 => k_is); (case z3 => k_is); (case z4 => k_is); (case z5 => k_is); (case z6 => k_is); (case z7 => k_is); (case z8 => k_is); (case z9 => k_is); (case z10 => k_is); (case z11 => k_is); (case z12 => k_is); (case z13 => k_is)))
    (case bV => (refine' Ex.none_mk KX G ?z; (case z => k_is)))
    (case g1 => (refine' Ex.top_mk KX G ?a ?l ?c ?k ?b; (case a => k_is); (case l => k_is); (case c => k_is); (case k => k_is); (case b => exact fun _ _ _ _ _ _ us hl => match us, hl with | [_], _ => rfl)))
    (case g2 => (refine' Ex.top_mk KX G ?a ?l ?c ?k ?b; (case a => k_is); (case l => k_is); (case c => k_is); (case k => k_is); (case b => exact fun _ _ _ _ _ _ us hl => match us, hl with | [_, _], _ => rfl)))
    (case g3 => (refine' Ex.top_mk KX G ?a ?l ?c ?k ?b; (case a => k_is); (case l => k_is); (case c => k_is); (case k => k_is); (case b => exact fun _ _ _ _ _ _ us hl => match us, hl with | [_, _], _ => rfl)))
    (case g4 => (refine' Ex.top_mk KX G ?a ?l ?c ?k ?b; (case a => k_is); (case l => k_is); (case c => k_is); (case k => k_is); (case b => exact fun _ _ _ _ _ _ us hl => match us, hl with | [_, _, _], _ => rfl)))
    (case g5 => (refine' Ex.top_mk KX G ?a ?l ?c ?k ?b; (case a => k_is); (case l => k_is); (case c => k_is); (case k => k_is); (case b => exact fun _ _ _ _ _ _ us hl => match us, hl with | [_, _, _], _ => rfl)))
    (case g6 => (refine' Ex.top_mk KX G ?a ?l ?c ?k ?b; (case a => k_is); (case l => k_is); (case c => k_is); (case k => k_is); (case b => exact fun _ _ _ _ _ _ us hl => match us, hl with | [_], _ => rfl)))
    (case g7 => (refine' Ex.top_mk KX G ?a ?l ?c ?k ?b; (case a => k_is); (case l => k_is); (case c => k_is); (case k => k_is); (case b => exact fun _ _ _ _ _ _ us hl => match us, hl with | [_, _], _ => rfl)))
    (case g8 => (refine' Ex.top_mk KX G ?a ?l ?c ?k ?b; (case a => k_is); (case l => k_is); (case c => k_is); (case k => k_is); (case b => exact fun _ _ _ _ _ _ us hl => match us, hl with | [_, _, _], _ => rfl)))
    (case g9 => (refine' Ex.top_mk KX G ?a ?l ?c ?k ?b; (case a => k_is); (case l => k_is); (case c => k_is); (case k => k_is); (case b => exact fun _ _ _ _ _ _ us hl => match us, hl with | [_], _ => rfl)))
