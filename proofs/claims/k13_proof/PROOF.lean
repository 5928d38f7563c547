import PyProof.Rows.All
import Wide.All
import OpenK.AllK
import Wide.FinOn
import KE.OsRunLaw
import KE.KNestM
import HandS.Words
import KE.KExcInit
import KE.KIsAll
import PySem.Challenge.RW_draftward_k13_draws_by_weights
import HandS.ForMost
import HandS.Walk
import HandS.AnyAll
import HandS.EndTab
import HandS.Zip
import HandS.GenOver
import PyProof.GenCompD
import KE.KeyNested
import KE.SortData
import KE.KDictList
import PyProof.DictMoreH
import PyProof.Rows.TupTab
import HandS.Dict
import HandS.List
import HandS.Conv
import HandS.DictTup
import HandS.Deep
import HandS.Style
import HandS.Strs
import HandS.StrMore
import HandS.Wide
import HandS.NoneIn
import HandS.Flow
import HandS.IsInst
import HandS.TupAny
import KE.GoesMore
import KE.GoesEnum
import HandS.Star
import PyProof.ListStr
import PyProof.ReprRoads
import KE.GoesZip
import PyProof.MeetsSeq2
import KE.KStar
import HandS.SortKw
import HandS.SortInts
import HandS.Exc
import HandS.ExcInit
import HandS.CallSlots
import HandS.Lambda
import HandS.TupMul
import HandS.WordsExc
import PyProof.SumWalkG
import HandS.Replace
import HandS.EndOwn
import PyProof.StrLawsRepr
import PyProof.FitsInt
import HandS.NamedTupSort
import HandS.RaiseMore
import HandS.SortRule
import HandS.TryOnly
import PyProof.Rows.TupDisplay
import HandS.Gcd
import KE.KDictPairs
import HandS.ForExc
import HandS.ExcIs
import KE.KExcIs
import HandS.ExcField
import KE.KIntText
import PyProof.Rows.ReprOcc
set_option Elab.async false
set_option linter.all false
set_option maxRecDepth 100000
namespace TH
open PySem PySem.W PySem.Calls PyProof.Rows HeadRun L2
/-- the objects at these places -/
def part (get : Addr → Option Obj) (as : List Addr) : Frag := as.filterMap fun a => (get a).map fun o => (a, o)
theorem part_in (h : Heap) : ∀ as : List Addr, (part h.get? as).In h
  | [], a, o, e => by cases e
  | b :: r, a, o, e => by
    have ih := part_in h r a o
    unfold part at e ih
    rw [List.filterMap_cons] at e
    cases hb : h.get? b with
    | none =>
      rw [hb] at e
      exact ih e
    | some x =>
      rw [hb] at e
      simp only [Option.map_some, List.lookup] at e
      split at e
      · rename_i q
        cases e
        rw [beq_iff_eq.mp q]
        exact hb
      · exact ih e
def topOf (p : Program) (i : Nat) : Stmt := p.main.body.getD i (.Pass ⟨0, 0, 0, 0⟩)
/-- a def of the text (sub: its place in a class's body), its object, its code -/
structure DD where
  name : Str
  qual : Str
  st : Nat
  sub : Option Nat
  f : Addr
  c : Addr
def DD.stmt (d : DD) (p : Program) : Stmt := match d.sub with
  | none => topOf p d.st
  | some j => inClass (topOf p d.st) j
def fnSeen (K : Frag) (a : Addr) : Option (Str × Str × Arguments × FuncBody × Scope × Addr × List (Str × Addr) × Value × Value × Addr) := match K.lookup a with
  | some ⟨_, _, .func fd, _⟩ => some (fd.name, fd.qualname, fd.params, fd.body, fd.scope, fd.globals, fd.closure, fd.defaults, fd.code, fd.builtins)
  | _ => none
def defSeen (K : Frag) (d : DD) := (fnSeen K d.f, codeIn K (.ref d.c) d.qual, keepIn K (.ref d.f), isFn K (.ref d.f))
def defGood (p : Program) (d : DD) : Option (Str × Str × Arguments × FuncBody × Scope × Addr × List (Str × Addr) × Value × Value × Addr) × Bool × Bool × Bool :=
  (some (d.name, d.qual, defArgs (d.stmt p), .stmts (defBody (d.stmt p)), defScope (d.stmt p), mainGlobals, [], .none, .ref d.c, builtinsNs), true, true, true)
structure FnFacts (K : Frag) (d : DD) (st : Stmt) : Prop where
  look : ∃ (oc : Value) (od : Option Addr) (kV dc pm : Value) (an : Option Addr) (ct : Value) (sl : Array (Option Value)),
    K.lookup d.f = some ⟨oc, od, .func (fnOf d.name d.qual (defArgs st) (defBody st) (defScope st) .none kV dc pm an (.ref d.c) ct), sl⟩
  code : codeIn K (.ref d.c) d.qual = true
  keep : keepIn K (.ref d.f) = true
  fn : isFn K (.ref d.f) = true
theorem fn_of {K : Frag} {p : Program} {d : DD} (e : defSeen K d = defGood p d) : FnFacts K d (d.stmt p) := by
  obtain ⟨e1, e2⟩ := Prod.mk.inj e
  obtain ⟨e2, e3⟩ := Prod.mk.inj e2
  obtain ⟨e3, e4⟩ := Prod.mk.inj e3
  refine ⟨?_, e2, e3, e4⟩
  unfold fnSeen at e1
  split at e1
  · rename_i oc od fd sl h
    obtain ⟨n, q, ar, b, sc, g, cl, df, kV, dc, pm, an, cd, ct, bl⟩ := fd
    simp only [Option.some.injEq, Prod.mk.injEq] at e1
    obtain ⟨rfl, rfl, rfl, rfl, rfl, rfl, rfl, rfl, rfl, rfl⟩ := e1
    exact ⟨oc, od, kV, dc, pm, an, ct, sl, h⟩
  · cases e1
/-- a class of errors over Exception, with its __init__ -/
def exOk (K : Frag) (C fI : Addr) : Bool :=
  excInitIn K C [.type "Exception", .type "BaseException", .type "object"] "Exception.__new__" && (excOver K C [.type "Exception", .type "BaseException", .type "object"] && (findIn K (.ref C) "__setattr__" == some (some (.builtin "object.__setattr__")) &&
  (findIn K (.ref C) "__getattribute__" == some (some (.builtin "BaseException.__getattribute__")) && (findIn K (.ref C) "__getattr__" == some none && (findIn K (.ref C) "thing" == some none && (findIn K (.ref C) "__init__" == some (some (.ref fI)) &&
  (typeIn K (.ref fI) == some (.type "function") && (keepIn K (.ref C) && (subIn K (.ref C) (.type "BaseException") == some true && (typeIn K (.ref C) == some (.type "type") && (hasDictIn K C && ((clsIn K C).isSome &&
  (findIn K (.ref C) "__class__" == some (some (.builtin "object.__class__")) && (specialIn K (.builtin "object.__class__") "__get__" == some (some (.builtin "getset_descriptor.__get__")) && (takesIn K (.builtin "object.__class__") == some true && mroIn K C (.type "object") == some true)))))))))))))))
structure ExF (K : Frag) (C fI : Addr) : Prop where
  xi : excInitIn K C [.type "Exception", .type "BaseException", .type "object"] "Exception.__new__" = true
  xo : excOver K C [.type "Exception", .type "BaseException", .type "object"] = true
  sa : findIn K (.ref C) "__setattr__" = some (some (.builtin "object.__setattr__"))
  ga : findIn K (.ref C) "__getattribute__" = some (some (.builtin "BaseException.__getattribute__"))
  gg : findIn K (.ref C) "__getattr__" = some none
  no : findIn K (.ref C) "thing" = some none
  iC : findIn K (.ref C) "__init__" = some (some (.ref fI))
  tI : typeIn K (.ref fI) = some (.type "function")
  kC : keepIn K (.ref C) = true
  ex : subIn K (.ref C) (.type "BaseException") = some true
  tC : typeIn K (.ref C) = some (.type "type")
  hd : hasDictIn K C = true
  cl : (clsIn K C).isSome = true
  ac : findIn K (.ref C) "__class__" = some (some (.builtin "object.__class__"))
  hn : specialIn K (.builtin "object.__class__") "__get__" = some (some (.builtin "getset_descriptor.__get__"))
  ht : takesIn K (.builtin "object.__class__") = some true
  hm : mroIn K C (.type "object") = some true
theorem exOk_of {K : Frag} {C fI : Addr} (h : exOk K C fI = true) : ExF K C fI := by
  unfold exOk at h
  simp only [Bool.and_eq_true, beq_iff_eq] at h
  obtain ⟨h1, h2, h3, h4, h5, h6, h7, h8, h9, h10, h11, h12, h13, h14, h15, h16, h17⟩ := h
  exact ⟨h1, h2, h3, h4, h5, h6, h7, h8, h9, h10, h11, h12, h13, h14, h15, h16, h17⟩
/-- what is looked up: names of the text and their values, defs, tables of codes, places of classes, the classes themselves -/
structure FD where
  as : List Addr
  ns : List (Str × Option Value)
  defs : List DD
  tabs : List (Addr × Addr)
  finds : List (Addr × Str × Option Value)
  cls : List Addr
  chk : List (Frag → Bool) := []
abbrev n1 (x : Str) (v : Option Value) : Str × Option Value := (x, v)
abbrev n2 (C : Addr) (x : Str) (v : Option Value) : Addr × Str × Option Value := (C, x, v)
abbrev Seen := List (Option (Option Value)) × List (Option (Str × Str × Arguments × FuncBody × Scope × Addr × List (Str × Addr) × Value × Value × Addr) × Bool × Bool × Bool) × List (Bool × Bool) × List (Option (Option Value)) × List (Bool × Bool × Bool × Bool × Bool) × List Bool
def seenAll (D : FD) (K : Frag) : Seen :=
  (D.ns.map fun x => nsIn K mainGlobals x.1, D.defs.map (defSeen K), D.tabs.map fun x => (codeHdIn K x.1 x.2, (K.lookup x.2).isNone),
    D.finds.map fun x => findIn K (.ref x.1) x.2.1, D.cls.map fun C => (plainGet K C Str.empty, hasDictIn K C, plainOver K C, makesIn K C, keepIn K (.ref C)), D.chk.map fun f => f K)
def goodAll (D : FD) (p : Program) : Seen :=
  (D.ns.map fun x => some x.2, D.defs.map (defGood p), D.tabs.map fun _ => (true, true), D.finds.map fun x => some x.2.2, D.cls.map fun _ => (true, true, true, true, true), D.chk.map fun _ => true)
def hook (D : FD) (p : Program) : Hook where
  α := Seen
  obs := fun s => seenAll D (part s.heap.get? D.as)
  val := fun _ => goodAll D p
  says := fun _ h => ∃ K : Frag, K.In h ∧ seenAll D K = goodAll D p
  of := fun _ s e => ⟨_, part_in s.heap D.as, e⟩
  keeps := fun _ _ _ x k => x.elim fun K y => ⟨K, y.1.keeps k, y.2⟩
theorem nth {α β γ : Type} {f : α → β} {g : α → β} {l : List α} (e : l.map f = l.map g) (i : Nat) {x : α} (h : l[i]? = some x) : f x = g x := by
  have := congrArg (fun l => l[i]?) e
  simp only [List.getElem?_map, h, Option.map_some, Option.some.injEq] at this
  exact this
section
variable {D : FD} {K : Frag} {p : Program} (e : seenAll D K = goodAll D p)
include e
theorem ns_at (i : Nat) {x : Str} {v : Option Value} (h : D.ns[i]? = some (x, v)) : nsIn K mainGlobals x = some v := nth (γ := Unit) (Prod.mk.inj e).1 i h
theorem def_at (i : Nat) {d : DD} {st : Stmt} (h : D.defs[i]? = some d) (hs : d.stmt p = st) : FnFacts K d st := hs ▸ fn_of (nth (γ := Unit) (Prod.mk.inj (Prod.mk.inj e).2).1 i h)
theorem tab_at (i : Nat) {c P : Addr} (h : D.tabs[i]? = some (c, P)) : ∃ e dd us sc, K.lookup c = some ⟨e, dd, .fields us, sc⟩ ∧ us[11]? = some (.ref P) ∧ K.lookup P = none ∧ codeHdIn K c P = true := by
  have z := nth (γ := Unit) (Prod.mk.inj (Prod.mk.inj (Prod.mk.inj e).2).2).1 i h
  obtain ⟨z1, z2⟩ := Prod.mk.inj z
  have z0 := z1
  unfold codeHdIn at z1
  split at z1
  · rename_i vs _ hk
    simp only [Bool.and_eq_true] at z1
    obtain ⟨⟨⟨⟨⟨e1, _⟩, _⟩, _⟩, _⟩, _⟩ := z1
    split at e1
    · rename_i P' h11
      rw [beq_iff_eq.mp e1] at h11
      exact ⟨_, _, _, _, hk, h11, Option.isNone_iff_eq_none.mp z2, z0⟩
    · cases e1
  · cases z1
theorem find_at (i : Nat) {C : Addr} {x : Str} {v : Option Value} (h : D.finds[i]? = some (C, x, v)) : findIn K (.ref C) x = some v := nth (γ := Unit) (Prod.mk.inj (Prod.mk.inj (Prod.mk.inj (Prod.mk.inj e).2).2).2).1 i h
theorem cls_at (i : Nat) {C : Addr} (h : D.cls[i]? = some C) : plainGet K C Str.empty = true ∧ hasDictIn K C = true ∧ plainOver K C = true ∧ makesIn K C = true ∧ keepIn K (.ref C) = true := by
  have z := nth (γ := Unit) (Prod.mk.inj (Prod.mk.inj (Prod.mk.inj (Prod.mk.inj (Prod.mk.inj e).2).2).2).2).1 i h
  simp only [Prod.mk.injEq] at z
  exact z
theorem chk_at (i : Nat) {f : Frag → Bool} (h : D.chk[i]? = some f) : f K = true := nth (γ := Unit) (Prod.mk.inj (Prod.mk.inj (Prod.mk.inj (Prod.mk.inj (Prod.mk.inj e).2).2).2).2).2 i h
end
/-- the heap's objects, each told -/
def frL {α : Type} : List Obj → (List Obj → α) → α
  | [], k => k []
  | o :: r, k => match o with
    | ⟨c, d, dt, sl⟩ => frL r fun r' => k (⟨c, d, dt, sl⟩ :: r')
theorem frL_eq {α : Type} : ∀ (l : List Obj) (k : List Obj → α), frL l k = k l
  | [], _ => rfl
  | ⟨_, _, _, _⟩ :: r, k => frL_eq r _
def told {α : Type} (s : SharedT) (k : Shared → α) : α := frL (s.tree.list s.n) fun l => k ⟨⟨⟨l⟩, s.life⟩, s.gens, s.drawn, s.toks, s.os⟩
theorem told_eq {α : Type} (s : SharedT) (k : Shared → α) : told s k = k s.abs := frL_eq _ _
/-- the looks behind the run -/
noncomputable def look (p q : Program) (loose : List Str) (x : Shared × SharedT) :=
  told x.2 fun s => (looksF p x.1.heap s, seenQ q loose (importedModules p.main.body) (fun s => xlAt q [] s && recOk [] s) s)
def RunE (keep : List Nat) (loose : List Str) (N : Nat) (p : Program) (w : World) : Prop :=
  (wholeF (fun p => stepQ (denQ tabQ) p w) fenceQ N p).map (look p (view p keep) loose) = some (true, openGood (view p keep) loose)
def RunF (D : FD) (N : Nat) (p : Program) (w : World) : Prop :=
  (wholeF (fun p => stepQ (denQ tabQ) p w) fenceQ N p).map (fun x => seenAll D (part (getT x.2) D.as)) = some (goodAll D p)
theorem map_both {α β γ : Type} {o : Option α} {f : α → β} {g : α → γ} {b : β} {c : γ} (x : o.map f = some b) (y : o.map g = some c) : o.map (fun a => (f a, g a)) = some (b, c) := by
  cases o with
  | none => cases x
  | some a =>
    cases x
    cases y
    rfl
theorem left_of {D : FD} {keep : List Nat} {loose : List Str} {N : Nat} {p : Program} (run : ∀ w, RunE keep loose N p w) (runF : ∀ w, RunF D N p w) :
    LeftO p (view p keep) loose (fun s => xlAt (view p keep) [] s && recOk [] s) (hook D p).obs (hook D p).val N true :=
  left_imp fun w => by
    have z := run w
    have z2 := runF w
    unfold RunE at z
    unfold RunF at z2
    have eo : look p (view p keep) loose = fun x => (looksF p x.1.heap x.2.abs, seenQ (view p keep) loose (importedModules p.main.body) (fun s => xlAt (view p keep) [] s && recOk [] s) x.2.abs) := by
      funext x
      unfold look
      rw [told_eq]
    have eo2 : (fun x : Shared × SharedT => seenAll D (part (getT x.2) D.as)) = fun x => (hook D p).obs x.2.abs := by
      funext x
      have : getT x.2 = x.2.abs.heap.get? := funext fun a => getT_eq x.2 a
      rw [this]
      rfl
    rw [eo] at z
    rw [eo2] at z2
    have y := map_both z z2
    rw [wholeQ_eq]
    simp only [seenQ_eq]
    cases e : wholeF (fun p => stepQ (denQ tabQ) p w) fenceQ N p with
    | none =>
      rw [e] at y
      cases y
    | some x =>
      rw [e] at y
      obtain ⟨y1, y2⟩ := Prod.mk.inj (Option.some.inj y)
      obtain ⟨y3, y4⟩ := Prod.mk.inj y1
      exact congrArg some (Prod.ext y3 (Prod.ext y4 y2))
/-- the head -/
theorem head {l : OpenLaw} {tp : Program} {D : FD} {keep : List Nat} {loose : List Str} {N : Nat} {d : DefRec} (te : l.prog = tp) (run : ∀ w, RunE keep loose N tp w) (runF : ∀ w, RunF D N tp w) (k1 : l.row.wellSaid = true)
    (hdef : defOf (view l.prog keep) l.name = some (d, [])) (hp : l.prog.theDef l.name = some (d.params, d.body, d.scope)) (hk : kwWritten? d.params.kwonlyargs d.params.kw_defaults = some [])
    (ok : (chainsOk (view l.prog keep) && opensWell l.prog && (frees l.row.toRowW && l.row.within.isEmpty)) = true) (hb : l.prog.bare) (hw : l.row.toRowW.promised)
    (call : WalkO (view l.prog keep) loose (XL (view l.prog keep) []) (hook D l.prog).says l.row.toRowW d [] fun f vs => PySem.call f vs) : l.row.Holds := by
  have run' : ∀ w, RunE keep loose N l.prog w := by rw [te]; exact run
  have runF' : ∀ w, RunF D N l.prog w := by rw [te]; exact runF
  exact holds_open (r := l.row) (q := view l.prog keep) (loose := loose) (XP := XL (view l.prog keep) []) (YP := (hook D l.prog).says) (d := d) (kwd := []) (left_of run' runF') (hook D l.prog).of (hook D l.prog).keeps
    (fun s z => xl_of s (Bool.and_eq_true_iff.mp z).1) XL.keeps hdef hp hk (fun s z => recFacts_of (Bool.and_eq_true_iff.mp z).2) (by simp [OpenLaw.row]) k1 ok hb hw call
end TH
set_option Elab.async false
set_option linter.all false
set_option maxRecDepth 100000
set_option maxHeartbeats 0
lay_quick PySem.Challenge.rw_draftward_k13_draws_by_weights
namespace Z13
open PySem PySem.W PyProof.Rows
def hD : TH.FD where
  as := [3, 2, 20, 21, 30, 31, 47, 48, 50, 51, 66, 67, 69, 70, 85, 86, 88, 89, 97, 98, 104, 105, 111, 112, 118, 119, 125, 126, 132, 133, 146, 147, 153, 154, 160, 161, 170, 171, 181, 182, 188, 189, 195, 196, 202, 203, 207, 208, 214, 215, 221, 222, 228, 229, 233, 234]
  ns := [TH.n1 "_wall" (some (.ref 21)),
    TH.n1 "is_integer" (some (.ref 98)),
    TH.n1 "is_integer_from" (some (.ref 105)),
    TH.n1 "are_weights" (some (.ref 112)),
    TH.n1 "is_tape" (some (.ref 119)),
    TH.n1 "need_number" (some (.ref 126)),
    TH.n1 "need_tape" (some (.ref 133)),
    TH.n1 "draw" (some (.ref 182)),
    TH.n1 "_law_deck" (some (.ref 189)),
    TH.n1 "_law_draw" (some (.ref 196)),
    TH.n1 "_law_pick" (some (.ref 203)),
    TH.n1 "_law_drawn_weights" (some (.ref 208)),
    TH.n1 "_law_taken" (some (.ref 215)),
    TH.n1 "_law_tried" (some (.ref 222)),
    TH.n1 "_law_are_all_numbers_right" (some (.ref 229)),
    TH.n1 "law" (some (.ref 234)),
    TH.n1 "DraftError" (some (.ref 31)),
    TH.n1 "BadNumber" (some (.ref 51)),
    TH.n1 "BadTape" (some (.ref 70)),
    TH.n1 "BadWeights" (some (.ref 89)),
    TH.n1 "TapeReader" (some (.ref 171)),
    TH.n1 "all" (none),
    TH.n1 "bool" (none),
    TH.n1 "enumerate" (none),
    TH.n1 "int" (none),
    TH.n1 "isinstance" (none),
    TH.n1 "len" (none),
    TH.n1 "list" (none),
    TH.n1 "max" (none),
    TH.n1 "range" (none),
    TH.n1 "repr" (none),
    TH.n1 "sum" (none),
    TH.n1 "tuple" (none)]
  defs := [TH.DD.mk "_wall" "_wall" 0 none 21 20,
    TH.DD.mk "is_integer" "is_integer" 7 none 98 97,
    TH.DD.mk "is_integer_from" "is_integer_from" 8 none 105 104,
    TH.DD.mk "are_weights" "are_weights" 9 none 112 111,
    TH.DD.mk "is_tape" "is_tape" 10 none 119 118,
    TH.DD.mk "need_number" "need_number" 12 none 126 125,
    TH.DD.mk "need_tape" "need_tape" 13 none 133 132,
    TH.DD.mk "draw" "draw" 17 none 182 181,
    TH.DD.mk "_law_deck" "_law_deck" 19 none 189 188,
    TH.DD.mk "_law_draw" "_law_draw" 20 none 196 195,
    TH.DD.mk "_law_pick" "_law_pick" 21 none 203 202,
    TH.DD.mk "_law_drawn_weights" "_law_drawn_weights" 22 none 208 207,
    TH.DD.mk "_law_taken" "_law_taken" 23 none 215 214,
    TH.DD.mk "_law_tried" "_law_tried" 24 none 222 221,
    TH.DD.mk "_law_are_all_numbers_right" "_law_are_all_numbers_right" 25 none 229 228,
    TH.DD.mk "law" "law" 26 none 234 233,
    TH.DD.mk "__init__" "TapeReader.__init__" 15 (some 0) 147 146,
    TH.DD.mk "below" "TapeReader.below" 15 (some 1) 154 153,
    TH.DD.mk "token_by" "TapeReader.token_by" 15 (some 2) 161 160,
    TH.DD.mk "__init__" "BadNumber.__init__" 3 (some 0) 48 47,
    TH.DD.mk "__init__" "BadTape.__init__" 4 (some 0) 67 66,
    TH.DD.mk "__init__" "BadWeights.__init__" 5 (some 0) 86 85]
  tabs := [(111, 107), (118, 114), (233, 231)]
  finds := [TH.n2 171 "__init__" (some (.ref 147)),
    TH.n2 171 "below" (some (.ref 154)),
    TH.n2 171 "token_by" (some (.ref 161)),
    TH.n2 171 "__setattr__" (some (.builtin "object.__setattr__")),
    TH.n2 171 "tape" none,
    TH.n2 171 "used" none]
  cls := [171]
  chk := [fun K => TH.exOk K 51 48,
    fun K => TH.exOk K 70 67,
    fun K => TH.exOk K 89 86,
    fun K => PySem.W.kitOne K (.ref 51) (.ref 51) == some true,
    fun K => PySem.W.kitOne K (.ref 70) (.ref 51) == some false,
    fun K => PySem.W.kitOne K (.ref 89) (.ref 51) == some false,
    fun K => PySem.W.kitOne K (.ref 51) (.ref 70) == some false,
    fun K => PySem.W.kitOne K (.ref 70) (.ref 70) == some true,
    fun K => PySem.W.kitOne K (.ref 89) (.ref 70) == some false,
    fun K => PySem.W.kitOne K (.ref 51) (.ref 89) == some false,
    fun K => PySem.W.kitOne K (.ref 70) (.ref 89) == some false,
    fun K => PySem.W.kitOne K (.ref 89) (.ref 89) == some true,
    fun K => PySem.W.exmOne K (.ref 51) (.ref 31) == some true,
    fun K => PySem.W.exmOne K (.ref 70) (.ref 31) == some true,
    fun K => PySem.W.exmOne K (.ref 89) (.ref 31) == some true]
def hKeep : List Nat := [9, 10, 26]
def hLoose : List Str := [("_wall" : Str), ("DraftError" : Str), ("BadNumber" : Str), ("BadTape" : Str), ("BadWeights" : Str), ("is_integer" : Str), ("is_integer_from" : Str), ("need_number" : Str), ("need_tape" : Str), ("TapeReader" : Str), ("draw" : Str), ("_law_deck" : Str), ("_law_draw" : Str), ("_law_pick" : Str), ("_law_drawn_weights" : Str), ("_law_taken" : Str), ("_law_tried" : Str), ("_law_are_all_numbers_right" : Str)]
theorem run0 (w : World) : TH.RunE hKeep hLoose 4000 PySem.W.Fast.tw5206889699587591634 w := by
  unfold TH.RunE
  kernel_rfl
theorem runF (w : World) : TH.RunF hD 4000 PySem.W.Fast.tw5206889699587591634 w := by
  unfold TH.RunF
  kernel_rfl
end Z13
set_option Elab.async false
set_option linter.all false
set_option maxRecDepth 100000
set_option maxHeartbeats 4000000
namespace Gn
open PySem PySem.Spec PyProof.Rows L2 GxR
/-- the context of a generator expression's frame, that starts at s -/
abbrev gcx (X : Cx) (A' : Around) (s : Shared) (H : Hp) (cenv : Env) (scope : Scope) (fp : List Addr) : Cx :=
  { X with A := A', s_0 := s, H_0 := H, env := cenv, outer := X.stack, stack := cenv :: X.stack, ex := fp, fn := fun x => scope.names.lookup x == some .cell, pn := [], xe := fun _ _ => False }
section
variable {X : Cx} {pins : List (Addr × Obj)} {σ : L2.St} {H : Hp} {s : Shared}
/-- all objects kept, generators as they like -/
theorem inv_same {s' : Shared} (I : Inv X pins σ H s) (k : ∀ b o, s.heap.get? b = some o → s'.heap.get? b = some o) (ho : s'.os = s.os) (hg : AllBare s'.gens) : Inv X pins σ H s' :=
  I.call' (ch := []) ho (Un.kept k) (I.hok.kept k) hg fun b hb => absurd hb (by simp)
theorem gen_start {scope : Scope} {own : List (Str × Nat)} {fp : List Addr} {code : Value} {A' : Around} {h' : Heap} {t' : Nat} {g' : Array GenState} {m : Str → Option Value}
    (I : Inv X pins σ H s) (ok : BlkOk X.N X.env.scope scope own) (hcell : ∀ y ∈ scope.names, y.2 ≠ .cell) (hN : X.N.Nodup) (hfp : ∀ b ∈ fp, FpOk X pins H b ∧ b < s.heap.objs.size)
    (hd : A'.handled = none) (hfr : A'.frames = some (genEnv scope (cloFrom X.env.cells scope.names []) s.heap.objs.size code builtinsNs X.env :: X.stack))
    (kp : ∀ b o, s.heap.get? b = some o → h'.get? b = some o) (hn : h'.Ns s.heap.objs.size m) (hg : AllBare g') :
    Inv (gcx X A' s H (genEnv scope (cloFrom X.env.cells scope.names []) s.heap.objs.size code builtinsNs X.env) scope fp) [] (wipe σ (own.map (·.2))) H { s with heap := h', toks := t', gens := g' } := by
  have hfree : ∀ y ∈ scope.names, y.2 = .free → ∃ c, X.env.cells.lookup y.1 = some c := fun y hy e => by
    rcases ok.free y hy e with k | k
    · exact I.ok.has _ (.inl k)
    · exact I.ok.has _ (.inr k)
  generalize hcenv : genEnv scope (cloFrom X.env.cells scope.names []) s.heap.objs.size code builtinsNs X.env = cenv at hfr ⊢
  have hL : cenv.locals = s.heap.objs.size := by rw [← hcenv]; rfl
  have hcl : cenv.cells = cloFrom X.env.cells scope.names [] := by rw [← hcenv]; rfl
  have hsc : cenv.scope = scope := by rw [← hcenv]; rfl
  have cm : ∀ {y c}, cenv.cells.lookup y = some c → X.env.cells.lookup y = some c ∧ c < s.heap.objs.size := fun {y c} e => by
    rw [hcl] at e
    rcases cloFrom_mem (PySem.mem_of_lookup e) with hm | ⟨h1, rfl⟩
    · cases hm
    · obtain ⟨c, hc⟩ := hfree _ h1 rfl
      rw [hc]
      obtain ⟨w, z⟩ := I.cell _ _ hc
      exact ⟨rfl, z.lt⟩
  have look : ∀ {y}, scope.names.lookup y = some .free → ∃ c, cenv.cells.lookup y = some c ∧ X.env.cells.lookup y = some c := fun {y} hl => by
    have hy : (y, NameKind.free) ∈ scope.names := PySem.mem_of_lookup hl
    obtain ⟨c', e'⟩ := mem_lookup (cloFrom_has (cells := X.env.cells) (acc := []) hy)
    rw [← hcl] at e'
    exact ⟨c', e', (cm e').1⟩
  have ncell : ∀ {y}, ¬ cenv.kindOf y = some .cell := fun {y} hy => by
    unfold Env.kindOf at hy
    rw [hsc] at hy
    exact hcell _ (PySem.mem_of_lookup hy) rfl
  have okB : (gcx X A' s H cenv scope fp).Ok := by
    refine ⟨I.ok.mod, by show cenv.scope.kind = _; rw [hsc]; exact ok.kind, by show cenv.globals = _; rw [← hcenv]; exact I.ok.glob, by show cenv.builtins = _; rw [← hcenv]; rfl, by show s.heap.objs.size ≤ cenv.locals; rw [hL]; exact Nat.le_refl _,
      fun y z c e1 e2 => I.ok.inj y z c (cm e1).1 (cm e2).1, fun y hy => ?_, fun y c z e => ?_, fun _ => hd, hfr, .inr ⟨rfl, by show cenv.frame = some cenv.locals; rw [← hcenv]; rfl⟩, fun b hb => ⟨?_, fun y c e z => ?_⟩, I.bs, Nat.le_trans I.ok.bsz I.sz, fun b o e hb => ?_, fun b hb z => ?_, I.stack, I.stkFree⟩
    · rcases hy with hy | hy
      · exact absurd hy ncell
      · have hy : cenv.scope.names.lookup y = some .free := hy
        rw [hsc] at hy
        obtain ⟨c, h1, _⟩ := look hy
        exact ⟨c, h1⟩
    · have z : (scope.names.lookup y == some NameKind.cell) = true := z
      have z : scope.names.lookup y = some .cell := by simpa using z
      exact absurd rfl (hcell _ (PySem.mem_of_lookup z))
    · show b ≠ cenv.locals
      rw [hL]; exact Nat.ne_of_lt (hfp b hb).2
    · exact (hfp b hb).1.2.2.2.2.1 y c (cm e).1 z
    · rcases (hfp b hb).1.2.2.2.1 with z | z
      · exact I.ok.noex b o e z
      · exact absurd (Nat.lt_of_lt_of_le (Heap.lt_size e) (Nat.le_trans I.ok.bsz z)) (Nat.lt_irrefl _)
    · rcases List.mem_cons.mp (I.stkSub b z) with z | z
      · exact (hfp b hb).1.2.1 z
      · exact (hfp b hb).1.2.2.1 z
  refine ⟨okB, rfl, hg, Un.kept kp, ⟨m, ?_, fun i y av e1 e2 e3 => ?_⟩, fun y c e => ?_, ?_, fun y c e => ?_, fun p hp => ?_, I.hok.kept kp, by rw [wipe_length]; exact I.len⟩
  · show Heap.Ns _ cenv.locals _
    rw [hL]
    exact hn
  · obtain ⟨e2, hne⟩ := wipe_some e2
    have hfr : scope.names.lookup y = some .free := by
      have no : ∀ k, scope.names.lookup y = some k → ¬ (k = .local ∨ k = .cell) := fun k e hh => by
        rcases ok.own _ (PySem.mem_of_lookup e) hh with e' | e'
        · obtain ⟨p, hp, hpy⟩ := List.mem_map.mp e'
          have e3 := ok.ix p hp
          have : p.1 = y := hpy
          rw [this] at e3
          exact hne (List.mem_map.mpr ⟨p, hp, nodup_ix hN e3 e1⟩)
        · exact e' (List.mem_of_getElem? e1)
      have e3 : Vis cenv.scope y := e3
      rw [hsc] at e3
      rcases e3 with e3 | e3 | e3
      · exact absurd (.inl rfl) (no _ e3)
      · exact absurd (.inr rfl) (no _ e3)
      · exact e3
    obtain ⟨m, hn, hl⟩ := I.loc
    have hvis : Vis X.env.scope y := (ok.free _ (PySem.mem_of_lookup hfr) rfl).elim (fun k => .inr (.inl k)) (fun k => .inr (.inr k))
    obtain ⟨w, r, q⟩ := hl i y av e1 e2 hvis
    refine ⟨w, r, .inr ⟨.inr (by show cenv.scope.names.lookup y = _; rw [hsc]; exact hfr), ?_⟩⟩
    obtain ⟨c, h1, h2⟩ := look hfr
    rcases q with ⟨k, _⟩ | ⟨_, c', e', z⟩
    · have k : X.env.scope.names.lookup y = some .local := k
      rcases ok.free _ (PySem.mem_of_lookup hfr) rfl with k' | k' <;> rw [show X.env.scope.names.lookup y = _ from k'] at k <;> cases k
    · rw [h2] at e'; cases e'
      exact ⟨c, h1, z.keeps kp⟩
  · obtain ⟨w, z⟩ := I.cell y c (cm e).1
    exact ⟨w, z.keeps kp⟩
  · show H cenv.locals = none
    rw [hL]; exact I.hok.fresh (Nat.le_refl _)
  · exact I.freeC y c (cm e).1
  · exact absurd (show p ∈ ([] : List (Addr × Obj)) ++ [] from hp) (by simp)
end
end Gn
set_option Elab.async false
set_option linter.all false
set_option maxRecDepth 100000
set_option maxHeartbeats 4000000
namespace Gn
open PySem PySem.Spec PyProof.Rows L2 GxR
section
variable {elt tg iter : Expr} {scope : Scope} {pos : Pos} {it acc : Value} {cenv : Env}
theorem over_gloop (A : Around) : A.over (.compLoop (.GeneratorExp elt [⟨tg, iter, [], 0⟩] scope pos) 0 it acc cenv) [] = A.deeper cenv := by
  first
    | rfl
    | (obtain ⟨hd, d, fr, gs, u⟩ := A; simp [Around.over, Around.deeper, marksOver, frameCount, unitsOf, envsOf, guardsOf, pushEnvs, pushGuards, Code.envs, Code.env?, Code.isFrame, Code.guards, Code.isGuard, Code.weight, Code.frames, Code.isCreation, Code.isCaller, Code.cUnits])
end
/-- one turn as it is told: W by the turn and a measure -/
def AllStep (J : It) (g : TG) (te : TE) (σ : L2.St) (vs : List Nat) (W : Nat → Nat → Hp → Prop) (Q : VK) : Prop := ∀ i m H, W i m H →
  (J.stop i H ∧ Q (.bl true) H) ∨ (J.go i H ∧ ∀ x H', J.yld i H x H' → g x (wipe σ vs) H' fun σ2 H2 => wipe σ2 vs = wipe σ vs ∧ te σ2 H2 fun y H3 =>
    ∃ b, y = .bl b ∧ if b = true then ∃ m', m' < m ∧ W (i + 1) m' H3 else Q (.bl false) H3)
/-- what the generator's end is worth -/
def genR (X : Cx) (pins : List (Addr × Obj)) (σ : L2.St) (a : Addr) (o : Obj) (g : Nat) (Q : VK) : Shared → Prop := fun s1 =>
  ∃ H', Inv X pins σ H' s1 ∧ s1.heap.get? a = some o ∧ g < s1.gens.size ∧ Q (.bl true) H'
/-- a value given out -/
def genY (X : Cx) (pins : List (Addr × Obj)) (σ : L2.St) (a : Addr) (o : Obj) (g : Nat) (Q : VK) : Protocol := fun _ _ v s kap =>
  ∃ b H', v = .bool b ∧ Inv X pins σ H' s ∧ s.heap.get? a = some o ∧ g < s.gens.size ∧
    if b = true then ∀ s'' : Shared, (∀ b o, s.heap.get? b = some o → s''.heap.get? b = some o) → s''.os = s.os → AllBare s''.gens → g < s''.gens.size → kap (.send .none) s'' else Q (.bl false) H'
section
variable {elt tg iter : Expr} {scope : Scope} {pos : Pos} {it : Addr} {cenv : Env}
theorem sbw {M : Model} {A : Around} {R : GenEnd} {Y : Protocol} {n : Nat} {s₀ : Shared} {s : Shared} {α β : Type} {m : Sem α} {K : α → Sem β} {K' : β → Sem Fin} {H' : Value → Sem Fin} {gd lv}
    (h : wpAny M (A.deeper cenv) m (fun a s' => Seg M A R Y n s₀ (.compLoop (.GeneratorExp elt [⟨tg, iter, [], 0⟩] scope pos) 0 (.ref it) .none cenv) ((K a).wrap K' H' gd lv) [] s') (fun _ _ => False) s) :
    Seg M A R Y n s₀ (.compLoop (.GeneratorExp elt [⟨tg, iter, [], 0⟩] scope pos) 0 (.ref it) .none cenv) ((m >>= K).wrap K' H' gd lv) [] s :=
  seg_bind_wrap (by rw [over_gloop]; exact wpAny_mono h (fun _ _ z => z) fun _ _ z => False.elim z)
theorem sw {M : Model} {A : Around} {R : GenEnd} {Y : Protocol} {n : Nat} {s₀ : Shared} {s : Shared} {α : Type} {m : Sem α} {K' : α → Sem Fin} {H' : Value → Sem Fin} {gd lv}
    (h : wpAny M (A.deeper cenv) m (fun a s' => Seg M A R Y n s₀ (.compLoop (.GeneratorExp elt [⟨tg, iter, [], 0⟩] scope pos) 0 (.ref it) .none cenv) (K' a) [] s') (fun _ _ => False) s) :
    Seg M A R Y n s₀ (.compLoop (.GeneratorExp elt [⟨tg, iter, [], 0⟩] scope pos) 0 (.ref it) .none cenv) (m.wrap K' H' gd lv) [] s :=
  seg_wrap (by rw [over_gloop]; exact wpAny_mono h (fun _ _ z => z) fun _ _ z => False.elim z)
/-- the number of generators never falls -/
theorem gsz {α : Type} {M : Model} {A : Around} {s : Shared} {t : Sem α} {Q : α → Shared → Prop} {g : Nat} (hn : g < s.gens.size) (h : wpAny M A t (fun a s' => g < s'.gens.size → Q a s') (fun _ _ => False) s) : wpAny M A t Q (fun _ _ => False) s :=
  GenW.wpAny_gsz (n := g + 1) hn (wpAny_mono h (fun _ _ z => z) fun _ _ z => False.elim z)
end
section
variable {X : Cx} {pins : List (Addr × Obj)} {σ : L2.St}
theorem seg_loop {elt tg iter : Expr} {scope : Scope} {pos : Pos} {own : List (Str × Nat)} {it : Addr} {fp : List Addr} {tn : Nat → Heap → Prop} {J : It} {gt : TG} {te : TE} {W : Nat → Nat → Hp → Prop} {Q : VK} {s4 : Shared} {H4 : Hp} {cenv : Env} {a : Addr} {o : Obj} {g : Nat} {A1 : Around}
    (I4 : Inv X pins σ H4 s4) (f4 : ∀ b ∈ fp, FpOk X pins H4 b) (hab : ∀ b ∈ fp, a ≠ b) (hc : X.calm = true) (hco : cenv.scope.isCoroutine = false) (T : Turn X.prog X.w X.K tg J fp it tn)
    (pg : PG (gcx X (A1.deeper cenv) s4 H4 cenv scope fp) tg gt) (pe : PE (gcx X (A1.deeper cenv) s4 H4 cenv scope fp) elt te) (turn : AllStep J gt te σ (own.map (·.2)) W Q) :
    ∀ (n i m : Nat) (s₀ s : Shared) (H : Hp), m ≤ n → Inv (gcx X (A1.deeper cenv) s4 H4 cenv scope fp) [(a, o)] (wipe σ (own.map (·.2))) H s → tn i s.heap → (∀ b ∈ fp, H b = none) → W i m H → g < s.gens.size →
      Seg (model X.prog X.w) A1 (fun _ _ r s1 => r = .ok .next ∧ genR X pins σ a o g Q s1) (genY X pins σ a o g Q) (n + 1) s₀
        (.compLoop (.GeneratorExp elt [⟨tg, iter, [], 0⟩] scope pos) 0 (.ref it) .none cenv)
        ((model X.prog X.w).den (.compLoop (.GeneratorExp elt [⟨tg, iter, [], 0⟩] scope pos) 0 (.ref it) .none cenv)) [] s := by
  have stat : ∀ {σ' : L2.St} {H' : Hp} {s' : Shared}, Inv (gcx X (A1.deeper cenv) s4 H4 cenv scope fp) [(a, o)] σ' H' s' → (∀ b ∈ fp, H' b = none) → (∀ b ∈ fp, a ≠ b) → ∀ b ∈ fp, FpOk (gcx X (A1.deeper cenv) s4 H4 cenv scope fp) [(a, o)] H' b := fun {σ' H' s'} I' hn ha b hb =>
    ⟨hn b hb, (I'.ok.exf b hb).1, I'.ok.exfs b hb, .inl hb, fun x c e => (I'.ok.exf b hb).2 x c e, fun p hp => by
      have : p = (a, o) := by simpa using hp
      rw [this]; exact ha b hb⟩
  have back : ∀ {σ' : L2.St} {H' : Hp} {s' : Shared} {pl : List (Addr × Obj)}, Inv (gcx X (A1.deeper cenv) s4 H4 cenv scope fp) pl σ' H' s' → Inv X pins σ H' s' := fun {σ' H' s' pl} I6 =>
    I4.call' (ch := fp) I6.os I6.base I6.hok I6.bare fun b hb => ⟨(f4 b hb).2.2.2.1, (f4 b hb).2.1, (f4 b hb).2.2.2.2.1, (f4 b hb).2.2.2.2.2⟩
  intro n
  induction n with
  | zero => ?_
  | succ n ih => ?_
  all_goals
    intro i m s₀ s H hm I st nf w hg
    show Seg _ A1 _ _ _ s₀ _ ((compTurn (.GeneratorExp elt [⟨tg, iter, [], 0⟩] scope pos) 0 (.ref it) .none cenv).onRaise (leaving cenv)) [] s
    rw [compTurn_gen, Sem.onRaise_eq_wrap]
    refine sbw (wpAny_standAt ?_)
    rcases turn i m H w with ⟨stop, qq⟩ | ⟨go, step⟩
    · refine sbw (gsz hg (thnF (T.done (gcx X (A1.deeper cenv) s4 H4 cenv scope fp) rfl rfl rfl hc i _ s _ H (fun _ _ => False) I (stat I nf hab) st stop) fun r s6 ⟨hr, I6⟩ hg6 => ?_))
      subst hr
      exact seg_end (.ok .next) ⟨rfl, H, back I6, (I6.pin (a, o) (by simp)).1, hg6, qq⟩
    · refine sbw (gsz hg (thnF (T.item (gcx X (A1.deeper cenv) s4 H4 cenv scope fp) rfl rfl rfl hc i _ s _ H (fun _ _ => False) I (stat I nf hab) st go) fun r s6 ⟨u, hr, h6⟩ hg6 => ?_))
      subst hr
      refine sbw (gsz hg6 (thnF h6 fun _ s7 ⟨x, H7, I7, r7, y7, st7, n7⟩ hg7 => ?_))
      have I7' := I7.pinned (stat I7 n7 hab) (T.obj _ _ st7)
      refine sbw (gsz hg7 (thnF (pg.run _ s7 _ H7 x u _ I7' r7 (step x H7 y7)) fun _ s8 ⟨σ8, H8, I8, hw8, q8⟩ hg8 => ?_))
      refine sbw (gsz hg8 (thnF ((pts_nil (X := gcx X (A1.deeper cenv) s4 H4 cenv scope fp)).run _ s8 σ8 H8 (fun b H => b = true ∧ H = H8) I8 ⟨rfl, rfl⟩) fun b s9 ⟨H9, I9, hb, hH9⟩ hg9 => ?_))
      subst hb hH9
      simp only [if_true]
      have hy : ∀ v, yieldOut cenv v = yieldValue v := fun v => by simp only [yieldOut, hco, Bool.false_eq_true, if_false]
      simp only [hy]
      rw [Sem.bind_eq_wrap', Sem.bind_eq_wrap', Sem.wrap_wrap, Sem.wrap_wrap]
      refine sw (gsz hg9 (thnF (pe.run _ s9 σ8 H9 _ I9 q8) fun z s10 ⟨yv, H10, I10, r10, b, hyv, nx⟩ hg10 => ?_))
      subst hyv
      have r10 : z = .bool b := r10
      subst r10
      have pA : s10.heap.get? a = some o := (I10.pin (a, o) (by simp)).1
      have pin' : ∀ b ∈ fp, ∀ o, s7.heap.get? b = some o → s10.heap.get? b = some o ∧ H10 b = none := fun b hb o e =>
        let z := I10.pin (b, o) (List.mem_append_right _ (List.mem_append_right _ (mem_pinsAt hb e)))
        ⟨z.1, z.2.1⟩
      have hl : (wipe σ (own.map (·.2))).length = σ8.length := by rw [← hw8, wipe_length]
      have I11 : Inv (gcx X (A1.deeper cenv) s4 H4 cenv scope fp) [(a, o)] (wipe σ (own.map (·.2))) H10 s10 := (I10.unpinned (pins := [(a, o)])).weak hl fun j v e => by
        rw [← hw8] at e
        exact (wipe_some e).1
      refine seg_at (seg_yield rfl rfl rfl ⟨b, H10, rfl, back I10, pA, hg10, ?_⟩)
      cases b with
      | false =>
        simp only [Bool.false_eq_true, if_false] at nx ⊢
        exact nx
      | true =>
        simp only [if_true] at nx ⊢
        obtain ⟨m', hm', w'⟩ := nx
        intro s'' hk ho hb hg''
        first
          | exact absurd (Nat.lt_of_lt_of_le hm' hm) (Nat.not_lt_zero _)
          | exact seg_again rfl (ih (i + 1) m' s'' s'' H10 (by omega) (inv_same I11 hk ho hb) (T.keep _ _ _ st7 fun b hb o e => hk b o (pin' b hb o e).1) (fun b hb => by
              obtain ⟨o, e, _⟩ := T.obj _ _ st7 b hb
              exact (pin' b hb o e).2) w' hg'')
end
end Gn
set_option Elab.async false
set_option linter.all false
set_option maxRecDepth 100000
set_option maxHeartbeats 4000000
namespace Gn
open PySem PySem.Spec PyProof.Rows L2 GxR
theorem setGen_at {s : Shared} {g : Nat} {x : GenState} (h : g < s.gens.size) : (s.setGen g x).gens[g]? = some x := by
  simp [Shared.setGen, h]
theorem setB (s : Shared) (g : Nat) (x : GenState) (hb : AllBare s.gens) (hx : x.bare = true) : AllBare (s.setGen g x).gens := by
  intro y hy
  obtain ⟨i, hi, rfl⟩ := Array.mem_iff_getElem.mp hy
  by_cases e : i = g
  · subst e
    have hi' : i < s.gens.size := by rw [GenW.setGen_size] at hi; exact hi
    have h1 := setGen_at (x := x) hi'
    rw [Array.getElem?_eq_getElem hi] at h1
    rw [Option.some.inj h1]
    exact hx
  · have h1 := (GenOnly.setGen s g x).2 i e
    rw [Array.getElem?_eq_getElem hi] at h1
    obtain ⟨hi', e'⟩ := Array.getElem?_eq_some_iff.mp h1.symm
    exact e' ▸ hb _ (Array.getElem_mem hi')
section
variable {X : Cx} {pins : List (Addr × Obj)} {σ : L2.St}
/-- all's loop over the generator -/
theorem all_loop {a : Addr} {o : Obj} {g : Nat} {Q : VK} {Rr : Result → Shared → Prop} (hc : X.calm = true) (hroom : X.A.depth < recursionLimit) (hgen : ∀ h : Heap, h.get? a = some o → h.IsGen a g)
    (hR : ∀ b s' H', Inv X pins σ H' s' → Q (.bl b) H' → Rr (.ok (.ret (.bool b))) s') :
    ∀ (n : Nat) (s : Shared) (H : Hp) (gs : GenState), Inv X pins σ H s → s.heap.get? a = some o → s.gens[g]? = some gs →
      (∀ s'' : Shared, (∀ b o, s.heap.get? b = some o → s''.heap.get? b = some o) → s''.os = s.os → AllBare s''.gens → g < s''.gens.size →
        gs.Goes (model X.prog X.w) X.A.in1.in1 (fun _ _ r s1 => r = .ok .next ∧ genR X pins σ a o g Q s1) (genY X pins σ a o g Q) n (.send .none) s'') →
      codeAny (model X.prog X.w) X.A (.builtin "all.loop" ⟨[.ref a], []⟩) Rr s := by
  intro n
  induction n with
  | zero => ?_
  | succ n ih => ?_
  all_goals
    intro s H gs I ha hgs hgo
    have hg : g < s.gens.size := by
      rcases Nat.lt_or_ge g s.gens.size with h' | h'
      · exact h'
      · rw [Array.getElem?_eq_none h'] at hgs; cases hgs
    have hh : X.A.in1.handled = none := I.ok.hd hc
    refine codeAny_builtin F.entry_all_loop ?_
    rw [Around.under_plainId F.plain_all_loop _]
    show wpAny _ X.A.in1 (pyNext (.ref a) >>= _) _ _ s
    refine wpAny_bind (wpAny_pyNext_genexpQ (A := X.A.in1) (P := fun _ _ s1 => genR X pins σ a o g Q s1) (Y := genY X pins σ a o g Q) hh I.nolimit hroom (hgen _ ha) hgs
      (hgo _ (fun _ _ e => e) rfl (setB _ _ _ I.bare rfl) (by rw [GenW.setGen_size]; exact hg)) (fun v s1 gs' hb hv => ?_) (fun s1 hp h' hk => ?_))
    · obtain ⟨b, H', rfl, I1, ha1, hg1, hk⟩ := hv
      have I2 : Inv X pins σ H' (s1.setGen g gs') := inv_same I1 (fun _ _ e => e) rfl (setB _ _ _ I1.bare hb)
      refine wpAny_bind (wpAny_holding (wpAny_truthy_bool ?_))
      refine wpAny_bind (wpAny_letGo ?_)
      cases b with
      | false =>
        simp only [Bool.false_eq_true, if_false] at hk ⊢
        refine wpAny_bind (wpAny_rule (wpAny_pure ?_))
        exact hR false _ H' I2 hk
      | true =>
        simp only [if_true] at hk ⊢
        first
          | exact (hk s1 (fun _ _ e => e) rfl I1.bare hg1).elim
          | exact wpAny_pure ⟨plainId_quiet F.plain_all_loop _, ih _ H' gs' I2 ha1 (setGen_at hg1) fun s'' k1 k2 k3 k4 => hk s'' k1 k2 k3 k4⟩
    · obtain ⟨H', I1, ha1, hg1, q⟩ := hp
      refine wpAny_bind (wpAny_rule (wpAny_pure ?_))
      exact hR true _ H' (inv_same I1 hk rfl (setB _ _ _ I1.bare rfl)) q
/-- all(elt for tg in iter): J what is walked, W by the turn and a measure -/
def tAllP (wi : TI) (gt : TG) (te : TE) (vs : List Nat) (P : Addr) : TE := fun σ H Q => wi σ H fun J H1 => TabG H1 P ∧ ∀ H2, Tabbed P H1 H2 → ∃ W : Nat → Nat → Hp → Prop, (∃ m, W 0 m H2) ∧ AllStep J gt te σ vs W Q
theorem boot_allP : bootBuiltins "all" = some (.builtin "all") := by decide +kernel
theorem gen_make {c P : Addr} {elt tg iter : Expr} {gpos : Pos} {scope : Scope} {own : List (Str × Nat)} {wi : TI} {gt : TG} {te : TE} {k : Nat} {H : Hp} {s : Shared} {Q : VK} {Q' : Value → Shared → Prop}
    (hc : X.calm = true) (hr : Room (k + 1) X.A) (TB : TabB X.base X.mg c P) (hcode : X.env.code = .ref c) (hN : X.N.Nodup) (ok : BlkOk X.N X.env.scope scope own) (hco : scope.isCoroutine = false) (hcell : ∀ y ∈ scope.names, y.2 ≠ .cell)
    (h0 : scope.names.lookup (".0" : Str) = some NameKind.local) (hi : PI X tg iter wi) (hs : ∀ v, genFold iter X.env v = pure v)
    (pg : ∀ (A' : Around) (s : Shared) (H : Hp) (C : Addr) (cl : List (Str × Addr)) (cd : Value) (fp : List Addr), PG (gcx X A' s H (genEnv scope cl C cd builtinsNs X.env) scope fp) tg gt)
    (pe : ∀ (A' : Around) (s : Shared) (H : Hp) (C : Addr) (cl : List (Str × Addr)) (cd : Value) (fp : List Addr), Room k A' → A'.guards = X.A.guards → PE (gcx X A' s H (genEnv scope cl C cd builtinsNs X.env) scope fp) elt te)
    (I : Inv X pins σ H s) (h : tAllP wi gt te (own.map (·.2)) P σ H Q)
    (hQ : ∀ a o g n s5 H5 gs, (∀ h : Heap, h.get? a = some o → h.IsGen a g) → Inv X pins σ H5 s5 → s5.heap.get? a = some o → s5.gens[g]? = some gs →
      (∀ s'' : Shared, (∀ b o, s5.heap.get? b = some o → s''.heap.get? b = some o) → s''.os = s5.os → AllBare s''.gens → g < s''.gens.size →
        gs.Goes (model X.prog X.w) X.A.in1.in1 (fun _ _ r s1 => r = .ok .next ∧ genR X pins σ a o g Q s1) (genY X pins σ a o g Q) n (.send .none) s'') → Q' (.ref a) s5) :
    wpAny (model X.prog X.w) X.A (eval (.GeneratorExp elt [⟨tg, iter, [], 0⟩] scope gpos) X.env) Q' X.xe s := by
  have hfree : ∀ y ∈ scope.names, y.2 = .free → ∃ c, X.env.cells.lookup y.1 = some c := fun y hy e => by
    rcases ok.free y hy e with k | k
    · exact I.ok.has _ (.inl k)
    · exact I.ok.has _ (.inr k)
  refine wpAny_GeneratorExp_make hco (closure_ok hfree) hcell h0 ok.kind (by have := hr.dp; omega) ?_ hs
  refine thn (hi.run pins s σ H _ I h) fun xv s1 hx => thn hx fun itv s2 h2 => ?_
  obtain ⟨it, fp, tn, J, H2, e, I2, T, st2, f2, ⟨ps, hP, ht⟩, q⟩ := h2
  subst e
  refine ⟨I2.nolimit, ?_⟩
  have hPs : s2.heap.get? P = some { cls := .none, data := .fields ps } := I2.hok P _ hP
  have hPlt := Heap.lt_size hPs
  have cd : PySem.W.CodeHd s2.heap c P := TB.code.keeps fun b u e => I2.bk b u e
  have nfP : ∀ b ∈ fp, b ≠ P := fun b hb z => by
    have := (f2 b hb).1
    rw [z, hP] at this
    cases this
  have cont : ∀ (code : Value) (h3 : Heap) (tk : Nat) (ps' : Array Value), Heap.ExtBut P s2.heap h3 → s2.heap.objs.size ≤ h3.objs.size →
      h3.get? P = some { cls := .none, data := .fields ps' } → (∃ more, ps' = ps ++ more) → TriplesOk ps'.toList →
      wpAny (model X.prog X.w) X.A (builtinsFor X.env.globals X.env.builtins) (fun bi s₄ =>
        ∀ h', h'.Ns s₄.heap.objs.size (fun y => if y = ".0" then some (.ref it) else none) → Heap.SameBut s₄.heap.objs.size (s₄.heap.push { cls := .type "frame", data := .dict #[] }) h' →
          Q' (.ref h'.objs.size) { s₄ with
            gens := s₄.gens.push (.fresh (.compStart (.GeneratorExp elt [⟨tg, iter, [], 0⟩] scope gpos) 0 (.ref it) .none (genEnv scope (cloFrom X.env.cells scope.names []) s₄.heap.objs.size code bi X.env))),
            toks := s₄.toks + 1 + 1 + 1,
            heap := h'.push { cls := .type "generator", data := .fields #[.int s₄.gens.size 0, .str "<genexpr>" (s₄.toks + 1), .str (X.env.qual ++ "<genexpr>") (s₄.toks + 1 + 1)] } }) X.xe { s2 with heap := h3, toks := tk } := by
    intro code h3 tk ps' hx hsz hP3 hmore ht3
    obtain ⟨more, em⟩ := hmore
    obtain ⟨bm, ob, e1, e2, e3, e4, e5, e6, e7, e8⟩ := TB.bm
    have keep3 : ∀ b u, b ≠ P → s2.heap.get? b = some u → h3.get? b = some u := fun b u hb e => hx b u hb e
    have I3 : Inv X pins σ (upd H2 P (.tbl (ps ++ more))) { s2 with heap := h3, toks := tk } := inv_tab (g' := s2.gens) (d' := s2.drawn) (t' := tk) I2 hP keep3 (by rw [← em]; exact hP3) I2.bare
    have tbd : Tabbed P H2 (upd H2 P (.tbl (ps ++ more))) := ⟨⟨_, upd_same, by rw [← em]; exact ht3⟩, fun b hb => upd_ne hb⟩
    refine wpAny_builtinsFor (m := X.mg) (by rw [I2.ok.glob]; exact (I2.mod.glob.keeps I2.bk).extBut hx TB.gP) e1 e2 (keep3 _ _ e4 (I2.bk _ _ e5)) e6 e7 e8 ?_
    intro h' hn' hs'
    generalize hs4 : ({ s2 with heap := h3, toks := tk } : Shared) = s4 at I3 hn' hs' ⊢
    have h4 : s4.heap = h3 := by rw [← hs4]
    have hsz' : h'.objs.size = s4.heap.objs.size + 1 := by rw [hs'.1, Heap.size_push]
    have keep' : ∀ b o, s4.heap.get? b = some o → h'.get? b = some o := fun b o e => hs'.extBut b o (Nat.ne_of_lt (Heap.lt_size e)) (Heap.get?_push_of_some _ e)
    generalize ho : ({ cls := .type "generator", data := .fields #[.int s4.gens.size 0, .str "<genexpr>" (s4.toks + 1), .str (X.env.qual ++ "<genexpr>") (s4.toks + 1 + 1)] } : Obj) = o
    have keep₅ : ∀ b u, s4.heap.get? b = some u → (h'.push o).get? b = some u := fun b u e => Heap.get?_push_of_some _ (keep' b u e)
    have f4 : ∀ b ∈ fp, FpOk X pins (upd H2 P (.tbl (ps ++ more))) b := fun b hb => ⟨by rw [upd_ne (nfP b hb)]; exact (f2 b hb).1, (f2 b hb).2⟩
    have st4 : tn 0 s4.heap := T.keep _ _ _ st2 fun b hb u e => by rw [h4]; exact keep3 b u (nfP b hb) e
    have lt4 : ∀ b ∈ fp, b < s4.heap.objs.size := fun b hb => by
      obtain ⟨u, e, _⟩ := T.obj _ _ st4 b hb
      exact Heap.lt_size e
    obtain ⟨W, ⟨m0, w0⟩, turn⟩ := q _ tbd
    generalize hH4 : upd H2 P (.tbl (ps ++ more)) = H4 at I3 f4 w0
    generalize hce : genEnv scope (cloFrom X.env.cells scope.names []) s4.heap.objs.size code builtinsNs X.env = ce
    have geta : (h'.push o).get? h'.objs.size = some o := Heap.get?_push_size _ (by rw [← ho]; rfl)
    have hbare : AllBare (s4.gens.push (GenState.fresh (.compStart (.GeneratorExp elt [⟨tg, iter, [], 0⟩] scope gpos) 0 (.ref it) .none ce))) := I3.bare.push rfl
    have Afr : (X.A.in1.in1.deeper ce).frames = some (ce :: X.stack) := by
      show X.A.frames.map (ce :: ·) = _
      rw [I.ok.frames]
      rfl
    refine hQ h'.objs.size o s4.gens.size (m0 + 1) _ H4 _ (fun h e => by rw [← ho] at e; exact ⟨_, _, _, e, rfl, rfl, rfl⟩) (inv_same (s' := { s4 with gens := _, toks := _, heap := h'.push o }) I3 keep₅ rfl hbare) geta (Array.getElem?_push_size ..) fun s'' hk hos hab'' hg'' => ?_
    refine ⟨rfl, ?_⟩
    -- the frame at its first waking
    have Ig : Inv (gcx X (X.A.in1.in1.deeper ce) s4 H4 ce scope fp) [] (wipe σ (own.map (·.2))) H4 s'' := by
      have z := gen_start (A' := X.A.in1.in1.deeper ce) (h' := h'.push o) (t' := s4.toks) (g' := s4.gens) (m := _) (code := code) I3 ok hcell hN (fun b hb => ⟨f4 b hb, lt4 b hb⟩) (I.ok.hd hc) (by rw [hce]; exact Afr) keep₅ (hn'.push _) I3.bare
      rw [hce] at z
      exact inv_same z hk hos hab''
    have Ia : Inv (gcx X (X.A.in1.in1.deeper ce) s4 H4 ce scope fp) [(h'.objs.size, o)] (wipe σ (own.map (·.2))) H4 s'' := by
      refine Ig.pins_of fun p hp => ?_
      have : p = (h'.objs.size, o) := by simpa using hp
      subst this
      refine ⟨hk _ _ geta, I3.hok.fresh (by rw [hsz']; exact Nat.le_succ _), ?_, ?_, ?_⟩
      · show h'.objs.size ≠ ce.locals
        rw [← hce, hsz']
        exact Nat.succ_ne_self _
      · intro z
        exact absurd (Nat.lt_of_lt_of_le (show h'.objs.size < s4.heap.objs.size from by
          rcases List.mem_cons.mp (I3.stkSub _ z) with z | z
          · have z' : h'.objs.size = X.env.locals := z
            rw [z']; exact I3.lt
          · obtain ⟨_, u, hu, _⟩ := I3.ok.funs.mem z
            exact Nat.lt_of_lt_of_le (Heap.lt_size hu) I3.sz) (by rw [hsz']; exact Nat.le_succ _)) (Nat.lt_irrefl _)
      · intro v
        rw [← ho]
        intro z
        cases z
    have loop := seg_loop (elt := elt) (iter := iter) (pos := gpos) (it := it) (a := h'.objs.size) (o := o) (g := s4.gens.size) (A1 := X.A.in1.in1) (cenv := ce) I3 f4 (fun b hb z => by
        have h1 := lt4 b hb
        have h2 : h'.objs.size = b := z
        rw [← h2, hsz'] at h1
        exact absurd h1 (Nat.not_lt.mpr (Nat.le_succ _))) hc (by rw [← hce]; exact hco) T (by rw [← hce]; exact pg ..) (by rw [← hce]; exact pe _ _ _ _ _ _ _ ⟨I.ok.hd hc, by have := hr.dp; show X.A.depth + 1 + 3 * k + 5 < _; omega, by have := hr.un; show X.A.units + 1 + 1 + 3 + 16 * k + 200 < _; omega⟩ rfl) turn m0 0 m0 s'' s'' H4 (Nat.le_refl _) Ia (T.keep _ _ _ st4 fun b _ u e => hk b u (keep₅ b u e)) (fun b hb => (f4 b hb).1) w0 hg''
    show Seg _ X.A.in1.in1 _ _ _ s'' _ ((compStart (.GeneratorExp elt [⟨tg, iter, [], 0⟩] scope gpos) 0 (.ref it) .none ce).onRaise (leaving ce)) [] s''
    unfold compStart
    rw [Sem.onRaise_eq_wrap]
    show Seg _ X.A.in1.in1 _ _ _ s'' _ ((ask >>= _).wrap _ _ _ _) [] s''
    refine seg_bind_wrap (wpAny_askSetting ?_)
    split
    · exact seg_again rfl loop
    · exact seg_bind_wrap (wpAny_rule (seg_bind_wrap (wpAny_standAt (seg_bind_wrap (T.self _ 0 s'' _ _ (T.keep _ _ _ st4 fun b _ u e => hk b u (keep₅ b u e)) (seg_again rfl loop))))))
  cases hf : codeAmong gpos ps.toList with
  | none =>
    refine wpAny_genexprCodeX hcode (cd.code hPs ht) (cd.tab hPs) hf fun c' h' tk hx hge hlt hco' _ htab' _ => ?_
    obtain ⟨o1, vs, f1, tf, fl, tg', inF, tx, tt, op, _, _, _, _, _, _, _, _, _, htr, _⟩ := hco'
    exact cont _ h' tk _ hx (Nat.le_trans hge (Nat.le_of_lt hlt)) htab'.2 ⟨_, rfl⟩ htr
  | some cv =>
    refine wpAny_genexprCode_hit hcode (cd.code hPs ht) hf ?_
    exact cont cv s2.heap s2.toks ps (Heap.ExtBut.refl _ _) (Nat.le_refl _) hPs ⟨#[], by simp⟩ ht
theorem pe_allP {c P : Addr} {elt tg iter : Expr} {p pos gpos : Pos} {scope : Scope} {own : List (Str × Nat)} {wi : TI} {gt : TG} {te : TE} {k : Nat}
    (hc : X.calm = true) (hr : Room (k + 1) X.A) (hg : Gl X "all") (hm : X.mg "all" = none) (TB : TabB X.base X.mg c P) (hcode : X.env.code = .ref c) (hN : X.N.Nodup) (ok : BlkOk X.N X.env.scope scope own) (hco : scope.isCoroutine = false)
    (hcell : ∀ y ∈ scope.names, y.2 ≠ .cell) (h0 : scope.names.lookup (".0" : Str) = some NameKind.local) (hi : PI X tg iter wi)
    (pg : ∀ (A' : Around) (s : Shared) (H : Hp) (C : Addr) (cl : List (Str × Addr)) (cd : Value) (fp : List Addr), PG (gcx X A' s H (genEnv scope cl C cd builtinsNs X.env) scope fp) tg gt)
    (pe : ∀ (A' : Around) (s : Shared) (H : Hp) (C : Addr) (cl : List (Str × Addr)) (cd : Value) (fp : List Addr), Room k A' → A'.guards = X.A.guards → PE (gcx X A' s H (genEnv scope cl C cd builtinsNs X.env) scope fp) elt te)
    (hs : ∀ v, genFold iter X.env v = pure v := by intro _; rfl)
    (he : starEach [.GeneratorExp elt [⟨tg, iter, [], 0⟩] scope gpos] X.env = (false, eval (.GeneratorExp elt [⟨tg, iter, [], 0⟩] scope gpos) X.env) :: starEach [] X.env := by rfl) :
    PE X (.Call (.Name "all" p) [.GeneratorExp elt [⟨tg, iter, [], 0⟩] scope gpos] [] pos) (tAllP wi gt te (own.map (·.2)) P) := by
  refine ⟨fun pins s σ H Q I h => ?_⟩
  refine wpAny_Call_Name_kw (ld_blt I hg hm boot_allP (callWith_builtin1 ?_ he (by rfl)))
  rw [he]
  show wpAny _ _ (spliced ((false, eval (.GeneratorExp elt [⟨tg, iter, [], 0⟩] scope gpos) X.env) :: backTo pos (starEach [] X.env))) _ _ s
  refine Calls.spliced_cons (gen_make (Q := Q) hc hr TB hcode hN ok hco hcell h0 hi hs pg pe I h fun a o g n s5 H5 gs hgen I5 ha hgs hgo => ?_)
  refine Calls.spliced_nil ?_
  refine call_function_tree F.kind_all F.plain_all F.entry_all (F.args_all1 _) ?_
  unfold Builtin.«all»
  refine wpAny_bind (m := oneArg "all" _) (wpAny_pure ?_)
  refine wpAny_bind (wpAny_pyIter_gen (hgen _ ha) ?_)
  exact wpAny_pure ⟨plainId_quiet F.plain_all_loop _, all_loop (X := X) (pins := pins) (σ := σ) (Q := Q) hc (by have := hr.dp; omega) hgen (fun b s' H' J q => ⟨.bl b, H', J, rfl, q⟩) n s5 H5 gs I5 ha hgs hgo⟩
end
end Gn
set_option Elab.async false
set_option linter.all false
set_option maxRecDepth 100000
set_option maxHeartbeats 4000000
namespace Nk
open PySem PySem.Spec PyProof.Rows L2 GxR
/-- key, where its tuple stands, value -/
abbrev Ent := NestedKey × Addr × V
abbrev EntH := NestedKey × Addr × Value
abbrev KN : List Ent → List EntH → Prop := Paired fun p q => p.1 = q.1 ∧ p.2.1 = q.2.1 ∧ RelV p.2.2 q.2.2
def entOf (w : World) (x : EntH) : DictEntry := ⟨x.1.hash w, .ref x.2.1, x.2.2⟩
def Phi (w : World) (a : Addr) (ws : List Ent) (h : Heap) : Prop := ∃ xs : List EntH, KN ws xs ∧ ∃ o es ep, h.get? a = some o ∧ o.ExactDict ∧ o.data = .dict es ep ∧ es.toList = xs.map (entOf w) ∧ (xs.map (·.1)).Nodup
/-- the dict with the entries ws, at b -/
def DNo (w : World) (b : Addr) (ws : List Ent) : HO := .ext fun h => ws.length ≤ sizeLine ∧ (b == sysModules) = false ∧ Phi w b ws h
/-- it is no code object -/
theorem dno_ne_code {w : World} {b c : Addr} {ws : List Ent} {q : Str} (e : DNo w b ws = LamX.CodeO c q) : False := by
  have e2 : (fun h : Heap => ws.length ≤ sizeLine ∧ (b == sysModules) = false ∧ Phi w b ws h) = fun h => ∃ (oc : Obj) (vs : Array Value) (t : Tok), h.get? c = some oc ∧ oc.data = .fields vs ∧ vs[1]? = some (.str q t) := by
    unfold DNo LamX.CodeO at e
    exact HO.ext.inj e
  obtain ⟨o, ho⟩ : ∃ o : Obj, o = { cls := .none, data := .fields #[.none, .str q 0] } := ⟨_, rfl⟩
  have hget : ∀ (x : Addr) (u : Obj), (Heap.mk (Array.replicate (c + 1) o) {}).get? x = some u → u = o := fun x u hx => by
    obtain ⟨h1, h2⟩ := Heap.get?_some_iff.mp hx
    have h3 := Array.getElem?_eq_some_iff.mp h1
    obtain ⟨h4, h5⟩ := h3
    rw [← h5]
    simp
  have hc : (Heap.mk (Array.replicate (c + 1) o) {}).get? c = some o := by
    refine Heap.get?_some_iff.mpr ⟨by simp, ?_⟩
    rw [ho]
    rfl
  have p : ∃ (oc : Obj) (vs : Array Value) (t : Tok), (Heap.mk (Array.replicate (c + 1) o) {}).get? c = some oc ∧ oc.data = .fields vs ∧ vs[1]? = some (.str q t) := ⟨o, #[.none, .str q 0], 0, hc, by rw [ho], by simp⟩
  rw [← show _ = (∃ (oc : Obj) (vs : Array Value) (t : Tok), (Heap.mk (Array.replicate (c + 1) o) {}).get? c = some oc ∧ oc.data = .fields vs ∧ vs[1]? = some (.str q t)) from congrFun e2 _] at p
  obtain ⟨_, _, xs, k, o2, es, ep, e3, hx, hd, _⟩ := p
  have := hget _ _ e3
  rw [this, ho] at hd
  cases hd
mutual
/-- the value is the key -/
inductive NIs (H : Hp) : NestedKey → V → Prop
  | none : NIs H .none .non
  | num (i : Int) : NIs H (.num i) (.int i)
  | text (x : Str) : NIs H (.text x) (.str x)
  | tup {b : Addr} {xs : List V} {ks : List NestedKey} : H b = some (.tup xs) → NIss H ks xs → NIs H (.tup ks) (.ref b)
inductive NIss (H : Hp) : List NestedKey → List V → Prop
  | nil : NIss H [] []
  | cons {k : NestedKey} {ks : List NestedKey} {v : V} {vs : List V} : NIs H k v → NIss H ks vs → NIss H (k :: ks) (v :: vs)
end
mutual
theorem NIs.grw {H H' : Hp} (g : ∀ b xs, H b = some (.tup xs) → H' b = some (.tup xs)) : ∀ (k : NestedKey) (v : V), NIs H k v → NIs H' k v
  | .none, _, h => by cases h; exact .none
  | .num i, _, h => by cases h; exact .num i
  | .text x, _, h => by cases h; exact .text x
  | .tup ks, _, h => by
    cases h with
    | tup h1 h2 => exact .tup (g _ _ h1) (NIss.grw g ks _ h2)
theorem NIss.grw {H H' : Hp} (g : ∀ b xs, H b = some (.tup xs) → H' b = some (.tup xs)) : ∀ (ks : List NestedKey) (vs : List V), NIss H ks vs → NIss H' ks vs
  | [], _, h => by cases h; exact .nil
  | k :: ks, _, h => by
    cases h with
    | cons h1 h2 => exact .cons (NIs.grw g k _ h1) (NIss.grw g ks _ h2)
end
section
variable {P : Program} {w : World} {H : Hp} {h : Heap}
mutual
theorem NIs.heap (ok : HOk P w H h) : ∀ (k : NestedKey) (v : V) (u : Value), NIs H k v → RelV v u → NestedIs h k u
  | .none, _, u, x, r => by
    cases x
    obtain rfl : u = Value.none := r
    exact .none
  | .num i, _, u, x, r => by
    cases x
    obtain ⟨t, rfl⟩ := (show ∃ t, u = Value.int i t from r)
    exact .int i t
  | .text y, _, u, x, r => by
    cases x
    obtain ⟨t, rfl⟩ := (show ∃ t, u = Value.str y t from r)
    exact .text y t
  | .tup ks, _, u, x, r => by
    cases x with
    | @tup b xs _ h1 h2 =>
      obtain rfl : u = Value.ref b := r
      obtain ⟨_, its, rv, o, e1, e2, n, e3⟩ := (show ObjOk P w H h b (.tup xs) from ok b _ h1)
      exact .tup e1 e2 e3 (by simpa using NIss.heap ok ks xs its h2 rv)
theorem NIss.heap (ok : HOk P w H h) : ∀ (ks : List NestedKey) (vs : List V) (us : List Value), NIss H ks vs → Vals vs us → NestedAll h ks us
  | [], _, us, x, r => by
    cases x
    cases r
    exact .nil
  | k :: ks, _, us, x, r => by
    cases x with
    | cons h1 h2 =>
      cases r with
      | cons r1 r2 => exact .cons (NIs.heap ok k _ _ h1 r1) (NIss.heap ok ks _ _ h2 r2)
end
end
section
variable {P : Program} {w : World} {H : Hp} {h : Heap}
mutual
theorem NIs.reads (ok : HOk P w H h) : ∀ (k : NestedKey) (v : V) (u : Value), NIs H k v → RelV v u → Reads h u k.data []
  | .none, _, u, x, r => by
    cases x
    obtain rfl : u = Value.none := r
    exact .none
  | .num i, _, u, x, r => by
    cases x
    obtain ⟨t, rfl⟩ := (show ∃ t, u = Value.int i t from r)
    exact .int i t
  | .text y, _, u, x, r => by
    cases x
    obtain ⟨t, rfl⟩ := (show ∃ t, u = Value.str y t from r)
    exact .str y t
  | .tup ks, _, u, x, r => by
    cases x with
    | @tup b xs _ h1 h2 =>
      obtain rfl : u = Value.ref b := r
      obtain ⟨_, its, rv, o, e1, e2, n, e3⟩ := (show ObjOk P w H h b (.tup xs) from ok b _ h1)
      exact .tuple e1 e2 e3 (by simpa using NIss.reads ok ks xs its h2 rv)
theorem NIss.reads (ok : HOk P w H h) : ∀ (ks : List NestedKey) (vs : List V) (us : List Value), NIss H ks vs → Vals vs us → ReadsAll h us (NestedKey.datas ks) []
  | [], _, us, x, r => by
    cases x
    cases r
    exact .nil
  | k :: ks, _, us, x, r => by
    cases x with
    | cons h1 h2 =>
      cases r with
      | cons r1 r2 => exact ReadsAll.cons (as := []) (bs := []) (NIs.reads ok k _ _ h1 r1) (NIss.reads ok ks _ _ h2 r2)
end
end
def valE (ws : List Ent) (k : NestedKey) : Option V := (ws.find? fun p => decide (p.1 = k)).map (·.2.2)
def putE (ws : List Ent) (k : NestedKey) (b : Addr) (v : V) : List Ent := if (valE ws k).isSome then ws.map (fun p => if p.1 = k then (p.1, p.2.1, v) else p) else ws ++ [(k, b, v)]
theorem KN.val {ws : List Ent} {xs : List EntH} (r : KN ws xs) (k : NestedKey) : RelO (valE ws k) ((atKey xs k).map (·.2)) := by
  induction r with
  | nil => exact True.intro
  | @cons p q ps qs h t ih =>
    obtain ⟨h1, _, h2⟩ := h
    by_cases e : p.1 = k
    · have e' : q.1 = k := h1.symm.trans e
      simp only [valE, atKey, List.find?_cons, e, e', decide_true, Option.map_some]
      exact h2
    · have e' : ¬ q.1 = k := fun z => e (h1.trans z)
      simp only [valE, atKey, List.find?_cons, e, e', decide_false]
      exact ih
theorem KN.put {ws : List Ent} {xs : List EntH} (r : KN ws xs) (k : NestedKey) {b : Addr} {v : V} {u : Value} (rv : RelV v u) : KN (putE ws k b v) (storedH xs k b u) := by
  have e : (valE ws k).isSome = (atKey xs k).isSome := by
    rw [(r.val k).isSome_eq, Option.isSome_map]
  unfold putE storedH
  rw [e]
  split
  · rename_i hs
    clear e hs
    induction r with
    | nil => exact .nil
    | @cons p q ps qs h t ih =>
      rw [List.map_cons, List.map_cons]
      refine .cons ?_ ih
      obtain ⟨h1, h2, h3⟩ := h
      unfold putAt
      by_cases z : p.1 = k
      · rw [if_pos z, if_pos (h1.symm.trans z)]; exact ⟨h1, h2, rv⟩
      · rw [if_neg z, if_neg (fun y => z (h1.trans y))]; exact ⟨h1, h2, h3⟩
  · exact Paired.snoc r ⟨rfl, rfl, rv⟩
/-- each entry's tuple is its key -/
def KeysOk (H : Hp) (ws : List Ent) : Prop := ∀ p ∈ ws, NIs H p.1 (.ref p.2.1) ∧ p.1.depth ≤ 8
theorem KN.mem {ws : List Ent} {xs : List EntH} (r : KN ws xs) : ∀ q ∈ xs, ∃ p ∈ ws, p.1 = q.1 ∧ p.2.1 = q.2.1 := by
  induction r with
  | nil => intro q hq; cases hq
  | @cons p q ps qs h t ih =>
    intro x hx
    rcases List.mem_cons.mp hx with rfl | hx
    · exact ⟨p, by simp, h.1, h.2.1⟩
    · obtain ⟨p', hp, r⟩ := ih x hx
      exact ⟨p', List.mem_cons_of_mem _ hp, r⟩
end Nk
set_option Elab.async false
set_option linter.all false
set_option maxRecDepth 100000
set_option maxHeartbeats 4000000
set_option Elab.async false
set_option linter.all false
set_option maxRecDepth 100000
set_option maxHeartbeats 4000000
namespace Zn
open PySem PySem.Spec PyProof.Rows L2 GxR
/-- what of the module every state of a body holds -/
structure Gnd (X : Cx) (h : Heap) : Prop where
  kin : X.K.In h
  glob : h.Ns mainGlobals X.mg
  blt : ∃ mb, h.Ns builtinsNs mb ∧ ∀ x : Str, x ≠ "__name__" → mb x = bootBuiltins x
  nl : h.NoLimit
theorem Gnd.keeps {X : Cx} {h h' : Heap} (g : Gnd X h) (k : ∀ b o, h.get? b = some o → h'.get? b = some o) : Gnd X h' :=
  ⟨g.kin.keeps k, g.glob.keeps k, let ⟨mb, a, b⟩ := g.blt; ⟨mb, a.keeps k, b⟩, g.nl.keeps k⟩
def QE (X : Cx) (A : Around) (env : Env) (h0 : Heap) (e : Expr) (R : Value → Prop) : Prop :=
  ∀ (s : Shared) (E : Value → Shared → Prop), (∀ b o, h0.get? b = some o → s.heap.get? b = some o) → wpAny (model X.prog X.w) A (eval e env) (fun z s3 => R z ∧ Keeps s s3) E s
section
variable {X : Cx} {A : Around} {env : Env} {h0 : Heap} {e a b : Expr} {R : Value → Prop} {pos p : Pos} {x : Str}
theorem QE.mono {R' : Value → Prop} (h : QE X A env h0 e R) (i : ∀ z, R z → R' z) : QE X A env h0 e R' := fun s E k => thn (h s E k) fun z s3 q => ⟨i z q.1, q.2⟩
end
end Zn
set_option Elab.async false
set_option linter.all false
set_option maxRecDepth 100000
set_option maxHeartbeats 4000000
namespace Zn
open PySem PySem.Spec PyProof.Rows L2 GxR
section
variable {X : Cx}
theorem vals_one {x : V} {us : List Value} (r : Vals [x] us) : ∃ u, us = [u] ∧ RelV x u := by
  cases r with
  | cons a b =>
    cases b
    exact ⟨_, rfl, a⟩
/-- repr(x), where nothing else is being told (the guards around are none) -/
def rRepr (K : PySem.W.Frag) : List V → Hp → VK → Prop := fun xs H Q => ∃ x d, xs = [x] ∧ Dp K H x d ∧ PyData.showable d = true ∧ d.hasDict = false ∧ d.depth ≤ 60 ∧ d.shown.length ≤ sizeLine ∧ ((∃ a, x = .ref a) ∨ ∃ z, x = .str z) ∧ Q (.str d.shown) H
theorem cr_repr (hg : X.A.guards = some []) (hu : X.A.units + 64 < cLine) : CallR X (.builtin "repr") (rRepr X.K) := by
  intro pins s σ H xs us Q I r h
  obtain ⟨x, d, rfl, hd, hs, hn, hdp, hz, hx, q⟩ := h
  obtain ⟨u, rfl, ru⟩ := vals_one r
  rcases hx with ⟨a, rfl⟩ | ⟨z, rfl⟩
  · obtain ⟨as, rd⟩ := Dp.reads I d _ u hd ru
    cases ru
    exact repr_of_reads' rd hs (fun e => by rw [hn] at e; cases e) hg (by omega) (fun _ _ e => e) (fun h' u tk hk => ⟨.str d.shown, H, I.kept (t' := tk) hk, ⟨_, rfl⟩, q⟩) hz
  · obtain ⟨t, rfl⟩ := ru
    cases hd
    simp only [PyData.shown] at hz q
    exact PySem.P.repr_of_str ⟨.str _, H, I.tok _, ⟨_, rfl⟩, q⟩ hz
/-- the signs of a text, each a text -/
def signs (z : Str) : List V := z.cps.toList.map fun c => V.str ⟨#[c]⟩
theorem signs_length (z : Str) : (signs z).length = z.cps.size := by
  unfold signs
  rw [List.length_map, Array.length_toList]
theorem vals_signs {z : Str} {acc : Array Value} (h : ItemsOf (SignAt z) acc z.cps.size) : Vals (signs z) acc.toList := by
  obtain ⟨hs, hi⟩ := h
  have key : ∀ (l : List Nat) (us : List Value), l.length = us.length → (∀ (j : Nat) (c : Nat), l[j]? = some c → ∃ u, us[j]? = some (.str ⟨#[c]⟩ u)) → Vals (l.map fun c => V.str ⟨#[c]⟩) us := by
    intro l
    induction l with
    | nil =>
      intro us e _
      cases us with
      | nil => exact .nil
      | cons _ _ => cases e
    | cons c r ih =>
      intro us e g
      cases us with
      | nil => cases e
      | cons u us =>
        obtain ⟨t, ht⟩ := g 0 c rfl
        have ht' : u = .str ⟨#[c]⟩ t := by simpa using ht
        refine .cons ⟨t, ht'⟩ (ih us (by simpa using e) fun j c' hj => ?_)
        obtain ⟨t2, e2⟩ := g (j + 1) c' (by simpa using hj)
        exact ⟨t2, by simpa using e2⟩
  refine key z.cps.toList acc.toList (by simp [hs]) fun j c hj => ?_
  have hj' : z.cps[j]? = some c := by rw [← hj]; simp
  have hlt : j < acc.size := by
    rw [hs]
    exact (Array.getElem?_eq_some_iff.mp hj').1
  obtain ⟨c2, u, e1, e2⟩ := hi j acc[j] (by simp [hlt])
  rw [hj'] at e1
  cases e1
  exact ⟨u, by simp [hlt, e2]⟩
/-- list(text) -/
def rListS : List V → Hp → VK → Prop := fun xs H Q => ∃ z : Str, xs = [.str z] ∧ z.cps.size ≤ sizeLine ∧ ∀ l, H l = none → Q (.ref l) (upd H l (.lst (signs z)))
theorem cr_listS (hc : X.A.handled = none) : CallR X (.type "list") rListS := by
  intro pins s σ H xs us Q I r h
  obtain ⟨z, rfl, hz, q⟩ := h
  obtain ⟨u, rfl, t, rfl⟩ := vals_one r
  refine call_list_str hc z t (fun h' tk acc' c' hk hS hacc => ?_) hz
  have hf : H s.heap.objs.size = none := I.hok.fresh (Nat.le_refl _)
  have new : ObjOk X.prog X.w (upd H s.heap.objs.size (.lst (signs z))) h' s.heap.objs.size (.lst (signs z)) := ⟨by rw [signs_length]; exact hz, acc'.toList, c', vals_signs hacc, by simpa using hS⟩
  exact ⟨.ref _, _, I.laid (t' := tk) hk (Nat.le_refl _) new, rfl, q _ hf⟩
/-- x in t, t a tuple of data -/
def rInT (K : PySem.W.Frag) : R2 := fun x y H Q => ∃ d ds, Dp K H x d ∧ Dp K H y (.tuple ds) ∧ SeqAt.shaped d = true ∧ SeqAt.shaped (.tuple ds) = true ∧ Q (.bl (ds.any fun z => PyData.eqv z d)) H
theorem op_inT (hu : X.A.units + 65 < cLine) : OpR X (compareOp .In) (rInT X.K) := by
  intro pins s σ H x y v u Q I rx ry h
  obtain ⟨d, ds, hd, he, sd, se, q⟩ := h
  obtain ⟨as, r1⟩ := Dp.reads I d x v hd rx
  obtain ⟨bs, r2⟩ := Dp.reads I (.tuple ds) y u he ry
  exact SeqAt.in_tuple_reads r2 r1 (SeqAt.canLay_of_shaped se) (SeqAt.canLay_of_shaped sd) (room_in_shaped sd hu) ⟨.bl _, H, I, rfl, q⟩
end
set_option maxHeartbeats 1000000 in
theorem meets_enumT {v : Value} {o : Obj} {G : Heap → Prop} (B : Begins v o G) :
    Meets (Builtin.«enumerate.__new__» ⟨[.type "enumerate", v], []⟩) (fun _ R s => G s.heap ∧
      R (.ok (.ret (.ref (s.heap.push o).objs.size))) { s with heap := (s.heap.push o).push { cls := .type "enumerate", data := .fields #[.none, .bool false, .ref s.heap.objs.size, rawInt 0, .none, .none] } }) :=
  .of_wp fun prog w A R s h => by
    obtain ⟨hp, g, d, tk, os⟩ := s
    obtain ⟨h1, h⟩ := h
    have hsub := sub_enumerate
    have q1 : ∀ {A' : Around} {E : Value → Shared → Prop} {Q : Value → Shared → Prop}, Q (.ref hp.objs.size) ⟨hp.push o, g, d, tk, os⟩ → wpAny (model prog w) A' (pyIter v) Q E ⟨hp, g, d, tk, os⟩ :=
      fun q => B.iter prog w _ _ ⟨hp, g, d, tk, os⟩ _ h1 q
    wp_walk using q1
    refine wpAny_stack_any fun st => wpAny_pure ?_
    split
    · rename_i c _ _ _ _ _
      cases (c == Value.type "enumerate")
      · wp_walk using q1
        exact ⟨_, rfl, h⟩
      · wp_walk using q1
        exact ⟨_, rfl, h⟩
    · wp_walk using q1
      exact ⟨_, rfl, h⟩
section
variable {prog : Program} {w : World} {A : Around} {E : Value → Shared → Prop} {s : Shared}
theorem call_enumB {v : Value} {o : Obj} {G : Heap → Prop} {Q : Value → Shared → Prop} (B : Begins v o G) (h1 : G s.heap)
    (h : ∀ h', IsEnum h' (s.heap.objs.size + 1) s.heap.objs.size 0 .none → h'.get? s.heap.objs.size = some o → h'.objs.size = s.heap.objs.size + 2 →
      (∀ b o, s.heap.get? b = some o → h'.get? b = some o) → Q (.ref (s.heap.objs.size + 1)) { s with heap := h' }) : wpAny (model prog w) A (call (.type "enumerate") [v]) Q E s := by
  refine callType_new F.called_enumerate (by decide) (F.typeCall_enumerate_1 _) (F.newCall_enumerate_1 _) (fun obj => F.args_object_init_2 obj _) F.entry_enumerate_new (meets_enumT B) ⟨h1, ?_⟩
  have hz : (s.heap.push o).objs.size = s.heap.objs.size + 1 := Heap.size_push ..
  show _ ∧ _
  rw [hz]
  have he : IsEnum ((s.heap.push o).push { cls := .type "enumerate", data := .fields #[.none, .bool false, .ref s.heap.objs.size, rawInt 0, .none, .none] }) (s.heap.objs.size + 1) s.heap.objs.size 0 .none := by
    have q := Heap.get?_push_size (s.heap.push o) (o := { cls := .type "enumerate", data := .fields #[.none, .bool false, .ref s.heap.objs.size, rawInt 0, .none, .none] }) rfl
    rw [hz] at q
    exact q
  exact ⟨⟨_, he, rfl⟩, h _ he (Heap.get?_push_of_some _ (Heap.get?_push_size _ B.free)) (by rw [Heap.size_push, hz]) fun b o x => Heap.get?_push_of_some _ (Heap.get?_push_of_some _ x)⟩
end
theorem next_enum_endT {prog : Program} {w : World} {A : Around} {E : Value → Shared → Prop} {s : Shared} {e it t : Addr} {i : Nat} {c : Int} {items : Array Value} {old : Value} {Q : Option Value → Shared → Prop} (hh : A.handled = none)
    (he : IsEnum s.heap e it c old) (hit : s.heap.IsTupleIter it t i) (ht : s.heap.IsTuple t items) (hx : items[i]? = none) (hQ : ∀ h', Heap.ExtBut it s.heap h' → Q none { s with heap := h' }) : wpAny (model prog w) A (pyNext (.ref e)) Q E s := by
  have hT : s.TypeIs (.ref e) "enumerate" := ⟨_, he, rfl⟩
  unfold pyNext
  refine wpAny_bind (wpAny_attempt (wpAny_callSpecial?_slot (name := Str.ofString "__next__") hT F.slot_enumerate_next (wpAny_call_entry F.slot_enumerate_next hT F.entry_enumerate_next ?_ (F.args_enumerate_next_1 _))))
  show wpAny _ _ (field (.ref e) 2 >>= _) _ _ _
  refine wpAny_bind (wpAny_field he rfl (x := .ref it) rfl (wpAny_bind (wpAny_nextOf_tuple_end hh hit ht hx fun h' x he' hx' => ?_)))
  obtain ⟨o, ho, hc⟩ := hx'
  exact wpAny_bind (wpAny_isInstance (T := "StopIteration") (b := true) ⟨o, ho, hc⟩ isSubtype_stop (wpAny_pure (hQ _ he')))
/-- the tuple at a, each item in a new pair with its place -/
def ItT (K : PySem.W.Frag) (a : Addr) : It :=
  ⟨fun i H => ∃ (xs : List V) (x : V), SqT K H a xs ∧ xs[i]? = some x, fun i H v H' => ∃ T x, v = .ref T ∧ H T = none ∧ H' = upd H T (.tup [.int (i : Nat), x]) ∧ ∀ xs, SqT K H a xs → xs[i]? = some x, fun i H => ∃ xs : List V, SqT K H a xs ∧ xs.length ≤ i⟩
theorem turn_enumT {P : Program} {w : World} {K : PySem.W.Frag} {elts : List Expr} {kk : Nat} {tpos : Pos} (a e it : Addr) (hae : a ≠ e) (hai : a ≠ it) :
    Turn P w K (.Tuple elts kk tpos) (ItT K a) [e, it] e (fun i h => (∃ old, IsEnum h e it ((i : Nat) : Int) old) ∧ h.IsTupleIter it a i ∧ e ≠ it) where
  mem := by simp
  obj := fun i h st b hb => by
    obtain ⟨⟨old, he⟩, ⟨o, ho, hc, hd⟩, _⟩ := st
    have e' : b = e ∨ b = it := by simpa using hb
    rcases e' with z | z
    · rw [z]; exact ⟨_, he, fun v q => nomatch q⟩
    · rw [z]; exact ⟨o, ho, fun v q => by rw [hd] at q; cases q⟩
  keep := fun i h h' st k => by
    obtain ⟨⟨old, he⟩, hi, hne⟩ := st
    exact ⟨⟨old, k e (by simp) _ he⟩, hi.at fun o q => k it (by simp) o q, hne⟩
  item := by
    intro X hP hw hK hc i pins s σ H E I hf st hg
    subst hP hw hK
    obtain ⟨⟨old, he⟩, hit, hne⟩ := st
    obtain ⟨xs, x, hq, hx⟩ := hg
    obtain ⟨its, rv, p, hz⟩ := I.tuple hq
    obtain ⟨u, hu, ru⟩ := rv.get hx
    have hel := Heap.lt_size he
    have hil : it < s.heap.objs.size := by obtain ⟨_, q, _⟩ := hit; exact Heap.lt_size q
    have hu' : its.toArray[i]? = some u := by simpa using hu
    have hlt : i < its.toArray.size := (Array.getElem?_eq_some_iff.mp hu').1
    have hpt : s.heap.IsTuple a its.toArray := p
    have D := Draws.tuple (prog := X.prog) (w := X.w) (A := X.A.in1) (I.ok.hd hc) it a hai its.toArray
    refine wpAny_pyNext_enum_itemD D he ⟨hit, hpt⟩ hlt hne (by simp [hne, hae.symm]) fun x' h' tk hx' ho hst hT hsz hk => ?_
    rw [hu'] at hx'
    cases hx'
    refine ⟨_, rfl, wpAny_letOwnedTupleGo_enum (s := { s with heap := h', toks := tk + 1 }) ho fun h'' he' sb => ?_⟩
    have hT2 : h''.get? s.heap.objs.size = some { cls := .type "tuple", data := .seq #[.int i tk, u] } := (sb.2 _ (Nat.ne_of_gt hel)).trans hT
    have I1 : Inv X pins σ (upd H s.heap.objs.size (.tup [.int (i : Nat), x])) { s with heap := h'', toks := tk + 1 } :=
      I.turnedNew (ch := [e, it]) (fun b ob hb q => (sb.2 b (fun z => hb (by simp [z]))).trans (hk b ob (fun z => hb (by simp [z])) (fun z => hb (by simp [z])) q)) hf (Nat.le_refl _)
        ⟨by show 2 ≤ sizeLine; decide, [.int i tk, u], .cons ⟨_, rfl⟩ (.cons ru .nil), ⟨_, hT2, rfl, _, rfl⟩⟩
    refine ⟨.ref s.heap.objs.size, _, I1, rfl, ⟨_, x, rfl, I.hok.fresh (Nat.le_refl _), rfl, fun ys hy => by rw [I.tuple_inj hy hq]; exact hx⟩, ⟨⟨u, ?_⟩, hst.1.at fun o q => (sb.2 it (Ne.symm hne)).trans q, hne⟩, fun b hb => ?_⟩
    · have e1 : ((i + 1 : Nat) : Int) = (i : Int) + 1 := by omega
      rw [e1]
      exact he'
    · have hb' : b < s.heap.objs.size := by
        have e' : b = e ∨ b = it := by simpa using hb
        rcases e' with z | z
        · rw [z]; exact hel
        · rw [z]; exact hil
      rw [upd_ne (Nat.ne_of_lt hb')]
      exact (hf b hb).1
  done := by
    intro X hP hw hK hc i pins s σ H E I hf st hg
    subst hP hw hK
    obtain ⟨⟨old, he⟩, hit, hne⟩ := st
    obtain ⟨xs, hq, hx⟩ := hg
    obtain ⟨its, rv, p, hz⟩ := I.tuple hq
    obtain ⟨f0, f1, f2, f3, f4, f5⟩ := hf it (by simp)
    have hl := rv.length
    have hpt : s.heap.IsTuple a its.toArray := p
    have hx0 : its.toArray[i]? = none := Array.getElem?_eq_none_iff.mpr (by simp only [List.size_toArray]; omega)
    exact next_enum_endT (I.ok.hd hc) he hit hpt hx0 fun h' sb => ⟨rfl, I.turned (t' := s.toks) (fun b o hb q => sb b o hb q) f0 f1 f3 f4 f5⟩
  self := fun A i s Q E st h => let ⟨⟨_, he⟩, _⟩ := st; wpAny_pyIter_enum he h
def iEnumT (K : PySem.W.Frag) (ta : TA) : TI := fun σ H R => ta σ H fun vs H1 => ∃ a xs, vs = [.ref a] ∧ SqT K H1 a xs ∧ R (ItT K a) H1
theorem pi_enumT {X : Cx} {e : Expr} {ta : TA} {p pos tpos : Pos} {elts : List Expr} {kk : Nat} (hg : Gl X "enumerate") (hm : X.mg "enumerate" = none) (ha : PA X [e] ta) (hs : starEach [e] X.env = [(false, eval e X.env)] := by rfl) :
    PI X (.Tuple elts kk tpos) (.Call (.Name "enumerate" p) [e] [] pos) (iEnumT X.K ta) := by
  refine ⟨fun pins s σ H R I h => ?_⟩
  refine Call_ (ld_blt I hg hm boot_enumerate (callWith_type1 (thn (ha.run pos pins s σ H _ I h) fun us s1 hv => ?_) hs rfl))
  obtain ⟨vs, H1, I1, r1, a, xs, rfl, hq, q⟩ := hv
  obtain ⟨u, rfl, ru⟩ := vals_one r1
  cases ru
  obtain ⟨its, rv, p', hz⟩ := I1.tuple hq
  have hpt : s1.heap.IsTuple a its.toArray := p'
  have hlt : a < s1.heap.objs.size := p'.lt
  refine call_enumB (begins_tuple a its.toArray) hpt fun h' he hit hsz hk => wpAny_pyIter_enum he ?_
  have I2 : Inv X pins σ H1 { s1 with heap := h' } := I1.kept (t' := s1.toks) hk
  refine ⟨s1.heap.objs.size + 1, [s1.heap.objs.size + 1, s1.heap.objs.size], _, _, H1, rfl, I2, turn_enumT a (s1.heap.objs.size + 1) s1.heap.objs.size (Nat.ne_of_lt (Nat.lt_succ_of_lt hlt)) (Nat.ne_of_lt hlt), ⟨⟨.none, he⟩, ⟨_, hit, rfl, rfl⟩, Nat.succ_ne_self _⟩, fun b hb => ?_, q⟩
  have hle : s1.heap.objs.size ≤ b := by
    rcases (by simpa using hb : b = s1.heap.objs.size + 1 ∨ b = s1.heap.objs.size) with z | z
    · rw [z]; exact Nat.le_succ _
    · rw [z]; exact Nat.le_refl _
  exact I1.fpOk hle (I1.hok.fresh hle)
end Zn
set_option Elab.async false
set_option linter.all false
set_option maxRecDepth 100000
set_option maxHeartbeats 4000000
namespace Zn
open PySem PySem.Spec PyProof.Rows L2 GxR
/-- how many different ones are among the first i -/
def dcnt (xs : List Str) : Nat → Nat
  | 0 => 0
  | i + 1 => if (xs.take i).any (· == xs.getD i Str.empty) then dcnt xs i else dcnt xs i + 1
section
variable {prog : Program} {w : World} {A : Around} {R : Result → Shared → Prop} {I : Addr} {fp wr : List Addr} {G : Array GenState → Array GenState → Prop} {n : Nat} {P : Nat → Value → Prop} {St : Nat → Shared → Prop}
/-- the set at S holds the first i -/
abbrev Holds (prog : Program) (w : World) (h : Heap) (S : Addr) (xs : List Str) (i : Nat) : Prop := h.SetOf (PySem.strKind prog w) S (fun k => (xs.take i).any (· == k)) (dcnt xs i)
end
end Zn
set_option Elab.async false
set_option linter.all false
set_option maxRecDepth 100000
set_option maxHeartbeats 4000000
set_option Elab.async false
set_option linter.all false
set_option maxRecDepth 100000
set_option maxHeartbeats 4000000
set_option Elab.async false
set_option linter.all false
set_option maxRecDepth 100000
set_option maxHeartbeats 4000000
set_option Elab.async false
set_option linter.all false
set_option maxRecDepth 100000
set_option maxHeartbeats 4000000
namespace Zn
open PySem PySem.Spec PyProof.Rows L2 GxR
/-- so many cells, one after the other -/
def refs (b n : Nat) : List Value := (List.range' b n).map Value.ref
/-- amid a turn: the iterators below ki have turned, the own tuple is filled below ka -/
structure ZMid (hp h' : Heap) (b : Nat) (as : List Addr) (us : List Value) (i ki ka : Nat) (zo : Obj) : Prop where
  sz : h'.objs.size = hp.objs.size
  it : ∀ (j : Nat) (a : Addr), as[j]? = some a → h'.IsTupleIter (b + j) a (if j < ki then i + 1 else i)
  zO : h'.get? (b + as.length + 2) = some zo
  ti : h'.get? (b + as.length) = some { cls := .type "tuple", data := .seq (refs b as.length).toArray }
  own : ∃ arr : Array Value, arr.size = as.length ∧ h'.get? (b + as.length + 1) = some { cls := .type "tuple", data := .seq arr } ∧ ∀ j, j < ka → arr[j]? = us[j]?
  kp : ∀ c o, (c < b ∨ b + as.length + 2 < c) → hp.get? c = some o → h'.get? c = some o
section
variable {prog : Program} {w : World} {A : Around} {E : Value → Shared → Prop} {s : Shared} {b i : Nat} {as : List Addr} {us : List Value}
theorem ZMid.tuple {hp h1 : Heap} {ki ka : Nat} {zo : Obj} {a : Addr} {its : Array Value} (m : ZMid hp h1 b as us i ki ka zo) (hlt : a < b) (h : hp.IsTuple a its) : h1.IsTuple a its := h.at fun o e => m.kp a o (.inl hlt) e
end
end Zn
set_option Elab.async false
set_option linter.all false
set_option maxRecDepth 100000
set_option maxHeartbeats 4000000
set_option Elab.async false
set_option linter.all false
set_option maxRecDepth 100000
set_option maxHeartbeats 4000000
set_option Elab.async false
set_option linter.all false
set_option maxRecDepth 100000
set_option maxHeartbeats 4000000
set_option Elab.async false
set_option linter.all false
set_option maxRecDepth 100000
set_option maxHeartbeats 4000000
set_option Elab.async false
set_option linter.all false
set_option maxRecDepth 100000
set_option maxHeartbeats 4000000
set_option Elab.async false
set_option linter.all false
set_option maxRecDepth 100000
set_option maxHeartbeats 4000000
namespace Dl
open PySem PySem.Spec PyProof.Rows L2 GxR Gn
inductive D where
  | non | bl (b : Bool) | int (i : Int) | str (x : Str) | tup (ds : List D) | obj (i : Nat) | adr (a : Addr) | ty (n : String) | scr (ns : List Int) | lam (f c : Addr) (q : Str) (mk : List Bool) (ds : List D) (σ : L2.St) | exc (a dx : Addr) (d : D)
/-- what changes: lists, dicts, objects -/
inductive Cell where
  | lst (ds : List D)
  | dK (kvs : List (Key × D))
  | dT (kvs : List (List Key × D))
  | ins (C : Addr) (fs : List (Str × D))
  | dN (kvs : List (NestedKey × D))
  | lkd (kvs : List (Key × D))
abbrev Mem := List Cell
abbrev Rho := Nat → Option Addr
/-- a list that stays as it is -/
def FrL (K : PySem.W.Frag) (H : Hp) (a : Addr) (xs : List V) : Prop := (∃ o, H a = some (.frz o (.lst xs))) ∨
  ∃ (o : Obj) (its : Array Value) (n : Nat), K.lookup a = some o ∧ o.cls = .type "list" ∧ o.dict = none ∧ o.data = .seq its n ∧ its.size ≤ sizeLine ∧ Vals xs its.toList
theorem FrL.sq {K : PySem.W.Frag} {H : Hp} {a : Addr} {xs : List V} (h : FrL K H a xs) : SqL K H a xs := h.elim (fun h => .inl (.inr h)) .inr
/-- slots that hold these values at least -/
structure FitSt (mk : List Bool) (vs : List V) (σ : L2.St) : Prop where
  len : mk.length = σ.length
  at_ : ∀ (j : Nat) (v : V), mk[j]? = some true → vs[j]? = some v → σ[j]? = some (some v)
mutual
inductive Sh (K : PySem.W.Frag) (ρ : Rho) (H : Hp) : D → V → Prop
  | non : Sh K ρ H .non .non
  | bl (b : Bool) : Sh K ρ H (.bl b) (.bl b)
  | int (i : Int) : Sh K ρ H (.int i) (.int i)
  | str (x : Str) : Sh K ρ H (.str x) (.str x)
  | tup {a : Addr} {xs : List V} {ds : List D} : H a = some (.tup xs) → Shs K ρ H ds xs → Sh K ρ H (.tup ds) (.ref a)
  | obj {i : Nat} {a : Addr} : ρ i = some a → Sh K ρ H (.obj i) (.ref a)
  | adr (a : Addr) : Sh K ρ H (.adr a) (.ref a)
  | ty (n : String) : Sh K ρ H (.ty n) (.ty n)
  | scr {a : Addr} {ns : List Int} : FrL K H a (ns.map V.int) → Sh K ρ H (.scr ns) (.ref a)
  | lam {f c : Addr} {q : Str} {mk : List Bool} {ds : List D} {σ : L2.St} {vs : List V} : H c = some (LamX.CodeO c q) → Shs K ρ H ds vs → FitSt mk vs σ → Sh K ρ H (.lam f c q mk ds σ) (.ref f)
  | exc {a dx : Addr} {d : D} {v : V} : H dx = some (.xd [(("thing" : Str), v)]) → Sh K ρ H d v → Sh K ρ H (.exc a dx d) (.ref a)
inductive Shs (K : PySem.W.Frag) (ρ : Rho) (H : Hp) : List D → List V → Prop
  | nil : Shs K ρ H [] []
  | cons {d : D} {ds : List D} {v : V} {vs : List V} : Sh K ρ H d v → Shs K ρ H ds vs → Shs K ρ H (d :: ds) (v :: vs)
end
/-- what stays -/
structure Grw (ρ : Rho) (H : Hp) (ρ' : Rho) (H' : Hp) : Prop where
  r : ∀ i a, ρ i = some a → ρ' i = some a
  t : ∀ b xs, H b = some (.tup xs) → H' b = some (.tup xs)
  z : ∀ b o u, H b = some (.frz o u) → H' b = some (.frz o u)
  x : ∀ b fs, H b = some (.xd fs) → H' b = some (.xd fs)
  c : ∀ b p q, H b = some (LamX.CodeO p q) → H' b = some (LamX.CodeO p q)
theorem Grw.refl (ρ : Rho) (H : Hp) : Grw ρ H ρ H := ⟨fun _ _ e => e, fun _ _ e => e, fun _ _ _ e => e, fun _ _ e => e, fun _ _ _ e => e⟩
theorem Grw.tr {ρ ρ1 ρ2 : Rho} {H H1 H2 : Hp} (a : Grw ρ H ρ1 H1) (b : Grw ρ1 H1 ρ2 H2) : Grw ρ H ρ2 H2 :=
  ⟨fun i x e => b.r i x (a.r i x e), fun c xs e => b.t c xs (a.t c xs e), fun c o u e => b.z c o u (a.z c o u e), fun c fs e => b.x c fs (a.x c fs e), fun c p q e => b.c c p q (a.c c p q e)⟩
instance {K : PySem.W.Frag} {H : Hp} {a : Addr} {xs : List V} : Coe (H a = some (.tup xs)) (SqT K H a xs) := ⟨SqT.of⟩
theorem SqT.grw {K : PySem.W.Frag} {ρ ρ' : Rho} {H H' : Hp} {a : Addr} {xs : List V} (g : Grw ρ H ρ' H') (h : SqT K H a xs) : SqT K H' a xs := by
  rcases h with (h | ⟨o, h⟩) | h
  · exact .inl (.inl (g.t a xs h))
  · exact .inl (.inr ⟨o, g.z a o _ h⟩)
  · exact .inr h
mutual
theorem Sh.grw {K : PySem.W.Frag} {ρ ρ' : Rho} {H H' : Hp} (g : Grw ρ H ρ' H') : ∀ (d : D) (v : V), Sh K ρ H d v → Sh K ρ' H' d v
  | .non, _, h => by cases h; exact .non
  | .bl b, _, h => by cases h; exact .bl b
  | .int i, _, h => by cases h; exact .int i
  | .str x, _, h => by cases h; exact .str x
  | .tup ds, _, h => by
    cases h with
    | tup h1 h2 => exact .tup (g.t _ _ h1) (Shs.grw g ds _ h2)
  | .obj i, _, h => by
    cases h with
    | obj e => exact .obj (g.r _ _ e)
  | .adr a, _, h => by cases h; exact .adr a
  | .ty n, _, h => by cases h; exact .ty n
  | .scr ns, _, h => by
    cases h with
    | scr e => exact .scr (e.elim (fun ⟨o, e⟩ => .inl ⟨o, g.z _ _ _ e⟩) .inr)
  | .lam f c q mk ds σ, _, h => by
    cases h with
    | lam e h2 h3 => exact .lam (g.c _ _ _ e) (Shs.grw g ds _ h2) h3
  | .exc a dx d, _, h => by
    cases h with
    | exc e h2 => exact .exc (g.x _ _ e) (Sh.grw g d _ h2)
theorem Shs.grw {K : PySem.W.Frag} {ρ ρ' : Rho} {H H' : Hp} (g : Grw ρ H ρ' H') : ∀ (ds : List D) (vs : List V), Shs K ρ H ds vs → Shs K ρ' H' ds vs
  | [], _, h => by cases h; exact .nil
  | d :: ds, _, h => by
    cases h with
    | cons h1 h2 => exact .cons (Sh.grw g d _ h1) (Shs.grw g ds _ h2)
end
section
variable {K : PySem.W.Frag} {ρ ρ' : Rho} {H H' : Hp}
theorem Shs.length : ∀ {ds : List D} {vs : List V}, Shs K ρ H ds vs → ds.length = vs.length
  | [], _, h => by cases h; rfl
  | d :: ds, _, h => by
    cases h with
    | cons h1 h2 => simp [Shs.length h2]
theorem Shs.get : ∀ {ds : List D} {vs : List V} {i : Nat} {v : V}, Shs K ρ H ds vs → vs[i]? = some v → ∃ d, ds[i]? = some d ∧ Sh K ρ H d v
  | [], _, _, _, h, e => by cases h; simp at e
  | d :: ds, _, 0, v, h, e => by
    cases h with
    | cons h1 h2 => simp at e; subst e; exact ⟨d, rfl, h1⟩
  | d :: ds, _, i + 1, v, h, e => by
    cases h with
    | cons h1 h2 =>
      obtain ⟨d', e1, h3⟩ := Shs.get (i := i) (v := v) h2 (by simpa using e)
      exact ⟨d', by simpa using e1, h3⟩
theorem Shs.getD : ∀ {ds : List D} {vs : List V} {i : Nat} {d : D}, Shs K ρ H ds vs → ds[i]? = some d → ∃ v, vs[i]? = some v ∧ Sh K ρ H d v
  | [], _, _, _, h, e => by simp at e
  | d :: ds, _, 0, d', h, e => by
    cases h with
    | cons h1 h2 => simp at e; subst e; exact ⟨_, rfl, h1⟩
  | d :: ds, _, i + 1, d', h, e => by
    cases h with
    | cons h1 h2 =>
      obtain ⟨v, e1, h3⟩ := Shs.getD (i := i) (d := d') h2 (by simpa using e)
      exact ⟨v, by simpa using e1, h3⟩
theorem Shs.append : ∀ {ds es : List D} {vs ws : List V}, Shs K ρ H ds vs → Shs K ρ H es ws → Shs K ρ H (ds ++ es) (vs ++ ws)
  | [], _, _, _, h, h' => by cases h; exact h'
  | d :: ds, _, _, _, h, h' => by
    cases h with
    | cons h1 h2 => exact .cons h1 (Shs.append h2 h')
theorem Shs.take : ∀ {ds : List D} {vs : List V} (n : Nat), Shs K ρ H ds vs → Shs K ρ H (ds.take n) (vs.take n)
  | _, _, 0, _ => by simp; exact .nil
  | [], _, n + 1, h => by cases h; exact .nil
  | d :: ds, _, n + 1, h => by
    cases h with
    | cons h1 h2 => exact .cons h1 (Shs.take n h2)
theorem Shs.drop : ∀ {ds : List D} {vs : List V} (n : Nat), Shs K ρ H ds vs → Shs K ρ H (ds.drop n) (vs.drop n)
  | _, _, 0, h => by simpa using h
  | [], _, n + 1, h => by cases h; exact .nil
  | d :: ds, _, n + 1, h => by
    cases h with
    | cons h1 h2 => exact Shs.drop n h2
theorem Shs.set : ∀ {ds : List D} {vs : List V} (n : Nat) {d : D} {v : V}, Shs K ρ H ds vs → Sh K ρ H d v → Shs K ρ H (ds.set n d) (vs.set n v)
  | [], _, n, _, _, h, _ => by cases h; exact .nil
  | d :: ds, _, 0, _, _, h, h' => by
    cases h with
    | cons h1 h2 => exact .cons h' h2
  | d :: ds, _, n + 1, _, _, h, h' => by
    cases h with
    | cons h1 h2 => exact .cons h1 (Shs.set n h2 h')
theorem Shs.reverse {ds : List D} {vs : List V} (h : Shs K ρ H ds vs) : Shs K ρ H ds.reverse vs.reverse := by
  induction ds generalizing vs with
  | nil => cases h; exact .nil
  | cons d ds ih =>
    cases h with
    | cons h1 h2 =>
      rw [List.reverse_cons, List.reverse_cons]
      exact (ih h2).append (.cons h1 .nil)
end
/-- named attributes, keyed items -/
inductive Shp (K : PySem.W.Frag) (ρ : Rho) (H : Hp) {κ : Type} : List (κ × D) → List (κ × V) → Prop
  | nil : Shp K ρ H [] []
  | cons {k : κ} {d : D} {ds : List (κ × D)} {v : V} {vs : List (κ × V)} : Sh K ρ H d v → Shp K ρ H ds vs → Shp K ρ H ((k, d) :: ds) ((k, v) :: vs)
theorem Shp.grw {K : PySem.W.Frag} {ρ ρ' : Rho} {H H' : Hp} (g : Grw ρ H ρ' H') {κ : Type} {ds : List (κ × D)} {vs : List (κ × V)} (h : Shp K ρ H ds vs) : Shp K ρ' H' ds vs := by
  induction h with
  | nil => exact .nil
  | cons h1 _ ih => exact .cons (Sh.grw g _ _ h1) ih
def CSh (K : PySem.W.Frag) (w : World) (ρ : Rho) (H : Hp) : Cell → HO → Prop
  | .lst ds, o => ∃ vs, o = .lst vs ∧ Shs K ρ H ds vs
  | .dK kvs, o => ∃ vs, o = .dK vs ∧ Shp K ρ H kvs vs
  | .dT kvs, o => ∃ vs, o = .dT vs ∧ Shp K ρ H kvs vs
  | .ins C fs, o => ∃ dx vs, o = .ins C dx vs ∧ Shp K ρ H fs vs
  | .dN kvs, o => ∃ b ws, o = Nk.DNo w b ws ∧ Paired (fun (p : NestedKey × D) (q : Nk.Ent) => p.1 = q.1 ∧ Nk.NIs H q.1 (.ref q.2.1) ∧ q.1.depth ≤ 8 ∧ Sh K ρ H p.2 q.2.2) kvs ws
  | .lkd kvs, o => ∃ od vs, o = .frz od (.dK vs) ∧ Shp K ρ H kvs vs
theorem CSh.grw {K : PySem.W.Frag} {w : World} {ρ ρ' : Rho} {H H' : Hp} (g : Grw ρ H ρ' H') {c : Cell} {o : HO} (h : CSh K w ρ H c o) : CSh K w ρ' H' c o := by
  cases c with
  | lst ds => obtain ⟨vs, e, h⟩ := h; exact ⟨vs, e, Shs.grw g _ _ h⟩
  | dK kvs => obtain ⟨vs, e, h⟩ := h; exact ⟨vs, e, h.grw g⟩
  | dT kvs => obtain ⟨vs, e, h⟩ := h; exact ⟨vs, e, h.grw g⟩
  | ins C fs => obtain ⟨dx, vs, e, h⟩ := h; exact ⟨dx, vs, e, h.grw g⟩
  | dN kvs => obtain ⟨b, ws, e, h⟩ := h; exact ⟨b, ws, e, Paired.mapP h fun p q z => ⟨z.1, Nk.NIs.grw g.t _ _ z.2.1, z.2.2.1, Sh.grw g _ _ z.2.2.2⟩⟩
  | lkd kvs => obtain ⟨od, vs, e, h⟩ := h; exact ⟨od, vs, e, h.grw g⟩
/-- the tables of code objects that may grow: those of generator expressions; those of lambdas, each with the name that its code objects bear -/
structure Tbs where
  w : World
  g : List Addr
  l : List (Addr × Str) := []
  dis : ∀ p ∈ l, p.1 ∉ g := by simp
def Tbs.all (T : Tbs) : List Addr := T.g ++ T.l.map (·.1)
theorem Tbs.of_g {T : Tbs} {p : Addr} (h : p ∈ T.g) : p ∈ T.all := List.mem_append_left _ h
theorem Tbs.of_l {T : Tbs} {p : Addr × Str} (h : p ∈ T.l) : p.1 ∈ T.all := List.mem_append_right _ (List.mem_map.mpr ⟨p, h, rfl⟩)
/-- the heap shows the memory -/
structure Rl (K : PySem.W.Frag) (Ts : Tbs) (ρ : Rho) (M : Mem) (H : Hp) : Prop where
  inj : ∀ i j a, ρ i = some a → ρ j = some a → i = j
  dom : ∀ i a, ρ i = some a → i < M.length
  cell : ∀ (i : Nat) (c : Cell), M[i]? = some c → ∃ a o, ρ i = some a ∧ H a = some o ∧ CSh K Ts.w ρ H c o
  tab : ∀ P ∈ Ts.g, TabG H P
  lam : ∀ p ∈ Ts.l, LamX.TabS H p.1 p.2
def cellHO : HO → Prop
  | .lst _ => True
  | .dK _ => True
  | .dT _ => True
  | .ins _ _ _ => True
  | .ext φ => ∃ w b ws, HO.ext φ = Nk.DNo w b ws
  | .frz _ (.dK _) => True
  | _ => False
theorem tabS_keep {H H' : Hp} {P : Addr} {q : Str} (t : LamX.TabS H P q) (k : ∀ b o, H b = some o → ¬ cellHO o → H' b = some o) : LamX.TabS H' P q := by
  obtain ⟨ps, h1, h2, h3⟩ := t
  refine ⟨ps, k _ _ h1 (fun z => z), h2, fun pos cv hc => ?_⟩
  obtain ⟨c, e1, e2⟩ := h3 pos cv hc
  exact ⟨c, e1, k _ _ e2 (fun z => by
    obtain ⟨w, b, ws, e⟩ := (show ∃ w b ws, LamX.CodeO c q = Nk.DNo w b ws from z)
    exact Nk.dno_ne_code e.symm)⟩
theorem CSh.is {K : PySem.W.Frag} {w : World} {ρ : Rho} {H : Hp} {c : Cell} {o : HO} (h : CSh K w ρ H c o) : cellHO o := by
  cases c with
  | lst ds => obtain ⟨vs, rfl, h⟩ := h; trivial
  | dK kvs => obtain ⟨vs, rfl, h⟩ := h; trivial
  | dT kvs => obtain ⟨vs, rfl, h⟩ := h; trivial
  | ins C fs => obtain ⟨dx, vs, rfl, h⟩ := h; trivial
  | dN kvs => obtain ⟨b, ws, rfl, h⟩ := h; exact ⟨w, b, ws, rfl⟩
  | lkd kvs => obtain ⟨od, vs, rfl, h⟩ := h; trivial
section
variable {K : PySem.W.Frag} {Ts : Tbs} {ρ ρ' : Rho} {M M' : Mem} {H H' : Hp}
/-- a new object at a free place -/
theorem grw_new {p : Addr} {o : HO} (hp : H p = none) : Grw ρ H ρ (upd H p o) :=
  ⟨fun _ _ e => e, fun b xs e => by rw [upd_ne (ne_of_none e hp)]; exact e, fun b u xs e => by rw [upd_ne (ne_of_none e hp)]; exact e, fun b fs e => by rw [upd_ne (ne_of_none e hp)]; exact e, fun b p q e => by rw [upd_ne (ne_of_none e hp)]; exact e⟩
theorem Rl.new (R : Rl K Ts ρ M H) {p : Addr} {o : HO} (hp : H p = none) : Rl K Ts ρ M (upd H p o) := by
  refine ⟨R.inj, R.dom, fun i c e => ?_, fun P hP => ?_, fun p hp' => (R.lam p hp').ext fun b o e => by rw [upd_ne (ne_of_none e hp)]; exact e⟩
  · obtain ⟨a, u, e1, e2, e3⟩ := R.cell i c e
    exact ⟨a, u, e1, by rw [upd_ne (ne_of_none e2 hp)]; exact e2, e3.grw (grw_new hp)⟩
  · obtain ⟨ps, e, h⟩ := R.tab P hP
    exact ⟨ps, by rw [upd_ne (ne_of_none e hp)]; exact e, h⟩
def ext (ρ : Rho) (n : Nat) (p : Addr) : Rho := fun i => if i = n then some p else ρ i
theorem Rl.fresh (R : Rl K Ts ρ M H) : ρ M.length = none := by
  cases e : ρ M.length with
  | none => rfl
  | some a => exact absurd (R.dom _ _ e) (Nat.lt_irrefl _)
theorem grw_ext (R : Rl K Ts ρ M H) {p : Addr} {o : HO} (hp : H p = none) : Grw ρ H (ext ρ M.length p) (upd H p o) :=
  ⟨fun i a e => by
    unfold ext
    rw [if_neg (fun z => by rw [z, R.fresh] at e; cases e)]
    exact e, (grw_new (ρ := ρ) hp).t, (grw_new (ρ := ρ) hp).z, (grw_new (ρ := ρ) hp).x, (grw_new (ρ := ρ) hp).c⟩
theorem Rl.cellNew (R : Rl K Ts ρ M H) {p : Addr} {o : HO} {c : Cell} (hp : H p = none) (hc : CSh K Ts.w ρ H c o) : Rl K Ts (ext ρ M.length p) (M ++ [c]) (upd H p o) := by
  have ne : ∀ i a, ρ i = some a → a ≠ p := fun i a e z => by
    have hi := R.dom i a e
    obtain ⟨b, u, e1, e2, _⟩ := R.cell i _ (List.getElem?_eq_getElem hi)
    rw [e] at e1
    cases e1
    rw [z, hp] at e2
    cases e2
  have g := grw_ext R (o := o) hp
  refine ⟨fun i j a e1 e2 => ?_, fun i a e => ?_, fun i c' e => ?_, fun P hP => (R.new hp).tab P hP, fun P hP => (R.new hp).lam P hP⟩
  · unfold ext at e1 e2
    split at e1 <;> split at e2
    · rename_i h1 h2; rw [h1, h2]
    · cases e1; exact absurd rfl (ne _ _ e2)
    · cases e2; exact absurd rfl (ne _ _ e1)
    · exact R.inj i j a e1 e2
  · unfold ext at e
    rw [List.length_append]
    split at e
    · rename_i h; rw [h]; exact Nat.lt_succ_self _
    · exact Nat.lt_succ_of_lt (R.dom i a e)
  · by_cases hi : i < M.length
    · rw [List.getElem?_append_left hi] at e
      obtain ⟨a, u, e1, e2, e3⟩ := R.cell i c' e
      exact ⟨a, u, g.r i a e1, by rw [upd_ne (ne i a e1)]; exact e2, e3.grw g⟩
    · have : i = M.length := by
        have := (List.getElem?_eq_some_iff.mp e).1
        rw [List.length_append] at this
        simp at this
        omega
      subst this
      rw [List.getElem?_append_right (Nat.le_refl _), Nat.sub_self] at e
      cases e
      exact ⟨p, o, by unfold ext; rw [if_pos rfl], upd_same, hc.grw g⟩
/-- a cell changed -/
theorem grw_set (R : Rl K Ts ρ M H) {i : Nat} {a : Addr} {c : Cell} {o : HO} (e : M[i]? = some c) (ea : ρ i = some a) (hk : ∀ kvs, c ≠ .lkd kvs := by intro _ z; cases z) : Grw ρ H ρ (upd H a o) := by
  obtain ⟨b, u, e1, e2, e3⟩ := R.cell i c e
  rw [ea] at e1
  cases e1
  have q := e3.is
  have qf : ∀ w' xs', u ≠ .frz w' xs' := fun w' xs' z => by
    subst z
    cases c with
    | lkd kvs => exact hk kvs rfl
    | lst ds => obtain ⟨vs, h, _⟩ := e3; cases h
    | dK ds => obtain ⟨vs, h, _⟩ := e3; cases h
    | dT ds => obtain ⟨vs, h, _⟩ := e3; cases h
    | ins C fs => obtain ⟨dx, vs, h, _⟩ := e3; cases h
    | dN ds => obtain ⟨b', ws, h, _⟩ := e3; cases h
  refine ⟨fun _ _ e => e, fun b xs e => ?_, fun b w xs e => ?_, fun b fs e => ?_, fun b p r e => ?_⟩
  · rw [upd_ne (fun z => by rw [z, e2] at e; cases e; exact q)]; exact e
  · rw [upd_ne (fun z => by rw [z, e2] at e; cases e; exact qf _ _ rfl)]; exact e
  · rw [upd_ne (fun z => by rw [z, e2] at e; cases e; exact q)]; exact e
  · rw [upd_ne (fun z => by
      rw [z, e2] at e
      have eu := Option.some.inj e
      rw [eu] at q
      obtain ⟨w, b, ws, e'⟩ := (show ∃ w b ws, LamX.CodeO p r = Nk.DNo w b ws from q)
      exact Nk.dno_ne_code e'.symm)]; exact e
theorem Rl.cellSet (R : Rl K Ts ρ M H) {i : Nat} {a : Addr} {c c' : Cell} {o : HO} (e : M[i]? = some c) (ea : ρ i = some a) (hc : CSh K Ts.w ρ H c' o) (hk : ∀ kvs, c ≠ .lkd kvs := by intro _ z; cases z) : Rl K Ts ρ (M.set i c') (upd H a o) := by
  obtain ⟨b, u, e1, e2, e3⟩ := R.cell i c e
  have eb : b = a := by rw [ea] at e1; exact (Option.some.inj e1).symm
  subst eb
  have q := e3.is
  have g := grw_set R (o := o) e ea hk
  refine ⟨R.inj, fun j x h => by rw [List.length_set]; exact R.dom j x h, fun j c2 h => ?_, fun P hP => ?_, fun p hp => tabS_keep (R.lam p hp) fun d u' hd hn => by rw [upd_ne (fun z => by rw [z, e2] at hd; cases hd; exact hn q)]; exact hd⟩
  · by_cases hj : i = j
    · subst hj
      have hl := (List.getElem?_eq_some_iff.mp e).1
      rw [List.getElem?_set_self hl] at h
      cases h
      exact ⟨b, o, ea, upd_same, hc.grw g⟩
    · rw [List.getElem?_set_ne hj] at h
      obtain ⟨a', u', h1, h2, h3⟩ := R.cell j c2 h
      exact ⟨a', u', h1, by rw [upd_ne (fun z => hj (R.inj _ _ _ ea (by rw [← z]; exact h1)))]; exact h2, h3.grw g⟩
  · obtain ⟨ps, h, ht⟩ := R.tab P hP
    exact ⟨ps, by rw [upd_ne (fun z => by rw [z, e2] at h; cases h; exact q)]; exact h, ht⟩
end
/-- slots -/
abbrev Sl := List (Option D)
structure Sls (K : PySem.W.Frag) (ρ : Rho) (H : Hp) (S : Sl) (σ : L2.St) : Prop where
  len : S.length = σ.length
  at_ : ∀ (j : Nat) (d : D), S[j]? = some (some d) → ∃ v, σ[j]? = some (some v) ∧ Sh K ρ H d v
theorem Sls.grw {K : PySem.W.Frag} {ρ ρ' : Rho} {H H' : Hp} {S : Sl} {σ : L2.St} (g : Grw ρ H ρ' H') (h : Sls K ρ H S σ) : Sls K ρ' H' S σ :=
  ⟨h.len, fun j d e => let ⟨v, e1, e2⟩ := h.at_ j d e; ⟨v, e1, Sh.grw g _ _ e2⟩⟩
theorem Sls.set {K : PySem.W.Frag} {ρ : Rho} {H : Hp} {S : Sl} {σ : L2.St} (h : Sls K ρ H S σ) {d : D} {v : V} (i : Nat) (hv : Sh K ρ H d v) : Sls K ρ H (S.set i (some d)) (σ.set i (some v)) := by
  refine ⟨by rw [List.length_set, List.length_set]; exact h.len, fun j d' e => ?_⟩
  by_cases hj : i = j
  · subst hj
    have hl : i < S.length := by
      have := (List.getElem?_eq_some_iff.mp e).1
      rwa [List.length_set] at this
    rw [List.getElem?_set_self hl] at e
    cases e
    exact ⟨v, by rw [List.getElem?_set_self (by rw [← h.len]; exact hl)], hv⟩
  · rw [List.getElem?_set_ne hj] at e
    rw [List.getElem?_set_ne hj]
    exact h.at_ j d' e
abbrev KD := D → Mem → Prop
/-- what is wanted of what is raised: the class, its thing -/
abbrev KE' := Addr → D → Mem → Prop
abbrev TEd := Sl → Mem → KD → KE' → Prop
structure EndsD where
  nx : Sl → Mem → Prop
  rt : KD
  bk : Sl → Mem → Prop := fun _ _ => False
  ct : Sl → Mem → Prop := fun _ _ => False
abbrev TSd := EndsD → KE' → Sl → Mem → Prop
abbrev TAd := Sl → Mem → (List D → Mem → Prop) → KE' → Prop
/-- what is raised, from data to the layer -/
def XOk (K : PySem.W.Frag) (Ts : Tbs) (ρ : Rho) (H : Hp) (Ed : KE') (E : XK) : Prop :=
  ∀ C d M', Ed C d M' → ∀ ρ' H' dx v, Grw ρ H ρ' H' → Rl K Ts ρ' M' H' → H' dx = some (.xd [("thing", v)]) → Sh K ρ' H' d v → E (.ref C) (some dx) H'
theorem XOk.grw {K : PySem.W.Frag} {Ts : Tbs} {ρ ρ' : Rho} {H H' : Hp} {Ed : KE'} {E : XK} (g : Grw ρ H ρ' H') (h : XOk K Ts ρ H Ed E) : XOk K Ts ρ' H' Ed E :=
  fun C d M' e ρ2 H2 dx v g2 R hx hs => h C d M' e ρ2 H2 dx v (g.tr g2) R hx hs
def KOk (K : PySem.W.Frag) (Ts : Tbs) (ρ : Rho) (H : Hp) (Qd : KD) (Q : VK) : Prop :=
  ∀ d M', Qd d M' → ∀ ρ' H' v, Grw ρ H ρ' H' → Rl K Ts ρ' M' H' → Sh K ρ' H' d v → Q v H'
theorem KOk.grw {K : PySem.W.Frag} {Ts : Tbs} {ρ ρ' : Rho} {H H' : Hp} {Qd : KD} {Q : VK} (g : Grw ρ H ρ' H') (h : KOk K Ts ρ H Qd Q) : KOk K Ts ρ' H' Qd Q :=
  fun d M' e ρ2 H2 v g2 R hs => h d M' e ρ2 H2 v (g.tr g2) R hs
def rdE (K : PySem.W.Frag) (Ts : Tbs) (E : XK) (t : TEd) : TE := fun σ H Q => ∃ ρ S M Qd Ed, Rl K Ts ρ M H ∧ Sls K ρ H S σ ∧ t S M Qd Ed ∧ KOk K Ts ρ H Qd Q ∧ XOk K Ts ρ H Ed E
def rdA (K : PySem.W.Frag) (Ts : Tbs) (E : XK) (t : TAd) : TA := fun σ H Q => ∃ ρ S M Qd Ed, Rl K Ts ρ M H ∧ Sls K ρ H S σ ∧ t S M Qd Ed ∧ (∀ ds M', Qd ds M' → ∀ ρ' H' vs, Grw ρ H ρ' H' → Rl K Ts ρ' M' H' → Shs K ρ' H' ds vs → Q vs H') ∧ XOk K Ts ρ H Ed E
/-- a test -/
abbrev TTd := Sl → Mem → (Bool → Mem → Prop) → KE' → Prop
def rdT (K : PySem.W.Frag) (Ts : Tbs) (E : XK) (t : TTd) : TT := fun σ H Q => ∃ ρ S M Qd Ed, Rl K Ts ρ M H ∧ Sls K ρ H S σ ∧ t S M Qd Ed ∧ (∀ b M', Qd b M' → ∀ ρ' H', Grw ρ H ρ' H' → Rl K Ts ρ' M' H' → Q b H') ∧ XOk K Ts ρ H Ed E
def SOk (K : PySem.W.Frag) (Ts : Tbs) (ρ : Rho) (H : Hp) (Qd : Sl → Mem → Prop) (Q : L2.St → Hp → Prop) : Prop :=
  ∀ S' M', Qd S' M' → ∀ ρ' H' σ', Grw ρ H ρ' H' → Rl K Ts ρ' M' H' → Sls K ρ' H' S' σ' → Q σ' H'
theorem SOk.grw {K : PySem.W.Frag} {Ts : Tbs} {ρ ρ' : Rho} {H H' : Hp} {Qd : Sl → Mem → Prop} {Q : L2.St → Hp → Prop} (g : Grw ρ H ρ' H') (h : SOk K Ts ρ H Qd Q) : SOk K Ts ρ' H' Qd Q :=
  fun d M' e ρ2 H2 v g2 R hs => h d M' e ρ2 H2 v (g.tr g2) R hs
def rdS (K : PySem.W.Frag) (Ts : Tbs) (E : XK) (t : TSd) : TS := fun D' σ H => ∃ ρ S M Dd Ed, Rl K Ts ρ M H ∧ Sls K ρ H S σ ∧ t Dd Ed S M ∧ SOk K Ts ρ H Dd.nx D'.nx ∧ KOk K Ts ρ H Dd.rt D'.rt ∧ SOk K Ts ρ H Dd.bk D'.bk ∧ SOk K Ts ρ H Dd.ct D'.ct ∧ XOk K Ts ρ H Ed E
/-- a reading may be asked more of -/
theorem peLe {X : Cx} {e : Expr} {t t' : TE} (h : PE X e t) (i : ∀ σ H Q, t' σ H Q → t σ H Q) : PE X e t' := ⟨fun pins s σ H Q I q => h.run pins s σ H Q I (i σ H Q q)⟩
theorem ptLe {X : Cx} {e : Expr} {t t' : TT} (h : PT X e t) (i : ∀ σ H Q, t' σ H Q → t σ H Q) : PT X e t' := ⟨fun pins s σ H Q I q => h.run pins s σ H Q I (i σ H Q q)⟩
theorem paLe {X : Cx} {e : List Expr} {t t' : TA} (h : PA X e t) (i : ∀ σ H Q, t' σ H Q → t σ H Q) : PA X e t' := ⟨fun p pins s σ H Q I q => h.run p pins s σ H Q I (i σ H Q q)⟩
theorem psLe {X : Cx} {e : Stmt} {t t' : TS} (h : PS X e t) (i : ∀ D σ H, t' D σ H → t D σ H) : PS X e t' := ⟨fun pins s σ H D I q => h.run pins s σ H D I (i D σ H q)⟩
theorem pssLe {X : Cx} {e : List Stmt} {t t' : TS} (h : PSs X e t) (i : ∀ D σ H, t' D σ H → t D σ H) : PSs X e t' := ⟨fun pins s σ H D I q => h.run pins s σ H D I (i D σ H q)⟩
abbrev QE (X : Cx) (Ts : Tbs) (E : XK) (e : Expr) (t : TEd) : Prop := PE X e (rdE X.K Ts E t)
abbrev QA (X : Cx) (Ts : Tbs) (E : XK) (es : List Expr) (t : TAd) : Prop := PA X es (rdA X.K Ts E t)
abbrev QT (X : Cx) (Ts : Tbs) (E : XK) (e : Expr) (t : TTd) : Prop := PT X e (rdT X.K Ts E t)
abbrev QS (X : Cx) (Ts : Tbs) (E : XK) (s : Stmt) (t : TSd) : Prop := PS X s (rdS X.K Ts E t)
abbrev QSs (X : Cx) (Ts : Tbs) (E : XK) (s : List Stmt) (t : TSd) : Prop := PSs X s (rdS X.K Ts E t)
end Dl
set_option Elab.async false
set_option linter.all false
set_option maxRecDepth 100000
set_option maxHeartbeats 4000000
namespace Dl
open PySem PySem.Spec PyProof.Rows L2 GxR Gn
section
variable {K : PySem.W.Frag} {Ts : Tbs} {ρ : Rho} {M : Mem} {H : Hp}
theorem Rl.lst (R : Rl K Ts ρ M H) {i : Nat} {ds : List D} (e : M[i]? = some (.lst ds)) : ∃ a vs, ρ i = some a ∧ H a = some (.lst vs) ∧ Shs K ρ H ds vs := by
  obtain ⟨a, o, e1, e2, vs, rfl, h⟩ := R.cell i _ e
  exact ⟨a, vs, e1, e2, h⟩
theorem Rl.dict (R : Rl K Ts ρ M H) {i : Nat} {ds : List (Key × D)} (e : M[i]? = some (.dK ds)) : ∃ a vs, ρ i = some a ∧ H a = some (.dK vs) ∧ Shp K ρ H ds vs := by
  obtain ⟨a, o, e1, e2, vs, rfl, h⟩ := R.cell i _ e
  exact ⟨a, vs, e1, e2, h⟩
theorem Rl.inst (R : Rl K Ts ρ M H) {i : Nat} {C : Addr} {fs : List (Str × D)} (e : M[i]? = some (.ins C fs)) : ∃ a dx vs, ρ i = some a ∧ H a = some (.ins C dx vs) ∧ Shp K ρ H fs vs := by
  obtain ⟨a, o, e1, e2, dx, vs, rfl, h⟩ := R.cell i _ e
  exact ⟨a, dx, vs, e1, e2, h⟩
theorem newTup (R : Rl K Ts ρ M H) {ds : List D} {vs : List V} (h : Shs K ρ H ds vs) {Qd : KD} {Q : VK} (k : KOk K Ts ρ H Qd Q) (q : Qd (.tup ds) M) {p : Addr} (hp : H p = none) : Q (.ref p) (upd H p (.tup vs)) :=
  k _ _ q ρ _ _ (grw_new hp) (R.new hp) (.tup upd_same (Shs.grw (grw_new hp) _ _ h))
theorem newLst (R : Rl K Ts ρ M H) {ds : List D} {vs : List V} (h : Shs K ρ H ds vs) {Qd : KD} {Q : VK} (k : KOk K Ts ρ H Qd Q) (q : Qd (.obj M.length) (M ++ [.lst ds])) {p : Addr} (hp : H p = none) : Q (.ref p) (upd H p (.lst vs)) :=
  k _ _ q _ _ _ (grw_ext R hp) (R.cellNew hp ⟨vs, rfl, h⟩) (.obj (by unfold ext; rw [if_pos rfl]))
/-- a cell changed, a value told -/
theorem setCell (R : Rl K Ts ρ M H) {i : Nat} {a : Addr} {c c' : Cell} {o : HO} (e : M[i]? = some c) (ea : ρ i = some a) (hc : CSh K Ts.w ρ H c' o) {Qd : KD} {Q : VK} (k : KOk K Ts ρ H Qd Q) {d : D} {v : V} (hd : Sh K ρ H d v) (q : Qd d (M.set i c')) (hk : ∀ kvs, c ≠ .lkd kvs := by intro _ z; cases z) : Q v (upd H a o) :=
  k _ _ q ρ _ _ (grw_set R e ea hk) (R.cellSet e ea hc hk) (Sh.grw (grw_set R e ea hk) _ _ hd)
theorem KOk.same (k : KOk K Ts ρ H Qd Q) (R : Rl K Ts ρ M H) {d : D} {v : V} (q : Qd d M) (h : Sh K ρ H d v) : Q v H := k _ _ q ρ H v (Grw.refl ρ H) R h
end
section
variable {X : Cx} {Ts : Tbs} {E : XK} {pos : Pos}
@[simp] def dVar (i : Nat) : TEd := fun S M Q _ => ∃ d, S[i]? = some (some d) ∧ Q d M
theorem qv (i : Nat) {x : Str} {pos : Pos} (hN : X.N[i]? = some x := by rfl) (hv : Vis X.env.scope x := by first | exact Or.inl rfl | exact Or.inr (Or.inl rfl) | exact Or.inr (Or.inr rfl)) (hd : (x == ("__debug__" : Str)) = false := by decide) (hcd : (x == ("__classdict__" : Str)) = false := by decide) :
    QE X Ts E (.Name x pos) (dVar i) := peLe (pe_var hN hv hd hcd) fun σ H Q h => by
  obtain ⟨ρ, S, M, Qd, Ed, R, sl, ⟨d, e, q⟩, k, x⟩ := h
  obtain ⟨v, e1, hs⟩ := sl.at_ i d e
  exact ⟨v, e1, k.same R q hs⟩
@[simp] def dC (d : D) : TEd := fun _ M Q _ => Q d M
theorem rdC {t : TE} {d : D} {v : V} (ht : t = tC v) (hs : ∀ ρ H, Sh X.K ρ H d v) : ∀ σ H Q, rdE X.K Ts E (dC d) σ H Q → t σ H Q := fun σ H Q h => by
  obtain ⟨ρ, S, M, Qd, Ed, R, sl, q, k, x⟩ := h
  rw [ht]
  exact k.same R q (hs ρ H)
theorem qe_int {i : Int} {j : Nat} : QE X Ts E (.Constant (.int i) j pos) (dC (.int i)) := peLe pe_int (rdC rfl fun _ _ => .int i)
theorem qe_bl {i : Bool} {j : Nat} : QE X Ts E (.Constant (.bool i) j pos) (dC (.bl i)) := peLe pe_bl (rdC rfl fun _ _ => .bl i)
theorem qe_non {j : Nat} : QE X Ts E (.Constant .none j pos) (dC .non) := peLe pe_non (rdC rfl fun _ _ => .non)
theorem qe_str {i : Str} {j : Nat} : QE X Ts E (.Constant (.str i) j pos) (dC (.str i)) := peLe pe_str (rdC rfl fun _ _ => .str i)
theorem qe_bltn {x : Str} {n : String} (hg : Gl X x) (hm : X.mg x = none) (hv : bootBuiltins x = some (.type n)) (hn : x ≠ "__name__" := by decide) (hd : (x == ("__debug__" : Str)) = false := by decide) : QE X Ts E (.Name x pos) (dC (.ty n)) :=
  peLe (pe_bltn (v := .ty n) hg hm hv rfl hn hd) (rdC rfl fun _ _ => .ty n)
def OpD (X : Cx) (Ts : Tbs) (r : R2) (rd : D → D → Mem → KD → Prop) : Prop :=
  ∀ ρ M H x y v u Q Qd, Rl X.K Ts ρ M H → Sh X.K ρ H x v → Sh X.K ρ H y u → rd x y M Qd → KOk X.K Ts ρ H Qd Q → r v u H Q
@[simp] def dOp (rd : D → D → Mem → KD → Prop) (ta tb : TEd) : TEd := fun S M Q E => ta S M (fun x M1 => tb S M1 (fun y M2 => rd x y M2 Q) E) E
theorem opRead {r : R2} {rd : D → D → Mem → KD → Prop} (ho : OpD X Ts r rd) {ta tb : TEd} {σ : L2.St} {H : Hp} {Q : VK} (h : rdE X.K Ts E (dOp rd ta tb) σ H Q) : tOp r (rdE X.K Ts E ta) (rdE X.K Ts E tb) σ H Q := by
  obtain ⟨ρ, S, M, Qd, Ed, R, sl, h, k, x⟩ := h
  refine ⟨ρ, S, M, _, Ed, R, sl, h, fun d M1 h1 ρ1 H1 v g1 R1 s1 => ?_, x⟩
  exact ⟨ρ1, S, M1, _, Ed, R1, sl.grw g1, h1, fun e M2 h2 ρ2 H2 u g2 R2 s2 => ho ρ2 M2 H2 d e v u Q Qd R2 (Sh.grw g2 _ _ s1) s2 h2 (k.grw (g1.tr g2)), x.grw g1⟩
variable {a b c : Expr} {ta tb tc : TEd}
theorem qe_op {op : Operator} {r : R2} {rd : D → D → Mem → KD → Prop} (ho : OpR X (binaryOp op) r) (hd : OpD X Ts r rd) (ha : QE X Ts E a ta) (hb : QE X Ts E b tb) : QE X Ts E (.BinOp a op b pos) (dOp rd ta tb) := peLe (pe_op ho ha hb) fun _ _ _ => opRead hd
theorem qe_cmp {op : CmpOp} {r : R2} {rd : D → D → Mem → KD → Prop} (ho : OpR X (compareOp op) r) (hd : OpD X Ts r rd) (ha : QE X Ts E a ta) (hb : QE X Ts E b tb) (hm : behindInMarks op b = false) : QE X Ts E (.Compare a [op] [b] pos) (dOp rd ta tb) := peLe (pe_cmpR ho ha hb hm) fun _ _ _ => opRead hd
theorem qe_ix {r : R2} {rd : D → D → Mem → KD → Prop} (ho : IxR X r) (hd : OpD X Ts r rd) (ha : QE X Ts E a ta) (hb : QE X Ts E b tb) (hs : PlainIx b := by intro _ _; rfl) : QE X Ts E (.Subscript a b pos) (dOp rd ta tb) := peLe (pe_ix ho ha hb hs) fun _ _ _ => opRead hd
def addD : D → D → Mem → KD → Prop
  | .int i, .int j, M, Q => Q (.int (i + j)) M
  | .str i, .str j, M, Q => i.length + j.length ≤ sizeLine ∧ Q (.str (i ++ j)) M
  | .tup xs, .tup ys, M, Q => xs.length + ys.length ≤ sizeLine ∧ Q (.tup (xs ++ ys)) M
  | .obj i, .obj j, M, Q => ∃ xs ys, M[i]? = some (.lst xs) ∧ M[j]? = some (.lst ys) ∧ xs.length + ys.length ≤ sizeLine ∧ Q (.obj M.length) (M ++ [.lst (xs ++ ys)])
  | _, _, _, _ => False
def rAddH (K : PySem.W.Frag) : R2 := fun x y H Q => (∃ i j, x = .int i ∧ y = .int j ∧ Q (.int (i + j)) H) ∨ (∃ i j, x = .str i ∧ y = .str j ∧ i.length + j.length ≤ sizeLine ∧ Q (.str (i ++ j)) H) ∨ rCatA K x y H Q ∨ rCat x y H Q
theorem op_addH : OpR X (binaryOp .Add) (rAddH X.K) := op_add.or (op_add_str.or (op_catA.or op_cat))
theorem shs_nil {K : PySem.W.Frag} {ρ : Rho} {H : Hp} {ds : List D} {vs : List V} (h : Shs K ρ H ds vs) : vs = [] ↔ ds = [] := by
  have := h.length
  constructor <;> intro e <;> subst e <;> simp at this
  · exact this
  · exact List.eq_nil_of_length_eq_zero this.symm
theorem od_add : OpD X Ts (rAddH X.K) addD := fun ρ M H x y v u Q Qd R sx sy h k => by
  cases sx with
  | int i => cases sy with
    | int j => exact .inl ⟨i, j, rfl, rfl, k.same R h (.int _)⟩
    | _ => exact h.elim
  | str i => cases sy with
    | str j => exact .inr (.inl ⟨i, j, rfl, rfl, h.1, k.same R h.2 (.str _)⟩)
    | _ => exact h.elim
  | @tup a xs ds ha hs => cases sy with
    | @tup b ys es hb ht =>
      have q : Qd (.tup (ds ++ es)) M := h.2
      refine .inr (.inr (.inl ⟨a, b, xs, ys, rfl, rfl, ha, hb, by rw [← hs.length, ← ht.length]; exact h.1, fun e => ?_, fun _ e => ?_, fun _ _ p hp => newTup R (hs.append ht) k q hp⟩))
      · obtain rfl := (shs_nil hs).mp e
        exact k.same R q (.tup hb ht)
      · obtain rfl := (shs_nil ht).mp e
        rw [List.append_nil] at q
        exact k.same R q (.tup ha hs)
    | _ => exact h.elim
  | @obj i a ea => cases sy with
    | @obj j b eb =>
      obtain ⟨xs, ys, e1, e2, hz, q⟩ := h
      obtain ⟨a', vs, r1, h1, s1⟩ := R.lst e1
      obtain ⟨b', ws, r2, h2, s2⟩ := R.lst e2
      rw [ea] at r1; cases r1
      rw [eb] at r2; cases r2
      exact .inr (.inr (.inr ⟨a, b, vs, ws, rfl, rfl, h1, h2, by rw [← s1.length, ← s2.length]; exact hz, fun p hp => newLst R (s1.append s2) k q hp⟩))
    | _ => exact h.elim
  | _ => cases sy <;> exact h.elim
/-- two ints -/
def intD (C : Int → Int → Prop) (g : Int → Int → D) : D → D → Mem → KD → Prop
  | .int i, .int j, M, Q => C i j ∧ Q (g i j) M
  | _, _, _, _ => False
theorem od_int {C : Int → Int → Prop} {g : Int → Int → D} {g' : Int → Int → V} (hg : ∀ i j ρ H, Sh X.K ρ H (g i j) (g' i j)) : OpD X Ts (rI C g') (intD C g) := fun ρ M H x y v u Q Qd R sx sy h k => by
  cases sx with
  | int i => cases sy with
    | int j => exact ⟨i, j, rfl, rfl, h.1, k.same R h.2 (hg i j ρ H)⟩
    | _ => exact h.elim
  | _ => cases sy <;> exact h.elim
theorem op_rI0 {f : Value → Value → Sem Value} {g : Int → Int → V} (h : OpR X f (rI0 g)) : OpR X f (rI (fun _ _ => True) g) := fun pins s σ H x y v u Q I rx ry q => h pins s σ H x y v u Q I rx ry (let ⟨i, j, a, b, _, q⟩ := q; ⟨i, j, a, b, q⟩)
@[simp] def subD := intD (fun _ _ => True) fun i j => .int (i - j)
theorem od_sub : OpD X Ts (rI (fun _ _ => True) fun i j => V.int (i - j)) subD := od_int fun _ _ _ _ => .int _
@[simp] def ltD := intD (fun _ _ => True) fun i j => .bl (decide (i < j))
@[simp] def leD := intD (fun _ _ => True) fun i j => .bl (decide (i ≤ j))
@[simp] def gtD := intD (fun _ _ => True) fun i j => .bl (decide (j < i))
@[simp] def geD := intD (fun _ _ => True) fun i j => .bl (decide (j ≤ i))
@[simp] def fdivD := intD CDivN fun i j => .int (i.fdiv j)
@[simp] def modD := intD (fun _ j => j ≠ 0) fun i j => .int (i.fmod j)
@[simp] def powD := intD CPow fun i j => .int (i ^ j.toNat)
theorem qe_sub (ha : QE X Ts E a ta) (hb : QE X Ts E b tb) : QE X Ts E (.BinOp a .Sub b pos) (dOp subD ta tb) := qe_op (op_rI0 op_sub) od_sub ha hb
theorem qe_add (ha : QE X Ts E a ta) (hb : QE X Ts E b tb) : QE X Ts E (.BinOp a .Add b pos) (dOp addD ta tb) := qe_op op_addH od_add ha hb
theorem qe_mod (ha : QE X Ts E a ta) (hb : QE X Ts E b tb) : QE X Ts E (.BinOp a .Mod b pos) (dOp modD ta tb) := qe_op op_modN (od_int fun _ _ _ _ => .int _) ha hb
theorem qe_pow (ha : QE X Ts E a ta) (hb : QE X Ts E b tb) : QE X Ts E (.BinOp a .Pow b pos) (dOp powD ta tb) := qe_op op_pow (od_int fun _ _ _ _ => .int _) ha hb
/-- * -/
def mulD : D → D → Mem → KD → Prop
  | .int i, .int j, M, Q => CMulW i j ∧ Q (.int (i * j)) M
  | .obj i, .int k, M, Q => ∃ xs, M[i]? = some (.lst xs) ∧ -(2 ^ 63) ≤ k ∧ k < 2 ^ 63 ∧ xs.length * k.toNat ≤ sizeLine ∧ Q (.obj M.length) (M ++ [.lst (List.replicate k.toNat xs).flatten])
  | .tup xs, .int k, M, Q => xs ≠ [] ∧ 2 ≤ k ∧ k ≤ 1000 ∧ xs.length ≤ 1000 ∧ Q (.tup (List.replicate k.toNat xs).flatten) M
  | _, _, _, _ => False
end
end Dl
set_option Elab.async false
set_option linter.all false
set_option maxRecDepth 100000
set_option maxHeartbeats 4000000
namespace Dl
open PySem PySem.Spec PyProof.Rows L2 GxR Gn
section
variable {X : Cx} {Ts : Tbs} {E : XK} {pos : Pos} {a b c : Expr} {ta tb tc : TEd}
theorem Shs.flat {K : PySem.W.Frag} {ρ : Rho} {H : Hp} {ds : List D} {vs : List V} (h : Shs K ρ H ds vs) : ∀ k : Nat, Shs K ρ H (List.replicate k ds).flatten (List.replicate k vs).flatten
  | 0 => .nil
  | k + 1 => by
    simp only [List.replicate_succ, List.flatten_cons]
    exact h.append (Shs.flat h k)
def rMulH (K : PySem.W.Frag) : R2 := fun x y H Q => rI CMulW (fun i j => .int (i * j)) x y H Q ∨ rRep x y H Q ∨ rRepT K x y H Q
theorem op_mulH : OpR X (binaryOp .Mult) (rMulH X.K) := op_mulW.or (op_rep.or op_repT)
theorem od_mul : OpD X Ts (rMulH X.K) mulD := fun ρ M H x y v u Q Qd R sx sy h k => by
  cases sx with
  | int i => cases sy with
    | int j => exact .inl ⟨i, j, rfl, rfl, h.1, k.same R h.2 (.int _)⟩
    | _ => exact h.elim
  | @tup a xs ds ha hs => cases sy with
    | int j =>
      obtain ⟨h1, h2, h3, h4, q⟩ := h
      exact .inr (.inr ⟨a, j, xs, rfl, rfl, ha, fun e => h1 ((shs_nil hs).mp e), h2, h3, by rw [← hs.length]; exact h4, fun p hp => newTup R (hs.flat _) k q hp⟩)
    | _ => exact h.elim
  | @obj i a ea => cases sy with
    | int j =>
      obtain ⟨xs, e1, h1, h2, hz, q⟩ := h
      obtain ⟨a', vs, r1, g1, s1⟩ := R.lst e1
      rw [ea] at r1; cases r1
      exact .inr (.inl ⟨a, j, vs, rfl, rfl, g1, h1, h2, by rw [← s1.length]; exact hz, fun p hp => newLst R (s1.flat _) k q hp⟩)
    | _ => exact h.elim
  | _ => cases sy <;> exact h.elim
mutual
def pyM (M : Mem) : Nat → D → Option PyData
  | _, .non => some .none
  | _, .bl b => some (.bool b)
  | _, .int i => some (.int i)
  | _, .str x => some (.str x)
  | n, .tup ds => (pyMs M n ds).map .tuple
  | 0, .obj _ => none
  | n + 1, .obj i => match M[i]? with
    | some (.lst ds) => (pyMs M n ds).map .list
    | _ => none
  | _, .adr _ => none
  | _, .ty _ => none
  | _, .scr _ => none
  | _, .lam _ _ _ _ _ _ => none
  | _, .exc _ _ _ => none
termination_by n d => (n, sizeOf d)
def pyMs (M : Mem) : Nat → List D → Option (List PyData)
  | _, [] => some []
  | n, d :: ds => match pyM M n d, pyMs M n ds with
    | some p, some ps => some (p :: ps)
    | _, _ => none
termination_by n ds => (n, sizeOf ds)
end
mutual
theorem pyM_dp {K : PySem.W.Frag} {Ts : Tbs} {ρ : Rho} {M : Mem} {H : Hp} (R : Rl K Ts ρ M H) : ∀ (n : Nat) (d : D) (p : PyData) (v : V), pyM M n d = some p → Sh K ρ H d v → Dp K H v p
  | n, .non, p, v, e, h => by
    rw [pyM] at e; cases e; cases h; exact .non
  | n, .bl b, p, v, e, h => by
    rw [pyM] at e; cases e; cases h; exact .bl b
  | n, .int i, p, v, e, h => by
    rw [pyM] at e; cases e; cases h; exact .int i
  | n, .str x, p, v, e, h => by
    rw [pyM] at e; cases e; cases h; exact .str x
  | n, .tup ds, p, v, e, h => by
    rw [pyM] at e
    cases e1 : pyMs M n ds with
    | none => rw [e1] at e; cases e
    | some ps =>
      rw [e1] at e; cases e
      cases h with
      | tup h1 h2 => exact .tup h1 (pyMs_dp R n ds ps _ e1 h2)
  | 0, .obj i, p, v, e, h => by rw [pyM] at e; cases e
  | n + 1, .obj i, p, v, e, h => by
    rw [pyM] at e
    cases em : M[i]? with
    | none => rw [em] at e; cases e
    | some c =>
      rw [em] at e
      cases c with
      | lst ds =>
        simp only at e
        cases e1 : pyMs M n ds with
        | none => rw [e1] at e; cases e
        | some ps =>
          rw [e1] at e; cases e
          obtain ⟨a, vs, r1, g1, s1⟩ := R.lst em
          cases h with
          | obj ea =>
            rw [ea] at r1; cases r1
            exact .lst (SqL.of g1) (pyMs_dp R n ds ps _ e1 s1)
      | dK kvs => cases e
      | dT kvs => cases e
      | ins C fs => cases e
      | dN kvs => cases e
      | lkd kvs => cases e
  | n, .adr a, p, v, e, h => by rw [pyM] at e; cases e
  | n, .ty a, p, v, e, h => by rw [pyM] at e; cases e
  | n, .scr a, p, v, e, h => by rw [pyM] at e; cases e
  | n, .lam _ _ _ _ _ _, p, v, e, h => by rw [pyM] at e; cases e
  | n, .exc _ _ _, p, v, e, h => by rw [pyM] at e; cases e
termination_by n d => (n, sizeOf d)
theorem pyMs_dp {K : PySem.W.Frag} {Ts : Tbs} {ρ : Rho} {M : Mem} {H : Hp} (R : Rl K Ts ρ M H) : ∀ (n : Nat) (ds : List D) (ps : List PyData) (vs : List V), pyMs M n ds = some ps → Shs K ρ H ds vs → DpAll K H vs ps
  | n, [], ps, vs, e, h => by
    rw [pyMs] at e; cases e; cases h; exact .nil
  | n, d :: ds, ps, vs, e, h => by
    rw [pyMs] at e
    cases e1 : pyM M n d with
    | none => rw [e1] at e; cases e
    | some p =>
      cases e2 : pyMs M n ds with
      | none => rw [e1, e2] at e; cases e
      | some qs =>
        rw [e1, e2] at e; cases e
        cases h with
        | cons h1 h2 => exact .cons (pyM_dp R n d p _ e1 h1) (pyMs_dp R n ds qs _ e2 h2)
termination_by n ds => (n, sizeOf ds)
end
/-- == of data -/
def eqD (neg : Bool) (x y : D) (M : Mem) (Q : KD) : Prop := ∃ n p q, pyM M n x = some p ∧ pyM M n y = some q ∧ SeqAt.shaped p = true ∧ SeqAt.shaped q = true ∧ Q (.bl (if neg then !PyData.eqv p q else PyData.eqv p q)) M
theorem od_eq : OpD X Ts (rEqD X.K) (eqD false) := fun ρ M H x y v u Q Qd R sx sy ⟨n, p, q, e1, e2, h1, h2, h⟩ k => ⟨p, q, pyM_dp R n x p v e1 sx, pyM_dp R n y q u e2 sy, h1, h2, k.same R h (.bl _)⟩
theorem od_ne : OpD X Ts (rNeD X.K) (eqD true) := fun ρ M H x y v u Q Qd R sx sy ⟨n, p, q, e1, e2, h1, h2, h⟩ k => ⟨p, q, pyM_dp R n x p v e1 sx, pyM_dp R n y q u e2 sy, h1, h2, k.same R h (.bl _)⟩
theorem Shs.atI {K : PySem.W.Frag} {ρ : Rho} {H : Hp} {ds : List D} {vs : List V} (h : Shs K ρ H ds vs) {i : Int} {d : D} (e : atI ds i = some d) : ∃ v, L2.atI vs i = some v ∧ Sh K ρ H d v := by
  unfold L2.atI at e ⊢
  rw [← h.length]
  cases q : ixN ds.length i with
  | none => rw [q] at e; cases e
  | some j =>
    rw [q] at e
    exact h.getD e
def ixD : D → D → Mem → KD → Prop
  | .obj i, .int k, M, Q => ∃ ds v, M[i]? = some (.lst ds) ∧ atI ds k = some v ∧ Q v M
  | .tup ds, .int k, M, Q => ∃ v, atI ds k = some v ∧ Q v M
  | .str z, .int k, M, Q => ∃ c, z.length ≤ sizeLine ∧ atI z.cps.toList k = some c ∧ Q (.str ⟨#[c]⟩) M
  | _, _, _, _ => False
theorem od_ix : OpD X Ts (rIx X.K) ixD := fun ρ M H x y v u Q Qd R sx sy h k => by
  cases sx with
  | str z => cases sy with
    | int j =>
      obtain ⟨c, h1, h2, q⟩ := h
      exact .inr (.inr ⟨z, j, c, rfl, rfl, h1, h2, k.same R q (.str _)⟩)
    | _ => exact h.elim
  | @tup a xs ds ha hs => cases sy with
    | int j =>
      obtain ⟨d, e, q⟩ := h
      obtain ⟨v, e2, s2⟩ := hs.atI e
      exact .inr (.inl ⟨a, xs, j, v, rfl, rfl, ha, e2, k.same R q s2⟩)
    | _ => exact h.elim
  | @obj i a ea => cases sy with
    | int j =>
      obtain ⟨ds, d, e1, e, q⟩ := h
      obtain ⟨a', vs, r1, g1, s1⟩ := R.lst e1
      rw [ea] at r1; cases r1
      obtain ⟨v, e2, s2⟩ := s1.atI e
      exact .inl ⟨a, vs, j, v, rfl, rfl, SqL.of g1, e2, k.same R q s2⟩
    | _ => exact h.elim
  | _ => cases sy <;> exact h.elim
abbrev TOd := Sl → Mem → (Option Int → Mem → Prop) → KE' → Prop
def rdO (K : PySem.W.Frag) (Ts : Tbs) (E : XK) (t : TOd) : TO := fun σ H Q => ∃ ρ S M Qd Ed, Rl K Ts ρ M H ∧ Sls K ρ H S σ ∧ t S M Qd Ed ∧ (∀ o M', Qd o M' → ∀ ρ' H', Grw ρ H ρ' H' → Rl K Ts ρ' M' H' → Q o H') ∧ XOk K Ts ρ H Ed E
abbrev QO (X : Cx) (Ts : Tbs) (E : XK) (e : Option Expr) (t : TOd) : Prop := PO X e (rdO X.K Ts E t)
theorem poLe {X : Cx} {e : Option Expr} {t t' : TO} (h : PO X e t) (i : ∀ σ H Q, t' σ H Q → t σ H Q) : PO X e t' := ⟨fun pins s σ H Q I q => h.run pins s σ H Q I (i σ H Q q)⟩
@[simp] def dNo : TOd := fun _ M Q _ => Q none M
@[simp] def dPart (t : TEd) : TOd := fun S M Q E => t S M (fun d M' => ∃ i, d = .int i ∧ Q (some i) M') E
theorem qo_none : QO X Ts E none dNo := poLe po_none fun σ H Q ⟨ρ, S, M, Qd, Ed, R, sl, q, k, x⟩ => k _ _ q ρ H (Grw.refl _ _) R
theorem qo_some (h : QE X Ts E a ta) : QO X Ts E (some a) (dPart ta) := poLe (po_some h) fun σ H Q ⟨ρ, S, M, Qd, Ed, R, sl, q, k, x⟩ =>
  ⟨ρ, S, M, _, Ed, R, sl, q, fun d M1 ⟨i, e, q1⟩ ρ1 H1 v g1 R1 s1 => by
    subst e
    cases s1
    exact ⟨i, rfl, k _ _ q1 ρ1 H1 g1 R1⟩, x⟩
def cutL {α : Type} (xs : List α) (lo hi : Option Int) : List α := (xs.drop (HT.sIx xs.length 0 lo)).take (HT.sIx xs.length xs.length hi - HT.sIx xs.length 0 lo)
theorem Shs.cut {K : PySem.W.Frag} {ρ : Rho} {H : Hp} {ds : List D} {vs : List V} (h : Shs K ρ H ds vs) (lo hi : Option Int) : Shs K ρ H (cutL ds lo hi) (cutV vs lo hi) := by
  unfold cutL cutV
  rw [h.length]
  exact (h.drop _).take _
def slD : D → Option Int → Option Int → Mem → KD → Prop
  | .tup ds, lo, hi, M, Q => Q (.tup (cutL ds lo hi)) M
  | .obj i, lo, hi, M, Q => ∃ ds, M[i]? = some (.lst ds) ∧ Q (.obj M.length) (M ++ [.lst (cutL ds lo hi)])
  | .str z, lo, hi, M, Q => z.length ≤ sizeLine ∧ Q (.str (cutS z lo hi)) M
  | .scr ns, lo, hi, M, Q => Q (.obj M.length) (M ++ [.lst (cutL (ns.map D.int) lo hi)])
  | _, _, _, _, _ => False
theorem shs_ints {K : PySem.W.Frag} {ρ : Rho} {H : Hp} : ∀ ns : List Int, Shs K ρ H (ns.map D.int) (ns.map V.int)
  | [] => .nil
  | n :: ns => .cons (.int n) (shs_ints ns)
def rSlH (K : PySem.W.Frag) : V → Option Int → Option Int → Hp → VK → Prop := fun x lo hi H Q => rSlA K x lo hi H Q ∨ rSlL K x lo hi H Q ∨ rSlS x lo hi H Q
theorem sl_H : SlR X (rSlH X.K) := sl_tupA.or (sl_list.or sl_str)
theorem cut_whole {α : Type} {xs : List α} {lo hi : Option Int} (h : HT.sIx xs.length 0 lo = 0 ∧ HT.sIx xs.length xs.length hi = xs.length) : cutL xs lo hi = xs := by
  unfold cutL
  rw [h.1, h.2]
  simp
theorem sl_read {x : D} {v : V} {lo hi : Option Int} {ρ : Rho} {M : Mem} {H : Hp} {Q : VK} {Qd : KD} (R : Rl X.K Ts ρ M H) (sx : Sh X.K ρ H x v) (h : slD x lo hi M Qd) (k : KOk X.K Ts ρ H Qd Q) : rSlH X.K v lo hi H Q := by
  cases sx with
  | str z => exact .inr (.inr ⟨z, rfl, h.1, k.same R h.2 (.str _)⟩)
  | @tup a xs ds ha hs =>
    have q : Qd (.tup (cutL ds lo hi)) M := h
    refine .inl ⟨a, xs, rfl, ha, fun e => ?_, fun _ p hp => newTup R (hs.cut lo hi) k q hp⟩
    rw [← hs.length] at e
    rw [cut_whole e] at q
    exact k.same R q (.tup ha hs)
  | @obj i a ea =>
    obtain ⟨ds, e1, q⟩ := h
    obtain ⟨a', vs, r1, g1, s1⟩ := R.lst e1
    rw [ea] at r1; cases r1
    exact .inr (.inl ⟨a, vs, rfl, SqL.of g1, fun p hp => newLst R (s1.cut lo hi) k q hp⟩)
  | @scr a ns e => exact .inr (.inl ⟨a, _, rfl, e.sq, fun p hp => newLst R ((shs_ints ns).cut lo hi) k h hp⟩)
  | _ => exact h.elim
@[simp] def dSl (ta : TEd) (tl th : TOd) : TEd := fun S M Q E => ta S M (fun x M1 => tl S M1 (fun lo M2 => th S M2 (fun hi M3 => slD x lo hi M3 Q) E) E) E
theorem qe_slice {lo hi : Option Expr} {tl th : TOd} {p2 : Pos} (ha : QE X Ts E a ta) (hl : QO X Ts E lo tl) (hu : QO X Ts E hi th) : QE X Ts E (.Subscript a (.Slice lo hi none p2) pos) (dSl ta tl th) := peLe (pe_slice sl_H ha hl hu) fun σ H Q ⟨ρ, S, M, Qd, Ed, R, sl, q, k, x⟩ =>
  ⟨ρ, S, M, _, Ed, R, sl, q, fun d M1 q1 ρ1 H1 v g1 R1 s1 => ⟨ρ1, S, M1, _, Ed, R1, sl.grw g1, q1, fun lo M2 q2 ρ2 H2 g2 R2 => ⟨ρ2, S, M2, _, Ed, R2, (sl.grw g1).grw g2, q2, fun hi M3 q3 ρ3 H3 g3 R3 =>
    sl_read R3 (Sh.grw g3 _ _ (Sh.grw g2 _ _ s1)) q3 (k.grw ((g1.tr g2).tr g3)), (x.grw g1).grw g2⟩, x.grw g1⟩, x⟩
@[simp] def dNil : TAd := fun _ M Q _ => Q [] M
@[simp] def dCons (t : TEd) (r : TAd) : TAd := fun S M Q E => t S M (fun d M1 => r S M1 (fun ds M2 => Q (d :: ds) M2) E) E
theorem qa_nil : QA X Ts E [] dNil := paLe pa_nil fun σ H Q ⟨ρ, S, M, Qd, Ed, R, sl, q, k, x⟩ => k _ _ q ρ H [] (Grw.refl _ _) R .nil
theorem qa_cons {es : List Expr} {tr : TAd} (ha : QE X Ts E a ta) (hr : QA X Ts E es tr) (hs : starEach (a :: es) X.env = (false, eval a X.env) :: starEach es X.env := by rfl) : QA X Ts E (a :: es) (dCons ta tr) := paLe (pa_cons ha hr hs) fun σ H Q ⟨ρ, S, M, Qd, Ed, R, sl, q, k, x⟩ =>
  ⟨ρ, S, M, _, Ed, R, sl, q, fun d M1 q1 ρ1 H1 v g1 R1 s1 => ⟨ρ1, S, M1, _, Ed, R1, sl.grw g1, q1, fun ds M2 q2 ρ2 H2 vs g2 R2 s2 => k _ _ q2 ρ2 H2 _ (g1.tr g2) R2 (.cons (Sh.grw g2 _ _ s1) s2), x.grw g1⟩, x⟩
@[simp] def dTup (t : TAd) : TEd := fun S M Q E => t S M (fun ds M1 => ds.length ≤ sizeLine ∧ Q (.tup ds) M1) E
@[simp] def dLst (t : TAd) : TEd := fun S M Q E => t S M (fun ds M1 => ds.length ≤ sizeLine ∧ Q (.obj M1.length) (M1 ++ [.lst ds])) E
theorem qe_tup {es : List Expr} {t : TAd} {x1} (h : QA X Ts E es t) : QE X Ts E (.Tuple es x1 pos) (dTup t) := peLe (pe_tup h) fun σ H Q ⟨ρ, S, M, Qd, Ed, R, sl, q, k, x⟩ =>
  ⟨ρ, S, M, _, Ed, R, sl, q, fun ds M1 ⟨hz, q1⟩ ρ1 H1 vs g1 R1 s1 => ⟨by rw [← s1.length]; exact hz, fun p hp => newTup R1 s1 (k.grw g1) q1 hp⟩, x⟩
theorem qe_lst {es : List Expr} {t : TAd} (h : QA X Ts E es t) : QE X Ts E (.List es pos) (dLst t) := peLe (pe_lst h) fun σ H Q ⟨ρ, S, M, Qd, Ed, R, sl, q, k, x⟩ =>
  ⟨ρ, S, M, _, Ed, R, sl, q, fun ds M1 ⟨hz, q1⟩ ρ1 H1 vs g1 R1 s1 => ⟨by rw [← s1.length]; exact hz, fun p hp => newLst R1 s1 (k.grw g1) q1 hp⟩, x⟩
/-- what a thing is worth as a test -/
def truD : D → Mem → Option Bool
  | .non, _ => some false
  | .bl b, _ => some b
  | .int i, _ => some (decide (i ≠ 0))
  | .tup ds, _ => some (!ds.isEmpty)
  | .obj i, M => match M[i]? with
    | some (.lst ds) => some (!ds.isEmpty)
    | _ => none
  | _, _ => none
/-- a test that gives a bool -/
@[simp] def dTest (t : TEd) : TTd := fun S M Q E => t S M (fun d M' => ∃ b, d = .bl b ∧ Q b M') E
theorem testRead {t : TEd} {σ : L2.St} {H : Hp} {Q : Bool → Hp → Prop} (h : rdT X.K Ts E (dTest t) σ H Q) : rdE X.K Ts E t σ H (fun x H' => ∃ k, x = .bl k ∧ Q k H') := by
  obtain ⟨ρ, S, M, Qd, Ed, R, sl, q, k, x⟩ := h
  exact ⟨ρ, S, M, _, Ed, R, sl, q, fun d M1 ⟨b, e, q1⟩ ρ1 H1 v g1 R1 s1 => by
    subst e
    cases s1
    exact ⟨b, rfl, k _ _ q1 ρ1 H1 g1 R1⟩, x⟩
theorem qt_val {t : TEd} (h : QE X Ts E a t) (he : ∀ whole, isTrue a X.env whole = (do let v ← whole; standAt a.pos; holding [v] (truthy v)) := by intro _; rfl) : QT X Ts E a (dTest t) := ptLe (pt_val h he) fun σ H Q h => testRead h
theorem qt_cmp {op : CmpOp} {r : R2} {rd : D → D → Mem → KD → Prop} (ho : OpR X (compareOp op) r) (hd : OpD X Ts r rd) (ha : QE X Ts E a ta) (hb : QE X Ts E b tb) (hm : behindInMarks op b = false) : QT X Ts E (.Compare a [op] [b] pos) (dTest (dOp rd ta tb)) := ptLe (pt_cmpR ho ha hb hm) fun σ H Q h => opRead hd (testRead h)
@[simp] def dNotT (t : TTd) : TTd := fun S M Q E => t S M (fun b M' => Q (!b) M') E
theorem qt_not {t : TTd} (ha : QT X Ts E a t) : QT X Ts E (.UnaryOp .Not a pos) (dNotT t) := ptLe (pt_not ha) fun σ H Q ⟨ρ, S, M, Qd, Ed, R, sl, q, k, x⟩ => ⟨ρ, S, M, _, Ed, R, sl, q, fun b M1 q1 ρ1 H1 g1 R1 => k _ _ q1 ρ1 H1 g1 R1, x⟩
end
end Dl
set_option Elab.async false
set_option linter.all false
set_option maxRecDepth 100000
set_option maxHeartbeats 4000000
namespace Dl
open PySem PySem.Spec PyProof.Rows L2 GxR Gn
section
variable {X : Cx} {Ts : Tbs} {E : XK} {pos : Pos} {a b c : Expr} {ta tb tc : TEd}
@[simp] def dAnd (ta tb : TEd) : TEd := fun S M Q E => ta S M (fun d M1 => ∃ k, d = .bl k ∧ if k = true then tb S M1 Q E else Q (.bl false) M1) E
@[simp] def dOr (ta tb : TEd) : TEd := fun S M Q E => ta S M (fun d M1 => ∃ k, d = .bl k ∧ if k = true then Q (.bl true) M1 else tb S M1 Q E) E
theorem qe_one {op} (h : QE X Ts E a ta) : QE X Ts E (.BoolOp op [a] pos) ta := pe_one h
theorem qe_and {rest : List Expr} (ha : QE X Ts E a ta) (hb : QE X Ts E (.BoolOp .And (b :: rest) pos) tb) : QE X Ts E (.BoolOp .And (a :: b :: rest) pos) (dAnd ta tb) := peLe (pe_and ha hb) fun σ H Q ⟨ρ, S, M, Qd, Ed, R, sl, q, k, x⟩ =>
  ⟨ρ, S, M, _, Ed, R, sl, q, fun d M1 ⟨t, e, q1⟩ ρ1 H1 v g1 R1 s1 => by
    subst e
    cases s1
    refine ⟨t, rfl, ?_⟩
    cases t with
    | true => exact ⟨ρ1, S, M1, Qd, Ed, R1, sl.grw g1, q1, k.grw g1, x.grw g1⟩
    | false => exact k _ _ q1 ρ1 H1 _ g1 R1 (.bl false), x⟩
@[simp] def dNot (ta : TEd) : TEd := fun S M Q E => ta S M (fun d M1 => ∃ k, d = .bl k ∧ Q (.bl (!k)) M1) E
theorem qe_not (ha : QE X Ts E a ta) : QE X Ts E (.UnaryOp .Not a pos) (dNot ta) := peLe (pe_not ha) fun σ H Q ⟨ρ, S, M, Qd, Ed, R, sl, q, k, x⟩ =>
  ⟨ρ, S, M, _, Ed, R, sl, q, fun d M1 ⟨t, e, q1⟩ ρ1 H1 v g1 R1 s1 => by
    subst e
    cases s1
    exact ⟨t, rfl, k _ _ q1 ρ1 H1 _ g1 R1 (.bl _)⟩, x⟩
@[simp] def dIf (tt : TTd) (ta tb : TEd) : TEd := fun S M Q E => tt S M (fun k M1 => if k = true then ta S M1 Q E else tb S M1 Q E) E
theorem qe_if {tt : TTd} (hc : QT X Ts E c tt) (ha : QE X Ts E a ta) (hb : QE X Ts E b tb) : QE X Ts E (.IfExp c a b pos) (dIf tt ta tb) := peLe (pe_ifExp hc ha hb) fun σ H Q ⟨ρ, S, M, Qd, Ed, R, sl, q, k, x⟩ =>
  ⟨ρ, S, M, _, Ed, R, sl, q, fun t M1 q1 ρ1 H1 g1 R1 => by
    cases t with
    | true => exact ⟨ρ1, S, M1, Qd, Ed, R1, sl.grw g1, q1, k.grw g1, x.grw g1⟩
    | false => exact ⟨ρ1, S, M1, Qd, Ed, R1, sl.grw g1, q1, k.grw g1, x.grw g1⟩, x⟩
/-- tests of and, or -/
structure QW (X : Cx) (Ts : Tbs) (E : XK) (e : Expr) (t : TTd) : Prop where
  pw : PW X e (rdT X.K Ts E t)
theorem QW.t {e : Expr} {t : TTd} (h : QW X Ts E e t) : QT X Ts E e t := h.pw.pt
@[simp] def dAndT (ta tb : TTd) : TTd := fun S M Q E => ta S M (fun k M1 => if k = true then tb S M1 Q E else Q false M1) E
@[simp] def dOrT (ta tb : TTd) : TTd := fun S M Q E => ta S M (fun k M1 => if k = true then Q true M1 else tb S M1 Q E) E
/-- truth of any thing -/
theorem truD_ok {K : PySem.W.Frag} {ρ : Rho} {M : Mem} {H : Hp} {d : D} {v : V} {k : Bool} (R : Rl K Ts ρ M H) (s : Sh K ρ H d v) (e : truD d M = some k) : TruV K v H k := by
  cases s with
  | non => cases e; rfl
  | bl b => cases e; rfl
  | int i =>
    cases e
    show decide (i ≠ 0) = (i != 0)
    by_cases h : i = 0 <;> simp [h]
  | str x => cases e
  | @tup a xs ds ha hs =>
    cases e
    exact .inr (.inl ⟨xs, ha, by cases hs <;> rfl⟩)
  | @obj i a ea =>
    have e : (match M[i]? with | some (.lst ds) => some (!ds.isEmpty) | _ => none) = some k := e
    cases em : M[i]? with
    | none => rw [em] at e; cases e
    | some cc =>
      rw [em] at e
      cases cc with
      | lst ds =>
        cases e
        obtain ⟨a', vs, r1, g1, s1⟩ := R.lst em
        rw [ea] at r1; cases r1
        exact .inl ⟨vs, SqL.of g1, by cases s1 <;> rfl⟩
      | dK kvs => cases e
      | dT kvs => cases e
      | ins C fs => cases e
      | dN kvs => cases e
      | lkd kvs => cases e
  | adr a => cases e
  | ty n => cases e
  | scr e2 => cases e
  | lam e2 e3 e4 => cases e
  | exc e2 e3 => cases e
@[simp] def dTru (t : TEd) : TTd := fun S M Q E => t S M (fun d M' => ∃ b, truD d M' = some b ∧ Q b M') E
theorem qt_tru {t : TEd} (h : QE X Ts E a t) (he : ∀ whole, isTrue a X.env whole = (do let v ← whole; standAt a.pos; holding [v] (truthy v)) := by intro _; rfl) : QT X Ts E a (dTru t) := ptLe (pt_truth h he) fun σ H Q ⟨ρ, S, M, Qd, Ed, R, sl, q, k, x⟩ =>
  ⟨ρ, S, M, _, Ed, R, sl, q, fun d M1 ⟨b, e, q1⟩ ρ1 H1 v g1 R1 s1 => ⟨b, truD_ok R1 s1 e, k _ _ q1 ρ1 H1 g1 R1⟩, x⟩
@[simp] def dChain (rd rd' : D → D → Mem → KD → Prop) (ta tb tc : TEd) : TEd := fun S M Q E => ta S M (fun x M1 => tb S M1 (fun y M2 => rd x y M2 fun z M3 => ∃ k, z = .bl k ∧ if k = true then tc S M3 (fun w M4 => rd' y w M4 Q) E else Q (.bl false) M3) E) E
theorem Shp.lookup {K : PySem.W.Frag} {ρ : Rho} {H : Hp} {fs : List (Str × D)} {vs : List (Str × V)} (h : Shp K ρ H fs vs) {f : Str} {d : D} (e : fs.lookup f = some d) : ∃ v, vs.lookup f = some v ∧ Sh K ρ H d v := by
  induction h with
  | nil => cases e
  | @cons k d' ds v vs h1 _ ih =>
    rw [List.lookup_cons] at e ⊢
    split at e
    · cases e
      exact ⟨v, rfl, h1⟩
    · exact ih e
theorem Shp.lookupN {K : PySem.W.Frag} {ρ : Rho} {H : Hp} {fs : List (Str × D)} {vs : List (Str × V)} (h : Shp K ρ H fs vs) {f : Str} (e : fs.lookup f = none) : vs.lookup f = none := by
  induction h with
  | nil => rfl
  | @cons k d' ds v vs h1 _ ih =>
    rw [List.lookup_cons] at e ⊢
    split at e
    · cases e
    · exact ih e
def putD (f : Str) (d : D) : List (Str × D) → List (Str × D)
  | [] => [(f, d)]
  | (g, e) :: fs => if g = f then (g, d) :: fs else (g, e) :: putD f d fs
end
end Dl
set_option Elab.async false
set_option linter.all false
set_option maxRecDepth 100000
set_option maxHeartbeats 4000000
namespace Dl
open PySem PySem.Spec PyProof.Rows L2 GxR Gn
theorem Shp.put {K : PySem.W.Frag} {ρ : Rho} {H : Hp} {fs : List (Str × D)} {vs : List (Str × V)} (h : Shp K ρ H fs vs) {f : Str} {d : D} {v : V} (s : Sh K ρ H d v) : Shp K ρ H (putD f d fs) (putF f v vs) := by
  induction h with
  | nil => exact .cons s .nil
  | @cons k d' ds v' vs h1 h2 ih =>
    unfold putD putF
    split
    · exact .cons s h2
    · exact .cons h1 ih
theorem Shp.length {K : PySem.W.Frag} {ρ : Rho} {H : Hp} {κ : Type} {fs : List (κ × D)} {vs : List (κ × V)} (h : Shp K ρ H fs vs) : fs.length = vs.length := by
  induction h with
  | nil => rfl
  | cons _ _ ih => simp [ih]
section
variable {X : Cx} {Ts : Tbs} {E : XK} {pos : Pos} {a b c : Expr} {ta tb tc : TEd}
@[simp] def dNext : TSd := fun D _ S M => D.nx S M
@[simp] def dSeq (t u : TSd) : TSd := fun D E S M => t { D with nx := u D E } E S M
theorem qss_nil : QSs X Ts E [] dNext := pssLe pss_nil fun D σ H ⟨ρ, S, M, Dd, Ed, R, sl, q, k, kr, kb, kc, x⟩ => k _ _ q ρ H σ (Grw.refl _ _) R sl
variable {st : Stmt} {rest : List Stmt} {t u : TSd}
theorem qss_cons (h1 : QS X Ts E st t) (h2 : QSs X Ts E rest u) : QSs X Ts E (st :: rest) (dSeq t u) := pssLe (pss_cons h1 h2) fun D σ H ⟨ρ, S, M, Dd, Ed, R, sl, q, k, kr, kb, kc, x⟩ =>
  ⟨ρ, S, M, { Dd with nx := u Dd Ed }, Ed, R, sl, q, fun S1 M1 q1 ρ1 H1 σ1 g1 R1 sl1 => ⟨ρ1, S1, M1, Dd, Ed, R1, sl1, q1, k.grw g1, kr.grw g1, kb.grw g1, kc.grw g1, x.grw g1⟩, kr, kb, kc, x⟩
theorem qss_one (h1 : QS X Ts E st t) : QSs X Ts E [st] t := pss_one h1
@[simp] def dBreak : TSd := fun D _ S M => D.bk S M
@[simp] def dCont : TSd := fun D _ S M => D.ct S M
@[simp] def dRet (t : TEd) : TSd := fun D E S M => t S M D.rt E
theorem qs_ret (h : QE X Ts E a ta) : QS X Ts E (.Return (some a) pos) (dRet ta) := psLe (ps_ret h) fun D σ H ⟨ρ, S, M, Dd, Ed, R, sl, q, k, kr, kb, kc, x⟩ => ⟨ρ, S, M, _, Ed, R, sl, q, kr, x⟩
@[simp] def dRetN : TSd := fun D _ _ M => D.rt .non M
@[simp] def dDrop (t : TEd) : TSd := fun D E S M => t S M (fun _ M1 => D.nx S M1) E
theorem qs_expr (h : QE X Ts E a ta) (hs : swapsWith a none pos.line X.env = pure false := by rfl) : QS X Ts E (.Expr a pos) (dDrop ta) := psLe (ps_expr h hs) fun D σ H ⟨ρ, S, M, Dd, Ed, R, sl, q, k, kr, kb, kc, x⟩ =>
  ⟨ρ, S, M, _, Ed, R, sl, q, fun d M1 q1 ρ1 H1 v g1 R1 s1 => k _ _ q1 ρ1 H1 σ g1 R1 (sl.grw g1), x⟩
@[simp] def dIfS (c : TTd) (t u : TSd) : TSd := fun D E S M => c S M (fun b M1 => if b = true then t D E S M1 else u D E S M1) E
theorem qs_if {A B : List Stmt} {tt : TTd} (hc : QT X Ts E c tt) (ha : QSs X Ts E A t) (hb : QSs X Ts E B u) : QS X Ts E (.If c A B pos) (dIfS tt t u) := psLe (ps_if hc ha hb) fun D σ H ⟨ρ, S, M, Dd, Ed, R, sl, q, k, kr, kb, kc, x⟩ =>
  ⟨ρ, S, M, _, Ed, R, sl, q, fun b M1 q1 ρ1 H1 g1 R1 => by
    cases b with
    | true => exact ⟨ρ1, S, M1, Dd, Ed, R1, sl.grw g1, q1, k.grw g1, kr.grw g1, kb.grw g1, kc.grw g1, x.grw g1⟩
    | false => exact ⟨ρ1, S, M1, Dd, Ed, R1, sl.grw g1, q1, k.grw g1, kr.grw g1, kb.grw g1, kc.grw g1, x.grw g1⟩, x⟩
abbrev TGd := D → Sl → Mem → (Sl → Mem → Prop) → Prop
abbrev TGsd := List D → Sl → Mem → (Sl → Mem → Prop) → Prop
def rdG (K : PySem.W.Frag) (Ts : Tbs) (t : TGd) : TG := fun v σ H Q => ∃ ρ S M Qd d, Rl K Ts ρ M H ∧ Sls K ρ H S σ ∧ Sh K ρ H d v ∧ t d S M Qd ∧ SOk K Ts ρ H Qd Q
def rdGs (K : PySem.W.Frag) (Ts : Tbs) (t : TGsd) : TGs := fun vs σ H Q => ∃ ρ S M Qd ds, Rl K Ts ρ M H ∧ Sls K ρ H S σ ∧ Shs K ρ H ds vs ∧ t ds S M Qd ∧ SOk K Ts ρ H Qd Q
abbrev QG (X : Cx) (Ts : Tbs) (e : Expr) (t : TGd) : Prop := PG X e (rdG X.K Ts t)
abbrev QGs (X : Cx) (Ts : Tbs) (es : List Expr) (t : TGsd) : Prop := PGs X es (rdGs X.K Ts t)
theorem pgLe {e : Expr} {t t' : TG} (h : PG X e t) (i : ∀ v σ H Q, t' v σ H Q → t v σ H Q) : PG X e t' := ⟨fun pins s σ H v u Q I r q => h.run pins s σ H v u Q I r (i v σ H Q q)⟩
theorem pgsLe {e : List Expr} {t t' : TGs} (h : PGs X e t) (i : ∀ v σ H Q, t' v σ H Q → t v σ H Q) : PGs X e t' := ⟨fun pins s σ H v u Q I r q => h.run pins s σ H v u Q I r (i v σ H Q q)⟩
@[simp] def dGN (i : Nat) : TGd := fun d S M Q => Q (S.set i (some d)) M
theorem qg_name {i : Nat} {x : Str} (hN : X.N.Nodup) (hi : X.N[i]? = some x) (hx : Loc X.env.scope x) (hf : X.fn x = true ∨ X.env.scope.names.lookup x = some .local := by first | exact .inl rfl | exact .inr rfl | assumption) : QG X Ts (.Name x pos) (dGN i) := pgLe (pg_name hN hi hx hf) fun v σ H Q ⟨ρ, S, M, Qd, d, R, sl, s, q, k⟩ =>
  k _ _ q ρ H _ (Grw.refl _ _) R (sl.set i s)
def dGNil : TGsd := fun ds S M Q => ds = [] ∧ Q S M
def dGCons (t : TGd) (u : TGsd) : TGsd := fun ds S M Q => ∃ d r, ds = d :: r ∧ t d S M fun S' M' => u r S' M' Q
theorem qgs_nil : QGs X Ts [] dGNil := pgsLe pgs_nil fun vs σ H Q ⟨ρ, S, M, Qd, ds, R, sl, s, ⟨e, q⟩, k⟩ => by
  subst e
  cases s
  exact ⟨rfl, k _ _ q ρ H _ (Grw.refl _ _) R sl⟩
theorem qgs_cons {es : List Expr} {t : TGd} {u : TGsd} (h1 : QG X Ts a t) (h2 : QGs X Ts es u) (hs : (assignEach (a :: es) X.env).map (·.2) = assign a X.env :: (assignEach es X.env).map (·.2) := by rfl) : QGs X Ts (a :: es) (dGCons t u) := pgsLe (pgs_cons h1 h2 hs) fun vs σ H Q ⟨ρ, S, M, Qd, ds, R, sl, s, ⟨d, r, e, q⟩, k⟩ => by
  subst e
  cases s with
  | @cons _ _ v vs' s1 s2 =>
    exact ⟨v, vs', rfl, ρ, S, M, _, d, R, sl, s1, q, fun S1 M1 q1 ρ1 H1 σ1 g1 R1 sl1 => ⟨ρ1, S1, M1, Qd, r, R1, sl1, Shs.grw g1 _ _ s2, q1, k.grw g1⟩⟩
@[simp] theorem dGNil_nil {S : Sl} {M : Mem} {Q : Sl → Mem → Prop} : dGNil [] S M Q ↔ Q S M := ⟨fun h => h.2, fun h => ⟨rfl, h⟩⟩
@[simp] theorem dGCons_cons {t : TGd} {u : TGsd} {d : D} {r : List D} {S : Sl} {M : Mem} {Q : Sl → Mem → Prop} : dGCons t u (d :: r) S M Q ↔ t d S M fun S' M' => u r S' M' Q :=
  ⟨fun ⟨_, _, e, h⟩ => by cases e; exact h, fun h => ⟨_, _, rfl, h⟩⟩
def dGTup (n : Nat) (t : TGsd) : TGd := fun d S M Q => ∃ ds, d = .tup ds ∧ ds.length = n ∧ t ds S M Q
@[simp] theorem dGTup_tup {n : Nat} {t : TGsd} {ds : List D} {S : Sl} {M : Mem} {Q : Sl → Mem → Prop} : dGTup n t (.tup ds) S M Q ↔ ds.length = n ∧ t ds S M Q :=
  ⟨fun ⟨_, e, h⟩ => by cases e; exact h, fun h => ⟨_, rfl, h⟩⟩
theorem qg_tup {es : List Expr} {k : Nat} {t : TGsd} {n : Nat} (hc : X.calm = true) (h : QGs X Ts es t) (hl : es.length = n := by rfl) (pg : PG X (.Tuple es k pos) (gTup X.K n (rdGs X.K Ts t))) : QG X Ts (.Tuple es k pos) (dGTup n t) := pgLe pg fun v σ H Q ⟨ρ, S, M, Qd, d, R, sl, s, ⟨ds, e, hn, q⟩, kk⟩ => by
  subst e
  cases s with
  | @tup a xs _ ha hs => exact ⟨a, xs, rfl, ha, by rw [← hs.length]; exact hn, ρ, S, M, Qd, ds, R, sl, hs, q, kk⟩
/-- x = e -/
@[simp] def dAsg (te : TEd) (g : TGd) : TSd := fun D E S M => te S M (fun d M1 => g d S M1 D.nx) E
@[simp] def dSet (i : Nat) (te : TEd) : TSd := fun D E S M => te S M (fun d M1 => D.nx (S.set i (some d)) M1) E
theorem qs_set {i : Nat} {x : Str} {pos' : Pos} (hN : X.N.Nodup) (hi : X.N[i]? = some x) (hx : Loc X.env.scope x) (he : QE X Ts E a ta) (hs : swapsWith a (some (.Name x pos')) pos.line X.env = pure false := by rfl) (hf : X.fn x = true ∨ X.env.scope.names.lookup x = some .local := by first | exact .inl rfl | exact .inr rfl | assumption) :
    QS X Ts E (.Assign [.Name x pos'] a pos) (dSet i ta) := psLe (ps_set hN hi hx he hs hf) fun D σ H ⟨ρ, S, M, Dd, Ed, R, sl, q, k, kr, kb, kc, x⟩ =>
  ⟨ρ, S, M, _, Ed, R, sl, q, fun d M1 q1 ρ1 H1 v g1 R1 s1 => k _ _ q1 ρ1 H1 _ g1 R1 ((sl.grw g1).set i s1), x⟩
def dWhile (c : TTd) (tb : TSd) : TSd := fun D E S M => ∃ W : Nat → Sl → Mem → Prop, (∃ m, W m S M) ∧ ∀ m S M, W m S M →
  c S M (fun b M1 => if b = true then tb { D with nx := fun S' M' => ∃ m', m' < m ∧ W m' S' M', ct := fun S' M' => ∃ m', m' < m ∧ W m' S' M', bk := D.nx } E S M1 else D.nx S M1) E
theorem qs_while {body : List Stmt} {tt : TTd} (hp : PassesOwn (model X.prog X.w) X.A X.env X.xe) (hc : QT X Ts E c tt) (hb : QSs X Ts E body t) : QS X Ts E (.While c body [] pos) (dWhile tt t) := psLe (ps_while hp hc hb) fun D σ H ⟨ρ, S, M, Dd, Ed, R, sl, ⟨W, ⟨m0, w0⟩, step⟩, k, kr, kb, kc, x⟩ => by
  refine ⟨fun m σ' H' => ∃ ρ' S' M', Grw ρ H ρ' H' ∧ Rl X.K Ts ρ' M' H' ∧ Sls X.K ρ' H' S' σ' ∧ W m S' M', ⟨m0, ρ, S, M, Grw.refl _ _, R, sl, w0⟩, ?_⟩
  rintro m σ1 H1 ⟨ρ1, S1, M1, g1, R1, sl1, w1⟩
  refine ⟨ρ1, S1, M1, _, Ed, R1, sl1, step m S1 M1 w1, fun b M2 q2 ρ2 H2 g2 R2 => ?_, x.grw g1⟩
  cases b with
  | false => exact k _ _ q2 ρ2 H2 σ1 (g1.tr g2) R2 (sl1.grw g2)
  | true =>
    refine ⟨fun σ' H' => ∃ m', m' < m ∧ ∃ ρ' S' M', Grw ρ H ρ' H' ∧ Rl X.K Ts ρ' M' H' ∧ Sls X.K ρ' H' S' σ' ∧ W m' S' M', fun σ' H' h => h, ?_⟩
    have kk : SOk X.K Ts ρ2 H2 (fun S' M' => ∃ m', m' < m ∧ W m' S' M') (fun σ' H' => ∃ m', m' < m ∧ ∃ ρ' S' M', Grw ρ H ρ' H' ∧ Rl X.K Ts ρ' M' H' ∧ Sls X.K ρ' H' S' σ' ∧ W m' S' M') :=
      fun S3 M3 ⟨m', hm, w3⟩ ρ3 H3 σ3 g3 R3 sl3 => ⟨m', hm, ρ3, S3, M3, (g1.tr g2).tr g3, R3, sl3, w3⟩
    exact ⟨ρ2, S1, M2, _, Ed, R2, sl1.grw g2, q2, kk, kr.grw (g1.tr g2), k.grw (g1.tr g2), kk, x.grw (g1.tr g2)⟩
/-- what is walked shows the things ds, as long as the memory is as alive says -/
def Feeds (K : PySem.W.Frag) (Ts : Tbs) (ρ : Rho) (H : Hp) (J : It) (ds : List D) (alive : Mem → Prop) : Prop :=
  ∀ ρ1 M1 H1, Grw ρ H ρ1 H1 → Rl K Ts ρ1 M1 H1 → alive M1 → ∀ i, (ds[i]? = none → J.stop i H1) ∧ ∀ d, ds[i]? = some d → J.go i H1 ∧ ∀ x H2, J.yld i H1 x H2 → ∃ ρ2, Grw ρ1 H1 ρ2 H2 ∧ Rl K Ts ρ2 M1 H2 ∧ Sh K ρ2 H2 d x
theorem Feeds.grw {K : PySem.W.Frag} {ρ ρ' : Rho} {H H' : Hp} {J : It} {ds : List D} {alive : Mem → Prop} (g : Grw ρ H ρ' H') (h : Feeds K Ts ρ H J ds alive) : Feeds K Ts ρ' H' J ds alive := fun ρ1 M1 H1 g1 => h ρ1 M1 H1 (g.tr g1)
abbrev TId := Sl → Mem → (List D → (Mem → Prop) → Mem → Prop) → KE' → Prop
def rdI (K : PySem.W.Frag) (Ts : Tbs) (E : XK) (t : TId) : TI := fun σ H Rr => ∃ ρ S M Qd Ed, Rl K Ts ρ M H ∧ Sls K ρ H S σ ∧ t S M Qd Ed ∧ (∀ ds alive M', Qd ds alive M' → ∀ ρ' H' J, Grw ρ H ρ' H' → Rl K Ts ρ' M' H' → Feeds K Ts ρ' H' J ds alive → Rr J H') ∧ XOk K Ts ρ H Ed E
abbrev QI (X : Cx) (Ts : Tbs) (E : XK) (tg iter : Expr) (t : TId) : Prop := PI X tg iter (rdI X.K Ts E t)
theorem piLe {tg iter : Expr} {t t' : TI} (h : PI X tg iter t) (i : ∀ σ H R, t' σ H R → t σ H R) : PI X tg iter t' := ⟨fun pins s σ H R I q => h.run pins s σ H R I (i σ H R q)⟩
def forD (g : TGd) (tb : TSd) (alive : Mem → Prop) (D : EndsD) (E : KE') : List Dl.D → Sl → Mem → Prop
  | [], S, M => alive M ∧ D.nx S M
  | d :: ds, S, M => alive M ∧ g d S M fun S1 M1 => tb { D with nx := forD g tb alive D E ds, ct := forD g tb alive D E ds, bk := D.nx } E S1 M1
@[simp] def dFor (ti : TId) (g : TGd) (tb : TSd) : TSd := fun D E S M => ti S M (fun ds alive M1 => forD g tb alive D E ds S M1) E
theorem forD_alive {g : TGd} {tb : TSd} {alive : Mem → Prop} {D : EndsD} {E : KE'} : ∀ {ds : List Dl.D} {S : Sl} {M : Mem}, forD g tb alive D E ds S M → alive M
  | [], _, _, h => h.1
  | _ :: _, _, _, h => h.1
theorem drop_none {α : Type} {ds : List α} {i : Nat} (h : ds[i]? = none) : ds.drop i = [] := List.drop_of_length_le (List.getElem?_eq_none_iff.mp h)
theorem drop_some {α : Type} {ds : List α} {i : Nat} {d : α} (h : ds[i]? = some d) : ds.drop i = d :: ds.drop (i + 1) := by
  obtain ⟨hl, e⟩ := List.getElem?_eq_some_iff.mp h
  rw [List.drop_eq_getElem_cons hl, e]
theorem qs_for {tg iter : Expr} {body : List Stmt} {ti : TId} {g : TGd} (hp : PassesOwn (model X.prog X.w) X.A X.env X.xe) (hc : X.calm = true) (hi : QI X Ts E tg iter ti) (hg : QG X Ts tg g) (hb : QSs X Ts E body t)
    (hs : ∀ x, foldedSetIterable iter X.env x = pure x := by intro _; rfl) : QS X Ts E (.For tg iter body [] pos) (dFor ti g t) := psLe (ps_for hp hc hi hg hb hs) fun D σ H ⟨ρ, S, M, Dd, Ed, R, sl, q, k, kr, kb, kc, x⟩ => by
  refine ⟨ρ, S, M, _, Ed, R, sl, q, fun ds alive M1 q1 ρ1 H1 J g1 R1 fd => ?_, x⟩
  refine ⟨fun i m σ' H' => ∃ ρ' S' M', Grw ρ1 H1 ρ' H' ∧ Rl X.K Ts ρ' M' H' ∧ Sls X.K ρ' H' S' σ' ∧ m = ds.length - i ∧ forD g t alive Dd Ed (ds.drop i) S' M', ⟨ds.length, ρ1, S, M1, Grw.refl _ _, R1, sl.grw g1, rfl, q1⟩, ?_⟩
  rintro i m σ2 H2 ⟨ρ2, S2, M2, g2, R2, sl2, hm, f2⟩
  obtain ⟨fn, fs⟩ := fd ρ2 M2 H2 g2 R2 (forD_alive f2) i
  cases hd : ds[i]? with
  | none =>
    rw [drop_none hd] at f2
    exact .inl ⟨fn hd, k _ _ f2.2 ρ2 H2 σ2 (g1.tr g2) R2 sl2⟩
  | some d =>
    obtain ⟨go, yl⟩ := fs d hd
    rw [drop_some hd] at f2
    have hl : i < ds.length := (List.getElem?_eq_some_iff.mp hd).1
    refine .inr ⟨go, fun σ' H' => ∃ ρ' S' M', Grw ρ1 H1 ρ' H' ∧ Rl X.K Ts ρ' M' H' ∧ Sls X.K ρ' H' S' σ' ∧ forD g t alive Dd Ed (ds.drop (i + 1)) S' M', fun σ' H' ⟨ρ', S', M', h1, h2, h3, h4⟩ => ⟨ds.length - (i + 1), by omega, ρ', S', M', h1, h2, h3, rfl, h4⟩, fun y H3 hy => ?_⟩
    obtain ⟨ρ3, g3, R3, s3⟩ := yl y H3 hy
    refine ⟨ρ3, S2, M2, _, d, R3, sl2.grw g3, s3, f2.2, fun S4 M4 q4 ρ4 H4 σ4 g4 R4 sl4 => ?_⟩
    have kk : SOk X.K Ts ρ4 H4 (forD g t alive Dd Ed (ds.drop (i + 1))) (fun σ' H' => ∃ ρ' S' M', Grw ρ1 H1 ρ' H' ∧ Rl X.K Ts ρ' M' H' ∧ Sls X.K ρ' H' S' σ' ∧ forD g t alive Dd Ed (ds.drop (i + 1)) S' M') :=
      fun S5 M5 q5 ρ5 H5 σ5 g5 R5 sl5 => ⟨ρ5, S5, M5, ((g2.tr g3).tr g4).tr g5, R5, sl5, q5⟩
    exact ⟨ρ4, S4, M4, _, Ed, R4, sl4, q4, kk, kr.grw (((g1.tr g2).tr g3).tr g4), k.grw (((g1.tr g2).tr g3).tr g4), kk, x.grw (((g1.tr g2).tr g3).tr g4)⟩
end
end Dl
set_option Elab.async false
set_option linter.all false
set_option maxRecDepth 100000
set_option maxHeartbeats 4000000
namespace Dl
open PySem PySem.Spec PyProof.Rows L2 GxR Gn
/-- a list, a tuple, a text -/
def iAny (K : PySem.W.Frag) (tl : TE) : TI := fun σ H R => tl σ H fun x H1 => (∃ a, x = .ref a ∧ (∃ xs, SqL K H1 a xs) ∧ R (Itl K a) H1) ∨ (∃ a, x = .ref a ∧ (∃ xs, SqT K H1 a xs) ∧ R (Itt K a) H1) ∨ ∃ z, x = .str z ∧ R (Its z) H1
theorem pi_any {X : Cx} {tg l : Expr} {tl : TE} (hl : PE X l tl) : PI X tg l (iAny X.K tl) := by
  refine ⟨fun pins s σ H R I h => ?_⟩
  refine thn (hl.run pins s σ H _ I h) fun v s1 ⟨x, H1, I1, r1, q1⟩ => ?_
  rcases q1 with ⟨a, e, ⟨xs, hq⟩, q⟩ | ⟨a, e, ⟨xs, hq⟩, q⟩ | ⟨z, e, q⟩
  · subst e
    cases r1
    obtain ⟨its, rv, p, hz⟩ := I1.list hq
    refine wpAny_pyIter_list p.isList ?_
    refine ⟨s1.heap.objs.size, [s1.heap.objs.size], _, _, H1, rfl, I1.kept (t' := s1.toks) fun b o e => Heap.get?_push_of_some _ e, turn_list a _, ⟨_, Heap.get?_push_size _ rfl, rfl, rfl⟩, fun b hb => ?_, q⟩
    have e : b = s1.heap.objs.size := by simpa using hb
    subst e
    exact I1.fpOk (Nat.le_refl _) (I1.hok.fresh (Nat.le_refl _))
  · subst e
    cases r1
    obtain ⟨its, rv, p, hz⟩ := I1.tuple hq
    refine wpAny_pyIter_tuple (show s1.heap.IsTuple a its.toArray from p) ?_
    refine ⟨s1.heap.objs.size, [s1.heap.objs.size], _, _, H1, rfl, I1.kept (t' := s1.toks) fun b o e => Heap.get?_push_of_some _ e, turn_tuple a _, ⟨_, Heap.get?_push_size _ rfl, rfl, rfl⟩, fun b hb => ?_, q⟩
    have e : b = s1.heap.objs.size := by simpa using hb
    subst e
    exact I1.fpOk (Nat.le_refl _) (I1.hok.fresh (Nat.le_refl _))
  · subst e
    obtain ⟨t, rfl⟩ := r1
    cases ha : z.cps.all (· < 128)
    · exact wpAny_pyIter_wide ha (pi_one (tk := s1.toks) I1 _ (turn_str _ z t "str_iterator" (.inr rfl)) ⟨_, Heap.get?_push_size _ rfl, rfl, rfl⟩ q)
    · exact wpAny_pyIter_ascii ha (pi_one (tk := s1.toks) I1 _ (turn_str _ z t "str_ascii_iterator" (.inl rfl)) ⟨_, Heap.get?_push_size _ rfl, rfl, rfl⟩ q)
/-- a text's signs -/
def sgD (z : Str) : List D := z.cps.toList.map fun c => .str ⟨#[c]⟩
section
variable {K : PySem.W.Frag} {Ts : Tbs} {ρ : Rho} {M : Mem} {H : Hp}
theorem feeds_lst {i : Nat} {a : Addr} {ds : List D} (ea : ρ i = some a) : Feeds K Ts ρ H (Itl K a) ds (fun M => M[i]? = some (.lst ds)) := fun ρ1 M1 H1 g1 R1 al n => by
  obtain ⟨a', vs, r1, h1, s1⟩ := R1.lst al
  rw [g1.r i a ea] at r1
  cases r1
  refine ⟨fun e => ⟨vs, SqL.of h1, by rw [← s1.length]; exact List.getElem?_eq_none_iff.mp e⟩, fun d e => ?_⟩
  obtain ⟨v, e1, s2⟩ := s1.getD e
  refine ⟨⟨vs, v, SqL.of h1, e1⟩, fun x H2 ⟨hH, hx⟩ => ?_⟩
  subst hH
  have := hx vs (SqL.of h1)
  rw [e1] at this
  cases this
  exact ⟨ρ1, Grw.refl _ _, R1, s2⟩
theorem feeds_tup {a : Addr} {ds : List D} {vs : List V} (ha : SqT K H a vs) (hs : Shs K ρ H ds vs) : Feeds K Ts ρ H (Itt K a) ds (fun _ => True) := fun ρ1 M1 H1 g1 R1 _ n => by
  have ha := SqT.grw g1 ha
  have hs := Shs.grw g1 _ _ hs
  refine ⟨fun e => ⟨vs, ha, by rw [← hs.length]; exact List.getElem?_eq_none_iff.mp e⟩, fun d e => ?_⟩
  obtain ⟨v, e1, s2⟩ := hs.getD e
  refine ⟨⟨vs, v, ha, e1⟩, fun x H2 ⟨hH, hx⟩ => ?_⟩
  subst hH
  have := hx vs ha
  rw [e1] at this
  cases this
  exact ⟨ρ1, Grw.refl _ _, R1, s2⟩
theorem feeds_str (z : Str) : Feeds K Ts ρ H (Its z) (sgD z) (fun _ => True) := fun ρ1 M1 H1 g1 R1 _ n => by
  unfold sgD
  refine ⟨fun e => ?_, fun d e => ?_⟩
  · rw [List.getElem?_map, Option.map_eq_none_iff] at e
    have := List.getElem?_eq_none_iff.mp e
    show z.cps.size ≤ n
    simpa using this
  · rw [List.getElem?_map, Option.map_eq_some_iff] at e
    obtain ⟨c, e1, rfl⟩ := e
    have e2 : z.cps[n]? = some c := by simpa using e1
    refine ⟨(Array.getElem?_eq_some_iff.mp e2).1, fun x H2 ⟨hH, c', h1, h2⟩ => ?_⟩
    subst hH h2
    rw [e2] at h1
    cases h1
    exact ⟨ρ1, Grw.refl _ _, R1, .str _⟩
def rngD (lo : Int) (n : Nat) : List D := (List.range n).map fun i => .int (lo + (i : Nat))
theorem feeds_range (lo : Int) (n : Nat) : Feeds K Ts ρ H (Itr lo n) (rngD lo n) (fun _ => True) := fun ρ1 M1 H1 g1 R1 _ i => by
  unfold rngD
  refine ⟨fun e => ?_, fun d e => ?_⟩
  · rw [List.getElem?_map, Option.map_eq_none_iff] at e
    have := List.getElem?_eq_none_iff.mp e
    show n ≤ i
    simpa using this
  · rw [List.getElem?_map, Option.map_eq_some_iff] at e
    obtain ⟨c, e1, rfl⟩ := e
    obtain ⟨hl, e2⟩ := List.getElem?_eq_some_iff.mp e1
    rw [List.getElem_range] at e2
    subst e2
    rw [List.length_range] at hl
    refine ⟨hl, fun x H2 ⟨hH, hx⟩ => ?_⟩
    subst hH hx
    exact ⟨ρ1, Grw.refl _ _, R1, .int _⟩
/-- pairs with their places -/
def enumD (ds : List D) : List D := ds.zipIdx.map fun p => .tup [.int (p.2 : Nat), p.1]
theorem enumD_at {ds : List D} {i : Nat} {d : D} (h : (enumD ds)[i]? = some d) : ∃ e, ds[i]? = some e ∧ d = .tup [.int (i : Nat), e] := by
  unfold enumD at h
  rw [List.getElem?_map, Option.map_eq_some_iff] at h
  obtain ⟨⟨e, k⟩, h1, rfl⟩ := h
  rw [List.getElem?_zipIdx, Option.map_eq_some_iff] at h1
  obtain ⟨e', h2, h3⟩ := h1
  cases h3
  exact ⟨e, h2, by simp⟩
theorem enumD_none {ds : List D} {i : Nat} (h : (enumD ds)[i]? = none) : ds.length ≤ i := by
  have := List.getElem?_eq_none_iff.mp h
  simpa [enumD] using this
theorem newPair {ρ1 : Rho} {M1 : Mem} {H1 : Hp} (R1 : Rl K Ts ρ1 M1 H1) {T : Addr} (hT : H1 T = none) {d e : D} {x y : V} (s1 : Sh K ρ1 H1 d x) (s2 : Sh K ρ1 H1 e y) :
    ∃ ρ2, Grw ρ1 H1 ρ2 (upd H1 T (.tup [x, y])) ∧ Rl K Ts ρ2 M1 (upd H1 T (.tup [x, y])) ∧ Sh K ρ2 (upd H1 T (.tup [x, y])) (.tup [d, e]) (.ref T) :=
  ⟨ρ1, grw_new hT, R1.new hT, .tup upd_same (.cons (Sh.grw (grw_new hT) _ _ s1) (.cons (Sh.grw (grw_new hT) _ _ s2) .nil))⟩
theorem feeds_enumT {a : Addr} {ds : List D} {vs : List V} (ha : SqT K H a vs) (hs : Shs K ρ H ds vs) : Feeds K Ts ρ H (Zn.ItT K a) (enumD ds) (fun _ => True) := fun ρ1 M1 H1 g1 R1 _ n => by
  have ha := SqT.grw g1 ha
  have hs := Shs.grw g1 _ _ hs
  refine ⟨fun e => ⟨vs, ha, by rw [← hs.length]; exact enumD_none e⟩, fun d e => ?_⟩
  obtain ⟨d', e0, rfl⟩ := enumD_at e
  obtain ⟨v, e1, s2⟩ := hs.getD e0
  refine ⟨⟨vs, v, ha, e1⟩, fun x H2 ⟨T, y, hx, hT, hH, hy⟩ => ?_⟩
  subst hH hx
  have := hy vs ha
  rw [e1] at this
  cases this
  exact newPair R1 hT (.int _) s2
theorem feeds_enumL {i : Nat} {a : Addr} {ds : List D} (ea : ρ i = some a) : Feeds K Ts ρ H (Ite K a) (enumD ds) (fun M => M[i]? = some (.lst ds)) := fun ρ1 M1 H1 g1 R1 al n => by
  obtain ⟨a', vs, r1, h1, s1⟩ := R1.lst al
  rw [g1.r i a ea] at r1
  cases r1
  refine ⟨fun e => ⟨vs, SqL.of h1, by rw [← s1.length]; exact enumD_none e⟩, fun d e => ?_⟩
  obtain ⟨d', e0, rfl⟩ := enumD_at e
  obtain ⟨v, e1, s2⟩ := s1.getD e0
  refine ⟨⟨vs, v, SqL.of h1, e1⟩, fun x H2 ⟨T, y, hx, hT, hH, hy⟩ => ?_⟩
  subst hH hx
  have := hy vs (SqL.of h1)
  rw [e1] at this
  cases this
  exact newPair R1 hT (.int _) s2
/-- pairs of two -/
def zipD (ds es : List D) : List D := List.zipWith (fun d e => .tup [d, e]) ds es
end
section
variable {X : Cx} {Ts : Tbs} {E : XK} {pos p : Pos} {a b c tg : Expr} {ta tb tc : TEd}
/-- the things of a list, a tuple, a text -/
def seqD : D → Mem → (List D → (Mem → Prop) → Mem → Prop) → Prop
  | .tup ds, M, Q => Q ds (fun _ => True) M
  | .obj i, M, Q => ∃ ds, M[i]? = some (.lst ds) ∧ Q ds (fun M => M[i]? = some (.lst ds)) M
  | .str z, M, Q => Q (sgD z) (fun _ => True) M
  | _, _, _ => False
@[simp] def dWalk (t : TEd) : TId := fun S M Q E => t S M (fun d M1 => seqD d M1 Q) E
theorem qi_any (h : QE X Ts E a ta) : QI X Ts E tg a (dWalk ta) := piLe (pi_any h) fun σ H Rr ⟨ρ, S, M, Qd, Ed, R, sl, q, k, x⟩ => ⟨ρ, S, M, _, Ed, R, sl, q, fun d M1 q1 ρ1 H1 v g1 R1 s1 => by
  cases s1 with
  | str z => exact .inr (.inr ⟨z, rfl, k _ _ _ q1 ρ1 H1 _ g1 R1 (feeds_str z)⟩)
  | @tup a xs ds ha hs => exact .inr (.inl ⟨a, rfl, ⟨xs, ha⟩, k _ _ _ q1 ρ1 H1 _ g1 R1 (feeds_tup ha hs)⟩)
  | @obj i a ea =>
    obtain ⟨ds, em, q2⟩ := q1
    obtain ⟨a', vs, r1, h1, s1⟩ := R1.lst em
    rw [ea] at r1
    cases r1
    exact .inl ⟨a, rfl, ⟨vs, SqL.of h1⟩, k _ _ _ q2 ρ1 H1 _ g1 R1 (feeds_lst ea)⟩
  | _ => exact q1.elim, x⟩
@[simp] def dRange1 (t : TAd) : TId := fun S M Q E => t S M (fun ds M1 => ∃ j : Int, ds = [.int j] ∧ -(2 ^ 62) ≤ j ∧ j < 2 ^ 62 ∧ Q (rngD 0 j.toNat) (fun _ => True) M1) E
@[simp] def dRange2 (t : TAd) : TId := fun S M Q E => t S M (fun ds M1 => ∃ i j : Int, ds = [.int i, .int j] ∧ (-(2 ^ 62) ≤ i ∧ i < 2 ^ 62 ∧ -(2 ^ 62) ≤ j ∧ j < 2 ^ 62) ∧ Q (rngD i (j - i).toNat) (fun _ => True) M1) E
theorem qi_range1 {t : TAd} (hg : Gl X "range") (hm : X.mg "range" = none) (h : QA X Ts E [a] t) (hs : starEach [a] X.env = [(false, eval a X.env)] := by rfl) : QI X Ts E tg (.Call (.Name "range" p) [a] [] pos) (dRange1 t) := piLe (pi_range1 hg hm h hs) fun σ H Rr ⟨ρ, S, M, Qd, Ed, R, sl, q, k, x⟩ => ⟨ρ, S, M, _, Ed, R, sl, q, fun ds M1 ⟨j, e, h1, h2, q1⟩ ρ1 H1 vs g1 R1 s1 => by
  subst e
  cases s1 with
  | cons s1 s2 =>
    cases s1; cases s2
    exact ⟨j, rfl, h1, h2, k _ _ _ q1 ρ1 H1 _ g1 R1 (feeds_range 0 _)⟩, x⟩
variable {elts : List Expr} {kk : Nat} {tpos : Pos}
@[simp] def dEnumT (t : TAd) : TId := fun S M Q E => t S M (fun ds M1 => ∃ es, ds = [.tup es] ∧ Q (enumD es) (fun _ => True) M1) E
@[simp] def dEnumL (t : TAd) : TId := fun S M Q E => t S M (fun ds M1 => ∃ i es, ds = [.obj i] ∧ M1[i]? = some (.lst es) ∧ Q (enumD es) (fun M => M[i]? = some (.lst es)) M1) E
theorem qi_enumT {t : TAd} (hg : Gl X "enumerate") (hm : X.mg "enumerate" = none) (h : QA X Ts E [a] t) (hs : starEach [a] X.env = [(false, eval a X.env)] := by rfl) : QI X Ts E (.Tuple elts kk tpos) (.Call (.Name "enumerate" p) [a] [] pos) (dEnumT t) := piLe (Zn.pi_enumT hg hm h hs) fun σ H Rr ⟨ρ, S, M, Qd, Ed, R, sl, q, k, x⟩ => ⟨ρ, S, M, _, Ed, R, sl, q, fun ds M1 ⟨es, e, q1⟩ ρ1 H1 vs g1 R1 s1 => by
  subst e
  cases s1 with
  | cons s1 s2 =>
    cases s2
    cases s1 with
    | tup ha hs => exact ⟨_, _, rfl, SqT.of ha, k _ _ _ q1 ρ1 H1 _ g1 R1 (feeds_enumT ha hs)⟩, x⟩
theorem qi_enumL {t : TAd} (hg : Gl X "enumerate") (hm : X.mg "enumerate" = none) (h : QA X Ts E [a] t) (hs : starEach [a] X.env = [(false, eval a X.env)] := by rfl) : QI X Ts E (.Tuple elts kk tpos) (.Call (.Name "enumerate" p) [a] [] pos) (dEnumL t) := piLe (pi_enum hg hm h hs) fun σ H Rr ⟨ρ, S, M, Qd, Ed, R, sl, q, k, x⟩ => ⟨ρ, S, M, _, Ed, R, sl, q, fun ds M1 ⟨i, es, e, em, q1⟩ ρ1 H1 vs g1 R1 s1 => by
  subst e
  cases s1 with
  | cons s1 s2 =>
    cases s2
    cases s1 with
    | obj ea =>
      obtain ⟨a', vs, r1, h1, s1⟩ := R1.lst em
      rw [ea] at r1
      cases r1
      exact ⟨_, vs, rfl, SqL.of h1, k _ _ _ q1 ρ1 H1 _ g1 R1 (feeds_enumL ea)⟩, x⟩
def zipRd (ds : List D) (M1 : Mem) (Q : List D → (Mem → Prop) → Mem → Prop) : Prop := (∃ xs ys, ds = [.tup xs, .tup ys] ∧ Q (zipD xs ys) (fun _ => True) M1) ∨ ∃ i j xs ys, ds = [.obj i, .obj j] ∧ M1[i]? = some (.lst xs) ∧ M1[j]? = some (.lst ys) ∧ Q (zipD xs ys) (fun M => M[i]? = some (.lst xs) ∧ M[j]? = some (.lst ys)) M1
@[simp] theorem zipRd_tup {xs ys : List D} {M : Mem} {Q : List D → (Mem → Prop) → Mem → Prop} : zipRd [.tup xs, .tup ys] M Q ↔ Q (zipD xs ys) (fun _ => True) M := by
  constructor
  · rintro (⟨_, _, e, h⟩ | ⟨_, _, _, _, e, _⟩)
    · cases e; exact h
    · cases e
  · exact fun h => .inl ⟨_, _, rfl, h⟩
@[simp] theorem zipRd_obj {i j : Nat} {M : Mem} {Q : List D → (Mem → Prop) → Mem → Prop} : zipRd [.obj i, .obj j] M Q ↔ ∃ xs ys, M[i]? = some (.lst xs) ∧ M[j]? = some (.lst ys) ∧ Q (zipD xs ys) (fun M => M[i]? = some (.lst xs) ∧ M[j]? = some (.lst ys)) M := by
  constructor
  · rintro (⟨_, _, e, h⟩ | ⟨_, _, _, _, e, h⟩)
    · cases e
    · cases e; exact ⟨_, _, h⟩
  · rintro ⟨xs, ys, h⟩
    exact .inr ⟨_, _, xs, ys, rfl, h⟩
@[simp] def dZip (t : TAd) : TId := fun S M Q E => t S M (fun ds M1 => zipRd ds M1 Q) E
end
end Dl
set_option Elab.async false
set_option linter.all false
set_option maxRecDepth 100000
set_option maxHeartbeats 4000000
namespace Dl
open PySem PySem.Spec PyProof.Rows L2 GxR Gn
theorem wipe_get (σ : L2.St) (i : Nat) : ∀ vs : List Nat, (wipe σ vs)[i]? = if i ∈ vs then σ[i]?.map (fun _ => none) else σ[i]?
  | [] => by simp [wipe]
  | v :: vs => by
    unfold wipe
    by_cases h : v = i
    · subst h
      by_cases hl : v < (wipe σ vs).length
      · rw [List.getElem?_set_self hl, if_pos (by simp)]
        rw [wipe_length] at hl
        rw [List.getElem?_eq_getElem hl]
        rfl
      · rw [List.getElem?_eq_none (by rw [List.length_set]; omega), if_pos (by simp)]
        rw [wipe_length] at hl
        rw [List.getElem?_eq_none (by omega)]
        rfl
    · rw [List.getElem?_set_ne h, wipe_get σ i vs]
      have : i ≠ v := fun e => h e.symm
      simp [this]
theorem wipe_eq {σ τ : L2.St} {vs : List Nat} (h : ∀ i, i ∉ vs → σ[i]? = τ[i]?) (hl : σ.length = τ.length) : wipe σ vs = wipe τ vs := by
  apply List.ext_getElem?
  intro i
  rw [wipe_get, wipe_get]
  split
  · rename_i hi
    by_cases h1 : i < σ.length
    · rw [List.getElem?_eq_getElem h1, List.getElem?_eq_getElem (hl ▸ h1)]
      rfl
    · rw [List.getElem?_eq_none (Nat.le_of_not_lt h1), List.getElem?_eq_none (hl ▸ Nat.le_of_not_lt h1)]
  · rename_i hi
    exact h i hi
theorem wipe_wipe (σ : L2.St) (vs : List Nat) : wipe (wipe σ vs) vs = wipe σ vs := wipe_eq (fun i hi => by rw [wipe_get, if_neg hi]) (wipe_length _ _)
theorem wipe_set {σ : L2.St} {vs : List Nat} {i : Nat} (hi : i ∈ vs) (x : Option V) : wipe (σ.set i x) vs = wipe σ vs := wipe_eq (fun j hj => by rw [List.getElem?_set_ne (fun e => hj (by rw [← e]; exact hi))]) (by simp)
@[simp] def wipeD (S : Sl) : List Nat → Sl
  | [] => S
  | v :: vs => (wipeD S vs).set v none
theorem Sls.unset {K : PySem.W.Frag} {ρ : Rho} {H : Hp} {S : Sl} {σ : L2.St} (h : Sls K ρ H S σ) (i : Nat) : Sls K ρ H (S.set i none) (σ.set i none) := by
  refine ⟨by rw [List.length_set, List.length_set]; exact h.len, fun j d e => ?_⟩
  by_cases hj : i = j
  · subst hj
    have hl : i < S.length := by
      have := (List.getElem?_eq_some_iff.mp e).1
      rwa [List.length_set] at this
    rw [List.getElem?_set_self hl] at e
    cases e
  · rw [List.getElem?_set_ne hj] at e
    rw [List.getElem?_set_ne hj]
    exact h.at_ j d e
theorem Sls.wipe {K : PySem.W.Frag} {ρ : Rho} {H : Hp} {S : Sl} {σ : L2.St} (h : Sls K ρ H S σ) : ∀ vs : List Nat, Sls K ρ H (wipeD S vs) (L2.wipe σ vs)
  | [] => h
  | v :: vs => (Sls.wipe h vs).unset v
/-- a comprehension's target: it stores to the block's own slots alone -/
def TgS (K : PySem.W.Frag) (vs : List Nat) (g : TG) (gd : TGd) : Prop := ∀ ρ H S σ d v M Qd, Sls K ρ H S σ → Sh K ρ H d v → gd d S M Qd → g v σ H (fun σ2 H2 => H2 = H ∧ L2.wipe σ2 vs = L2.wipe σ vs ∧ ∃ S2, Sls K ρ H S2 σ2 ∧ Qd S2 M)
theorem tg_name {K : PySem.W.Frag} {vs : List Nat} {i : Nat} (hi : i ∈ vs) : TgS K vs (gName i) (dGN i) := fun ρ H S σ d v M Qd sl s q => ⟨rfl, wipe_set hi _, _, sl.set i s, q⟩
/-- a reading of targets may be asked more of -/
def GMono (g : TG) : Prop := ∀ v σ H Q Q', (∀ σ' H', Q σ' H' → Q' σ' H') → g v σ H Q → g v σ H Q'
theorem gm_name {i : Nat} : GMono (gName i) := fun v σ H Q Q' h q => h _ _ q
abbrev E00 : KE' := fun _ _ _ => False
abbrev X00 : XK := fun _ _ _ => False
theorem xok0 {K : PySem.W.Frag} {Ts : Tbs} {ρ : Rho} {H : Hp} {E : XK} : XOk K Ts ρ H E00 E := fun _ _ _ h => h.elim
/-- the turns of a comprehension, its list the thing n -/
def lcD (gd : TGd) (tt : TTd) (te : TEd) (vs : List Nat) (n : Nat) (alive : Mem → Prop) (Q : KD) (S : Sl) : List D → Mem → Prop
  | [], M => alive M ∧ Q (.obj n) M
  | d :: ds, M => alive M ∧ gd d (wipeD S vs) M fun S1 M1 => tt S1 M1 (fun b M2 => if b = true then te S1 M2 (fun y M3 => ∃ acc, M3[n]? = some (.lst acc) ∧ acc.length < sizeLine ∧ lcD gd tt te vs n alive Q S ds (M3.set n (.lst (acc ++ [y])))) E00
      else lcD gd tt te vs n alive Q S ds M2) E00
theorem lcD_alive {gd : TGd} {tt : TTd} {te : TEd} {vs : List Nat} {n : Nat} {alive : Mem → Prop} {Q : KD} {S : Sl} : ∀ {ds : List D} {M : Mem}, lcD gd tt te vs n alive Q S ds M → alive M
  | [], _, h => h.1
  | _ :: _, _, h => h.1
@[simp] def dLc (ti : TId) (gd : TGd) (tt : TTd) (te : TEd) (vs : List Nat) : TEd := fun S M Q E => ti S M (fun ds alive M1 => lcD gd tt te vs M1.length alive Q S ds (M1 ++ [.lst []])) E
@[simp] def dYes : TTd := fun _ M Q _ => Q true M
section
variable {X : Cx} {Ts : Tbs} {E : XK} {pos p : Pos} {tg elt iter : Expr} {ti : TId} {g : TG} {gd : TGd} {tt : TTd} {te : TEd} {vs : List Nat}
theorem lcRead (hgs : TgS X.K vs g gd) (gm : GMono g) {σ : L2.St} {H : Hp} {Q : VK} (h : rdE X.K Ts E (dLc ti gd tt te vs) σ H Q) : tLc (rdI X.K Ts E ti) g (rdT X.K Ts X00 tt) (rdE X.K Ts X00 te) vs σ H Q := by
  obtain ⟨ρ, S, M, Qd, Ed, R, sl, q, k, x⟩ := h
  refine ⟨ρ, S, M, _, Ed, R, sl, q, fun ds alive M1 q1 ρ1 H1 J g1 R1 fd => ?_, x⟩
  intro D hD
  have gx := grw_ext R1 (o := .lst []) hD
  have rn : ext ρ1 M1.length D M1.length = some D := by unfold ext; rw [if_pos rfl]
  refine ⟨fun i m H' => ∃ ρ' M', Grw (ext ρ1 M1.length D) (upd H1 D (.lst [])) ρ' H' ∧ Rl X.K Ts ρ' M' H' ∧ m = ds.length - i ∧ lcD gd tt te vs M1.length alive Qd S (ds.drop i) M',
    ⟨ds.length, _, _, Grw.refl _ _, R1.cellNew (c := .lst []) hD ⟨[], rfl, .nil⟩, rfl, q1⟩, ?_⟩
  rintro i m H2 ⟨ρ2, M2, g2, R2, hm, f2⟩
  obtain ⟨fn, fs⟩ := fd ρ2 M2 H2 (gx.tr g2) R2 (lcD_alive f2) i
  cases hd : ds[i]? with
  | none =>
    rw [drop_none hd] at f2
    exact .inl ⟨fn hd, k _ _ f2.2 ρ2 H2 _ ((g1.tr gx).tr g2) R2 (.obj (g2.r _ _ rn))⟩
  | some d =>
    obtain ⟨go, yl⟩ := fs d hd
    rw [drop_some hd] at f2
    have hl : i < ds.length := (List.getElem?_eq_some_iff.mp hd).1
    refine .inr ⟨go, fun H' => ∃ ρ' M', Grw (ext ρ1 M1.length D) (upd H1 D (.lst [])) ρ' H' ∧ Rl X.K Ts ρ' M' H' ∧ lcD gd tt te vs M1.length alive Qd S (ds.drop (i + 1)) M', fun H' ⟨ρ', M', h1, h2, h3⟩ => ⟨ds.length - (i + 1), by omega, ρ', M', h1, h2, rfl, h3⟩, fun y H3 hy => ?_⟩
    obtain ⟨ρ3, g3, R3, s3⟩ := yl y H3 hy
    have gs : Grw ρ H ρ3 H3 := ((g1.tr gx).tr g2).tr g3
    refine gm _ _ _ _ _ (fun σ4 H4 ⟨e4, hw, S4, sl4, q4⟩ => ?_) (hgs ρ3 H3 (wipeD S vs) (L2.wipe σ vs) d y M2 _ ((sl.grw gs).wipe vs) s3 f2.2)
    subst e4
    refine ⟨hw.trans (wipe_wipe σ vs), ρ3, S4, M2, _, E00, R3, sl4, q4, fun b M5 q5 ρ5 H5 g5 R5 => ?_, xok0⟩
    cases b with
    | false => exact ⟨ρ5, M5, (g2.tr g3).tr g5, R5, q5⟩
    | true =>
      refine ⟨ρ5, S4, M5, _, E00, R5, sl4.grw g5, q5, fun z M6 ⟨acc, em, hz, q6⟩ ρ6 H6 zv g6 R6 s6 => ?_, xok0⟩
      obtain ⟨a', ws, r1, h1, t1⟩ := R6.lst em
      have rD : ρ6 M1.length = some D := (((g2.tr g3).tr g5).tr g6).r _ _ rn
      rw [rD] at r1
      cases r1
      have hc : CSh X.K Ts.w ρ6 H6 (.lst (acc ++ [z])) (.lst (ws ++ [zv])) := ⟨_, rfl, t1.append (.cons s6 .nil)⟩
      exact ⟨ws, h1, by rw [← t1.length]; exact hz, ρ6, _, (((g2.tr g3).tr g5).tr g6).tr (grw_set R6 em rD), R6.cellSet em rD hc, q6⟩
theorem qe_lc {scope : Scope} {own : List (Str × Nat)} {ifs : List Expr} (hc : X.calm = true) (hN : X.N.Nodup) (hi : QI X Ts E tg iter ti) (ok : BlkOk X.N X.env.scope scope own)
    (hg : ∀ (s : Shared) (H : Hp) (C : Addr) (cl : List (Str × Addr)) (fp : List Addr), PG (X.blk s H scope (compEnvC scope cl C X.env) fp) tg g) (hgs : TgS X.K (own.map (·.2)) g gd) (gm : GMono g)
    (ht : ∀ (s : Shared) (H : Hp) (C : Addr) (cl : List (Str × Addr)) (fp : List Addr), PTs (X.blk s H scope (compEnvC scope cl C X.env) fp) ifs (rdT X.K Ts X00 tt))
    (he : ∀ (s : Shared) (H : Hp) (C : Addr) (cl : List (Str × Addr)) (fp : List Addr), QE (X.blk s H scope (compEnvC scope cl C X.env) fp) Ts X00 elt te) (hs : ∀ x, foldedSetIterable iter X.env x = pure x := by intro _; rfl) :
    QE X Ts E (.ListComp elt [⟨tg, iter, ifs, 0⟩] scope pos) (dLc ti gd tt te (own.map (·.2))) := peLe (pe_lc hc hN hi ok hg ht he hs) fun σ H Q h => lcRead hgs gm h
theorem ptsLe {X : Cx} {ifs : List Expr} {t t' : TT} (h : PTs X ifs t) (i : ∀ σ H Q, t' σ H Q → t σ H Q) : PTs X ifs t' := ⟨fun pins s σ H Q I q => h.run pins s σ H Q I (i σ H Q q)⟩
theorem qts_nil : PTs X [] (rdT X.K Ts E dYes) := ptsLe pts_nil fun σ H Q ⟨ρ, S, M, Qd, Ed, R, sl, q, k, x⟩ => k _ _ q ρ H (Grw.refl _ _) R
theorem tabbed_rl {K : PySem.W.Frag} {ρ : Rho} {M : Mem} {H H2 : Hp} {P : Addr} (R : Rl K Ts ρ M H) (hP : P ∈ Ts.g) (t : Tabbed P H H2) : Grw ρ H ρ H2 ∧ Rl K Ts ρ M H2 := by
  obtain ⟨ps, e, _⟩ := R.tab P hP
  have ne : ∀ b o, H b = some o → (∀ qs, o ≠ .tbl qs) → b ≠ P := fun b o h n z => by
    rw [z, e] at h
    exact n ps (Option.some.inj h).symm
  have g : Grw ρ H ρ H2 := ⟨fun _ _ h => h, fun b xs h => by rw [t.2 b (ne b _ h (fun qs z => by cases z))]; exact h, fun b o u h => by rw [t.2 b (ne b _ h (fun qs z => by cases z))]; exact h, fun b fs h => by rw [t.2 b (ne b _ h (fun qs z => by cases z))]; exact h, fun b p q h => by rw [t.2 b (ne b _ h (fun qs => LamX.codeO_ne qs))]; exact h⟩
  have lm : ∀ p ∈ Ts.l, LamX.TabS H2 p.1 p.2 := fun p hp => by
    obtain ⟨qs, h1, h2, h3⟩ := R.lam p hp
    have np : p.1 ≠ P := fun z => Ts.dis p hp (by rw [z]; exact hP)
    refine ⟨qs, by rw [t.2 p.1 np]; exact h1, h2, fun pos cv hc => ?_⟩
    obtain ⟨c, e1, e2⟩ := h3 pos cv hc
    exact ⟨c, e1, by rw [t.2 c (ne c _ e2 (fun qs => LamX.codeO_ne qs))]; exact e2⟩
  refine ⟨g, R.inj, R.dom, fun i c h => ?_, fun P' hP' => ?_, lm⟩
  · obtain ⟨a, o, e1, e2, e3⟩ := R.cell i c h
    have q := e3.is
    exact ⟨a, o, e1, by rw [t.2 a (ne a o e2 (fun qs z => by subst z; exact q))]; exact e2, e3.grw g⟩
  · by_cases z : P' = P
    · rw [z]; exact t.1
    · obtain ⟨qs, h1, h2⟩ := R.tab P' hP'
      exact ⟨qs, by rw [t.2 P' z]; exact h1, h2⟩
def allD (gd : TGd) (te : TEd) (vs : List Nat) (alive : Mem → Prop) (Q : KD) (S : Sl) : List D → Mem → Prop
  | [], M => alive M ∧ Q (.bl true) M
  | d :: ds, M => alive M ∧ gd d (wipeD S vs) M fun S1 M1 => te S1 M1 (fun y M2 => ∃ b, y = .bl b ∧ if b = true then allD gd te vs alive Q S ds M2 else Q (.bl false) M2) E00
theorem allD_alive {gd : TGd} {te : TEd} {vs : List Nat} {alive : Mem → Prop} {Q : KD} {S : Sl} : ∀ {ds : List D} {M : Mem}, allD gd te vs alive Q S ds M → alive M
  | [], _, h => h.1
  | _ :: _, _, h => h.1
@[simp] def dAll (ti : TId) (gd : TGd) (te : TEd) (vs : List Nat) : TEd := fun S M Q E => ti S M (fun ds alive M1 => allD gd te vs alive Q S ds M1) E
theorem allRead {P : Addr} (hP : P ∈ Ts.g) (hgs : TgS X.K vs g gd) (gm : GMono g) {σ : L2.St} {H : Hp} {Q : VK} (h : rdE X.K Ts E (dAll ti gd te vs) σ H Q) : tAllP (rdI X.K Ts E ti) g (rdE X.K Ts X00 te) vs P σ H Q := by
  obtain ⟨ρ, S, M, Qd, Ed, R, sl, q, k, x⟩ := h
  refine ⟨ρ, S, M, _, Ed, R, sl, q, fun ds alive M1 q1 ρ1 H1 J g1 R1 fd => ⟨R1.tab P hP, fun H2 tb => ?_⟩, x⟩
  obtain ⟨gt, R2⟩ := tabbed_rl R1 hP tb
  refine ⟨fun i m H' => ∃ ρ' M', Grw ρ1 H2 ρ' H' ∧ Rl X.K Ts ρ' M' H' ∧ m = ds.length - i ∧ allD gd te vs alive Qd S (ds.drop i) M', ⟨ds.length, _, _, Grw.refl _ _, R2, rfl, q1⟩, ?_⟩
  rintro i m H3 ⟨ρ3, M3, g3, R3, hm, f3⟩
  obtain ⟨fn, fs⟩ := fd ρ3 M3 H3 (gt.tr g3) R3 (allD_alive f3) i
  cases hd : ds[i]? with
  | none =>
    rw [drop_none hd] at f3
    exact .inl ⟨fn hd, k _ _ f3.2 ρ3 H3 _ ((g1.tr gt).tr g3) R3 (.bl true)⟩
  | some d =>
    obtain ⟨go, yl⟩ := fs d hd
    rw [drop_some hd] at f3
    have hl : i < ds.length := (List.getElem?_eq_some_iff.mp hd).1
    refine .inr ⟨go, fun y H4 hy => ?_⟩
    obtain ⟨ρ4, g4, R4, s4⟩ := yl y H4 hy
    have gs : Grw ρ H ρ4 H4 := ((g1.tr gt).tr g3).tr g4
    refine gm _ _ _ _ _ (fun σ5 H5 ⟨e5, hw, S5, sl5, q5⟩ => ?_) (hgs ρ4 H4 (wipeD S vs) (L2.wipe σ vs) d y M3 _ ((sl.grw gs).wipe vs) s4 f3.2)
    subst e5
    refine ⟨hw.trans (wipe_wipe σ vs), ρ4, S5, M3, _, E00, R4, sl5, q5, fun z M6 ⟨b, ez, q6⟩ ρ6 H6 zv g6 R6 s6 => ?_, xok0⟩
    subst ez
    cases s6
    refine ⟨b, rfl, ?_⟩
    cases b with
    | false => exact k _ _ q6 ρ6 H6 _ (gs.tr g6) R6 (.bl false)
    | true => exact ⟨ds.length - (i + 1), by omega, ρ6, M6, (g3.tr g4).tr g6, R6, rfl, q6⟩
theorem qe_all {c P : Addr} {gpos : Pos} {scope : Scope} {own : List (Str × Nat)} {k : Nat}
    (hP : P ∈ Ts.g) (hc : X.calm = true) (hr : Room (k + 1) X.A) (hg : Gl X "all") (hm : X.mg "all" = none) (TB : TabB X.base X.mg c P) (hcode : X.env.code = .ref c) (hN : X.N.Nodup) (ok : BlkOk X.N X.env.scope scope own) (hco : scope.isCoroutine = false)
    (hcell : ∀ y ∈ scope.names, y.2 ≠ .cell) (h0 : scope.names.lookup (".0" : Str) = some NameKind.local) (hi : QI X Ts E tg iter ti)
    (pg : ∀ (A' : Around) (s : Shared) (H : Hp) (C : Addr) (cl : List (Str × Addr)) (cd : Value) (fp : List Addr), PG (gcx X A' s H (genEnv scope cl C cd builtinsNs X.env) scope fp) tg g) (hgs : TgS X.K (own.map (·.2)) g gd) (gm : GMono g)
    (pe : ∀ (A' : Around) (s : Shared) (H : Hp) (C : Addr) (cl : List (Str × Addr)) (cd : Value) (fp : List Addr), Room k A' → A'.guards = X.A.guards → QE (gcx X A' s H (genEnv scope cl C cd builtinsNs X.env) scope fp) Ts X00 elt te)
    (hs : ∀ v, genFold iter X.env v = pure v := by intro _; rfl)
    (he : starEach [.GeneratorExp elt [⟨tg, iter, [], 0⟩] scope gpos] X.env = (false, eval (.GeneratorExp elt [⟨tg, iter, [], 0⟩] scope gpos) X.env) :: starEach [] X.env := by rfl) :
    QE X Ts E (.Call (.Name "all" p) [.GeneratorExp elt [⟨tg, iter, [], 0⟩] scope gpos] [] pos) (dAll ti gd te (own.map (·.2))) := peLe (pe_allP hc hr hg hm TB hcode hN ok hco hcell h0 hi pg pe hs he) fun σ H Q h => allRead hP hgs gm h
end
end Dl
set_option Elab.async false
set_option linter.all false
set_option maxRecDepth 100000
set_option maxHeartbeats 4000000
namespace Dl
open PySem PySem.Spec PyProof.Rows L2 GxR Gn
/-- room, and no guard around -/
structure RoomG (k : Nat) (A : Around) : Prop where
  r : Room k A
  g : A.guards = some []
theorem RoomG.mono {j k : Nat} {A : Around} (h : RoomG k A) (l : j ≤ k) : RoomG j A := ⟨h.r.mono l, h.g⟩
/-- the def at f keeps sp, wherever no guard stands -/
structure FnG (P : Program) (w : World) (K : PySem.W.Frag) (mg : Str → Option Value) (base : Heap) (k : Nat) (f : Addr) (fd : FuncData) (n : Nat) (ps : List Str) (sp : Sp) : Prop where
  cnt : ps.length = n
  len : ∀ vs H Q E, sp vs H Q E → vs.length = n
  run : ∀ (A : Around) (outer : List Env) (s : Shared) (H : Hp) (args : Args) (us : List Value) (vs : List V) (Q : VK) (E : XK), RoomG k A → Env0 P w K mg base A outer s H → BindsTo s fd args (ps.zip us) → Vals vs us → sp vs H Q E →
    codeAny (model P w) A (.call (.ref f) args) (CR (L2.CX P w) outer P w H s Q E) s
theorem FnG.mono {P : Program} {w : World} {K : PySem.W.Frag} {mg : Str → Option Value} {base : Heap} {j k : Nat} {f : Addr} {fd : FuncData} {n : Nat} {ps : List Str} {sp : Sp} (F : FnG P w K mg base j f fd n ps sp) (h : j ≤ k) : FnG P w K mg base k f fd n ps sp :=
  ⟨F.cnt, F.len, fun A outer s H args us vs Q E hr => F.run A outer s H args us vs Q E (hr.mono h)⟩
section
variable {X : Cx} {k : Nat} {f C : Addr} {fd : FuncData} {n : Nat} {ps : List Str} {sp : Sp} {dvs : List V} {ds : List Value} {E : XK} {x m : Str} {p pos apos : Pos} {e o : Expr} {es : List Expr} {ta : TE} {t : TA}
theorem xe_of (tk : Takes X (fun c d _ H => E c d H)) {pins : List (Addr × Obj)} {σ : L2.St} {H : Hp} {s s' : Shared} {u : Value} (I : Inv X pins σ H s) (h : L2.CX X.prog X.w X.stack H s E u s') : X.xe u s' :=
  passes_call (W := fun c d _ H => E c d H) tk (fun _ _ _ _ q => q) pins σ H s u s' I h
theorem goG {pins : List (Addr × Obj)} {σ : L2.St} {H : Hp} {s : Shared} {Q : VK} {us : List Value} {vs : List V} (F : FnG X.prog X.w X.K X.mg X.base k f fd n ps sp) (hr : RoomG k X.A) (hb : Binds X.K fd ps ds) (hd : Vals dvs ds) (tk : Takes X (fun c d _ H => E c d H))
    (I : Inv X pins σ H s) (r : Vals vs us) (h : sp (vs ++ dvs) H Q E) : wpAny (model X.prog X.w) X.A (call (.ref f) us) (EP X pins σ Q) X.xe s := by
  have rr := r.append hd
  have hl : (us ++ ds).length = ps.length := by rw [← rr.length, F.cnt]; exact F.len _ _ _ _ h
  refine wpAny_call (codeAny_mono (F.run X.A X.stack s H ⟨us, []⟩ _ _ Q E hr I.env0 (hb s us I.kIn hl) rr h) fun res s' hres => ?_)
  match res, hres with
  | .error u, hres => exact xe_of tk I hres
  | .ok (.ret u), hres => exact I.after hres
  | .ok .next, hres => exact False.elim hres
  | .ok .brk, hres => exact False.elim hres
  | .ok .cont, hres => exact False.elim hres
theorem callG (F : FnG X.prog X.w X.K X.mg X.base k f fd n ps sp) (hr : RoomG k X.A) (hg : Gl X x) (hm : X.mg x = some (.ref f)) (hk : PySem.W.keepIn X.K (.ref f) = true) (hb : Binds X.K fd ps ds) (hd : Vals dvs ds) (tk : Takes X (fun c d _ H => E c d H))
    (ha : PA X (e :: es) t) (hdb : (x == ("__debug__" : Str)) = false := by decide) (he : starEach (e :: es) X.env = (false, eval e X.env) :: starEach es X.env := by rfl) (hpl : (backTo pos (starEach es X.env)).any (·.1) = false := by rfl) :
    PE X (.Call (.Name x p) (e :: es) [] pos) (tCall sp dvs E t) :=
  ⟨fun pins s σ H Q I h => wpAny_Call_Name_kw (ld_glob I hg hm (PySem.W.callWith_K (h₀ := X.base) I.ok.mod.kin hk (thn (ha.run pos pins s σ H _ I h) fun us s1 ⟨vs, H1, I1, r, q⟩ => ⟨I1.kIn, goG F hr hb hd tk I1 r q⟩) he hpl) hdb)⟩
theorem methG {pl : Sem Bool} (he : PE X o ta) (c : Cls X.K C) (hm : Meth X.K C m f) (F : FnG X.prog X.w X.K X.mg X.base k f fd n ps sp) (hr : RoomG k X.A) (hb : Binds X.K fd ps ds) (hd : Vals dvs ds) (tk : Takes X (fun c d _ H => E c d H)) (ha : PA X (e :: es) t)
    (hst : starEach (e :: es) X.env = (false, eval e X.env) :: starEach es X.env := by rfl) (hpl : (backTo pos (starEach es X.env)).any (·.1) = false := by rfl)
    (ht : eval (.Call (.Attribute o m apos) (e :: es) [] pos) X.env = (do
      let ov ← eval o X.env
      standAt apos.atName
      let (f, first) ← holding [ov] (getMethod ov m pl)
      callWith pos f first (backTo pos (starEach (e :: es) X.env)) (backToKw pos (keywordEach [] X.env))) := by rfl) :
    PE X (.Call (.Attribute o m apos) (e :: es) [] pos) (tMeth C m sp dvs E ta t) :=
  ⟨fun pins s σ H Q I h => PySem.W.methodCall_KW (pl := pl) (thn (he.run pins s σ H _ I h) fun u s1 ⟨y, H1, I1, ry, a, dx, fs, ey, ea, l, q⟩ => by
    subst ey
    have eu : u = Value.ref a := ry
    subst eu
    exact getmeth_ok I1 ea c hm l (PySem.W.callWith_K (first := [.ref a]) (h₀ := X.base) I.ok.mod.kin hm.kp (thn (ha.run pos pins s1 σ H1 _ I1 q) fun us s2 ⟨vs, H2, I2, r, q2⟩ => ⟨I2.kIn, goG (us := .ref a :: us) (vs := .ref a :: vs) F hr hb hd tk I2 (.cons rfl r) q2⟩) hst hpl)) ht⟩
end
abbrev SpD := List D → Mem → KD → KE' → Prop
def spOf (K : PySem.W.Frag) (Ts : Tbs) (n : Nat) (sp : SpD) : Sp := fun vs H Q E => vs.length = n ∧ ∃ ρ M ds Qd Ed, Rl K Ts ρ M H ∧ Shs K ρ H ds vs ∧ sp ds M Qd Ed ∧ KOk K Ts ρ H Qd Q ∧ XOk K Ts ρ H Ed E
abbrev FnD (P : Program) (w : World) (K : PySem.W.Frag) (mg : Str → Option Value) (base : Heap) (Ts : Tbs) (k : Nat) (f : Addr) (fd : FuncData) (n : Nat) (ps : List Str) (sp : SpD) : Prop := FnG P w K mg base k f fd n ps (spOf K Ts n sp)
/-- a def's slots at its entry -/
@[simp] def startD (N : List Str) (ds : List D) : Sl := ds.map some ++ List.replicate (N.length - ds.length) none
theorem start_sls {K : PySem.W.Frag} {ρ : Rho} {H : Hp} {ds : List D} {vs : List V} (N : List Str) (h : Shs K ρ H ds vs) : Sls K ρ H (startD N ds) (L2.start N vs) := by
  unfold startD L2.start
  refine ⟨by simp [h.length], fun j d e => ?_⟩
  by_cases hj : j < ds.length
  · rw [List.getElem?_append_left (by simpa using hj), List.getElem?_map, Option.map_eq_some_iff] at e
    obtain ⟨d', e1, e2⟩ := e
    cases e2
    obtain ⟨v, e3, s⟩ := h.getD e1
    exact ⟨v, by rw [List.getElem?_append_left (by rw [List.length_map, ← h.length]; exact hj), List.getElem?_map, e3]; rfl, s⟩
  · rw [List.getElem?_append_right (by simpa using Nat.le_of_not_lt hj)] at e
    have := List.mem_of_getElem? e
    simp at this
section
variable {P : Program} {w : World} {K : PySem.W.Frag} {mg : Str → Option Value} {base : Heap} {Ts : Tbs}
/-- a def keeps a promise by data: its body read, the reading shown -/
theorem fnD {x qual : Str} {st : Stmt} {f : Addr} {fd : FuncData} {N ps : List Str} {k : Nat} {sp : SpD} {c0 : Value} {t : TSd} (F : Fun K x qual st f fd) (hc : fd.code = c0) (S : FnScope N ps (defScope st))
    (body : ∀ (A : Around) (outer : List Env) (s : Shared) (H : Hp) (E : XK), RoomG k (A.deeper (envOfC qual (defScope st) s.heap.objs.size f c0)) → QSs (cxOf (L2.CX P w) P w K mg base N qual (defScope st) f c0 A outer s H E) Ts E (defBody st) t)
    (h : ∀ ds M Q E, ds.length = ps.length → sp ds M Q E → t { nx := fun _ M' => Q .non M', rt := Q } E (startD N ds) M) : FnD P w K mg base Ts (k + 1) f fd ps.length ps sp := by
  obtain ⟨oc, od, kV, doc, pm, an, cdv, ct, osl, rfl, lk, hcd⟩ := F.ex
  have hc : cdv = c0 := hc
  subst hc
  refine ⟨rfl, fun vs H Q E q => q.1, fun A outer s H args us vs Q E hr e0 hb r hsp => ?_⟩
  obtain ⟨hl, ρ, M, ds, Qd, Ed, R, sv, q, kk, xx⟩ := id hsp
  have ksp : K.In s.heap := e0.mod.kin.keeps fun b o e => (e0.bs b o e).1
  have hpar : ∀ y ∈ ps.zip us, (defScope st).names.lookup y.1 = some .local ∨ ((defScope st).names.lookup y.1 = some .cell ∧ ((cellsFrom (s.heap.objs.size + 1) (defScope st).names []).lookup y.1).isSome = true) := fun y hy =>
    (S.par y.1 (List.of_mem_zip (a := y.1) (b := y.2) hy).1).elim .inl fun q => .inr ⟨q, PySem.W.cellsFrom_some _ _ _ (.inl q)⟩
  refine codeAny_call_function hr.r.depth (ksp _ _ lk) rfl S.co S.gen rfl (PySem.W.codeRec_of ksp hcd) (hb _ _ _ _ (wpAny_newFunctionEnv_cells S.kind hpar fun env he s1 nx => ?_))
  subst he
  refine ⟨(e0.mod.nolimit.keeps fun b o e => (e0.bs b o e).1).keeps nx.toInCall.keep, codeAny_func ?_⟩
  have hr' : RoomG k (A.deeper (envOfC qual (defScope st) s.heap.objs.size f cdv)) := ⟨hr.r.deeper _, hr.g⟩
  have I0 := inv_start (CX := L2.CX P w) (E := E) (qual := qual) (f := f) (cd := cdv) S hr.r.hd e0 (vs := vs) (by rw [hl]) r nx
  have rd : rdS K Ts E t { nx := fun _ H' => Q .non H', rt := Q } (L2.start N vs) H :=
    ⟨ρ, startD N ds, M, { nx := fun _ M' => Qd .non M', rt := Qd }, Ed, R, start_sls N sv, h ds M Qd Ed (sv.length.trans hl) q, fun S' M' q' ρ' H' σ' g R' _ => kk _ _ q' ρ' H' .non g R' .non, kk, fun _ _ z => z.elim, fun _ _ z => z.elim, xx⟩
  refine wpAny_mono ((body A outer s H E hr').run [] s1 (L2.start N vs) H _ I0 rd) (fun fl s' hs => ?_) fun _ _ z => z
  match fl, hs with
  | .ret u, ⟨v, σ', H', J, rv, q⟩ => exact ⟨v, H', J.os, J.bare, J.base, J.hok, rv, q⟩
  | .next, ⟨σ', H', J, q⟩ => exact ⟨.non, H', J.os, J.bare, J.base, J.hok, rfl, q⟩
  | .brk, ⟨_, _, _, q⟩ => exact q.elim
  | .cont, ⟨_, _, _, q⟩ => exact q.elim
theorem takesD {N : List Str} {qual : Str} {scope : Scope} {f : Addr} {cd : Value} {A : Around} {outer : List Env} {s : Shared} {H : Hp} {E : XK} : Takes (cxOf (L2.CX P w) P w K mg base N qual scope f cd A outer s H E) (fun c d _ H => E c d H) := takes_of rfl rfl rfl rfl
theorem passD {N : List Str} {qual : Str} {scope : Scope} {f : Addr} {cd : Value} {A : Around} {outer : List Env} {s : Shared} {H : Hp} {E : XK} : PassesOwn (model P w) (A.deeper (envOfC qual scope s.heap.objs.size f cd)) (envOfC qual scope s.heap.objs.size f cd) (cxOf (L2.CX P w) P w K mg base N qual scope f cd A outer s H E).xe :=
  passes_of (X := cxOf (L2.CX P w) P w K mg base N qual scope f cd A outer s H E) rfl
end
section
variable {X : Cx} {Ts : Tbs} {k : Nat} {f C : Addr} {fd : FuncData} {n : Nat} {ps : List Str} {sp : SpD} {E : XK} {x m : Str} {p pos apos : Pos} {e o : Expr} {es : List Expr} {ta : TEd} {t : TAd}
@[simp] def dCall (n : Nat) (sp : SpD) (t : TAd) : TEd := fun S M Q E => t S M (fun ds M1 => ds.length = n ∧ sp ds M1 Q E) E
theorem callRead {σ : L2.St} {H : Hp} {Q : VK} (h : rdE X.K Ts E (dCall n sp t) σ H Q) : tCall (spOf X.K Ts n sp) [] E (rdA X.K Ts E t) σ H Q := by
  obtain ⟨ρ, S, M, Qd, Ed, R, sl, q, kk, xx⟩ := h
  exact ⟨ρ, S, M, _, Ed, R, sl, q, fun ds M1 ⟨hl, q1⟩ ρ1 H1 vs g1 R1 s1 => by
    show spOf X.K Ts n sp (vs ++ []) H1 Q E
    rw [List.append_nil]
    exact ⟨s1.length.symm.trans hl, ρ1, M1, ds, Qd, Ed, R1, s1, q1, kk.grw g1, xx.grw g1⟩, xx⟩
theorem qe_call (F : FnD X.prog X.w X.K X.mg X.base Ts k f fd n ps sp) (hr : RoomG k X.A) (hg : Gl X x) (hm : X.mg x = some (.ref f)) (hk : PySem.W.keepIn X.K (.ref f) = true) (hb : Binds X.K fd ps []) (tk : Takes X (fun c d _ H => E c d H))
    (ha : QA X Ts E (e :: es) t) (hdb : (x == ("__debug__" : Str)) = false := by decide) (he : starEach (e :: es) X.env = (false, eval e X.env) :: starEach es X.env := by rfl) (hpl : (backTo pos (starEach es X.env)).any (·.1) = false := by rfl) :
    QE X Ts E (.Call (.Name x p) (e :: es) [] pos) (dCall n sp t) := peLe (callG F hr hg hm hk hb .nil tk ha hdb he hpl) fun σ H Q h => callRead h
end
end Dl
set_option Elab.async false
set_option linter.all false
set_option maxRecDepth 100000
set_option maxHeartbeats 4000000
namespace Dl
open PySem PySem.Spec PyProof.Rows L2 GxR Gn
section
variable {X : Cx} {Ts : Tbs} {E : XK} {pos p apos : Pos} {a b c e o : Expr} {es : List Expr} {ta tb : TEd} {t : TAd}
def CallD (X : Cx) (Ts : Tbs) (r : List V → Hp → VK → Prop) (rd : List D → Mem → KD → Prop) : Prop :=
  ∀ ρ M H ds vs Q Qd, Rl X.K Ts ρ M H → Shs X.K ρ H ds vs → rd ds M Qd → KOk X.K Ts ρ H Qd Q → r vs H Q
@[simp] def dCB (rd : List D → Mem → KD → Prop) (t : TAd) : TEd := fun S M Q E => t S M (fun ds M1 => rd ds M1 Q) E
theorem cbRead {r : List V → Hp → VK → Prop} {rd : List D → Mem → KD → Prop} (h : CallD X Ts r rd) {σ : L2.St} {H : Hp} {Q : VK} (q : rdE X.K Ts E (dCB rd t) σ H Q) : tCB r (rdA X.K Ts E t) σ H Q := by
  obtain ⟨ρ, S, M, Qd, Ed, R, sl, q, k, x⟩ := q
  exact ⟨ρ, S, M, _, Ed, R, sl, q, fun ds M1 q1 ρ1 H1 vs g1 R1 s1 => h ρ1 M1 H1 ds vs Q Qd R1 s1 q1 (k.grw g1), x⟩
theorem qe_cb {id : String} {x : Str} {r : List V → Hp → VK → Prop} {rd : List D → Mem → KD → Prop} (hr : CallR X (.builtin id) r) (hd : CallD X Ts r rd) (hg : Gl X x) (hm : X.mg x = none) (hv : bootBuiltins x = some (.builtin id)) (ha : QA X Ts E (e :: es) t) (hn : x ≠ "__name__" := by decide) (hdb : (x == ("__debug__" : Str)) = false := by decide)
    (he : starEach (e :: es) X.env = (false, eval e X.env) :: starEach es X.env := by rfl) (hpl : (backTo pos (starEach es X.env)).any (·.1) = false := by rfl) : QE X Ts E (.Call (.Name x p) (e :: es) [] pos) (dCB rd t) := peLe (pe_callB hr hg hm hv ha hn hdb he hpl) fun σ H Q h => cbRead hd h
theorem qe_cty {T : String} {x : Str} {r : List V → Hp → VK → Prop} {rd : List D → Mem → KD → Prop} (hr : CallR X (.type T) r) (hd : CallD X Ts r rd) (hg : Gl X x) (hm : X.mg x = none) (hv : bootBuiltins x = some (.type T)) (ha : QA X Ts E (e :: es) t) (hn : x ≠ "__name__" := by decide) (hdb : (x == ("__debug__" : Str)) = false := by decide)
    (he : starEach (e :: es) X.env = (false, eval e X.env) :: starEach es X.env := by rfl) (hpl : (backTo pos (starEach es X.env)).any (·.1) = false := by rfl) : QE X Ts E (.Call (.Name x p) (e :: es) [] pos) (dCB rd t) := peLe (pe_callTy hr hg hm hv ha hn hdb he hpl) fun σ H Q h => cbRead hd h
def lenD : List D → Mem → KD → Prop
  | [.tup ds], M, Q => Q (.int (ds.length : Nat)) M
  | [.str z], M, Q => z.length ≤ sizeLine ∧ Q (.int (z.length : Nat)) M
  | [.obj i], M, Q => (∃ ds, M[i]? = some (.lst ds) ∧ Q (.int (ds.length : Nat)) M) ∨ ∃ kvs, M[i]? = some (.dK kvs) ∧ Q (.int (kvs.length : Nat)) M
  | _, _, _ => False
def rLenH (X : Cx) : List V → Hp → VK → Prop := fun xs H Q => (∃ x n, xs = [x] ∧ LenV X.K x H n ∧ Q (.int n) H) ∨ ∃ a kvs, xs = [V.ref a] ∧ H a = some (.dK kvs) ∧ Q (.int kvs.length) H
theorem cr_lenH : CallR X (.builtin "len") (rLenH X) := CallR.or call_len call_lenD
theorem cd_len : CallD X Ts (rLenH X) lenD := fun ρ M H ds vs Q Qd R s h k => by
  cases s with
  | nil => exact h.elim
  | cons s1 s2 =>
    cases s2 with
    | cons _ _ => cases s1 <;> exact h.elim
    | nil =>
      cases s1 with
      | str z => exact .inl ⟨_, _, rfl, ⟨h.1, rfl⟩, k.same R h.2 (.int _)⟩
      | @tup a xs ds ha hs => exact .inl ⟨_, ds.length, rfl, .inr ⟨xs, ha, hs.length⟩, k.same R (show Qd (.int (ds.length : Nat)) M from h) (.int _)⟩
      | @obj i a ea =>
        rcases h with ⟨ds, em, q⟩ | ⟨kvs, em, q⟩
        · obtain ⟨a', ws, r1, h1, t1⟩ := R.lst em
          rw [ea] at r1; cases r1
          exact .inl ⟨_, ds.length, rfl, .inl ⟨ws, SqL.of h1, t1.length⟩, k.same R q (.int _)⟩
        · obtain ⟨a', ws, r1, h1, t1⟩ := R.dict em
          rw [ea] at r1; cases r1
          refine .inr ⟨_, ws, rfl, h1, ?_⟩
          rw [← t1.length]
          exact k.same R q (.int _)
      | _ => exact h.elim
def kindD : D → Mem → Option String
  | .non, _ => some "NoneType"
  | .bl _, _ => some "bool"
  | .int _, _ => some "int"
  | .str _, _ => some "str"
  | .tup _, _ => some "tuple"
  | .obj i, M => match M[i]? with
    | some (.lst _) => some "list"
    | some (.dK _) => some "dict"
    | _ => none
  | _, _ => none
def isiD : List D → Mem → KD → Prop
  | [x, .ty T], M, Q => ∃ k b, kindD x M = some k ∧ kitB k T = some b ∧ Q (.bl b) M
  | _, _, _ => False
theorem kind_ty {K : PySem.W.Frag} {ρ : Rho} {M : Mem} {H : Hp} {d : D} {v : V} {n : String} (R : Rl K Ts ρ M H) (s : Sh K ρ H d v) (e : kindD d M = some n) : TyX K H v (.type n) := by
  cases s with
  | non => cases e; exact .base .non
  | bl b => cases e; exact .base (.bl b)
  | int i => cases e; exact .base (.int i)
  | str x => cases e; exact .base (.str x)
  | tup ha hs =>
    cases e
    exact .base (.tup ha)
  | @obj i a ea =>
    have e : (match M[i]? with | some (.lst _) => some "list" | some (.dK _) => some "dict" | _ => none) = some n := e
    cases em : M[i]? with
    | none => rw [em] at e; cases e
    | some cc =>
      rw [em] at e
      cases cc with
      | lst ds =>
        cases e
        obtain ⟨a', vs, r1, g1, s1⟩ := R.lst em
        rw [ea] at r1; cases r1
        exact .base (.lst g1)
      | dK kvs =>
        cases e
        obtain ⟨a', vs, r1, g1, s1⟩ := R.dict em
        rw [ea] at r1; cases r1
        exact .base (.dK g1)
      | dT kvs => cases e
      | ins C fs => cases e
      | dN kvs => cases e
      | lkd kvs => cases e
  | adr a => cases e
  | ty n => cases e
  | scr e2 => cases e
  | lam e2 e3 e4 => cases e
  | exc e2 e3 => cases e
theorem cd_isi : CallD X Ts (rIsi X.K) isiD := fun ρ M H ds vs Q Qd R s h k => by
  cases s with
  | nil => exact h.elim
  | cons s1 s2 =>
    cases s2 with
    | nil => exact h.elim
    | cons s2 s3 =>
      cases s3 with
      | cons _ _ => cases s2 <;> exact h.elim
      | nil =>
        cases s2 with
        | ty T =>
          obtain ⟨n, b, e1, e2, q⟩ := h
          exact ⟨_, _, _, _, b, rfl, .ty T, kind_ty R s1 e1, kit_ty e2, k.same R q (.bl b)⟩
        | _ => exact h.elim
def intOfD : List D → Mem → KD → Prop
  | [.int i], M, Q => Q (.int i) M
  | [.bl b], M, Q => Q (.int (if b then 1 else 0)) M
  | _, _, _ => False
theorem cd_int : CallD X Ts (fun xs H Q => (∃ i, xs = [V.int i] ∧ Q (.int i) H) ∨ ∃ k, xs = [V.bl k] ∧ Q (.int (if k then 1 else 0)) H) intOfD := fun ρ M H ds vs Q Qd R s h k => by
  cases s with
  | nil => exact h.elim
  | cons s1 s2 =>
    cases s2 with
    | cons _ _ => cases s1 <;> exact h.elim
    | nil =>
      cases s1 with
      | int i => exact .inl ⟨i, rfl, k.same R (show Qd (.int i) M from h) (.int i)⟩
      | bl b => exact .inr ⟨b, rfl, k.same R (show Qd (.int (if b then 1 else 0)) M from h) (.int _)⟩
      | _ => exact h.elim
def tupOfD : List D → Mem → KD → Prop
  | [.tup ds], M, Q => Q (.tup ds) M
  | [.obj i], M, Q => ∃ ds, M[i]? = some (.lst ds) ∧ Q (.tup ds) M
  | _, _, _ => False
def rTupOf (X : Cx) : List V → Hp → VK → Prop := fun xs H Q => ∃ p ys, xs = [.ref p] ∧ ((SqL X.K H p ys ∧ ∀ l, H l = none → Q (.ref l) (upd H l (.tup ys))) ∨ (SqT X.K H p ys ∧ Q (.ref p) H))
theorem cd_tup : CallD X Ts (rTupOf X) tupOfD := fun ρ M H ds vs Q Qd R s h k => by
  cases s with
  | nil => exact h.elim
  | cons s1 s2 =>
    cases s2 with
    | cons _ _ => cases s1 <;> exact h.elim
    | nil =>
      cases s1 with
      | @tup a xs ds ha hs => exact ⟨a, xs, rfl, .inr ⟨ha, k.same R (show Qd (.tup ds) M from h) (.tup ha hs)⟩⟩
      | @obj i a ea =>
        obtain ⟨ds, em, q⟩ := h
        obtain ⟨a', ws, r1, h1, t1⟩ := R.lst em
        rw [ea] at r1; cases r1
        exact ⟨a, ws, rfl, .inl ⟨SqL.of h1, fun l hl => newTup R t1 k q hl⟩⟩
      | _ => exact h.elim
def lstOfD : List D → Mem → KD → Prop
  | [.tup ds], M, Q => Q (.obj M.length) (M ++ [.lst ds])
  | [.obj i], M, Q => ∃ ds, M[i]? = some (.lst ds) ∧ Q (.obj M.length) (M ++ [.lst ds])
  | [.str z], M, Q => z.cps.size ≤ sizeLine ∧ Q (.obj M.length) (M ++ [.lst (sgD z)])
  | _, _, _ => False
def rLstOf (X : Cx) : List V → Hp → VK → Prop := fun xs H Q => (∃ p ys, xs = [.ref p] ∧ (SqL X.K H p ys ∨ SqT X.K H p ys) ∧ ∀ l, H l = none → Q (.ref l) (upd H l (.lst ys))) ∨ Zn.rListS xs H Q
theorem cr_lstOf (hc : X.A.handled = none) : CallR X (.type "list") (rLstOf X) := CallR.or call_list_of (Zn.cr_listS hc)
theorem shs_signs {K : PySem.W.Frag} {ρ : Rho} {H : Hp} (z : Str) : Shs K ρ H (sgD z) (Zn.signs z) := by
  unfold sgD Zn.signs
  induction z.cps.toList with
  | nil => exact .nil
  | cons c cs ih => exact .cons (.str _) ih
theorem cd_lst : CallD X Ts (rLstOf X) lstOfD := fun ρ M H ds vs Q Qd R s h k => by
  cases s with
  | nil => exact h.elim
  | cons s1 s2 =>
    cases s2 with
    | cons _ _ => cases s1 <;> exact h.elim
    | nil =>
      cases s1 with
      | @tup a xs ds ha hs => exact .inl ⟨a, xs, rfl, .inr ha, fun l hl => newLst R hs k h hl⟩
      | @obj i a ea =>
        obtain ⟨ds, em, q⟩ := h
        obtain ⟨a', ws, r1, h1, t1⟩ := R.lst em
        rw [ea] at r1; cases r1
        exact .inl ⟨a, ws, rfl, .inl (SqL.of h1), fun l hl => newLst R t1 k q hl⟩
      | str z => exact .inr ⟨z, rfl, h.1, fun l hl => newLst R (shs_signs z) k h.2 hl⟩
      | _ => exact h.elim
def intsOf : List D → Option (List Int)
  | [] => some []
  | .int i :: ds => (intsOf ds).map (i :: ·)
  | _ :: _ => none
theorem intsOf_shs {K : PySem.W.Frag} {ρ : Rho} {H : Hp} : ∀ {ds : List D} {ns : List Int} {vs : List V}, intsOf ds = some ns → Shs K ρ H ds vs → vs = ns.map V.int
  | [], _, _, e, h => by cases e; cases h; rfl
  | .int i :: ds, ns, _, e, h => by
    cases h with
    | cons h1 h2 =>
      cases h1
      have e : (intsOf ds).map (i :: ·) = some ns := e
      cases e2 : intsOf ds with
      | none => rw [e2] at e; cases e
      | some ms =>
        rw [e2] at e
        cases e
        rw [intsOf_shs e2 h2]
        rfl
  | .non :: _, _, _, e, _ => by cases e
  | .bl _ :: _, _, _, e, _ => by cases e
  | .str _ :: _, _, _, e, _ => by cases e
  | .tup _ :: _, _, _, e, _ => by cases e
  | .obj _ :: _, _, _, e, _ => by cases e
  | .adr _ :: _, _, _, e, _ => by cases e
  | .ty _ :: _, _, _, e, _ => by cases e
  | .scr _ :: _, _, _, e, _ => by cases e
  | .lam _ _ _ _ _ _ :: _, _, _, e, _ => by cases e
  | .exc _ _ _ :: _, _, _, e, _ => by cases e
def sumLD : List D → Mem → KD → Prop
  | [.obj i], M, Q => ∃ ds ns, M[i]? = some (.lst ds) ∧ intsOf ds = some ns ∧ Q (.int ns.sum) M
  | _, _, _ => False
theorem cd_sumL : CallD X Ts (rSum X.K) sumLD := fun ρ M H ds vs Q Qd R s h k => by
  cases s with
  | nil => exact h.elim
  | cons s1 s2 =>
    cases s2 with
    | cons _ _ => cases s1 <;> exact h.elim
    | nil =>
      cases s1 with
      | @obj i a ea =>
        obtain ⟨ds, ns, em, e, q⟩ := h
        obtain ⟨a', ws, r1, h1, t1⟩ := R.lst em
        rw [ea] at r1; cases r1
        exact ⟨a, ns, rfl, SqL.of (by rw [h1, intsOf_shs e t1]), k.same R q (.int _)⟩
      | _ => exact h.elim
def max2D (mx : Bool) : List D → Mem → KD → Prop
  | [.int i, .int j], M, Q => Q (.int (if mx then (if j > i then j else i) else (if j < i then j else i))) M
  | _, _, _ => False
theorem cd_max2 : CallD X Ts (fun xs H Q => ∃ i j, xs = [V.int i, V.int j] ∧ Q (.int (if j > i then j else i)) H) (max2D true) := fun ρ M H ds vs Q Qd R s h k => by
  cases s with
  | nil => exact h.elim
  | cons s1 s2 =>
    cases s2 with
    | nil => cases s1 <;> exact h.elim
    | cons s2 s3 =>
      cases s3 with
      | cons _ _ => cases s1 <;> cases s2 <;> exact h.elim
      | nil =>
        cases s1 with
        | int i =>
          cases s2 with
          | int j => exact ⟨i, j, rfl, k.same R (show Qd (.int (if j > i then j else i)) M from h) (.int _)⟩
          | _ => exact h.elim
        | _ => cases s2 <;> exact h.elim
def reprD : List D → Mem → KD → Prop
  | [x], M, Q => ∃ n d, pyM M n x = some d ∧ PyData.showable d = true ∧ d.hasDict = false ∧ d.depth ≤ 60 ∧ d.shown.length ≤ sizeLine ∧ (match x with | .tup _ => True | .obj _ => True | .str _ => True | _ => False) ∧ Q (.str d.shown) M
  | _, _, _ => False
theorem cd_repr : CallD X Ts (Zn.rRepr X.K) reprD := fun ρ M H ds vs Q Qd R s h k => by
  cases s with
  | nil => exact h.elim
  | cons s1 s2 =>
    cases s2 with
    | cons _ _ => exact h.elim
    | nil =>
      obtain ⟨n, d, e, h1, h2, h3, h4, h5, q⟩ := h
      refine ⟨_, d, rfl, pyM_dp R n _ d _ e s1, h1, h2, h3, h4, ?_, k.same R q (.str _)⟩
      cases s1 with
      | tup _ _ => exact .inl ⟨_, rfl⟩
      | obj _ => exact .inl ⟨_, rfl⟩
      | str z => exact .inr ⟨z, rfl⟩
      | _ => exact h5.elim
end
end Dl
set_option Elab.async false
set_option linter.all false
set_option maxRecDepth 100000
set_option maxHeartbeats 4000000
namespace Dl
open PySem PySem.Spec PyProof.Rows L2 GxR Gn
/-- a key, as data -/
def kyD : Key → D
  | .inl i => .int i
  | .inr x => .str x
def keyOf : D → Option Key
  | .int i => some (.inl i)
  | .str x => some (.inr x)
  | _ => none
theorem keyOf_sh {K : PySem.W.Frag} {ρ : Rho} {H : Hp} {d : D} {v : V} {k : Key} (e : keyOf d = some k) (s : Sh K ρ H d v) : v = kV k := by
  cases s <;> cases e <;> rfl
/-- the value at a key -/
def valD {κ : Type} [DecidableEq κ] (kvs : List (κ × D)) (k : κ) : Option D := (kvs.find? fun kv => decide (kv.1 = k)).map (·.2)
def putKD {κ : Type} [DecidableEq κ] (kvs : List (κ × D)) (k : κ) (d : D) : List (κ × D) :=
  if (kvs.any fun kv => decide (kv.1 = k)) = true then kvs.map (fun kv => if kv.1 = k then (kv.1, d) else kv) else kvs ++ [(k, d)]
section
variable {K : PySem.W.Frag} {ρ : Rho} {H : Hp} {κ : Type} [DecidableEq κ]
theorem Shp.keys {ds : List (κ × D)} {vs : List (κ × V)} (h : Shp K ρ H ds vs) : ds.map (·.1) = vs.map (·.1) := by
  induction h with
  | nil => rfl
  | cons _ _ ih => simp [ih]
theorem Shp.val {ds : List (κ × D)} {vs : List (κ × V)} (h : Shp K ρ H ds vs) (k : κ) : (valD ds k = none ∧ valV vs k = none) ∨ ∃ d v, valD ds k = some d ∧ valV vs k = some v ∧ Sh K ρ H d v := by
  induction h with
  | nil => exact .inl ⟨rfl, rfl⟩
  | @cons k' d ds v vs h1 _ ih =>
    by_cases e : k' = k
    · exact .inr ⟨d, v, by simp [valD, List.find?_cons, e], by simp [valV, List.find?_cons, e], h1⟩
    · have e1 : valD ((k', d) :: ds) k = valD ds k := by simp [valD, List.find?_cons, e]
      have e2 : valV ((k', v) :: vs) k = valV vs k := by simp [valV, List.find?_cons, e]
      rw [e1, e2]
      exact ih
theorem Shp.append {ds es : List (κ × D)} {vs ws : List (κ × V)} (h : Shp K ρ H ds vs) (h' : Shp K ρ H es ws) : Shp K ρ H (ds ++ es) (vs ++ ws) := by
  induction h with
  | nil => exact h'
  | cons h1 _ ih => exact .cons h1 ih
theorem Shp.putK {ds : List (κ × D)} {vs : List (κ × V)} (h : Shp K ρ H ds vs) {k : κ} {d : D} {v : V} (s : Sh K ρ H d v) : Shp K ρ H (putKD ds k d) (L2.putK vs k v) := by
  unfold putKD L2.putK
  have e : (ds.any fun kv => decide (kv.1 = k)) = (vs.any fun kv => decide (kv.1 = k)) := by
    have := h.keys
    have q : ∀ {γ : Type} (l : List (κ × γ)), (l.any fun kv => decide (kv.1 = k)) = ((l.map (·.1)).any fun x => decide (x = k)) := fun l => by rw [List.any_map]; rfl
    rw [q, q, this]
  rw [e]
  split
  · rename_i hh
    clear hh e
    induction h with
    | nil => exact .nil
    | @cons k' d' ds v' vs h1 _ ih =>
      simp only [List.map_cons]
      by_cases z : k' = k
      · rw [if_pos z, if_pos z]; exact .cons s ih
      · rw [if_neg z, if_neg z]; exact .cons h1 ih
  · exact h.append (.cons s .nil)
end
section
variable {X : Cx} {Ts : Tbs} {E : XK} {pos p apos tpos : Pos} {a b c e o i : Expr} {es : List Expr} {ta tb to ti te : TEd} {t : TAd}
def ixA (x y : D) (M : Mem) (Q : KD) : Prop := match x with
  | .obj n => match M[n]? with
    | some (.dK kvs) => ∃ k v, keyOf y = some k ∧ valD kvs k = some v ∧ Q v M
    | _ => ixD x y M Q
  | _ => ixD x y M Q
def rIxDk : R2 := fun x y H Q => ∃ a v, x = V.ref a ∧ DGet H a y (some v) ∧ Q v H
theorem ix_dk (hu : X.A.units + 1 < cLine) : IxR X rIxDk := fun value slice pins s σ H x y v u Q I rx ry ⟨a, w, ex, g, q⟩ hs => by
  subst ex
  have ev : v = Value.ref a := rx
  subst ev
  have hT := dict_typeIs I g
  unfold subscriptTail
  refine wpAny_bind ?_
  rw [getitemInPython_of_ne hT.not_modules]
  refine wpAny_bind (wpAny_specialOf hT PySem.F.slot_dict_getitem.lookup ?_)
  have fin : wpAny (model X.prog X.w) X.A (subscripted slice false (.ref a) u) (fun r s3 => wpAny (model X.prog X.w) X.A (letTemporaryGo value (.ref a) r >>= fun _ => pure r) (EP X pins σ Q) X.xe s3) X.xe s := by
    rw [hs]
    exact wpAny_operating (d_getItem hu I g ry fun w' s3 I3 rw' => wpAny_bind (wpAny_letTemporaryGo (wpAny_pure ⟨w, H, I3, rw', q⟩)))
  first
    | exact wpAny_pure (wpAny_bind fin)
    | exact wpAny_bind (wpAny_pure (wpAny_bind fin))
    | exact wpAny_bind fin
def rIxA (X : Cx) : R2 := fun x y H Q => rIx X.K x y H Q ∨ rIxDk x y H Q
theorem od_ixA : OpD X Ts (rIxA X) ixA := fun ρ M H x y v u Q Qd R sx sy h k => by
  cases sx with
  | @obj n a ea =>
    unfold ixA at h
    simp only at h
    split at h
    · rename_i kvs em
      obtain ⟨ky, d, e1, e2, q⟩ := h
      obtain ⟨a', vs, r1, h1, t1⟩ := R.dict em
      rw [ea] at r1; cases r1
      rcases t1.val ky with ⟨z, _⟩ | ⟨d', w, z1, z2, z3⟩
      · rw [e2] at z; cases z
      · rw [e2] at z1; cases z1
        refine .inr ⟨a, w, rfl, ?_, k.same R q z3⟩
        rw [keyOf_sh e1 sy, ← z2]
        exact DGet.k h1
    · exact .inl (od_ix ρ M H _ y _ u Q Qd R (.obj ea) sy h k)
  | non => exact .inl (od_ix ρ M H _ y _ u Q Qd R .non sy h k)
  | bl b => exact .inl (od_ix ρ M H _ y _ u Q Qd R (.bl b) sy h k)
  | int b => exact .inl (od_ix ρ M H _ y _ u Q Qd R (.int b) sy h k)
  | str b => exact .inl (od_ix ρ M H _ y _ u Q Qd R (.str b) sy h k)
  | tup h1 h2 => exact .inl (od_ix ρ M H _ y _ u Q Qd R (.tup h1 h2) sy h k)
  | adr b => exact .inl (od_ix ρ M H _ y _ u Q Qd R (.adr b) sy h k)
  | ty b => exact .inl (od_ix ρ M H _ y _ u Q Qd R (.ty b) sy h k)
  | scr b => exact .inl (od_ix ρ M H _ y _ u Q Qd R (.scr b) sy h k)
  | lam b c d => exact .inl (od_ix ρ M H _ y _ u Q Qd R (.lam b c d) sy h k)
  | exc b c => exact .inl (od_ix ρ M H _ y _ u Q Qd R (.exc b c) sy h k)
theorem qe_at {k : Nat} (hr : Room k X.A) (ha : QE X Ts E a ta) (hb : QE X Ts E b tb) (hs : PlainIx b := by intro _ _; rfl) : QE X Ts E (.Subscript a b pos) (dOp ixA ta tb) := qe_ix (ix_seq.or (ix_dk (by have := hr.units; omega))) od_ixA ha hb hs
@[simp] def setD (x y z : D) (M : Mem) (Q : Mem → Prop) : Prop := ∃ n, x = .obj n ∧
  ((∃ ds k j, M[n]? = some (.lst ds) ∧ y = .int k ∧ ixN ds.length k = some j ∧ Q (M.set n (.lst (ds.set j z)))) ∨
   (∃ kvs k, M[n]? = some (.dK kvs) ∧ keyOf y = some k ∧ kvs.length < sizeLine ∧ Q (M.set n (.dK (putKD kvs k z)))))
def rSetA : V → V → V → Hp → (Hp → Prop) → Prop := fun o i v H Q => rSetL o i v H Q ∨ ∃ a H4, o = .ref a ∧ DPut H a i v H4 ∧ Q H4
theorem set_any (hu : X.A.units + 1 < cLine) : PSet X rSetA := fun pins s σ H o i v ov iv u Q I ro ri rv h => by
  rcases h with h | ⟨a, H4, eo, g, q⟩
  · exact set_list pins s σ H o i v ov iv u Q I ro ri rv h
  · subst eo
    have ev : ov = Value.ref a := ro
    subst ev
    exact d_setItem hu I g ri rv fun s4 I4 => ⟨H4, I4, q⟩
/-- o[i] = e -/
@[simp] def dPut (to ti te : TEd) : TSd := fun D E S M => te S M (fun d M1 => to S M1 (fun x M2 => ti S M2 (fun y M3 => setD x y d M3 (D.nx S)) E) E) E
theorem qs_put {k : Nat} (hr : Room k X.A) (ho : QE X Ts E o to) (hi : QE X Ts E i ti) (he : QE X Ts E e te) (hs : swapsWithSole [.Subscript o i tpos] e pos.line X.env = pure false := by rfl) (hw : swappedStores [.Subscript o i tpos] e X.env = pure none := by rfl) (h1 : (assignEach [.Subscript o i tpos] X.env).map (·.2) = [assign (.Subscript o i tpos) X.env] := by rfl) :
    (hg : PG X (.Subscript o i tpos) (gSub (rdE X.K Ts E to) (rdE X.K Ts E ti) rSetA)) → QS X Ts E (.Assign [.Subscript o i tpos] e pos) (dPut to ti te) := fun hg => psLe (ps_asg he hg hs hw h1) fun D σ H ⟨ρ, S, M, Dd, Ed, R, sl, q, k, kr, kb, kc, x⟩ =>
  ⟨ρ, S, M, _, Ed, R, sl, q, fun d M1 q1 ρ1 H1 v g1 R1 s1 => ⟨ρ1, S, M1, _, Ed, R1, sl.grw g1, q1, fun ox M2 q2 ρ2 H2 ov g2 R2 s2 => ⟨ρ2, S, M2, _, Ed, R2, (sl.grw g1).grw g2, q2, fun iy M3 ⟨n, eo, q3⟩ ρ3 H3 iv g3 R3 s3 => by
    subst eo
    have sd := Sh.grw g3 _ _ (Sh.grw g2 _ _ s1)
    have sl3 := ((sl.grw g1).grw g2).grw g3
    cases s2 with
    | @obj _ a ea =>
      have ea3 := g3.r _ _ ea
      rcases q3 with ⟨ds, kk, j, em, ey, hj, q4⟩ | ⟨kvs, ky, em, ek, hl, q4⟩
      · subst ey
        cases s3
        obtain ⟨a', vs, r1, h1, t1⟩ := R3.lst em
        rw [ea3] at r1; cases r1
        have hc : CSh X.K Ts.w ρ3 H3 (.lst (ds.set j d)) (.lst (vs.set j v)) := ⟨_, rfl, t1.set j sd⟩
        exact .inl ⟨a, vs, kk, j, rfl, rfl, h1, by rw [← t1.length]; exact hj, k _ _ q4 ρ3 _ σ (((g1.tr g2).tr g3).tr (grw_set R3 em ea3)) (R3.cellSet em ea3 hc) (sl3.grw (grw_set R3 em ea3))⟩
      · obtain ⟨a', vs, r1, h1, t1⟩ := R3.dict em
        rw [ea3] at r1; cases r1
        have hc : CSh X.K Ts.w ρ3 H3 (.dK (putKD kvs ky d)) (.dK (L2.putK vs ky v)) := ⟨_, rfl, t1.putK sd⟩
        refine .inr ⟨a, _, rfl, ?_, k _ _ q4 ρ3 _ σ (((g1.tr g2).tr g3).tr (grw_set R3 em ea3)) (R3.cellSet em ea3 hc) (sl3.grw (grw_set R3 em ea3))⟩
        rw [keyOf_sh ek s3]
        exact DPut.k h1 (by rw [← t1.length]; exact hl), (x.grw g1).grw g2⟩, x.grw g1⟩, x⟩
end
end Dl
set_option Elab.async false
set_option linter.all false
set_option maxRecDepth 100000
set_option maxHeartbeats 4000000
namespace Dl
open PySem PySem.Spec PyProof.Rows L2 GxR Gn
section
variable {X : Cx} {Ts : Tbs} {E : XK} {pos p apos tpos cpos : Pos} {a b c e f o i : Expr} {es : List Expr} {ta tb to ti te tf : TEd} {t : TAd}
@[simp] def dBM (ok : D → Mem → Prop) (rd : D → List D → Mem → KD → Prop) (to : TEd) (t : TAd) : TEd := fun S M Q E => to S M (fun o M1 => ok o M1 ∧ t S M1 (fun ds M2 => rd o ds M2 Q) E) E
@[simp] def dBM0 (ok : D → Mem → Prop) (rd : D → List D → Mem → KD → Prop) (to : TEd) : TEd := fun S M Q E => to S M (fun o M1 => ok o M1 ∧ rd o [] M1 Q) E
def TyD (X : Cx) (Ts : Tbs) (T : String) (ok : D → Mem → Prop) : Prop := ∀ ρ M H d v, Rl X.K Ts ρ M H → Sh X.K ρ H d v → ok d M → tyV X.K T v H
def MtD (X : Cx) (Ts : Tbs) (r : V → List V → Hp → VK → Prop) (rd : D → List D → Mem → KD → Prop) : Prop :=
  ∀ ρ M H o ds v vs Q Qd, Rl X.K Ts ρ M H → Sh X.K ρ H o v → Shs X.K ρ H ds vs → rd o ds M Qd → KOk X.K Ts ρ H Qd Q → r v vs H Q
theorem bmRead {T : String} {r : V → List V → Hp → VK → Prop} {ok : D → Mem → Prop} {rd : D → List D → Mem → KD → Prop} (hT : TyD X Ts T ok) (hm : MtD X Ts r rd) {σ : L2.St} {H : Hp} {Q : VK} (h : rdE X.K Ts E (dBM ok rd to t) σ H Q) : tBM X.K T r (rdE X.K Ts E to) (rdA X.K Ts E t) σ H Q := by
  obtain ⟨ρ, S, M, Qd, Ed, R, sl, q, k, x⟩ := h
  exact ⟨ρ, S, M, _, Ed, R, sl, q, fun o M1 ⟨ho, q1⟩ ρ1 H1 v g1 R1 s1 => ⟨hT _ _ _ _ _ R1 s1 ho, ρ1, S, M1, _, Ed, R1, sl.grw g1, q1, fun ds M2 q2 ρ2 H2 vs g2 R2 s2 => hm _ _ _ _ _ _ _ _ _ R2 (Sh.grw g2 _ _ s1) s2 q2 (k.grw (g1.tr g2)), x.grw g1⟩, x⟩
theorem bm0Read {T : String} {r : V → List V → Hp → VK → Prop} {ok : D → Mem → Prop} {rd : D → List D → Mem → KD → Prop} (hT : TyD X Ts T ok) (hm : MtD X Ts r rd) {σ : L2.St} {H : Hp} {Q : VK} (h : rdE X.K Ts E (dBM0 ok rd to) σ H Q) : tBM0 X.K T r (rdE X.K Ts E to) σ H Q := by
  obtain ⟨ρ, S, M, Qd, Ed, R, sl, q, k, x⟩ := h
  exact ⟨ρ, S, M, _, Ed, R, sl, q, fun o M1 ⟨ho, q1⟩ ρ1 H1 v g1 R1 s1 => ⟨hT _ _ _ _ _ R1 s1 ho, hm _ _ _ _ _ _ _ _ _ R1 s1 .nil q1 (k.grw g1)⟩, x⟩
def isLst (d : D) (M : Mem) : Prop := ∃ i ds, d = .obj i ∧ M[i]? = some (.lst ds)
theorem ty_lst : TyD X Ts "list" isLst := fun ρ M H d v R s ⟨i, ds, e, em⟩ => by
  subst e
  obtain ⟨a', vs, r1, g1, t1⟩ := R.lst em
  cases s with
  | obj ea =>
    rw [ea] at r1; cases r1
    exact .inl ⟨rfl, _, SqL.of g1⟩
@[simp] def appendD (o : D) (ds : List D) (M : Mem) (Q : KD) : Prop := ∃ i xs d, o = .obj i ∧ ds = [d] ∧ M[i]? = some (.lst xs) ∧ xs.length < sizeLine ∧ Q .non (M.set i (.lst (xs ++ [d])))
theorem md_append : MtD X Ts rAppend appendD := fun ρ M H o ds v vs Q Qd R so sd ⟨i, xs, d, e, e2, em, hz, q⟩ k => by
  subst e e2
  obtain ⟨a', ws, r1, g1, t1⟩ := R.lst em
  cases so with
  | obj ea =>
    rw [ea] at r1; cases r1
    cases sd with
    | cons s1 s2 =>
      cases s2
      exact ⟨_, ws, _, rfl, rfl, g1, by rw [← t1.length]; exact hz, setCell (c' := .lst (xs ++ [d])) R em ea ⟨_, rfl, t1.append (.cons s1 .nil)⟩ k .non q⟩
theorem qe_append (ho : QE X Ts E o to) (ha : QA X Ts E (e :: es) t) (hbase : attributeBase o "append" X.env (eval o X.env) = eval o X.env := by rfl)
    (hfew : ((backTo cpos (starEach (e :: es) X.env)).all (fun x => !x.1) && (backToKw cpos (keywordEach [] X.env)).all (fun x => x.1.isSome)
      && decide ((e :: es).length + ([] : List Keyword).length + (if ([] : List Keyword).isEmpty then 0 else 1) < 30)) = true := by rfl)
    (hline : (apos.endLine == cpos.line) = true := by rfl) (hs : starEach (e :: es) X.env = (false, eval e X.env) :: starEach es X.env := by rfl) (hplain : (backTo cpos (starEach es X.env)).any (·.1) = false := by rfl) :
    QE X Ts E (.Call (.Attribute o "append" apos) (e :: es) [] cpos) (dBM isLst appendD to t) := peLe (pe_bm PySem.F.plainAttrs_list PySem.F.slot_list_append PySem.F.type_list_append mt_append ho ha hbase hfew hline hs hplain) fun σ H Q h => bmRead ty_lst md_append h
@[simp] def popD (o : D) (ds : List D) (M : Mem) (Q : KD) : Prop := ∃ i xs d, o = .obj i ∧ ds = [] ∧ M[i]? = some (.lst xs) ∧ xs[xs.length - 1]? = some d ∧ Q d (M.set i (.lst xs.dropLast))
theorem shs_dropLast {K : PySem.W.Frag} {ρ : Rho} {H : Hp} {ds : List D} {vs : List V} (h : Shs K ρ H ds vs) : Shs K ρ H ds.dropLast vs.dropLast := by
  rw [List.dropLast_eq_take, List.dropLast_eq_take, h.length]
  exact h.take _
theorem md_pop : MtD X Ts rPop popD := fun ρ M H o ds v vs Q Qd R so sd ⟨i, xs, d, e, e2, em, hd, q⟩ k => by
  subst e e2
  obtain ⟨a', ws, r1, g1, t1⟩ := R.lst em
  cases so with
  | obj ea =>
    rw [ea] at r1; cases r1
    cases sd
    obtain ⟨w, e3, s3⟩ := t1.getD hd
    exact ⟨_, ws, w, rfl, rfl, g1, by rw [← t1.length]; exact e3, setCell (c' := .lst xs.dropLast) R em ea ⟨_, rfl, shs_dropLast t1⟩ k s3 q⟩
theorem qe_pop0 (ho : QE X Ts E o to) (hbase : attributeBase o "pop" X.env (eval o X.env) = eval o X.env := by rfl) (hline : (apos.endLine == cpos.line) = true := by rfl) :
    QE X Ts E (.Call (.Attribute o "pop" apos) [] [] cpos) (dBM0 isLst popD to) := peLe (pe_bm0 PySem.F.plainAttrs_list PySem.F.slot_list_pop PySem.F.type_list_pop mt_pop ho hbase hline) fun σ H Q h => bm0Read ty_lst md_pop h
@[simp] def dRev (ta : TEd) : TEd := fun S M Q E => ta S M (fun d M1 => ∃ i ds, d = .obj i ∧ M1[i]? = some (.lst ds) ∧ Q (.obj M1.length) (M1 ++ [.lst ds.reverse])) E
theorem qe_rev {k : Nat} {p1 p2 p3 : Pos} (ha : QE X Ts E a ta) : QE X Ts E (.Subscript a (.Slice none none (some (.UnaryOp .USub (.Constant (.int 1) k p1) p2)) p3) pos) (dRev ta) := peLe (pe_revL ha) fun σ H Q ⟨ρ, S, M, Qd, Ed, R, sl, q, k, x⟩ =>
  ⟨ρ, S, M, _, Ed, R, sl, q, fun d M1 ⟨i, ds, e, em, q1⟩ ρ1 H1 v g1 R1 s1 => by
    subst e
    obtain ⟨a', vs, r1, h1, t1⟩ := R1.lst em
    cases s1 with
    | obj ea =>
      rw [ea] at r1; cases r1
      exact ⟨_, vs, rfl, SqL.of h1, fun p hp => newLst R1 t1.reverse (k.grw g1) q1 hp⟩, x⟩
@[simp] def dNeg (ta : TEd) : TEd := fun S M Q E => ta S M (fun d M1 => ∃ i, d = .int i ∧ Q (.int (-i)) M1) E
theorem qe_neg (ha : QE X Ts E a ta) : QE X Ts E (.UnaryOp .USub a pos) (dNeg ta) := peLe (pe_un un_neg ha) fun σ H Q ⟨ρ, S, M, Qd, Ed, R, sl, q, k, x⟩ =>
  ⟨ρ, S, M, _, Ed, R, sl, q, fun d M1 ⟨i, e, q1⟩ ρ1 H1 v g1 R1 s1 => by
    subst e
    cases s1
    exact ⟨i, rfl, k _ _ q1 ρ1 H1 _ g1 R1 (.int _)⟩, x⟩
def IpD (X : Cx) (Ts : Tbs) (ti : TIp) (rd : D → D → Mem → KD → Prop) : Prop :=
  ∀ ρ M H x y v u Q Qd, Rl X.K Ts ρ M H → Sh X.K ρ H x v → Sh X.K ρ H y u → rd x y M Qd → KOk X.K Ts ρ H Qd Q → ti v u H Q
def dAug (i : Nat) (rd : D → D → Mem → KD → Prop) (te : TEd) : TSd := fun D E S M => ∃ x, S[i]? = some (some x) ∧ te S M (fun y M1 => rd x y M1 fun z M2 => D.nx (S.set i (some z)) M2) E
theorem qs_aug {i : Nat} {x : Str} {op : Operator} {pos' : Pos} {r : TIp} {rd : D → D → Mem → KD → Prop} (hN : X.N.Nodup) (hi : X.N[i]? = some x) (hx : Loc X.env.scope x) (he : QE X Ts E e te) (ho : PIp X op r) (hd : IpD X Ts r rd) (hf : X.fn x = true ∨ X.env.scope.names.lookup x = some .local := by first | exact .inl rfl | exact .inr rfl | assumption) :
    QS X Ts E (.AugAssign (.Name x pos') op e pos) (dAug i rd te) := psLe (ps_aug hN hi hx he ho hf) fun D σ H ⟨ρ, S, M, Dd, Ed, R, sl, ⟨d, ed, q⟩, k, kr, kb, kc, xx⟩ => by
  obtain ⟨v, e1, s0⟩ := sl.at_ i d ed
  refine ⟨v, e1, ρ, S, M, _, Ed, R, sl, q, fun y M1 q1 ρ1 H1 u g1 R1 s1 => ?_, xx⟩
  refine hd ρ1 M1 H1 d y v u _ _ R1 (Sh.grw g1 _ _ s0) s1 q1 fun z M2 q2 ρ2 H2 w g2 R2 s2 => ?_
  exact k _ _ q2 ρ2 H2 _ (g1.tr g2) R2 (((sl.grw g1).grw g2).set i s2)
theorem ip_of {op : Operator} {r : R2} (h : OpR X (inplaceOp op) r) : PIp X op r := fun pins s σ H x y v u Q I rx ry q => h pins s σ H x y v u Q I rx ry q
theorem qs_augI {i : Nat} {x : Str} {op : Operator} {pos' : Pos} {C : Int → Int → Prop} {g : Int → Int → Int} (hN : X.N.Nodup) (hi : X.N[i]? = some x) (hx : Loc X.env.scope x) (he : QE X Ts E e te) (ho : OpR X (inplaceOp op) (rI C fun i j => .int (g i j))) (hf : X.fn x = true ∨ X.env.scope.names.lookup x = some .local := by first | exact .inl rfl | exact .inr rfl | assumption) :
    QS X Ts E (.AugAssign (.Name x pos') op e pos) (dAug i (intD C fun i j => .int (g i j)) te) := qs_aug hN hi hx he (ip_of ho) (fun ρ M H x y v u Q Qd R sx sy h k => od_int (X := X) (fun _ _ _ _ => .int _) ρ M H x y v u Q Qd R sx sy h k) hf
theorem qs_setLc {i : Nat} {y : Str} {py spos : Pos} {elt tg iter : Expr} {scope : Scope} {own : List (Str × Nat)} {ifs : List Expr} {tid : TId} {g : TG} {gd : TGd} {tt : TTd} (hc : X.calm = true) (hN : X.N.Nodup) (hy : X.N[i]? = some y) (hyl : X.env.scope.names.lookup y = some .local)
    (hsw : swapsWith (.ListComp elt [⟨tg, iter, ifs, 0⟩] scope pos) (some (.Name y py)) spos.line X.env = pure true) (hi : QI X Ts E tg iter tid) (ok : BlkOk X.N X.env.scope scope own)
    (hg : ∀ (s : Shared) (H : Hp) (C : Addr) (cl : List (Str × Addr)) (fp : List Addr), PG (X.blk s H scope (compEnvC scope cl C X.env) fp) tg g) (hgs : TgS X.K (own.map (·.2)) g gd) (gm : GMono g)
    (ht : ∀ (s : Shared) (H : Hp) (C : Addr) (cl : List (Str × Addr)) (fp : List Addr), PTs (X.blk s H scope (compEnvC scope cl C X.env) fp) ifs (rdT X.K Ts X00 tt))
    (he : ∀ (s : Shared) (H : Hp) (C : Addr) (cl : List (Str × Addr)) (fp : List Addr), QE (X.blk s H scope (compEnvC scope cl C X.env) fp) Ts X00 elt te) (hs : ∀ x, foldedSetIterable iter X.env x = pure x := by intro _; rfl) :
    QS X Ts E (.Assign [.Name y py] (.ListComp elt [⟨tg, iter, ifs, 0⟩] scope pos) spos) (dSet i (dLc tid gd tt te (own.map (·.2)))) := psLe (ps_setLc hc hN hy hyl hsw hi ok hg ht he hs) fun D σ H ⟨ρ, S, M, Dd, Ed, R, sl, q, k, kr, kb, kc, x⟩ =>
  lcRead (E := E) (Q := fun v H1 => D.nx (σ.set i (some v)) H1) hgs gm ⟨ρ, S, M, _, Ed, R, sl, q, fun d M1 q1 ρ1 H1 v g1 R1 s1 => k _ _ q1 ρ1 H1 _ g1 R1 ((sl.grw g1).set i s1), x⟩
end
end Dl
set_option Elab.async false
set_option linter.all false
set_option maxRecDepth 100000
set_option maxHeartbeats 4000000
namespace Dl
open PySem PySem.Spec PyProof.Rows L2 GxR Gn
section
variable {X : Cx} {Ts : Tbs} {E : XK} {pos p apos tpos cpos : Pos} {a b c e f o i : Expr} {es : List Expr} {ta tb to ti te tf : TEd} {t : TAd}
/-- < (st) or <=, of ints, texts, tuples of ints (< alone) -/
def cmpD (st : Bool) (x y : D) (M : Mem) (Q : KD) : Prop := match x, y with
  | .int i, .int j => Q (.bl (if st then decide (i < j) else decide (i ≤ j))) M
  | .str u, .str w => Q (.bl (if st then decide (u.cps.toList < w.cps.toList) else !decide (w.cps.toList < u.cps.toList))) M
  | .tup xs, .tup ys => st = true ∧ ∃ ns ms, intsOf xs = some ns ∧ intsOf ys = some ms ∧ Q (.bl (HT.lexLt ns ms)) M
  | _, _ => False
def rLtH (X : Cx) : R2 := fun x y H Q => rI0 (fun i j => .bl (decide (i < j))) x y H Q ∨ (∃ i j, x = .str i ∧ y = .str j ∧ Q (.bl (decide (i.cps.toList < j.cps.toList))) H) ∨ rLtT X.K x y H Q
theorem op_ltH {k : Nat} (hr : Room k X.A) : OpR X (compareOp .Lt) (rLtH X) := op_lt.or (op_lt_str.or (op_ltT hr.units0))
theorem od_ltH : OpD X Ts (rLtH X) (cmpD true) := fun ρ M H x y v u Q Qd R sx sy h k => by
  cases sx with
  | int i => cases sy with
    | int j => exact .inl ⟨i, j, rfl, rfl, k.same R h (.bl _)⟩
    | _ => exact h.elim
  | str i => cases sy with
    | str j => exact .inr (.inl ⟨i, j, rfl, rfl, k.same R h (.bl _)⟩)
    | _ => exact h.elim
  | tup ha hs => cases sy with
    | tup hb ht =>
      obtain ⟨_, ns, ms, e1, e2, q⟩ := h
      have z1 := intsOf_shs e1 hs
      have z2 := intsOf_shs e2 ht
      subst z1 z2
      exact .inr (.inr ⟨_, _, ns, ms, rfl, rfl, ha, hb, k.same R q (.bl _)⟩)
    | _ => exact h.elim
  | _ => cases sy <;> exact h.elim
theorem od_gt : OpD X Ts (rI (fun _ _ => True) fun i j => V.bl (decide (j < i))) gtD := od_int fun _ _ _ _ => .bl _
theorem od_ge : OpD X Ts (rI (fun _ _ => True) fun i j => V.bl (decide (j ≤ i))) geD := od_int fun _ _ _ _ => .bl _
@[simp] def dPairs : List (TEd × TEd) → Sl → Mem → (List (D × D) → Mem → Prop) → KE' → Prop
  | [], _, M, Q, _ => Q [] M
  | (k, v) :: r, S, M, Q, E => k S M (fun x M1 => v S M1 (fun y M2 => dPairs r S M2 (fun ps M3 => Q ((x, y) :: ps) M3) E) E) E
inductive Sh2 (K : PySem.W.Frag) (ρ : Rho) (H : Hp) : List (D × D) → List (V × V) → Prop
  | nil : Sh2 K ρ H [] []
  | cons {d e : D} {v u : V} {ds : List (D × D)} {vs : List (V × V)} : Sh K ρ H d v → Sh K ρ H e u → Sh2 K ρ H ds vs → Sh2 K ρ H ((d, e) :: ds) ((v, u) :: vs)
theorem pairsRead {σ : L2.St} : ∀ {trs : List (TEd × TEd)} {ρ : Rho} {S : Sl} {M : Mem} {H : Hp} {Qd : List (D × D) → Mem → Prop} {Ed : KE'} {Q : List (V × V) → Hp → Prop}, Rl X.K Ts ρ M H → Sls X.K ρ H S σ → dPairs trs S M Qd Ed →
    (∀ ds M', Qd ds M' → ∀ ρ' H' vs, Grw ρ H ρ' H' → Rl X.K Ts ρ' M' H' → Sh2 X.K ρ' H' ds vs → Q vs H') → XOk X.K Ts ρ H Ed E → tPairs (trs.map fun q => (rdE X.K Ts E q.1, rdE X.K Ts E q.2)) σ H Q
  | [], ρ, S, M, H, Qd, Ed, Q, R, sl, h, k, x => k _ _ h ρ H [] (Grw.refl _ _) R .nil
  | (tk, tv) :: r, ρ, S, M, H, Qd, Ed, Q, R, sl, h, k, x => ⟨ρ, S, M, _, Ed, R, sl, h, fun d M1 h1 ρ1 H1 v g1 R1 s1 => ⟨ρ1, S, M1, _, Ed, R1, sl.grw g1, h1, fun y M2 h2 ρ2 H2 u g2 R2 s2 =>
      pairsRead (trs := r) R2 ((sl.grw g1).grw g2) h2 (fun ds M3 h3 ρ3 H3 vs g3 R3 s3 => k _ _ h3 ρ3 H3 _ ((g1.tr g2).tr g3) R3 (.cons (Sh.grw g3 _ _ (Sh.grw g2 _ _ s1)) (Sh.grw g3 _ _ s2) s3)) ((x.grw g1).grw g2), x.grw g1⟩, x⟩
def mergeKD (kvs more : List (Key × D)) : List (Key × D) := more.foldl (fun acc kv => putKD acc kv.1 kv.2) kvs
theorem sh2_keys {K : PySem.W.Frag} {ρ : Rho} {H : Hp} : ∀ {kvs : List (Key × D)} {vs : List (V × V)}, Sh2 K ρ H (kvs.map fun kv => (kyD kv.1, kv.2)) vs → ∃ ws : List (Key × V), vs = ws.map (fun kv => (kV kv.1, kv.2)) ∧ Shp K ρ H kvs ws
  | [], _, h => by cases h; exact ⟨[], rfl, .nil⟩
  | (k, d) :: r, _, h => by
    cases h with
    | cons h1 h2 h3 =>
      obtain ⟨ws, e, s⟩ := sh2_keys h3
      refine ⟨(k, _) :: ws, ?_, .cons h2 s⟩
      subst e
      cases k <;> cases h1 <;> rfl
theorem merge_sh {K : PySem.W.Frag} {ρ : Rho} {H : Hp} {more : List (Key × D)} {ms : List (Key × V)} (h : Shp K ρ H more ms) : ∀ {kvs : List (Key × D)} {vs : List (Key × V)}, Shp K ρ H kvs vs → Shp K ρ H (mergeKD kvs more) (mergeK vs ms) := by
  induction h with
  | nil => intro kvs vs h; exact h
  | cons h1 _ ih => intro kvs vs h; exact ih (h.putK h1)
@[simp] def dDisp (trs : List (TEd × TEd)) : TEd := fun S M Q E => dPairs trs S (M ++ [.dK []]) (fun ps M2 => M2[M.length]? = some (.dK []) ∧ ∃ kvs : List (Key × D), ps = kvs.map (fun kv => (kyD kv.1, kv.2)) ∧ kvs.length ≤ 15 ∧ Q (.obj M.length) (M2.set M.length (.dK (mergeKD [] kvs)))) E
theorem qe_disp {keys : List (Option Expr)} {values : List Expr} {trs : List (TEd × TEd)} (h : PPs X pos keys values (trs.map fun q => (rdE X.K Ts E q.1, rdE X.K Ts E q.2))) (hall : keys.all (·.isSome) = true := by rfl) (hl : keys.length = values.length := by rfl) (h0 : keys ≠ [] := by simp) (h15 : keys.length ≤ 15 := by decide) :
    QE X Ts E (.Dict keys values pos) (dDisp trs) := peLe (pe_disp h hall hl h0 h15) fun σ H Q ⟨ρ, S, M, Qd, Ed, R, sl, q, k, x⟩ p hp => by
  have g0 := grw_ext R (o := .dK []) hp
  have R0 := R.cellNew (c := .dK []) (o := .dK []) hp ⟨[], rfl, .nil⟩
  refine pairsRead R0 (sl.grw g0) q (fun ds M2 ⟨em, kvs, eds, hz, q2⟩ ρ2 H2 vs g2 R2 s2 => ?_) (x.grw g0)
  subst eds
  obtain ⟨ws, ev, sw⟩ := sh2_keys s2
  subst ev
  have rp : ρ2 M.length = some p := g2.r _ _ (by unfold ext; rw [if_pos rfl])
  obtain ⟨a', us, r1, h1, t1⟩ := R2.dict em
  rw [rp] at r1
  cases r1
  cases t1
  have hc : CSh X.K Ts.w ρ2 H2 (.dK (mergeKD [] kvs)) (.dK (mergeK [] ws)) := ⟨_, rfl, merge_sh sw .nil⟩
  exact ⟨h1, ws, rfl, by rw [← sw.length]; exact hz, k _ _ q2 ρ2 _ _ ((g0.tr g2).tr (grw_set R2 em rp)) (R2.cellSet em rp hc) (.obj rp)⟩
@[simp] def dStar (te : TEd) (t : TAd) : TAd := fun S M Q E => te S M (fun d M1 =>
  (∃ ds, d = .tup ds ∧ t S M1 (fun es M2 => Q (ds ++ es) M2) E) ∨ (∃ j ds, d = .obj j ∧ M1[j]? = some (.lst ds) ∧ t S M1 (fun es M2 => Q (ds ++ es) M2) E) ∨ ∃ z, d = .str z ∧ z.cps.size ≤ sizeLine ∧ t S M1 (fun es M2 => Q (sgD z ++ es) M2) E) E
end
end Dl
set_option Elab.async false
set_option linter.all false
set_option maxRecDepth 100000
set_option maxHeartbeats 4000000
namespace Dl
open PySem PySem.Spec PyProof.Rows L2 GxR Gn
section
variable {X : Cx} {Ts : Tbs} {E : XK} {pos p : Pos} {a b c e : Expr} {es : List Expr} {ta tb : TEd} {t : TAd}
theorem takes0 : Takes X (fun c d _ H => X00 c d H) := fun _ _ ⟨_, _, _, _, _, _, _, _, _, _, _, _, _, _, _, _, h⟩ => h.elim
@[simp] def shrD := intD (fun _ j => 0 ≤ j) fun i j => .int (i / 2 ^ j.toNat)
/-- one of two walks -/
theorem pi_or {tg it : Expr} {t u : TI} (h1 : PI X tg it t) (h2 : PI X tg it u) : PI X tg it (fun σ H R => t σ H R ∨ u σ H R) :=
  ⟨fun pins s σ H R I h => h.elim (h1.run pins s σ H R I) (h2.run pins s σ H R I)⟩
@[simp] def dEnumA (t : TAd) : TId := fun S M Q E => dEnumT t S M Q E ∨ dEnumL t S M Q E
theorem qi_enumA {elts : List Expr} {kk : Nat} {tpos : Pos} {t : TAd} (hg : Gl X "enumerate") (hm : X.mg "enumerate" = none) (h : QA X Ts E [a] t) (hs : starEach [a] X.env = [(false, eval a X.env)] := by rfl) : QI X Ts E (.Tuple elts kk tpos) (.Call (.Name "enumerate" p) [a] [] pos) (dEnumA t) :=
  piLe (pi_or (qi_enumT hg hm h hs) (qi_enumL hg hm h hs)) fun σ H R ⟨ρ, S, M, Qd, Ed, Rr, sl, q, k, x⟩ => q.elim (fun q => .inl ⟨ρ, S, M, Qd, Ed, Rr, sl, q, k, x⟩) fun q => .inr ⟨ρ, S, M, Qd, Ed, Rr, sl, q, k, x⟩
/-- a, b = x, y -/
@[simp] def dPar (i j : Nat) (t : TAd) : TSd := fun D E S M => t S M (fun ds M1 => ∃ d e, ds = [d, e] ∧ D.nx ((S.set i (some d)).set j (some e)) M1) E
end
section
variable {X : Cx} {Ts : Tbs} {k : Nat} {f : Addr} {fd : FuncData} {n : Nat} {ps ks : List Str} {sp : SpD} {E : XK} {x : Str} {p pos : Pos} {kws : List Keyword} {tk : TA} {t : TAd} {g : List Value → List Value → List Value} {gV : List V → List V → List V}
theorem callGW {sp : Sp} (F : FnG X.prog X.w X.K X.mg X.base k f fd n ps sp) (hr : RoomG k X.A) (hg : Gl X x) (hm : X.mg x = some (.ref f)) (kp : PySem.W.keepIn X.K (.ref f) = true) (hb : KBinds X.K fd ps ks g gV) (tk' : Takes X (fun c d _ H => E c d H)) (hkw : PK X kws tk)
    (hall : (backToKw pos (keywordEach kws X.env)).all (·.1.isSome) = true := by rfl) (hks : (backToKw pos (keywordEach kws X.env)).filterMap (·.1) = ks := by rfl) (hdb : (x == ("__debug__" : Str)) = false := by decide)
    (hpl : ((backTo pos (starEach [] X.env)).any (·.1) || (backToKw pos (keywordEach kws X.env)).any (·.1.isNone)) = false := by rfl) :
    PE X (.Call (.Name x p) [] kws pos) (fun σ H Q => tk σ H fun zs H1 => sp (gV [] zs) H1 Q E) := by
  constructor
  intro pins s σ H Q I h
  apply wpAny_Call_Name_kw
  apply ld_glob I hg hm _ hdb
  apply PySem.W.callWith_KW0 (h₀ := X.base) I.ok.mod.kin kp hall _ hpl
  refine thn (hkw.run pos pins s σ H _ I h) ?_
  rintro ws s2 ⟨zs, H2, I2, rz, q2⟩
  refine ⟨I2.kIn, ?_⟩
  rw [hks]
  have rr := hb.rel .nil rz
  have hl : (g [] ws).length = ps.length := by rw [← rr.length, F.cnt]; exact F.len _ _ _ _ q2
  refine wpAny_call (codeAny_mono (F.run X.A X.stack s2 H2 ⟨[], ks.zip ws⟩ _ _ Q E hr I2.env0 (hb.to s2 [] ws I2.kIn hl) rr q2) fun res s' hres => ?_)
  match res, hres with
  | .error u, hres => exact xe_of tk' I2 hres
  | .ok (.ret u), hres => exact I2.after hres
  | .ok .next, hres => exact False.elim hres
  | .ok .brk, hres => exact False.elim hres
  | .ok .cont, hres => exact False.elim hres
def pick {α : Type} (is : List Nat) (xs : List α) : List α := is.filterMap fun i => xs[i]?
def gP {α : Type} (is : List Nat) (us ws : List α) : List α := match us with
  | [] => if ws.length = is.length then pick is ws else []
  | _ => []
theorem vals_get : ∀ {vs : List V} {us : List Value} (i : Nat), Vals vs us → (vs[i]? = none ∧ us[i]? = none) ∨ ∃ v u, vs[i]? = some v ∧ us[i]? = some u ∧ RelV v u
  | [], _, i, h => by cases h; exact .inl ⟨by simp, by simp⟩
  | v :: vs, _, 0, h => by
    cases h with
    | cons h1 h2 => exact .inr ⟨v, _, rfl, rfl, h1⟩
  | v :: vs, _, i + 1, h => by
    cases h with
    | cons h1 h2 => simpa using vals_get i h2
theorem vals_pick {vs : List V} {us : List Value} (h : Vals vs us) : ∀ is : List Nat, Vals (pick is vs) (pick is us)
  | [] => .nil
  | i :: is => by
    unfold pick
    rcases vals_get i h with ⟨e1, e2⟩ | ⟨v, u, e1, e2, r⟩
    · rw [List.filterMap_cons_none e1, List.filterMap_cons_none e2]; exact vals_pick h is
    · rw [List.filterMap_cons_some e1, List.filterMap_cons_some e2]; exact .cons r (vals_pick h is)
theorem vals_gP {vs : List V} {us : List Value} {zs : List V} {ws : List Value} (is : List Nat) (r : Vals vs us) (rz : Vals zs ws) : Vals (gP is vs zs) (gP is us ws) := by
  cases r with
  | cons _ _ => exact .nil
  | nil =>
    unfold gP
    show Vals (if _ then _ else _) (if _ then _ else _)
    rw [rz.length]
    split
    · exact vals_pick rz is
    · exact .nil
theorem shs_pick {K : PySem.W.Frag} {ρ : Rho} {H : Hp} {ds : List D} {vs : List V} (h : Shs K ρ H ds vs) : ∀ is : List Nat, Shs K ρ H (pick is ds) (pick is vs)
  | [] => .nil
  | i :: is => by
    unfold pick
    cases e : vs[i]? with
    | none =>
      have : ds[i]? = none := by
        rw [List.getElem?_eq_none_iff] at e ⊢
        rw [h.length]; exact e
      rw [List.filterMap_cons_none e, List.filterMap_cons_none this]; exact shs_pick h is
    | some v =>
      obtain ⟨d, e2, s⟩ := h.get e
      rw [List.filterMap_cons_some e, List.filterMap_cons_some e2]; exact .cons s (shs_pick h is)
theorem kb_three {K : PySem.W.Frag} {x qual : Str} {st : Stmt} {f : Addr} {fd : FuncData} (F : Fun K x qual st f fd) {ps ks : List Str} {is : List Nat} (hi : is.length = 3 := by rfl) (hp : ps.length = 3 := by rfl)
    (h : ∀ (kV doc pm : Value) (an : Option Addr) (cdv ct u v w : Value), bindArgs (PySem.W.fnOf x qual (defArgs st) (defBody st) (defScope st) .none kV doc pm an cdv ct) ⟨[], ks.zip [u, v, w]⟩ = pure (ps.zip (pick is [u, v, w])) := by intros; rfl) : KBinds K fd ps ks (gP is) (gP is) := by
  obtain ⟨oc, od, kV, doc, pm, an, cdv, ct, osl, rfl, lk, hcd⟩ := F.ex
  refine ⟨fun s us ws hk hl => ?_, fun r rz => vals_gP is r rz⟩
  cases us with
  | cons _ _ => rw [hp] at hl; exact absurd hl (by show ¬ 0 = 3; decide)
  | nil =>
    have e : ws.length = 3 := by
      by_cases z : ws.length = is.length
      · rw [z, hi]
      · unfold gP at hl
        simp only [if_neg z, hp] at hl
        exact absurd hl (by decide)
    match ws, e with
    | [u, v, w], _ =>
      have : gP is [] [u, v, w] = pick is [u, v, w] := by unfold gP; exact if_pos (by rw [hi]; rfl)
      rw [this]
      exact .of_eq (h kV doc pm an cdv ct u v w)
abbrev QK (X : Cx) (Ts : Tbs) (E : XK) (kws : List Keyword) (t : TAd) : Prop := PK X kws (rdA X.K Ts E t)
theorem pkLe {X : Cx} {kws : List Keyword} {t t' : TA} (h : PK X kws t) (i : ∀ σ H Q, t' σ H Q → t σ H Q) : PK X kws t' := ⟨fun p pins s σ H Q I q => h.run p pins s σ H Q I (i σ H Q q)⟩
theorem qk_nil : QK X Ts E [] dNil := pkLe pk_nil fun σ H Q ⟨ρ, S, M, Qd, Ed, R, sl, q, k, x⟩ => k _ _ q ρ H [] (Grw.refl _ _) R .nil
theorem qk_cons {e : Expr} {nm : Option Str} {kpos : Pos} {ta : TEd} {t : TAd} (ha : QE X Ts E e ta) (hr : QK X Ts E kws t) : QK X Ts E (⟨nm, e, kpos⟩ :: kws) (dCons ta t) := pkLe (pk_cons ha hr) fun σ H Q ⟨ρ, S, M, Qd, Ed, R, sl, q, k, x⟩ =>
  ⟨ρ, S, M, _, Ed, R, sl, q, fun d M1 q1 ρ1 H1 v g1 R1 s1 => ⟨ρ1, S, M1, _, Ed, R1, sl.grw g1, q1, fun ds M2 q2 ρ2 H2 vs g2 R2 s2 => k _ _ q2 ρ2 H2 _ (g1.tr g2) R2 (.cons (Sh.grw g2 _ _ s1) s2), x.grw g1⟩, x⟩
@[simp] def dCallW (n : Nat) (is : List Nat) (sp : SpD) (t : TAd) : TEd := fun S M Q E => t S M (fun ds M1 => ds.length = n ∧ is.length = n ∧ (pick is ds).length = n ∧ sp (pick is ds) M1 Q E) E
theorem qe_callW {is : List Nat} (F : FnD X.prog X.w X.K X.mg X.base Ts k f fd n ps sp) (hr : RoomG k X.A) (hg : Gl X x) (hm : X.mg x = some (.ref f)) (kp : PySem.W.keepIn X.K (.ref f) = true) (hb : KBinds X.K fd ps ks (gP is) (gP is)) (tk' : Takes X (fun c d _ H => E c d H)) (hkw : QK X Ts E kws t)
    (hall : (backToKw pos (keywordEach kws X.env)).all (·.1.isSome) = true := by rfl) (hks : (backToKw pos (keywordEach kws X.env)).filterMap (·.1) = ks := by rfl) (hdb : (x == ("__debug__" : Str)) = false := by decide)
    (hpl : ((backTo pos (starEach [] X.env)).any (·.1) || (backToKw pos (keywordEach kws X.env)).any (·.1.isNone)) = false := by rfl) :
    QE X Ts E (.Call (.Name x p) [] kws pos) (dCallW n is sp t) := peLe (callGW F hr hg hm kp hb tk' hkw hall hks hdb hpl) fun σ H Q ⟨ρ, S, M, Qd, Ed, R, sl, q, kk, xx⟩ =>
  ⟨ρ, S, M, _, Ed, R, sl, q, fun ds M1 ⟨h1, h2, h3, q1⟩ ρ1 H1 vs g1 R1 s1 => by
    have e : gP is [] vs = pick is vs := by unfold gP; exact if_pos (by rw [← s1.length, h1, h2])
    show spOf X.K Ts n sp (gP is [] vs) H1 Q E
    rw [e]
    have sp' := shs_pick s1 is
    exact ⟨sp'.length.symm.trans h3, ρ1, M1, _, Qd, Ed, R1, sp', q1, kk.grw g1, xx.grw g1⟩, xx⟩
end
end Dl
set_option Elab.async false
set_option linter.all false
set_option maxRecDepth 100000
set_option maxHeartbeats 4000000
namespace Dl
open PySem PySem.Spec PyProof.Rows L2 GxR Gn
/-- a def of the top, called by its parameters -/
structure Df (K : PySem.W.Frag) (mg : Str → Option Value) (x : Str) (st : Stmt) (ps : List Str) (f : Addr) (fd : FuncData) : Prop where
  F : Fun K x x st f fd
  g : mg x = some (.ref f)
  b : Binds K fd ps []
theorem Df.kp {K : PySem.W.Frag} {mg : Str → Option Value} {x : Str} {st : Stmt} {ps : List Str} {f : Addr} {fd : FuncData} (D : Df K mg x st ps f fd) : PySem.W.keepIn K (.ref f) = true := D.F.kp
/-- the code of a def with a generator expression, and its table -/
structure Tb (mg : Str → Option Value) (base : Heap) (fd : FuncData) (c P : Addr) : Prop where
  code : fd.code = .ref c
  tab : TabB base mg c P
theorem bt_len : bootBuiltins "len" = some (.builtin "len") := by decide +kernel
theorem bt_isinstance : bootBuiltins "isinstance" = some (.builtin "isinstance") := by decide +kernel
theorem bt_repr : bootBuiltins "repr" = some (.builtin "repr") := by decide +kernel
theorem bt_sum : bootBuiltins "sum" = some (.builtin "sum") := by decide +kernel
theorem bt_max : bootBuiltins "max" = some (.builtin "max") := by decide +kernel
theorem bt_int : bootBuiltins "int" = some (.type "int") := by decide +kernel
theorem bt_tuple : bootBuiltins "tuple" = some (.type "tuple") := by decide +kernel
theorem bt_list : bootBuiltins "list" = some (.type "list") := by decide +kernel
section
variable {X : Cx} {Ts : Tbs} {E : XK} {pos : Pos}
theorem qg_tupA {es : List Expr} {k : Nat} {t : TGsd} {n : Nat} (hc : X.calm = true) (h : QGs X Ts es t) (hl : es.length = n := by rfl) (hn : (assignEach es X.env).length = n := by rfl) (hst : (assignEach es X.env).findIdx? (·.1) = none := by rfl) : QG X Ts (.Tuple es k pos) (dGTup n t) :=
  qg_tup hc h hl (pg_tup hc h hn hst)
theorem iter_intTup {A : Around} {E' : Value → Shared → Prop} {prog : Program} {w : World} {s : Shared} {l : Addr} {xs : Array (Int × Tok)} {Q : Value → Shared → Prop} (hl : s.heap.IsTuple l (intItems xs))
    (h : ∀ s₂ : Shared, s₂ = { s with heap := s.heap.push { cls := .type "tuple_iterator", data := .fields #[.ref l, .int 0 0] } } →
      (s₂.heap.IsTupleIter s.heap.objs.size l 0 ∧ s₂.heap.IsTuple l (intItems xs)) → (∀ b ∈ [s.heap.objs.size, l], b < s₂.heap.objs.size) → l ≠ s.heap.objs.size → Q (.ref s.heap.objs.size) s₂) :
    wpAny (model prog w) A (pyIter (.ref l)) Q E' s := by
  have hlt : l < s.heap.objs.size := by obtain ⟨_, e, _⟩ := hl; exact Heap.lt_size e
  refine wpAny_pyIter_tuple hl (h _ rfl ⟨⟨_, Heap.get?_push_size _ rfl, rfl, rfl⟩, hl.push _⟩ (fun b hb => ?_) (Nat.ne_of_lt hlt))
  show b < (s.heap.push _).objs.size
  rw [Heap.size_push]
  rcases List.mem_cons.mp hb with rfl | hb
  · exact Nat.lt_succ_self _
  · rcases List.mem_cons.mp hb with rfl | hb
    · exact Nat.lt_succ_of_lt hlt
    · cases hb
theorem kept_tup {s : Shared} {l : Addr} {h' : Heap} (hk : ∀ b o, b ∉ [s.heap.objs.size] → (s.heap.push { cls := .type "tuple_iterator", data := .fields #[.ref l, .int 0 0] }).get? b = some o → h'.get? b = some o) :
    ∀ b o, s.heap.get? b = some o → h'.get? b = some o := fun b o e => by
  refine hk b o (fun hm => ?_) (Heap.get?_push_of_some _ e)
  rcases List.mem_cons.mp hm with e1 | hm
  · exact absurd (e1 ▸ Heap.lt_size e) (Nat.lt_irrefl _)
  · cases hm
theorem sum_tupG {A : Around} {E' : Value → Shared → Prop} {prog : Program} {w : World} {s : Shared} {l : Addr} {xs : Array (Int × Tok)} {Q : Value → Shared → Prop} (hh : A.handled = none) (hl : s.heap.IsTuple l (intItems xs))
    (h : ∀ h' tk t', (∀ b o, s.heap.get? b = some o → h'.get? b = some o) → Q (.int (preSum (numAt xs) xs.size) t') { s with heap := h', toks := tk }) :
    wpAny (model prog w) A (call (.builtin "sum") [.ref l]) Q E' s := by
  refine PySem.call_sum_walkG (iter_intTup hl fun s₂ e st hfp hlI => ?_)
  subst e
  refine ⟨_, _, _, _, _, _, numAt xs, rfl, Walks.tuple (A := A.in1) hh _ l hlI (intItems xs), st, hfp, (fun _ _ => intItems_at), fun h' tk t' hk => ?_⟩
  have := h h' tk t' (kept_tup hk)
  simpa [intItems] using this
def rSumT (K : PySem.W.Frag) : List V → Hp → VK → Prop := fun vs H Q => ∃ (a : Addr) (ns : List Int), vs = [V.ref a] ∧ SqT K H a (ns.map V.int) ∧ Q (.int ns.sum) H
theorem cr_sumT (hc : X.calm = true) : CallR X (.builtin "sum") (rSumT X.K) := by
  intro pins s σ H vs us Q I r h
  obtain ⟨a, ns, rfl, hs, q⟩ := h
  obtain ⟨its, rv, hl, _⟩ := I.tuple hs
  rw [Vals.ref1 r]
  have hi := rv.ints
  obtain ⟨xs, e⟩ := hi.allInts.items
  have hn : numsOf (intItems xs).toList = ns := by rw [← e]; exact hi.numsOf
  rw [nums_intItems] at hn
  rw [e] at hl
  refine sum_tupG (I.ok.hd hc) hl fun h' tk t' hk => ?_
  refine ⟨.int ns.sum, H, I.kept hk, ⟨t', ?_⟩, q⟩
  rw [preSum_eq, List.take_of_length_le (by simp), hn]
def rSumH (X : Cx) : List V → Hp → VK → Prop := fun vs H Q => rSum X.K vs H Q ∨ rSumT X.K vs H Q
def sumHD : List D → Mem → KD → Prop
  | [.obj i], M, Q => ∃ ds ns, M[i]? = some (.lst ds) ∧ intsOf ds = some ns ∧ Q (.int ns.sum) M
  | [.tup ds], M, Q => ∃ ns, intsOf ds = some ns ∧ Q (.int ns.sum) M
  | _, _, _ => False
theorem cr_sumH (hc : X.calm = true) : CallR X (.builtin "sum") (rSumH X) := (cr_sum hc).or (cr_sumT hc)
theorem cd_sumH : CallD X Ts (rSumH X) sumHD := fun ρ M H ds vs Q Qd R s h k => by
  cases s with
  | nil => exact h.elim
  | cons s1 s2 =>
    cases s2 with
    | cons _ _ => cases s1 <;> exact h.elim
    | nil =>
      cases s1 with
      | @obj i a ea => exact .inl (cd_sumL ρ M H [.obj i] [.ref a] Q Qd R (.cons (.obj ea) .nil) h k)
      | @tup a xs ds ha hs =>
        obtain ⟨ns, e, q⟩ := h
        have := intsOf_shs e hs
        subst this
        exact .inr ⟨a, ns, rfl, ha, k.same R q (.int _)⟩
      | _ => exact h.elim
def maxHD : List D → Mem → KD → Prop
  | [.obj i], M, Q => ∃ ds ns, M[i]? = some (.lst ds) ∧ intsOf ds = some ns ∧ 0 < ns.length ∧ ∀ m, m ∈ ns → (∀ y, y ∈ ns → y ≤ m) → Q (.int m) M
  | [.tup ds], M, Q => ∃ ns, intsOf ds = some ns ∧ 0 < ns.length ∧ ∀ m, m ∈ ns → (∀ y, y ∈ ns → y ≤ m) → Q (.int m) M
  | _, _, _ => False
theorem qs_putA {k : Nat} {tpos : Pos} {o i e : Expr} {to ti te : TEd} (hr : Room k X.A) (ho : QE X Ts E o to) (hi : QE X Ts E i ti) (he : QE X Ts E e te) (hs : swapsWithSole [.Subscript o i tpos] e pos.line X.env = pure false := by rfl) (hw : swappedStores [.Subscript o i tpos] e X.env = pure none := by rfl) (h1 : (assignEach [.Subscript o i tpos] X.env).map (·.2) = [assign (.Subscript o i tpos) X.env] := by rfl)
    (ha : ∀ v, assign (.Subscript o i tpos) X.env v = (do
      let ov ← holding [v] (eval o X.env)
      let iv ← holding [v, ov] (eval i X.env)
      standAt tpos
      holding [v, ov, iv] (setItem ov iv v)
      release [v, ov, iv] []) := by intro _; rfl) : QS X Ts E (.Assign [.Subscript o i tpos] e pos) (dPut to ti te) :=
  qs_put hr ho hi he hs hw h1 (pg_sub ho hi (set_any (by have := hr.units; omega)) ha)
theorem cr_reprG {k : Nat} (hr : RoomG k X.A) : CallR X (.builtin "repr") (Zn.rRepr X.K) := Zn.cr_repr hr.g (by have := hr.r.units; omega)
end
end Dl
set_option Elab.async false
set_option linter.all false
set_option maxRecDepth 100000
set_option maxHeartbeats 4000000
namespace Dl
open PySem PySem.Spec PyProof.Rows L2 GxR Gn
theorem small_le {n : Nat} (h : n ≤ 1000) : n ≤ sizeLine := by rw [sizeLine_eq]; omega
/-- what the walk tracks at first: the tables, and the script where the top has not written it -/
def hp0 (K : PySem.W.Frag) (Ts : List Addr) (a : Addr) (u : HO) : Hp := fun b => if b ∈ Ts then some (.tbl #[]) else if b = a ∧ K.lookup a = none then some u else none
theorem hp0_cases {K : PySem.W.Frag} {Ts : List Addr} {a b : Addr} {u o : HO} (h : hp0 K Ts a u b = some o) : (b ∈ Ts ∧ o = .tbl #[]) ∨ (b = a ∧ K.lookup a = none ∧ o = u) := by
  unfold hp0 at h
  split at h
  · rename_i m
    exact .inl ⟨m, (Option.some.inj h).symm⟩
  · split at h
    · rename_i m
      exact .inr ⟨m.1, m.2, (Option.some.inj h).symm⟩
    · cases h
/-- the law's promise, told of its run at the caller -/
def RunD (P : Program) (w : World) (K : PySem.W.Frag) (mg : Str → Option Value) (Ts : Tbs) (fa : Addr) : Prop :=
  ∀ (base : Heap) (s : Shared) (H : Hp) (a : Addr) (ns : List Int), K.In base → base.Ns mainGlobals mg → (∀ p ∈ Ts.all, base.BuiltinsAt mg p ∧ mainGlobals ≠ p) → Env0 P w K mg base callerA [] s H → (∀ p ∈ Ts.g, TabG H p) → (∀ p ∈ Ts.l, LamX.TabS H p.1 p.2) → FrL K H a (ns.map V.int) → ns.length ≤ 63 →
    codeAny (model P w) callerA (.call (.ref fa) ⟨[.ref a], []⟩) (CR (L2.CX P w) [] P w H s (fun v _ => v = .bl true) X00) s
theorem end_at {P : Program} {w : World} {K : PySem.W.Frag} {mg mb : Str → Option Value} {Ts : Tbs} {fa a : Addr} {s1 : Shared} {vs : List Value} {ns : List Int} (inK : K.In s1.heap) (glob : s1.heap.Ns mainGlobals mg) (blt : s1.heap.Ns builtinsNs mb)
    (boot : ∀ x : Str, x ≠ "__name__" → mb x = bootBuiltins x) (lim : s1.heap.NoLimit) (gens : s1.gens = #[]) (tabs : ∀ p ∈ Ts.all, s1.heap.get? p = some { cls := .none, data := .fields #[] }) (out : ∀ p ∈ Ts.all, K.lookup p = none) (kinds : ∀ p ∈ Ts.all, isCodeTable s1.heap p)
    (main : ∃ (bm : Addr) (ob : Obj), mg "__builtins__" = some (.ref bm) ∧ bm ≠ builtinsNs ∧ s1.heap.get? bm = some ob ∧ ob.cls = .type "module" ∧ ob.dict = some builtinsNs ∧ ob.data = .plain)
    (script : s1.heap.get? a = some { cls := .type "list", data := .seq vs.toArray }) (numbers : IntsAre vs ns) (short : ns.length ≤ 63) (R : RunD P w K mg Ts fa) :
    codeAny (model P w) callerA (.call (.ref fa) ⟨[.ref a], []⟩) (fun r s' => r = .ok (.ret (.bool true)) ∧ OldK s1.heap s'.heap ∧ s'.os = s1.os ∧ AllBare s'.gens) s1 := by
  obtain ⟨H, eH⟩ : ∃ H, H = hp0 K Ts.all a (.frz { cls := .type "list", data := .seq vs.toArray } (.lst (ns.map V.int))) := ⟨_, rfl⟩
  have split : ∀ {b : Addr} {o : HO}, H b = some o → (b ∈ Ts.all ∧ o = .tbl #[]) ∨ (b = a ∧ K.lookup a = none ∧ o = .frz { cls := .type "list", data := .seq vs.toArray } (.lst (ns.map V.int))) := fun {b o} h => hp0_cases (eH ▸ h)
  have small : (ns.map V.int).length ≤ sizeLine := by
    rw [List.length_map]
    exact small_le (by omega)
  have onTab : ∀ {p : Addr}, p ∈ Ts.all → H p = some (.tbl #[]) := fun {p} m => by
    rw [eH]
    exact if_pos m
  have aNot : a ∉ Ts.all := fun m => by
    have q := tabs a m
    rw [script] at q
    exact Data.noConfusion (congrArg Obj.data (Option.some.inj q))
  -- what is neither a sequence nor a table is not tracked
  have free : ∀ {b : Addr} {o : Obj}, s1.heap.get? b = some o → (∀ v n, o.data ≠ .seq v n) → o.data ≠ .fields #[] → H b = none := fun {b o} e n1 n2 => by
    cases q : H b with
    | none => rfl
    | some u =>
      exfalso
      rcases split q with ⟨m, _⟩ | ⟨z, _⟩
      · rw [tabs b m] at e
        cases e
        exact n2 rfl
      · rw [z, script] at e
        cases e
        exact n1 _ _ rfl
  have lay : ∀ {b : Addr} {o : Obj}, s1.heap.get? b = some o → H b = none → (hidT s1.heap H).get? b = some o := fun e n => hidT_get e n
  have names : ∀ {b : Addr} {m : Str → Option Value}, s1.heap.Ns b m → (hidT s1.heap H).Ns b m := by
    rintro b m ⟨o, es, ep, e, hd, rest⟩
    refine ⟨o, es, ep, lay e (free e (fun v n z => ?_) fun z => ?_), hd, rest⟩
    · rw [hd] at z; cases z
    · rw [hd] at z; cases z
  have kin : K.In (hidT s1.heap H) := fun b o e => by
    refine lay (inK b o e) ?_
    cases q : H b with
    | none => rfl
    | some u =>
      exfalso
      rcases split q with ⟨m, _⟩ | ⟨z, n, _⟩
      · rw [out b m] at e; cases e
      · rw [z, n] at e; cases e
  have limB : (hidT s1.heap H).NoLimit := by
    obtain ⟨m, x, y⟩ := lim
    exact ⟨m, names x, y⟩
  have bAt : ∀ p ∈ Ts.all, (hidT s1.heap H).BuiltinsAt mg p ∧ mainGlobals ≠ p := fun p m => by
    have hp := tabs p m
    obtain ⟨bm, ob, q1, q2, q3, q4, q5, q6⟩ := main
    obtain ⟨og, es, ep, g1, g2, _⟩ := id glob
    refine ⟨⟨bm, ob, q1, q2, fun z => ?_, fun z => ?_, lay q3 (free q3 (fun v n z => ?_) fun z => ?_), q4, q5, q6⟩, fun z => ?_⟩
    · rw [z, g1] at q3; cases q3; rw [g2] at q6; cases q6
    · rw [z, hp] at q3; cases q3; cases q6
    · rw [q6] at z; cases z
    · rw [q6] at z; cases z
    · rw [z, hp] at g1; cases g1; cases g2
  have held : HOk P w H s1.heap := fun b u q => by
    rcases split q with ⟨m, rfl⟩ | ⟨rfl, _, rfl⟩
    · exact tabs b m
    · exact ⟨script, small, vs, _, vals_ints numbers, script⟩
  have env0 : Env0 P w K mg (hidT s1.heap H) callerA [] s1 H :=
    { frames := rfl, mod := ⟨kin, names glob, ⟨mb, names blt, boot⟩, limB⟩, bs := fun b o e => of_hidT e, bsz := Nat.le_of_eq (hidT_size _ _), funs := trivial, frf := fun b m => absurd (show b ∈ ([] : List Addr) from m) (by simp), hok := held, bare := .of_eq gens }
  have seq : FrL K H a (ns.map V.int) := by
    cases q : K.lookup a with
    | none =>
      refine .inl ⟨{ cls := .type "list", data := .seq vs.toArray }, ?_⟩
      rw [eH]
      exact (if_neg aNot).trans (if_pos ⟨rfl, q⟩)
    | some o =>
      have e := inK a o q
      rw [script] at e
      cases e
      refine .inr ⟨_, vs.toArray, _, q, rfl, rfl, rfl, ?_, by simpa using vals_ints numbers⟩
      have := numbers.length
      rw [List.size_toArray]
      exact small_le (by omega)
  have tok : ∀ p ∈ Ts.g, TabG H p := fun p m => ⟨#[], onTab (Tbs.of_g m), trivial⟩
  have tol : ∀ p ∈ Ts.l, LamX.TabS H p.1 p.2 := fun p m => LamX.TabS.nil (onTab (Tbs.of_l m))
  refine codeAny_mono (R _ s1 H a ns kin (names glob) bAt env0 tok tol seq short) ?_
  rintro (e | fl) s' h
  · obtain ⟨_, _, _, _, _, _, _, _, _, _, _, _, hE⟩ := h
    exact hE.elim
  cases fl with
  | next => exact h.elim
  | brk => exact h.elim
  | cont => exact h.elim
  | ret u =>
    obtain ⟨v, H', os, bare, un, after, rel, rfl⟩ := h
    obtain rfl : u = Value.bool true := rel
    -- every object but the tables is as it was
    have stay : ∀ b o, b ∉ Ts.all → s1.heap.get? b = some o → s'.heap.get? b = some o := fun b o n e => by
      cases q : H b with
      | none => exact un.keep b o e q (fun z => by cases z) fun z => by cases z
      | some x =>
        rcases split q with ⟨m, _⟩ | ⟨rfl, _, rfl⟩
        · exact absurd m n
        · rw [script] at e
          cases e
          exact (after _ _ (un.frzs _ _ _ q)).1
    have more : ∀ p, p ∈ Ts.all → ∃ ps : Array Value, s'.heap.get? p = some { cls := .none, data := .fields ps } := fun p m => by
      obtain ⟨ps, z⟩ := un.tbls p #[] (onTab m)
      exact ⟨_, after p _ z⟩
    refine ⟨rfl, ⟨fun b o e => ?_, fun b o e => ?_⟩, os, bare⟩
    · by_cases m : b ∈ Ts.all
      · obtain ⟨ps, z⟩ := more b m
        rw [tabs b m] at e
        cases e
        exact .inr (.inl ⟨kinds b m, rfl, #[], ps, rfl, by rw [Array.empty_append]; exact z⟩)
      · exact .inl (stay b o m e)
    · by_cases m : b ∈ Ts.all
      · obtain ⟨ps, z⟩ := more b m
        exact ⟨_, z⟩
      · exact ⟨o, stay b o m e⟩
theorem rl0 {K : PySem.W.Frag} {Ts : Tbs} {H : Hp} (tk : ∀ p ∈ Ts.g, TabG H p) (tl : ∀ p ∈ Ts.l, LamX.TabS H p.1 p.2) : Rl K Ts (fun _ => none) [] H where
  inj := fun i j a h _ => by cases h
  dom := fun i a h => by cases h
  cell := fun i c h => by simp at h
  tab := tk
  lam := tl
/-- the run at the caller, by the reading of the law -/
theorem run_top {P : Program} {w : World} {K : PySem.W.Frag} {mg : Str → Option Value} {base : Heap} {Ts : Tbs} {k : Nat} {fa a : Addr} {fd : FuncData} {sp : SpD} {s : Shared} {H : Hp} {ns : List Int} (F : FnD P w K mg base Ts k fa fd 1 ["script"] sp) (room : Room k callerA) (b : Binds K fd ["script"] [])
    (e0 : Env0 P w K mg base callerA [] s H) (kb : K.In base) (tk : ∀ p ∈ Ts.g, TabG H p) (tl : ∀ p ∈ Ts.l, LamX.TabS H p.1 p.2) (sq : FrL K H a (ns.map V.int)) (hl : sp [.scr ns] [] (fun d _ => d = .bl true) E00) :
    codeAny (model P w) callerA (.call (.ref fa) ⟨[.ref a], []⟩) (CR (L2.CX P w) [] P w H s (fun v _ => v = .bl true) X00) s := by
  have inS : K.In s.heap := fun b o e => (e0.bs b o (kb b o e)).1
  refine F.run callerA [] s H ⟨[.ref a], []⟩ [.ref a] [.ref a] _ _ ⟨room, rfl⟩ e0 (by simpa using b s [.ref a] inS rfl) (.cons rfl .nil) ⟨rfl, fun _ => none, [], [.scr ns], _, E00, rl0 tk tl, .cons (.scr sq) .nil, hl, fun d M' e ρ' H' v g R sh => ?_, xok0⟩
  subst e
  cases sh
  rfl
end Dl
set_option Elab.async false
set_option linter.all false
set_option maxRecDepth 100000
set_option maxHeartbeats 4000000
namespace Dl
open PySem PySem.Spec PyProof.Rows L2 GxR Gn
section
variable {M : Mem} {Q : KD} {d e : D} {ds es : List D} {i j : Int} {n m : Nat} {x y : Str} {a b : Bool}
@[simp] theorem intD_int {C : Int → Int → Prop} {g : Int → Int → D} : Dl.intD C g (.int i) (.int j) M Q ↔ C i j ∧ Q (g i j) M := Iff.rfl
@[simp] theorem addD_int : addD (.int i) (.int j) M Q ↔ Q (.int (i + j)) M := Iff.rfl
@[simp] theorem addD_str : addD (.str x) (.str y) M Q ↔ x.length + y.length ≤ sizeLine ∧ Q (.str (x ++ y)) M := Iff.rfl
@[simp] theorem addD_tup : addD (.tup ds) (.tup es) M Q ↔ ds.length + es.length ≤ sizeLine ∧ Q (.tup (ds ++ es)) M := Iff.rfl
@[simp] theorem addD_obj : addD (.obj n) (.obj m) M Q ↔ ∃ xs ys, M[n]? = some (.lst xs) ∧ M[m]? = some (.lst ys) ∧ xs.length + ys.length ≤ sizeLine ∧ Q (.obj M.length) (M ++ [.lst (xs ++ ys)]) := Iff.rfl
@[simp] theorem mulD_int : mulD (.int i) (.int j) M Q ↔ CMulW i j ∧ Q (.int (i * j)) M := Iff.rfl
@[simp] theorem mulD_tup : mulD (.tup ds) (.int j) M Q ↔ ds ≠ [] ∧ 2 ≤ j ∧ j ≤ 1000 ∧ ds.length ≤ 1000 ∧ Q (.tup (List.replicate j.toNat ds).flatten) M := Iff.rfl
@[simp] theorem cmpD_int {st : Bool} : cmpD st (.int i) (.int j) M Q ↔ Q (.bl (if st then decide (i < j) else decide (i ≤ j))) M := Iff.rfl
@[simp] theorem cmpD_str {st : Bool} : cmpD st (.str x) (.str y) M Q ↔ Q (.bl (if st then decide (x.cps.toList < y.cps.toList) else !decide (y.cps.toList < x.cps.toList))) M := Iff.rfl
@[simp] theorem kindD_int : kindD (.int i) M = some "int" := rfl
@[simp] theorem kindD_bl : kindD (.bl a) M = some "bool" := rfl
@[simp] theorem kindD_non : kindD .non M = some "NoneType" := rfl
@[simp] theorem kindD_str : kindD (.str x) M = some "str" := rfl
@[simp] theorem kindD_tup : kindD (.tup ds) M = some "tuple" := rfl
@[simp] theorem kindD_obj : kindD (.obj n) M = match M[n]? with
    | some (.lst _) => some "list"
    | some (.dK _) => some "dict"
    | _ => none := rfl
@[simp] theorem isiD_two {T : String} : isiD [d, .ty T] M Q ↔ ∃ k b, kindD d M = some k ∧ kitB k T = some b ∧ Q (.bl b) M := Iff.rfl
@[simp] theorem intOfD_int : intOfD [.int i] M Q ↔ Q (.int i) M := Iff.rfl
@[simp] theorem intOfD_bl : intOfD [.bl a] M Q ↔ Q (.int (if a then 1 else 0)) M := Iff.rfl
@[simp] theorem tupOfD_tup : tupOfD [.tup ds] M Q ↔ Q (.tup ds) M := Iff.rfl
@[simp] theorem tupOfD_obj : tupOfD [.obj n] M Q ↔ ∃ ds, M[n]? = some (.lst ds) ∧ Q (.tup ds) M := Iff.rfl
@[simp] theorem lstOfD_tup : lstOfD [.tup ds] M Q ↔ Q (.obj M.length) (M ++ [.lst ds]) := Iff.rfl
@[simp] theorem lstOfD_obj : lstOfD [.obj n] M Q ↔ ∃ ds, M[n]? = some (.lst ds) ∧ Q (.obj M.length) (M ++ [.lst ds]) := Iff.rfl
@[simp] theorem lstOfD_str : lstOfD [.str x] M Q ↔ x.cps.size ≤ sizeLine ∧ Q (.obj M.length) (M ++ [.lst (sgD x)]) := Iff.rfl
@[simp] theorem lenD_tup : lenD [.tup ds] M Q ↔ Q (.int (ds.length : Nat)) M := Iff.rfl
@[simp] theorem lenD_str : lenD [.str x] M Q ↔ x.length ≤ sizeLine ∧ Q (.int (x.length : Nat)) M := Iff.rfl
@[simp] theorem lenD_obj : lenD [.obj n] M Q ↔ (∃ ds, M[n]? = some (.lst ds) ∧ Q (.int (ds.length : Nat)) M) ∨ ∃ kvs, M[n]? = some (.dK kvs) ∧ Q (.int (kvs.length : Nat)) M := Iff.rfl
@[simp] theorem max2D_int {mx : Bool} : max2D mx [.int i, .int j] M Q ↔ Q (.int (if mx then (if j > i then j else i) else (if j < i then j else i))) M := Iff.rfl
@[simp] theorem ixA_tup : ixA (.tup ds) (.int j) M Q ↔ ∃ v, atI ds j = some v ∧ Q v M := Iff.rfl
@[simp] theorem ixA_str : ixA (.str x) (.int j) M Q ↔ ∃ c, x.length ≤ sizeLine ∧ atI x.cps.toList j = some c ∧ Q (.str ⟨#[c]⟩) M := Iff.rfl
@[simp] theorem ixA_objS : ixA (.obj n) (.str x) M Q ↔ match M[n]? with
    | some (.dK kvs) => ∃ v, valD kvs (.inr x) = some v ∧ Q v M
    | _ => False := by
  show (match M[n]? with | some (.dK kvs) => ∃ k v, keyOf (.str x) = some k ∧ valD kvs k = some v ∧ Q v M | _ => ixD (.obj n) (.str x) M Q) ↔ _
  cases M[n]? with
  | none => exact Iff.rfl
  | some c =>
    cases c with
    | dK kvs => exact ⟨fun ⟨k, v, e, h⟩ => by cases e; exact ⟨v, h⟩, fun ⟨v, h⟩ => ⟨_, v, rfl, h⟩⟩
    | _ => exact Iff.rfl
@[simp] theorem ixA_objI {xs : List D} (h : M[n]? = some (.lst xs)) : ixA (.obj n) (.int j) M Q ↔ ∃ v, atI xs j = some v ∧ Q v M := by
  show (match M[n]? with | some (.dK kvs) => ∃ k v, keyOf (.int j) = some k ∧ valD kvs k = some v ∧ Q v M | _ => ixD (.obj n) (.int j) M Q) ↔ _
  rw [h]
  exact ⟨fun ⟨ds, v, e, h2⟩ => by rw [h] at e; cases e; exact ⟨v, h2⟩, fun ⟨v, h2⟩ => ⟨_, v, h, h2⟩⟩
@[simp] theorem slD_tup {lo hi : Option Int} : slD (.tup ds) lo hi M Q ↔ Q (.tup (cutL ds lo hi)) M := Iff.rfl
@[simp] theorem slD_obj {lo hi : Option Int} : slD (.obj n) lo hi M Q ↔ ∃ ds, M[n]? = some (.lst ds) ∧ Q (.obj M.length) (M ++ [.lst (cutL ds lo hi)]) := Iff.rfl
@[simp] theorem slD_str {lo hi : Option Int} : slD (.str x) lo hi M Q ↔ x.length ≤ sizeLine ∧ Q (.str (cutS x lo hi)) M := Iff.rfl
@[simp] theorem slD_scr {ns : List Int} {lo hi : Option Int} : slD (.scr ns) lo hi M Q ↔ Q (.obj M.length) (M ++ [.lst (cutL (ns.map D.int) lo hi)]) := Iff.rfl
@[simp] theorem seqD_tup {Q : List D → (Mem → Prop) → Mem → Prop} : seqD (.tup ds) M Q ↔ Q ds (fun _ => True) M := Iff.rfl
@[simp] theorem seqD_obj {Q : List D → (Mem → Prop) → Mem → Prop} : seqD (.obj n) M Q ↔ ∃ ds, M[n]? = some (.lst ds) ∧ Q ds (fun M => M[n]? = some (.lst ds)) M := Iff.rfl
@[simp] theorem seqD_str {Q : List D → (Mem → Prop) → Mem → Prop} : seqD (.str x) M Q ↔ Q (sgD x) (fun _ => True) M := Iff.rfl
@[simp] theorem sumHD_obj : sumHD [.obj n] M Q ↔ ∃ ds ns, M[n]? = some (.lst ds) ∧ intsOf ds = some ns ∧ Q (.int ns.sum) M := Iff.rfl
@[simp] theorem sumHD_tup : sumHD [.tup ds] M Q ↔ ∃ ns, intsOf ds = some ns ∧ Q (.int ns.sum) M := Iff.rfl
@[simp] theorem maxHD_obj : maxHD [.obj n] M Q ↔ ∃ ds ns, M[n]? = some (.lst ds) ∧ intsOf ds = some ns ∧ 0 < ns.length ∧ ∀ m, m ∈ ns → (∀ y, y ∈ ns → y ≤ m) → Q (.int m) M := Iff.rfl
@[simp] theorem maxHD_tup : maxHD [.tup ds] M Q ↔ ∃ ns, intsOf ds = some ns ∧ 0 < ns.length ∧ ∀ m, m ∈ ns → (∀ y, y ∈ ns → y ≤ m) → Q (.int m) M := Iff.rfl
@[simp] theorem truD_bl : truD (.bl a) M = some a := rfl
@[simp] theorem truD_int : truD (.int i) M = some (decide (i ≠ 0)) := rfl
@[simp] theorem truD_tup : truD (.tup ds) M = some (!ds.isEmpty) := rfl
@[simp] theorem truD_non : truD .non M = some false := rfl
@[simp] theorem keyOf_int : keyOf (.int i) = some (.inl i) := rfl
@[simp] theorem keyOf_str : keyOf (.str x) = some (.inr x) := rfl
end
@[simp] theorem kit_ii : kitB "int" "int" = some true := by decide +kernel
@[simp] theorem kit_ib : kitB "int" "bool" = some false := by decide +kernel
@[simp] theorem kit_bi : kitB "bool" "int" = some true := by decide +kernel
@[simp] theorem kit_bb : kitB "bool" "bool" = some true := by decide +kernel
@[simp] theorem kit_tt : kitB "tuple" "tuple" = some true := by decide +kernel
@[simp] theorem kit_st : kitB "str" "tuple" = some false := by decide +kernel
@[simp] theorem kit_it : kitB "int" "tuple" = some false := by decide +kernel
@[simp] theorem kit_ss : kitB "str" "str" = some true := by decide +kernel
@[simp] theorem kit_ts : kitB "tuple" "str" = some false := by decide +kernel
end Dl
set_option Elab.async false
set_option linter.all false
set_option maxRecDepth 100000
set_option maxHeartbeats 4000000
namespace Dl
open PySem PySem.Spec PyProof.Rows L2 GxR Gn
@[simp] theorem intsOf_map : ∀ ns : List Int, intsOf (ns.map D.int) = some ns
  | [] => rfl
  | n :: ns => by
    show intsOf (D.int n :: ns.map D.int) = some (n :: ns)
    unfold intsOf
    rw [intsOf_map ns]
    rfl
section
variable {X : Cx} {Ts : Tbs} {E : XK} {pos p apos cpos : Pos} {o e : Expr} {es : List Expr} {to ta : TEd} {t : TAd}
def allLD : List D → Mem → KD → Prop
  | [.obj i], M, Q => ∃ bs : List Bool, M[i]? = some (.lst (bs.map D.bl)) ∧ Q (.bl (bs.all id)) M
  | _, _, _ => False
def sortID : List D → Mem → KD → Prop
  | [.obj i], M, Q => ∃ ns : List Int, M[i]? = some (.lst (ns.map D.int)) ∧ ∀ ns' : List Int, ns'.Perm ns → ns'.Pairwise (· ≤ ·) → Q (.obj M.length) (M ++ [.lst (ns'.map D.int)])
  | _, _, _ => False
@[simp] def extendD (o : D) (ds : List D) (M : Mem) (Q : KD) : Prop := ∃ i j xs ys, o = .obj i ∧ ds = [.obj j] ∧ M[i]? = some (.lst xs) ∧ M[j]? = some (.lst ys) ∧ xs.length + ys.length ≤ sizeLine ∧ Q .non (M.set i (.lst (xs ++ ys)))
theorem iop_addT : OpR X (inplaceOp .Add) (rI (fun _ _ => True) fun i j => .int (i + j)) := op_rI0 iop_add
theorem iop_subT : OpR X (inplaceOp .Sub) (rI (fun _ _ => True) fun i j => .int (i - j)) := op_rI0 iop_sub
/-- == and != of any data -/
def eqA (neg : Bool) (x y : D) (M : Mem) (Q : KD) : Prop := match x, y with
  | .str i, .str j => Q (.bl (if neg then !decide (i = j) else decide (i = j))) M
  | .int i, .int j => Q (.bl (if neg then !decide (i = j) else decide (i = j))) M
  | x, y => eqD neg x y M Q
def rEqA (X : Cx) : R2 := fun x y H Q => rEq x y H Q ∨ rEqD X.K x y H Q
def rNeA (X : Cx) : R2 := fun x y H Q => rNe x y H Q ∨ rNeD X.K x y H Q
theorem op_eqA {k : Nat} (hr : Room k X.A) : OpR X (compareOp .Eq) (rEqA X) := op_eq.or (op_eqD hr.units)
theorem op_neA {k : Nat} (hr : Room k X.A) : OpR X (compareOp .NotEq) (rNeA X) := op_ne.or (op_neD hr.units)
theorem od_eqA : OpD X Ts (rEqA X) (eqA false) := fun ρ M H x y v u Q Qd R sx sy h k => by
  have sx' := sx
  have sy' := sy
  cases sx <;> cases sy <;> first
    | exact .inr (od_eq ρ M H _ _ _ _ Q Qd R sx' sy' h k)
    | (refine .inl ⟨rfl, k.same R ?_ (.bl _)⟩; simpa [eqA] using h)
theorem od_neA : OpD X Ts (rNeA X) (eqA true) := fun ρ M H x y v u Q Qd R sx sy h k => by
  have sx' := sx
  have sy' := sy
  cases sx <;> cases sy <;> first
    | exact .inr (od_ne ρ M H _ _ _ _ Q Qd R sx' sy' h k)
    | (refine .inl ⟨rfl, k.same R ?_ (.bl _)⟩; simpa [eqA] using h)
section
variable {M : Mem} {Q : KD} {i j : Int} {n : Nat} {x y : Str} {neg : Bool}
@[simp] theorem eqA_int : eqA neg (.int i) (.int j) M Q ↔ Q (.bl (if neg then !decide (i = j) else decide (i = j))) M := Iff.rfl
@[simp] theorem eqA_str : eqA neg (.str x) (.str y) M Q ↔ Q (.bl (if neg then !decide (x = y) else decide (x = y))) M := Iff.rfl
@[simp] theorem eqA_tup {ds es : List D} : eqA neg (.tup ds) (.tup es) M Q ↔ eqD neg (.tup ds) (.tup es) M Q := Iff.rfl
@[simp] theorem eqA_obj {m : Nat} : eqA neg (.obj n) (.obj m) M Q ↔ eqD neg (.obj n) (.obj m) M Q := Iff.rfl
@[simp] theorem allLD_obj : allLD [.obj n] M Q ↔ ∃ bs : List Bool, M[n]? = some (.lst (bs.map D.bl)) ∧ Q (.bl (bs.all id)) M := Iff.rfl
@[simp] theorem sortID_obj : sortID [.obj n] M Q ↔ ∃ ns : List Int, M[n]? = some (.lst (ns.map D.int)) ∧ ∀ ns' : List Int, ns'.Perm ns → ns'.Pairwise (· ≤ ·) → Q (.obj M.length) (M ++ [.lst (ns'.map D.int)]) := Iff.rfl
end
end
end Dl
set_option Elab.async false
set_option linter.all false
set_option maxRecDepth 100000
set_option maxHeartbeats 4000000
namespace Dl
open PySem PySem.Spec PyProof.Rows L2 GxR Gn
theorem allD_of {α : Type} {gd : TGd} {te : TEd} {vs : List Nat} {alive : Mem → Prop} {Q : KD} {S : Sl} (dd : α → D) (p : α → Bool) : ∀ (as : List α) (M : Mem), (∀ G, alive (M ++ G)) →
    (∀ a ∈ as, ∀ (G : Mem) (Q' : KD), (∀ G', Q' (.bl (p a)) (M ++ G ++ G')) → gd (dd a) (wipeD S vs) (M ++ G) fun S1 M1 => te S1 M1 Q' E00) → (∀ G, Q (.bl (as.all p)) (M ++ G)) → ∀ G, allD gd te vs alive Q S (as.map dd) (M ++ G)
  | [], M, al, _, h, G => ⟨al G, by simpa using h G⟩
  | a :: as, M, al, el, h, G => by
    refine ⟨al G, el a (by simp) G _ fun G' => ⟨p a, rfl, ?_⟩⟩
    cases hp : p a with
    | false => simpa [hp] using h (G ++ G')
    | true =>
      simp only [if_true]
      rw [List.append_assoc]
      exact allD_of dd p as M al (fun a ha => el a (List.mem_cons_of_mem _ ha)) (fun G => by simpa [hp] using h G) (G ++ G')
theorem lcD_go {α : Type} {gd : TGd} {te : TEd} {vs : List Nat} {alive : Mem → Prop} {Q : KD} {S : Sl} (dd f : α → D) : ∀ (as : List α) (acc : List D) (M : Mem), (∀ G, alive (M ++ G)) →
    (∀ a ∈ as, ∀ (G : Mem) (Q' : KD), (∀ G', Q' (f a) (M ++ G ++ G')) → gd (dd a) (wipeD S vs) (M ++ G) fun S1 M1 => te S1 M1 Q' E00) → acc.length + as.length ≤ sizeLine → (∀ G, Q (.obj M.length) (M ++ .lst (acc ++ as.map f) :: G)) →
    ∀ G, lcD gd dYes te vs M.length alive Q S (as.map dd) (M ++ .lst acc :: G)
  | [], acc, M, al, _, _, h, G => ⟨al _, by simpa using h G⟩
  | a :: as, acc, M, al, el, hz, h, G => by
    refine ⟨al _, ?_⟩
    simp only [dYes, if_true]
    refine el a (by simp) (.lst acc :: G) _ fun G' => ⟨acc, by simp, by simp at hz; omega, ?_⟩
    have e : (M ++ .lst acc :: G ++ G').set M.length (.lst (acc ++ [f a])) = M ++ .lst (acc ++ [f a]) :: (G ++ G') := by simp
    rw [e]
    exact lcD_go dd f as (acc ++ [f a]) M al (fun a ha => el a (List.mem_cons_of_mem _ ha)) (by simp at hz ⊢; omega) (fun G => by simpa using h G) (G ++ G')
/-- a whole comprehension that only reads -/
theorem lcD_of {α : Type} {gd : TGd} {te : TEd} {vs : List Nat} {alive : Mem → Prop} {Q : KD} {S : Sl} (dd f : α → D) (as : List α) (M : Mem) (al : ∀ G, alive (M ++ G))
    (el : ∀ a ∈ as, ∀ (G : Mem) (Q' : KD), (∀ G', Q' (f a) (M ++ G ++ G')) → gd (dd a) (wipeD S vs) (M ++ G) fun S1 M1 => te S1 M1 Q' E00) (hz : as.length ≤ sizeLine) (h : ∀ G, Q (.obj M.length) (M ++ .lst (as.map f) :: G)) :
    lcD gd dYes te vs M.length alive Q S (as.map dd) (M ++ [.lst []]) := lcD_go dd f as [] M al el (by simpa using hz) (by simpa using h) []
theorem at_end {M G : Mem} {c : Cell} : (M ++ c :: G)[M.length]? = some c := by simp
def vI (ns : List Int) : D := .tup (ns.map D.int)
def mI (rows : List (List Int)) : D := .tup (rows.map vI)
theorem cmul_of {i j B C : Int} (h1 : -B ≤ i ∧ i ≤ B) (h2 : -C ≤ j ∧ j ≤ C) (hB : B ≤ 2 ^ 40 := by decide) (hC : C ≤ 2 ^ 40 := by decide) : CMulW i j := by
  refine wide_mul (a := 41) (b := 41) ?_ ?_ (by decide) (by decide) (by decide)
  · have : (2 : Int) ^ 40 = 1099511627776 := by decide
    have : (2 : Nat) ^ 41 = 2199023255552 := by decide
    omega
  · have : (2 : Int) ^ 40 = 1099511627776 := by decide
    have : (2 : Nat) ^ 41 = 2199023255552 := by decide
    omega
end Dl
set_option Elab.async false
set_option linter.all false
set_option maxRecDepth 100000
set_option maxHeartbeats 4000000
namespace Dl
open PySem PySem.Spec PyProof.Rows L2 GxR Gn
/-- the datum is p whatever the memory -/
def Pu (d : D) (p : PyData) : Prop := ∀ M n, pyM M n d = some p
theorem Pu.non : Pu .non .none := fun M n => by rw [pyM]
theorem Pu.bl (b : Bool) : Pu (.bl b) (.bool b) := fun M n => by rw [pyM]
theorem Pu.int (i : Int) : Pu (.int i) (.int i) := fun M n => by rw [pyM]
theorem Pu.str (x : Str) : Pu (.str x) (.str x) := fun M n => by rw [pyM]
def Pus (ds : List D) (ps : List PyData) : Prop := ∀ M n, pyMs M n ds = some ps
theorem Pus.nil : Pus [] [] := fun M n => by rw [pyMs]
theorem Pus.cons {d : D} {p : PyData} {ds : List D} {ps : List PyData} (h : Pu d p) (hs : Pus ds ps) : Pus (d :: ds) (p :: ps) := fun M n => by rw [pyMs, h M n, hs M n]
theorem Pu.tup {ds : List D} {ps : List PyData} (h : Pus ds ps) : Pu (.tup ds) (.tuple ps) := fun M n => by rw [pyM, h M n]; rfl
theorem Pus.map {α : Type} {f : α → D} {g : α → PyData} : ∀ {as : List α}, (∀ a ∈ as, Pu (f a) (g a)) → Pus (as.map f) (as.map g)
  | [], _ => Pus.nil
  | a :: as, h => Pus.cons (h a (by simp)) (Pus.map fun b hb => h b (List.mem_cons_of_mem _ hb))
theorem Pu.vI (ns : List Int) : Pu (vI ns) (.tuple (ns.map .int)) := Pu.tup (Pus.map fun a _ => Pu.int a)
/-- data that may be compared -/
structure Pn (k : Nat) (p : PyData) : Prop where
  lay : p.canLay0 = true
  dep : p.depth ≤ k
theorem Pn.int (k : Nat) (i : Int) : Pn k (.int i) := ⟨by rw [PyData.canLay0], by rw [PyData.depth]; omega⟩
theorem Pn.bl (k : Nat) (i : Bool) : Pn k (.bool i) := ⟨by rw [PyData.canLay0], by rw [PyData.depth]; omega⟩
theorem pn_all {k : Nat} : ∀ ps : List PyData, (∀ p ∈ ps, Pn k p) → PyData.canLayAll0 ps = true ∧ PyData.depthAll ps ≤ k
  | [], _ => ⟨by rw [PyData.canLayAll0], by rw [PyData.depthAll]; omega⟩
  | p :: ps, h => by
    obtain ⟨a, b⟩ := pn_all ps fun q hq => h q (List.mem_cons_of_mem _ hq)
    have q := h p List.mem_cons_self
    exact ⟨by rw [PyData.canLayAll0, q.lay, a]; rfl, by rw [PyData.depthAll]; exact Nat.max_le.mpr ⟨q.dep, b⟩⟩
theorem Pn.tup {k : Nat} {ps : List PyData} (h : ∀ p ∈ ps, Pn k p) : Pn (k + 1) (.tuple ps) := by
  obtain ⟨a, b⟩ := pn_all ps h
  exact ⟨by rw [PyData.canLay0]; exact a, by rw [PyData.depth]; omega⟩
theorem Pn.sh {k : Nat} {p : PyData} (h : Pn k p) (hk : k ≤ 64) : SeqAt.shaped p = true := by
  unfold SeqAt.shaped
  rw [h.lay, decide_eq_true (Nat.le_trans h.dep hk)]
  rfl
def pI (ns : List Int) : PyData := .tuple (ns.map .int)
theorem pyMs_ints (M : Mem) (n : Nat) : ∀ ns : List Int, pyMs M n (ns.map D.int) = some (ns.map .int) := fun ns => (Pus.map fun a _ => Pu.int a) M n
/-- a list of ints and the empty list -/
theorem eqD_lst0 {neg : Bool} {a b : Nat} {ns : List Int} {M : Mem} {Q : KD} (ha : M[a]? = some (.lst (ns.map D.int))) (hb : M[b]? = some (.lst [])) (h : Q (.bl (if neg then !ns.isEmpty else ns.isEmpty)) M) : eqD neg (.obj a) (.obj b) M Q := by
  have s : ∀ ps : List PyData, (∀ p ∈ ps, Pn 0 p) → SeqAt.shaped (.list ps) = true := fun ps h => by
    obtain ⟨x, y⟩ := pn_all ps h
    unfold SeqAt.shaped
    rw [PyData.canLay0, PyData.depth, x, decide_eq_true (by omega)]
    rfl
  refine ⟨1, .list (ns.map .int), .list [], ?_, ?_, s _ fun p hp => ?_, s [] (by simp), ?_⟩
  · rw [pyM, ha]
    show (pyMs M 0 (ns.map D.int)).map PyData.list = _
    rw [pyMs_ints]
    rfl
  · rw [pyM, hb]
    show (pyMs M 0 []).map PyData.list = _
    rw [pyMs]
    rfl
  · obtain ⟨n, _, rfl⟩ := List.mem_map.mp hp
    exact Pn.int 0 n
  · have e : PyData.eqv (.list (ns.map .int)) (.list []) = ns.isEmpty := by
      rw [PyData.eqv]
      cases ns with
      | nil => rw [List.map_nil, PyData.eqvAll]; rfl
      | cons n ns => rw [List.map_cons, PyData.eqvAll]; rfl
    rw [e]
    exact h
end Dl
set_option Elab.async false
set_option linter.all false
set_option maxRecDepth 100000
set_option maxHeartbeats 4000000
namespace Dl
open PySem PySem.Spec PyProof.Rows L2 GxR Gn
theorem tuple_mul1 (l : Addr) (items : Array Value) (n : Nat) (sl : Array (Option Value)) (dd : Option Addr) (x : Int) (u : Tok) (c0 : (decide (x < -(2 ^ 63)) || decide (x ≥ 2 ^ 63)) = false) (c1 : (items.isEmpty || x == 1) = true) :
    Meets (Builtin.«tuple.__mul__» ⟨[.ref l, .int x u], []⟩) (fun _ R s => s.heap.get? l = some { cls := .type "tuple", dict := dd, data := .seq items n, slots := sl } ∧
      R (.ok (.ret (Value.ref l))) s) :=
  .of_wp fun prog w A R s h => by
    obtain ⟨hp, g, d, tk, os⟩ := s
    obtain ⟨hl, h⟩ := h
    have f1 := AutoSeq1.idx_int
    wp_walk using wpAny_loadPart' hl
    refine wpAny_ite_false (decide_eq_false (by rw [c0]; exact Bool.false_ne_true)) ?_
    wp_walk using wpAny_loadPart' hl
    exact ⟨_, rfl, h⟩
theorem tuple_mul0 (l : Addr) (items : Array Value) (n : Nat) (sl : Array (Option Value)) (dd : Option Addr) (x : Int) (u : Tok) (c0 : (decide (x < -(2 ^ 63)) || decide (x ≥ 2 ^ 63)) = false) (c1 : (items.isEmpty || x == 1) = false) (c2 : (decide (x ≤ 0) || items.isEmpty) = true) :
    Meets (Builtin.«tuple.__mul__» ⟨[.ref l, .int x u], []⟩) (fun _ R s => s.heap.get? l = some { cls := .type "tuple", dict := dd, data := .seq items n, slots := sl } ∧
      R (.ok (.ret (Value.ref s.heap.objs.size))) { s with heap := s.heap.push { cls := Value.type "tuple", data := Data.seq #[] }, toks := s.toks }) :=
  .of_wp fun prog w A R s h => by
    obtain ⟨hp, g, d, tk, os⟩ := s
    obtain ⟨hl, h⟩ := h
    have f1 := AutoSeq1.idx_int
    wp_walk using wpAny_loadPart' hl
    refine wpAny_ite_false (decide_eq_false (by rw [c0]; exact Bool.false_ne_true)) ?_
    wp_walk using wpAny_loadPart' hl
    repeat (first
      | (refine wpAny_ite_false (decide_eq_false (by rw [c1]; exact Bool.false_ne_true)) ?_; wp_walk using wpAny_loadPart' hl)
      | (refine wpAny_ite_true (decide_eq_true c2) ?_; wp_walk using wpAny_loadPart' hl))
    exact ⟨_, rfl, h⟩
def rRep1 (K : PySem.W.Frag) : R2 := fun x y H Q => ∃ l k xs, x = .ref l ∧ y = .int k ∧ SqT K H l xs ∧ ((k = 1 ∧ Q (.ref l) H) ∨ (xs ≠ [] ∧ k ≤ 0 ∧ -1000 ≤ k ∧ ∀ p, H p = none → Q (.ref p) (upd H p (.tup []))))
theorem op_rep1 {X : Cx} : OpR X (binaryOp .Mult) (rRep1 X.K) := by
  intro pins s σ H x y v u Q I rx ry h
  obtain ⟨l, k, xs, rfl, rfl, hT, q⟩ := h
  cases rx
  obtain ⟨t, rfl⟩ := ry
  obtain ⟨its, r, ⟨⟨cls, dd, data, sl⟩, ho, hc, n, hd⟩, hs⟩ := I.tuple hT
  simp only at hc hd
  subst hc hd
  rcases q with ⟨rfl, q⟩ | ⟨hne, h1, h2, q⟩
  · have c1 : (its.toArray.isEmpty || (1 : Int) == 1) = true := by simp
    exact wpAny_binaryOp_repeat_ref (T := "tuple") (U := "int") (by decide) ⟨_, ho, rfl⟩ (fun s' => typeIs_int s' 1 t) noFill_tuple_mul F.fills_int_mul F.slot_int_rmul repeat_tuple F.slot_int_index.lookup
      (call_meets F.slot_int_rmul (typeIs_int s 1 t) F.entry_int_rmul (F.args_int_rmul_2 _ _) (int_rmul_tuple 1 t l its.toArray n dd sl)
        ⟨ho, rfl, ⟨_, ho, rfl⟩, call_meets F.slot_tuple_mul ⟨_, ho, rfl⟩ F.entry_tuple_mul (F.args_tuple_mul_2 _ _) (tuple_mul1 l its.toArray n sl dd 1 t (by decide) c1) ⟨ho, ⟨.ref l, H, I, rfl, q⟩⟩⟩)
  · have hle : its.length = xs.length := r.length.symm
    have hn : its ≠ [] := fun e => hne (by
      rw [e] at hle
      exact List.eq_nil_of_length_eq_zero hle.symm)
    have hi : its.toArray.isEmpty = false := by
      cases its with
      | nil => exact absurd rfl hn
      | cons a b => rfl
    have c0 : (decide (k < -(2 ^ 63)) || decide (k ≥ 2 ^ 63)) = false := by
      rw [decide_eq_false (by omega), decide_eq_false (by omega)] <;> rfl
    have c1 : (its.toArray.isEmpty || k == 1) = false := by
      rw [hi, Bool.false_or]
      exact beq_eq_false_iff_ne.mpr (by omega)
    have c2 : (decide (k ≤ 0) || its.toArray.isEmpty) = true := by rw [decide_eq_true h1]; rfl
    refine wpAny_binaryOp_repeat_ref (T := "tuple") (U := "int") (by decide) ⟨_, ho, rfl⟩ (fun s' => typeIs_int s' k t) noFill_tuple_mul F.fills_int_mul F.slot_int_rmul repeat_tuple F.slot_int_index.lookup
      (call_meets F.slot_int_rmul (typeIs_int s k t) F.entry_int_rmul (F.args_int_rmul_2 _ _) (int_rmul_tuple k t l its.toArray n dd sl)
        ⟨ho, rfl, ⟨_, ho, rfl⟩, call_meets F.slot_tuple_mul ⟨_, ho, rfl⟩ F.entry_tuple_mul (F.args_tuple_mul_2 _ _) (tuple_mul0 l its.toArray n sl dd k t c0 c1 c2) ⟨ho, ?_⟩⟩)
    refine ⟨.ref s.heap.objs.size, _, I.laid (t' := s.toks) (o := .tup []) (fun b ob q => Heap.get?_push_of_some _ q) (Nat.le_refl _) ?_, rfl, q _ (I.hok.fresh (Nat.le_refl _))⟩
    exact ⟨by simp, [], .nil, IsTup.new _ _⟩
/-- times, of anything that the laws multiply -/
def mulA (x y : D) (M : Mem) (Q : KD) : Prop := match x, y with
  | .tup ds, .int k => (k = 1 ∧ Q (.tup ds) M) ∨ (ds ≠ [] ∧ k ≤ 0 ∧ -1000 ≤ k ∧ Q (.tup []) M) ∨ mulD (.tup ds) (.int k) M Q
  | x, y => mulD x y M Q
@[simp] theorem mulA_int {i j : Int} {M : Mem} {Q : KD} : mulA (.int i) (.int j) M Q ↔ CMulW i j ∧ Q (.int (i * j)) M := Iff.rfl
theorem mulA_tup {ds : List D} {k : Int} {M : Mem} {Q : KD} (h0 : ds ≠ []) (h1 : -1000 ≤ k) (h2 : k ≤ 1000) (h3 : ds.length ≤ 1000) (h : Q (.tup (List.replicate k.toNat ds).flatten) M) : mulA (.tup ds) (.int k) M Q := by
  by_cases e1 : k = 1
  · subst e1
    refine .inl ⟨rfl, ?_⟩
    simpa using h
  · by_cases e2 : k ≤ 0
    · refine .inr (.inl ⟨h0, e2, h1, ?_⟩)
      have : k.toNat = 0 := by omega
      rw [this] at h
      simpa using h
    · exact .inr (.inr ⟨h0, by omega, h2, h3, h⟩)
section
variable {X : Cx} {Ts : Tbs} {E : XK} {pos : Pos} {a b : Expr} {ta tb : TEd}
def rMulA (X : Cx) : R2 := fun x y H Q => rMulH X.K x y H Q ∨ rRep1 X.K x y H Q
theorem op_mulA : OpR X (binaryOp .Mult) (rMulA X) := op_mulH.or op_rep1
theorem od_mulA : OpD X Ts (rMulA X) mulA := fun ρ M H x y v u Q Qd R sx sy h k => by
  have sx' := sx
  have sy' := sy
  cases sx <;> cases sy <;> first
    | exact .inl (od_mul ρ M H _ _ _ _ Q Qd R sx' sy' h k)
    | skip
  rename_i a xs ds ha hs j
  rcases h with ⟨e, q⟩ | ⟨h0, h1, h2, q⟩ | h
  · exact .inr ⟨a, j, xs, rfl, rfl, ha, .inl ⟨e, k.same R q sx'⟩⟩
  · exact .inr ⟨a, j, xs, rfl, rfl, ha, .inr ⟨fun e => h0 ((shs_nil hs).mp e), h1, h2, fun p hp => newTup R .nil k q hp⟩⟩
  · exact .inl (od_mul ρ M H _ _ _ _ Q Qd R sx' sy' h k)
theorem qe_mulA (ha : QE X Ts E a ta) (hb : QE X Ts E b tb) : QE X Ts E (.BinOp a .Mult b pos) (dOp mulA ta tb) := qe_op op_mulA od_mulA ha hb
end
end Dl
set_option Elab.async false
set_option linter.all false
set_option maxRecDepth 100000
set_option maxHeartbeats 4000000
namespace Dl
open PySem PySem.Spec PyProof.Rows L2 GxR Gn
/-- data whose text is short -/
structure Sz (n d : Nat) (p : PyData) : Prop where
  sh : PyData.showable p = true
  nd : p.hasDict = false
  dp : p.depth ≤ d
  ln : p.shown.length ≤ n
theorem Sz.mono {n n' d d' : Nat} {p : PyData} (h : Sz n d p) (hn : n ≤ n') (hd : d ≤ d') : Sz n' d' p := ⟨h.sh, h.nd, Nat.le_trans h.dp hd, Nat.le_trans h.ln hn⟩
theorem str_app_len (a b : Str) : (a ++ b).length = a.length + b.length := by
  show (a.cps ++ b.cps).size = _
  rw [Array.size_append]
  rfl
theorem join_le {k : Nat} : ∀ ts : List Str, (∀ t ∈ ts, t.length ≤ k) → (Str.join ", " ts).length ≤ ts.length * (k + 2)
  | [], _ => Nat.zero_le _
  | [x], h => by
    have := h x List.mem_cons_self
    show x.length ≤ 1 * (k + 2)
    omega
  | x :: y :: r, h => by
    have h1 := h x List.mem_cons_self
    have h2 := join_le (y :: r) fun t ht => h t (List.mem_cons_of_mem _ ht)
    show (x ++ ", " ++ Str.join ", " (y :: r)).length ≤ (r.length + 1 + 1) * (k + 2)
    rw [str_app_len, str_app_len]
    have e : ((", " : Str)).length = 2 := rfl
    rw [e, Nat.succ_mul]
    have h3 : (Str.join ", " (y :: r)).length ≤ (r.length + 1) * (k + 2) := h2
    omega
theorem sz_all {k d : Nat} : ∀ ps : List PyData, (∀ p ∈ ps, Sz k d p) → PyData.showableAll ps = true ∧ PyData.hasDictAll ps = false ∧ PyData.depthAll ps ≤ d ∧ (PyData.shownAll ps).length = ps.length ∧ ∀ t ∈ PyData.shownAll ps, t.length ≤ k
  | [], _ => ⟨by simp [PyData.showableAll], by simp [PyData.hasDictAll], by simp [PyData.depthAll], by simp [PyData.shownAll], by simp [PyData.shownAll]⟩
  | p :: r, h => by
    obtain ⟨a, b, c, e, f⟩ := sz_all r fun x hx => h x (List.mem_cons_of_mem _ hx)
    have q := h p List.mem_cons_self
    rw [PyData.showableAll, PyData.hasDictAll, PyData.depthAll, PyData.shownAll, q.sh, q.nd, a, b]
    refine ⟨rfl, rfl, Nat.max_le.mpr ⟨q.dp, c⟩, by rw [List.length_cons, List.length_cons, e], fun t ht => ?_⟩
    rcases List.mem_cons.mp ht with rfl | ht
    · exact q.ln
    · exact f t ht
theorem Sz.tup {k d m : Nat} {ps : List PyData} (h : ∀ p ∈ ps, Sz k d p) (hm : ps.length ≤ m) : Sz (m * (k + 2) + 3) (d + 1) (.tuple ps) := by
  obtain ⟨a, b, c, e, f⟩ := sz_all ps h
  refine ⟨by rw [PyData.showable]; exact a, by rw [PyData.hasDict]; exact b, by rw [PyData.depth]; omega, ?_⟩
  rw [PyData.shown]
  unfold tupleText
  rw [str_app_len, str_app_len]
  have h1 := join_le _ f
  rw [e] at h1
  have h2 : ((if (PyData.shownAll ps).length == 1 then ",)" else ")" : String) : Str).length ≤ 2 := by split <;> decide
  have h3 : ((("(" : Str))).length = 1 := rfl
  have h4 : ps.length * (k + 2) ≤ m * (k + 2) := Nat.mul_le_mul_right _ hm
  omega
theorem Sz.int {i : Int} (h : i.natAbs < 100000000) : Sz 10 0 (.int i) := by
  refine ⟨?_, rfl, by rw [PyData.depth]; decide, ?_⟩
  · rw [PyData.showable]
    refine decide_eq_true ?_
    show (Int.natAbs i).log2 < 1920
    by_cases h0 : i.natAbs = 0
    · rw [h0]; decide
    · exact (Nat.log2_lt h0).mpr (Nat.lt_trans h (by decide))
  · rw [PyData.shown]
    have := int_text_length_le10 (a := i) (k := 8) (by decide) h
    show (Str.ofString (toString i)).length ≤ 10
    rw [PySem.ofString_length]
    omega
/-- repr of a longer one -/
theorem repr_tupL {n d : Nat} {ds : List D} {p : PyData} {M : Mem} {Q : KD} (hp : Pu (.tup ds) p) (hs : Sz n d p) (hn : n ≤ sizeLine) (hd : d ≤ 60) (q : Q (.str p.shown) M) : reprD [.tup ds] M Q :=
  ⟨0, p, hp M 0, hs.sh, hs.nd, Nat.le_trans hs.dp hd, Nat.le_trans hs.ln hn, trivial, q⟩
end Dl
set_option Elab.async false
set_option linter.all false
set_option maxRecDepth 100000
set_option maxHeartbeats 4000000
namespace Dl
open PySem PySem.Spec PyProof.Rows L2 GxR Gn
section
variable {K : PySem.W.Frag} {Ts : Tbs} {ρ : Rho} {M : Mem} {H : Hp}
/-- the columns of rows of one width -/
def colsD (rows : List (List D)) (w : Nat) : List D := (List.range w).map fun i => D.tup (rows.map fun r => r.getD i .non)
/-- the tuples of rows -/
def TupsAt (K : PySem.W.Frag) (ρ : Rho) (H : Hp) (as : List Addr) (rows : List (List D)) : Prop := as.length = rows.length ∧ ∀ (k : Nat) (a : Addr) (r : List D), as[k]? = some a → rows[k]? = some r → ∃ zs, SqT K H a zs ∧ Shs K ρ H r zs
theorem TupsAt.grw {ρ' : Rho} {H' : Hp} {as : List Addr} {rows : List (List D)} (g : Grw ρ H ρ' H') (h : TupsAt K ρ H as rows) : TupsAt K ρ' H' as rows := ⟨h.1, fun k a r e1 e2 => by
  obtain ⟨zs, h1, h2⟩ := h.2 k a r e1 e2
  exact ⟨zs, SqT.grw g h1, Shs.grw g _ _ h2⟩⟩
end
section
variable {X : Cx} {Ts : Tbs} {E : XK} {pos p p2 p3 : Pos} {a : Expr} {ta : TEd} {x : Str}
def colsQ (ds : List D) (M : Mem) (Q : List D → (Mem → Prop) → Mem → Prop) : Prop := ∃ (rows : List (List D)) (w : Nat), ds = rows.map D.tup ∧ rows ≠ [] ∧ (∀ r ∈ rows, r.length = w) ∧ rows.length ≤ sizeLine ∧ Q (colsD rows w) (fun _ => True) M
@[simp] def dZipS (te : TEd) : TId := fun S M Q E => te S M (fun d M1 => seqD d M1 fun ds _ M2 => colsQ ds M2 Q) E
end
end Dl
set_option Elab.async false
set_option linter.all false
set_option maxRecDepth 100000
set_option maxHeartbeats 4000000
namespace Zn
open PySem PySem.Spec PyProof.Rows L2 GxR SrtO
/-- these ints as a key -/
def kI (k : List Int) : List Key := k.map Sum.inl
variable {X : Cx}
end Zn
set_option Elab.async false
set_option linter.all false
set_option maxRecDepth 100000
set_option maxHeartbeats 4000000
namespace Dl
open PySem PySem.Spec PyProof.Rows L2 GxR Gn
def keysD : List D → Option (List Key)
  | [] => some []
  | d :: ds => match keyOf d, keysD ds with
    | some k, some ks => some (k :: ks)
    | _, _ => none
section
variable {X : Cx} {Ts : Tbs} {E : XK} {pos p apos tpos cpos : Pos} {a b c e o i f : Expr} {es : List Expr} {ta tb to ti te tx : TEd} {t : TAd}
@[simp] def dNewT : TEd := fun S M Q E => Q (.obj M.length) (M ++ [.dT []])
@[simp] def dNewK : TEd := fun S M Q E => Q (.obj M.length) (M ++ [.dK []])
theorem qe_newK : QE X Ts E (.Dict [] [] pos) dNewK := peLe pe_dnewK fun σ H Q ⟨ρ, S, M, Qd, Ed, R, sl, q, k, x⟩ p hp =>
  k _ _ q _ _ _ (grw_ext R hp) (R.cellNew hp ⟨[], rfl, .nil⟩) (.obj (by unfold ext; rw [if_pos rfl]))
@[simp] def setT (x y z : D) (M : Mem) (Q : Mem → Prop) : Prop := ∃ n kvs ds ks, x = .obj n ∧ M[n]? = some (.dT kvs) ∧ y = .tup ds ∧ keysD ds = some ks ∧ kvs.length < sizeLine ∧ Q (M.set n (.dT (putKD kvs ks z)))
@[simp] def dPutT (to ti te : TEd) : TSd := fun D E S M => te S M (fun d M1 => to S M1 (fun x M2 => ti S M2 (fun y M3 => setT x y d M3 (D.nx S)) E) E) E
def kyI (k : List Int) : D := .tup (k.map D.int)
def getT2 (x y z : D) (M : Mem) (Q : KD) : Prop := ∃ n kvs ds ks, x = .obj n ∧ M[n]? = some (.dT kvs) ∧ y = .tup ds ∧ keysD ds = some ks ∧ Q ((valD kvs ks).getD z) M
end
end Dl
set_option Elab.async false
set_option linter.all false
set_option maxRecDepth 100000
set_option maxHeartbeats 4000000
namespace Dl
open PySem PySem.Spec PyProof.Rows L2 GxR Gn
section
variable {X : Cx} {Ts : Tbs} {E : XK} {pos p apos tpos cpos : Pos} {a b c e o i f : Expr} {es : List Expr} {ta tb to ti te tx : TEd} {t : TAd}
@[simp] def dPar3 (i j l : Nat) (t : TAd) : TSd := fun D E S M => t S M (fun ds M1 => ∃ d e f, ds = [d, e, f] ∧ D.nx (((S.set i (some d)).set j (some e)).set l (some f)) M1) E
end
end Dl
set_option Elab.async false
set_option linter.all false
set_option maxRecDepth 100000
set_option maxHeartbeats 4000000
set_option Elab.async false
set_option linter.all false
set_option maxRecDepth 100000
set_option maxHeartbeats 4000000
set_option Elab.async false
set_option linter.all false
set_option maxRecDepth 100000
set_option maxHeartbeats 4000000
namespace Dl
open PySem PySem.Spec PyProof.Rows L2 GxR Gn
def dropKD {κ : Type} [DecidableEq κ] (kvs : List (κ × D)) (k : κ) : List (κ × D) := kvs.filter fun kv => decide (kv.1 ≠ k)
section
variable {X : Cx} {Ts : Tbs} {E : XK} {pos p apos tpos cpos : Pos} {a b c e o i f : Expr} {es : List Expr} {ta tb to ti te ty tz : TEd} {t : TAd}
/-- d.get(t, x) -/
@[simp] def dGetT (to ty tz : TEd) : TEd := fun S M Q E => to S M (fun x M1 => ∃ n kvs, x = .obj n ∧ M1[n]? = some (.dT kvs) ∧ ty S M1 (fun y M2 => tz S M2 (fun z M3 => getT2 x y z M3 Q) E) E) E
/-- d.pop(t), there -/
@[simp] def dPopT (to ty : TEd) : TEd := fun S M Q E => to S M (fun x M1 => ∃ n kvs, x = .obj n ∧ M1[n]? = some (.dT kvs) ∧ ty S M1 (fun y M2 => ∃ kvs2 ds ks v, M2[n]? = some (.dT kvs2) ∧ y = .tup ds ∧ keysD ds = some ks ∧ valD kvs2 ks = some v ∧ Q v (M2.set n (.dT (dropKD kvs2 ks)))) E) E
end
end Dl
set_option Elab.async false
set_option linter.all false
set_option maxRecDepth 100000
set_option maxHeartbeats 4000000
namespace Dl
open PySem PySem.Spec PyProof.Rows L2 GxR Gn
section
variable {X : Cx} {Ts : Tbs} {E : XK} {pos pos2 p p2 tpos : Pos} {a b : Expr} {t : TAd} {elts : List Expr} {kk : Nat}
@[simp] def dEnumZ (t : TAd) : TId := fun S M Q E => t S M (fun ds M1 => ∃ xs ys, ds = [.tup xs, .tup ys] ∧ Q (enumD (zipD xs ys)) (fun _ => True) M1) E
end
end Dl
set_option Elab.async false
set_option linter.all false
set_option maxRecDepth 100000
set_option maxHeartbeats 4000000
namespace Dl
open PySem PySem.Spec PyProof.Rows L2 GxR Gn
end Dl
set_option Elab.async false
set_option linter.all false
set_option maxRecDepth 100000
set_option maxHeartbeats 4000000
set_option Elab.async false
set_option linter.all false
set_option maxRecDepth 100000
set_option maxHeartbeats 4000000
namespace Dl
open PySem PySem.Spec PyProof.Rows L2 GxR Gn
section
variable {X : Cx} {Ts : Tbs} {E : XK} {pos2 p2 tpos : Pos} {a b : Expr} {t : TAd} {elts : List Expr} {kk : Nat}
@[simp] def dZipM (t : TAd) : TId := fun S M Q E => t S M (fun ds M1 => ∃ i xs ys, ds = [.obj i, .tup ys] ∧ M1[i]? = some (.lst xs) ∧ Q (zipD xs ys) (fun M => M[i]? = some (.lst xs)) M1) E
end
end Dl
set_option Elab.async false
set_option linter.all false
set_option maxRecDepth 100000
set_option maxHeartbeats 4000000
set_option Elab.async false
set_option linter.all false
set_option maxRecDepth 100000
set_option maxHeartbeats 4000000
namespace Dl
open PySem PySem.Spec PyProof.Rows L2 GxR Gn
section
variable {X : Cx} {Ts : Tbs} {E : XK} {pos2 p2 tpos : Pos} {a b : Expr} {t : TAd} {elts : List Expr} {kk : Nat}
@[simp] def dZipX (t : TAd) : TId := fun S M Q E => t S M (fun ds M1 => ∃ i xs ys, ds = [.tup xs, .obj i] ∧ M1[i]? = some (.lst ys) ∧ Q (zipD xs ys) (fun M => M[i]? = some (.lst ys)) M1) E
/-- zip of two tuples, two lists, or a tuple and a list -/
@[simp] def dZipG (t : TAd) : TId := fun S M Q E => dZip t S M Q E ∨ dZipX t S M Q E
end
end Dl
set_option Elab.async false
set_option linter.all false
set_option maxRecDepth 100000
set_option maxHeartbeats 4000000
namespace Dl
open PySem PySem.Spec PyProof.Rows L2 GxR Gn
section
variable {X : Cx} {Ts : Tbs} {E : XK} {pos : Pos}
def dGLst (n : Nat) (t : TGsd) : TGd := fun d S M Q => ∃ i ds, d = .obj i ∧ M[i]? = some (.lst ds) ∧ ds.length = n ∧ t ds S M Q
@[simp] theorem dGLst_obj {n i : Nat} {t : TGsd} {S : Sl} {M : Mem} {Q : Sl → Mem → Prop} : dGLst n t (.obj i) S M Q ↔ ∃ ds, M[i]? = some (.lst ds) ∧ ds.length = n ∧ t ds S M Q :=
  ⟨fun ⟨_, ds, e, h⟩ => by cases e; exact ⟨ds, h⟩, fun ⟨ds, h⟩ => ⟨_, ds, rfl, h⟩⟩
end
end Dl
set_option Elab.async false
set_option linter.all false
set_option maxRecDepth 100000
set_option maxHeartbeats 4000000
namespace Dl
open PySem PySem.Spec PyProof.Rows L2 GxR Gn
theorem RoomG.make {k : Nat} {A : Around} (h : RoomG (k + 1) A) (C : Addr) (us : List Value) (kw : List (Str × Value)) : RoomG k (A.under (.builtin "type.__call__" ⟨.ref C :: us, kw⟩)) := ⟨h.r.make C us kw, h.g⟩
section
variable {X : Cx} {k : Nat} {f C : Addr} {fd : FuncData} {n : Nat} {ps : List Str} {sp : Sp} {E : XK} {x : Str} {p pos : Pos} {e : Expr} {es : List Expr} {t : TA}
theorem makeRun {pins : List (Addr × Obj)} {σ : L2.St} {H : Hp} {s : Shared} {Q : VK} {us : List Value} {vs : List V} (M : Mk X.K C f) (F : FnG X.prog X.w X.K X.mg X.base k f fd n ps sp) (hr : RoomG (k + 1) X.A) (hb : Binds X.K fd ps []) (tk : Takes X (fun c d _ H => E c d H))
    (I : Inv X pins σ H s) (r : Vals vs us) (h : ∀ x dx, H x = none → H dx = none → dx ≠ x → sp (.ref x :: vs) (upd (upd H dx (.own x)) x (.ins C dx [])) (fun v H2 => v = .non ∧ Q (.ref x) H2) E) :
    wpAny (model X.prog X.w) X.A (call (.ref C) us) (EP X pins σ Q) X.xe s := by
  have hq := h (s.heap.objs.size + 1) s.heap.objs.size (I.hok.fresh (Nat.le_succ _)) (I.hok.fresh (Nat.le_refl _)) (Nat.ne_of_lt (Nat.lt_succ_self _))
  have I2 := Inv.made (C := C) I
  have r2 : Vals (V.ref (s.heap.objs.size + 1) :: vs) (Value.ref (s.heap.objs.size + 1) :: us) := .cons rfl r
  have hl : (Value.ref (s.heap.objs.size + 1) :: us ++ []).length = ps.length := by
    have e := r2.length
    rw [List.append_nil, ← e, F.cnt]
    exact F.len _ _ _ _ hq
  have hb2 := hb _ (Value.ref (s.heap.objs.size + 1) :: us) I2.kIn hl
  rw [List.append_nil] at hb2
  refine wpAny_call (make_map (f := f) I.kIn M.makes M.init (beq_iff_eq.mp M.fn) (codeAny_mono (F.run _ X.stack _ _ ⟨Value.ref (s.heap.objs.size + 1) :: us, []⟩ (Value.ref (s.heap.objs.size + 1) :: us) _ _ E (hr.make C us [])
    (I2.env0.make C us []) hb2 r2 hq) fun rr s' hq' => ?_))
  match rr, hq' with
  | .error e, hq' => exact xe_of tk I2 hq'
  | .ok (.ret u), hq' =>
    obtain ⟨v, H', I3, rv, ev, q3⟩ := I2.after hq'
    subst ev
    exact ⟨rv, ⟨V.ref (s.heap.objs.size + 1), H', I3, rfl, q3⟩⟩
  | .ok .next, hq' => exact False.elim hq'
  | .ok .brk, hq' => exact False.elim hq'
  | .ok .cont, hq' => exact False.elim hq'
theorem makeG (M : Mk X.K C f) (F : FnG X.prog X.w X.K X.mg X.base k f fd n ps sp) (hr : RoomG (k + 1) X.A) (hg : Gl X x) (hm : X.mg x = some (.ref C)) (hb : Binds X.K fd ps []) (tk : Takes X (fun c d _ H => E c d H))
    (ha : PA X (e :: es) t) (hdb : (x == ("__debug__" : Str)) = false := by decide) (he : starEach (e :: es) X.env = (false, eval e X.env) :: starEach es X.env := by rfl) (hpl : (backTo pos (starEach es X.env)).any (·.1) = false := by rfl) :
    PE X (.Call (.Name x p) (e :: es) [] pos) (tMake C sp [] E t) := by
  refine ⟨fun pins s σ H Q I h => ?_⟩
  refine wpAny_Call_Name_kw (ld_glob I hg hm ?_ hdb)
  refine PySem.W.callWith_K (h₀ := X.base) I.ok.mod.kin M.kp (thn (ha.run pos pins s σ H _ I h) fun us s1 ⟨vs, H1, I1, r, q⟩ => ⟨I1.kIn, ?_⟩) he hpl
  refine makeRun M F hr hb tk I1 r fun x dx h1 h2 h3 => ?_
  have := q x dx h1 h2 h3
  rwa [List.append_nil] at this
end
section
variable {X : Cx} {Ts : Tbs} {k : Nat} {f C : Addr} {fd : FuncData} {n : Nat} {ps : List Str} {sp : SpD} {E : XK} {x : Str} {p pos : Pos} {e : Expr} {es : List Expr} {t : TAd}
/-- C(..): a new object, then its __init__ -/
@[simp] def dMake (C : Addr) (n : Nat) (sp : SpD) (t : TAd) : TEd := fun S M Q E => t S M (fun ds M1 => ds.length + 1 = n ∧ sp (.obj M1.length :: ds) (M1 ++ [.ins C []]) (fun d M2 => d = .non ∧ Q (.obj M1.length) M2) E) E
theorem qe_make (Mk_ : Mk X.K C f) (F : FnD X.prog X.w X.K X.mg X.base Ts k f fd n ps sp) (hr : RoomG (k + 1) X.A) (hg : Gl X x) (hm : X.mg x = some (.ref C)) (hb : Binds X.K fd ps []) (tk : Takes X (fun c d _ H => E c d H))
    (ha : QA X Ts E (e :: es) t) (hdb : (x == ("__debug__" : Str)) = false := by decide) (he : starEach (e :: es) X.env = (false, eval e X.env) :: starEach es X.env := by rfl) (hpl : (backTo pos (starEach es X.env)).any (·.1) = false := by rfl) :
    QE X Ts E (.Call (.Name x p) (e :: es) [] pos) (dMake C n sp t) := peLe (makeG Mk_ F hr hg hm hb tk ha hdb he hpl) fun σ H Q h => by
  obtain ⟨ρ, S, M, Qd, Ed, R, sl, q, kk, xx⟩ := h
  exact ⟨ρ, S, M, _, Ed, R, sl, q, fun ds M1 ⟨hl, q1⟩ ρ1 H1 vs g1 R1 s1 => fun a dx h1 h2 h3 => by
    rw [List.append_nil]
    have R2 := R1.new (o := HO.own a) h2
    have ha2 : upd H1 dx (.own a) a = none := by rw [upd_ne (Ne.symm h3)]; exact h1
    have g2 : Grw ρ1 H1 ρ1 (upd H1 dx (.own a)) := grw_new h2
    have g3 := grw_ext R2 (o := HO.ins C dx []) ha2
    have R3 := R2.cellNew (c := .ins C []) ha2 ⟨dx, [], rfl, .nil⟩
    have so : Sh X.K (ext ρ1 M1.length a) (upd (upd H1 dx (.own a)) a (.ins C dx [])) (.obj M1.length) (.ref a) := .obj (by unfold ext; rw [if_pos rfl])
    refine ⟨by rw [List.length_cons, ← s1.length]; exact hl, _, _, _, _, Ed, R3, .cons so (Shs.grw (g2.tr g3) _ _ s1), q1, fun d M2 ⟨e1, q2⟩ ρ2 H2 v g4 R4 s4 => ?_, xx.grw ((g1.tr g2).tr g3)⟩
    subst e1
    cases s4
    exact ⟨rfl, kk _ _ q2 ρ2 H2 _ (((g1.tr g2).tr g3).tr g4) R4 (Sh.grw g4 _ _ so)⟩, xx⟩
end
end Dl
set_option Elab.async false
set_option linter.all false
set_option maxRecDepth 100000
set_option maxHeartbeats 4000000
set_option Elab.async false
set_option linter.all false
set_option maxRecDepth 100000
set_option maxHeartbeats 4000000
namespace Dl
open PySem PySem.Spec PyProof.Rows L2 GxR Gn
section
variable {X : Cx} {Ts : Tbs} {E : XK} {pos p apos tpos : Pos} {a e o : Expr} {es : List Expr} {ta te to : TEd} {t : TAd} {C f : Addr} {m : Str}
/-- what the attribute of an object of the class at C is -/
def fldC (C : Addr) (x : Str) (d : D) (M : Mem) (Q : KD) : Prop := ∃ i fs v, d = .obj i ∧ M[i]? = some (.ins C fs) ∧ fs.lookup x = some v ∧ Q v M
theorem fldC_of {C : Addr} {x : Str} {i : Nat} {fs : List (Str × D)} {v : D} {M : Mem} {Q : KD} (h1 : M[i]? = some (.ins C fs)) (h2 : fs.lookup x = some v) (q : Q v M) : fldC C x (.obj i) M Q := ⟨i, fs, v, rfl, h1, h2, q⟩
@[simp] def dFldC (C : Addr) (x : Str) (t : TEd) : TEd := fun S M Q E => t S M (fun d M1 => fldC C x d M1 Q) E
theorem qe_fldC (c : Cls X.K C) (n : NoAttr X.K C m) (ha : QE X Ts E a ta) (hb : attributeBase a m X.env (eval a X.env) = eval a X.env := by rfl) : QE X Ts E (.Attribute a m pos) (dFldC C m ta) := peLe (pe_fld ha hb) fun σ H Q ⟨ρ, S, M, Qd, Ed, R, sl, q, k, x⟩ =>
  ⟨ρ, S, M, _, Ed, R, sl, q, fun d M1 ⟨i, fs, v, e, em, h3, q1⟩ ρ1 H1 w g1 R1 s1 => by
    subst e
    obtain ⟨a', dx, vs, r1, g2, s2⟩ := R1.inst em
    cases s1 with
    | obj ea =>
      rw [ea] at r1; cases r1
      obtain ⟨u, e1, e2⟩ := s2.lookup h3
      exact ⟨_, C, dx, vs, u, rfl, g2, c, n, e1, k _ _ q1 ρ1 H1 u g1 R1 e2⟩, x⟩
/-- o.x = e -/
def putC (C : Addr) (x : Str) (d o : D) (M : Mem) (Q : Mem → Prop) : Prop := ∃ i fs, o = .obj i ∧ M[i]? = some (.ins C fs) ∧ fs.length < 1000 ∧ Q (M.set i (.ins C (putD x d fs)))
theorem putC_of {C : Addr} {x : Str} {i : Nat} {fs : List (Str × D)} {d : D} {M : Mem} {Q : Mem → Prop} (h1 : M[i]? = some (.ins C fs)) (h2 : fs.length < 1000) (q : Q (M.set i (.ins C (putD x d fs)))) : putC C x d (.obj i) M Q := ⟨i, fs, rfl, h1, h2, q⟩
@[simp] def dPutC (C : Addr) (x : Str) (to te : TEd) : TSd := fun D E S M => te S M (fun d M1 => to S M1 (fun o M2 => putC C x d o M2 (D.nx S)) E) E
theorem qs_fldC {pos' : Pos} (c : Cls X.K C) (n : NoAttr X.K C m) (ho : QE X Ts E o to) (he : QE X Ts E a ta) (hs : swapsWith a (some (.Attribute o m pos')) pos.line X.env = pure false := by rfl) : QS X Ts E (.Assign [.Attribute o m pos'] a pos) (dPutC C m to ta) := psLe (ps_fld ho he hs) fun D σ H ⟨ρ, S, M, Dd, Ed, R, sl, q, k, kr, kb, kc, x⟩ =>
  ⟨ρ, S, M, _, Ed, R, sl, q, fun d M1 q1 ρ1 H1 v g1 R1 s1 => ⟨ρ1, S, M1, _, Ed, R1, sl.grw g1, q1, fun o M2 ⟨i, fs, e, em, h3, q2⟩ ρ2 H2 w g2 R2 s2 => by
    subst e
    obtain ⟨a', dx, vs, r1, e2, s3⟩ := R2.inst em
    cases s2 with
    | obj ea =>
      rw [ea] at r1; cases r1
      refine ⟨_, C, dx, vs, rfl, e2, c, n, by rw [← s3.length]; exact h3, ?_⟩
      have hc : CSh X.K Ts.w ρ2 H2 (.ins C (putD m d fs)) (.ins C dx (putF m v vs)) := ⟨dx, _, rfl, s3.put (Sh.grw g2 _ _ s1)⟩
      exact k _ _ q2 ρ2 _ σ ((g1.tr g2).tr (grw_set R2 em ea)) (R2.cellSet em ea hc) (((sl.grw g1).grw g2).grw (grw_set R2 em ea)), x.grw g1⟩, x⟩
/-- o.x op= e -/
def augC (C : Addr) (x : Str) (rd : D → D → Mem → KD → Prop) (te : TEd) (D0 : EndsD) (E : KE') (S : Sl) (o : D) (M : Mem) : Prop := ∃ i fs v, o = .obj i ∧ M[i]? = some (.ins C fs) ∧ fs.lookup x = some v ∧
  te S M (fun d M2 => rd v d M2 fun z M3 => ∃ fs', M3[i]? = some (.ins C fs') ∧ fs'.length < 1000 ∧ D0.nx S (M3.set i (.ins C (putD x z fs')))) E
theorem augC_of {C : Addr} {x : Str} {rd : D → D → Mem → KD → Prop} {te : TEd} {D0 : EndsD} {E : KE'} {S : Sl} {i : Nat} {M : Mem} {fs : List (Str × D)} {v : D} (h1 : M[i]? = some (.ins C fs)) (h2 : fs.lookup x = some v)
    (h : te S M (fun d M2 => rd v d M2 fun z M3 => ∃ fs', M3[i]? = some (.ins C fs') ∧ fs'.length < 1000 ∧ D0.nx S (M3.set i (.ins C (putD x z fs')))) E) : augC C x rd te D0 E S (.obj i) M := ⟨i, fs, v, rfl, h1, h2, h⟩
@[simp] def dAugC (C : Addr) (x : Str) (rd : D → D → Mem → KD → Prop) (to te : TEd) : TSd := fun D E S M => to S M (fun o M1 => augC C x rd te D E S o M1) E
theorem qs_augC {op : Operator} {r : R2} {rd : D → D → Mem → KD → Prop} (c : Cls X.K C) (n : NoAttr X.K C m) (ho : QE X Ts E o to) (he : QE X Ts E a ta) (hr : OpR X (inplaceOp op) r) (hd : OpD X Ts r rd) : QS X Ts E (.AugAssign (.Attribute o m tpos) op a pos) (dAugC C m rd to ta) :=
  psLe (ps_fldaug (rd := r) ho he fun pins s σ H x y u v Q I rx ry q => hr pins s σ H x y u v Q I rx ry q) fun D σ H ⟨ρ, S, M, Dd, Ed, R, sl, q, k, kr, kb, kc, x⟩ =>
  ⟨ρ, S, M, _, Ed, R, sl, q, fun d M1 ⟨i, fs, v, e, em, h3, q1⟩ ρ1 H1 w g1 R1 s1 => by
    subst e
    obtain ⟨a', dx, vs, r1, e2, s3⟩ := R1.inst em
    cases s1 with
    | @obj _ aa ea =>
      rw [ea] at r1; cases r1
      obtain ⟨u, l1, l2⟩ := s3.lookup h3
      refine ⟨_, C, dx, vs, u, rfl, e2, c, n, l1, ρ1, S, M1, _, Ed, R1, sl.grw g1, q1, fun y M2 q2 ρ2 H2 yv g2 R2 s2 => ?_, x.grw g1⟩
      refine hd ρ2 M2 H2 v y u yv _ _ R2 (Sh.grw g2 _ _ l2) s2 q2 fun z M3 ⟨fs', em', hz, q3⟩ ρ3 H3 zv g3 R3 s4 => ?_
      obtain ⟨a2, dx', vs', r2, e3, s5⟩ := R3.inst em'
      rw [g3.r _ _ (g2.r _ _ ea)] at r2
      cases r2
      refine ⟨dx', vs', e3, by rw [← s5.length]; exact hz, ?_⟩
      have hc : CSh X.K Ts.w ρ3 H3 (.ins C (putD m z fs')) (.ins C dx' (putF m zv vs')) := ⟨dx', _, rfl, s5.put s4⟩
      have ea3 := g3.r _ _ (g2.r _ _ ea)
      exact k _ _ q3 ρ3 _ σ (((g1.tr g2).tr g3).tr (grw_set R3 em' ea3)) (R3.cellSet em' ea3 hc) ((((sl.grw g1).grw g2).grw g3).grw (grw_set R3 em' ea3)), x⟩
theorem qs_augCI {op : Operator} {Cc : Int → Int → Prop} {g : Int → Int → Int} (c : Cls X.K C) (n : NoAttr X.K C m) (ho : QE X Ts E o to) (he : QE X Ts E a ta) (hr : OpR X (inplaceOp op) (rI Cc fun i j => .int (g i j))) :
    QS X Ts E (.AugAssign (.Attribute o m tpos) op a pos) (dAugC C m (intD Cc fun i j => .int (g i j)) to ta) := qs_augC c n ho he hr (fun ρ M H x y v u Q Qd R sx sy h k => od_int (X := X) (fun _ _ _ _ => .int _) ρ M H x y v u Q Qd R sx sy h k)
/-- o.m(..) -/
def methC (C : Addr) (m : Str) (o : D) (M : Mem) (K : Prop) : Prop := (∃ i fs, o = .obj i ∧ M[i]? = some (.ins C fs) ∧ fs.lookup m = none) ∧ K
theorem methC_of {C : Addr} {m : Str} {i : Nat} {fs : List (Str × D)} {M : Mem} {K : Prop} (h1 : M[i]? = some (.ins C fs)) (h2 : fs.lookup m = none) (q : K) : methC C m (.obj i) M K := ⟨⟨i, fs, rfl, h1, h2⟩, q⟩
@[simp] def dMethC (C : Addr) (m : Str) (n : Nat) (sp : SpD) (ta : TEd) (t : TAd) : TEd := fun S M Q E => ta S M (fun o M1 => methC C m o M1 (t S M1 (fun ds M2 => ds.length + 1 = n ∧ sp (o :: ds) M2 Q E) E)) E
variable {fd : FuncData} {k n : Nat} {ps : List Str} {sp : SpD}
theorem qe_methC {pl : Sem Bool} (ho : QE X Ts E o ta) (c : Cls X.K C) (hm : Meth X.K C m f) (F : FnD X.prog X.w X.K X.mg X.base Ts k f fd n ps sp) (hr : RoomG k X.A) (hb : Binds X.K fd ps []) (tk : Takes X (fun c d _ H => E c d H)) (ha : QA X Ts E (e :: es) t)
    (hst : starEach (e :: es) X.env = (false, eval e X.env) :: starEach es X.env := by rfl) (hpl : (backTo pos (starEach es X.env)).any (·.1) = false := by rfl)
    (ht : eval (.Call (.Attribute o m apos) (e :: es) [] pos) X.env = (do
      let ov ← eval o X.env
      standAt apos.atName
      let (f, first) ← holding [ov] (getMethod ov m pl)
      callWith pos f first (backTo pos (starEach (e :: es) X.env)) (backToKw pos (keywordEach [] X.env))) := by rfl) :
    QE X Ts E (.Call (.Attribute o m apos) (e :: es) [] pos) (dMethC C m n sp ta t) := peLe (methG ho c hm F hr hb .nil tk ha hst hpl ht) fun σ H Q ⟨ρ, S, M, Qd, Ed, R, sl, q, kk, xx⟩ =>
  ⟨ρ, S, M, _, Ed, R, sl, q, fun d M1 ⟨⟨i, fs, e, em, hl⟩, q1⟩ ρ1 H1 v g1 R1 s1 => by
    subst e
    obtain ⟨a', dx, vs, r1, e2, s3⟩ := R1.inst em
    have s1' := s1
    cases s1 with
    | @obj _ a ea =>
      rw [ea] at r1; cases r1
      exact ⟨_, dx, vs, rfl, e2, s3.lookupN hl, ρ1, S, M1, _, Ed, R1, sl.grw g1, q1, fun ds M2 ⟨hl2, q2⟩ ρ2 H2 us g2 R2 s2 => by
        show spOf X.K Ts n sp (_ :: (us ++ [])) H2 Q E
        rw [List.append_nil]
        exact ⟨by rw [List.length_cons, ← s2.length]; exact hl2, ρ2, M2, _, Qd, Ed, R2, .cons (Sh.grw g2 _ _ s1') s2, q2, kk.grw (g1.tr g2), xx.grw (g1.tr g2)⟩, xx.grw g1⟩, xx⟩
/-- o.m() -/
@[simp] def dMethC0 (C : Addr) (m : Str) (sp : SpD) (ta : TEd) : TEd := fun S M Q E => ta S M (fun o M1 => methC C m o M1 (sp [o] M1 Q E)) E
/-- {t: v} -/
@[simp] def dDispT (tk tv : TEd) : TEd := fun S M Q E => tk S (M ++ [.dT []]) (fun x M1 => tv S M1 (fun y M2 => M2[M.length]? = some (.dT []) ∧ ∃ ds ks, x = .tup ds ∧ keysD ds = some ks ∧ Q (.obj M.length) (M2.set M.length (.dT [(ks, y)]))) E) E
end
/-- a method, or __init__, as the class has it -/
structure Dm (K : PySem.W.Frag) (x qual : Str) (st : Stmt) (ps : List Str) (f : Addr) (fd : FuncData) : Prop where
  F : Fun K x qual st f fd
  b : Binds K fd ps []
end Dl
set_option Elab.async false
set_option linter.all false
set_option maxRecDepth 100000
set_option maxHeartbeats 4000000
namespace Dl
open PySem PySem.Spec PyProof.Rows L2 GxR Gn
/-- // by a divisor below 2 ^ 9000 either way -/
def CDivA (_ j : Int) : Prop := j ≠ 0 ∧ j.natAbs.log2 < 9000
theorem cdiv_of {i j : Int} {b : Nat} (h : j ≠ 0) (hb : j.natAbs < 2 ^ b) (h9 : b ≤ 9000 := by decide) (h0 : 0 < b := by decide) : CDivA i j := ⟨h, Nat.lt_of_lt_of_le (PySem.Flt.log2_lt_of h0 hb) h9⟩
section
variable {X : Cx} {Ts : Tbs} {E : XK} {pos : Pos} {a b : Expr} {ta tb : TEd}
theorem op_fdivA : OpR X (binaryOp .FloorDiv) (rI CDivA fun i j => .int (i.fdiv j)) := opI fun _ _ _ _ _ _ _ hc q => floordiv_int hc.1 q (.inl (PyProof.noPylong_of_log2 hc.2))
@[simp] def fdivWD := intD CDivA fun i j => .int (i.fdiv j)
theorem qe_fdivW (ha : QE X Ts E a ta) (hb : QE X Ts E b tb) : QE X Ts E (.BinOp a .FloorDiv b pos) (dOp fdivWD ta tb) := qe_op op_fdivA (od_int fun _ _ _ _ => .int _) ha hb
end
end Dl
set_option Elab.async false
set_option linter.all false
set_option maxRecDepth 100000
set_option maxHeartbeats 4000000
namespace Dl
open PySem PySem.Spec PyProof.Rows L2 GxR Gn
section
variable {X : Cx} {Ts : Tbs} {E : XK} {pos p tpos : Pos} {a b e o i : Expr} {es : List Expr} {ta tb to ti : TEd} {t : TAd} {x : Str}
def gcdD : List D → Mem → KD → Prop
  | [.int a, .int b], M, Q => Q (.int ((Nat.gcd a.natAbs b.natAbs : Nat) : Int)) M
  | _, _, _ => False
@[simp] theorem gcdD_int {i j : Int} {M : Mem} {Q : KD} : gcdD [.int i, .int j] M Q ↔ Q (.int ((Nat.gcd i.natAbs j.natAbs : Nat) : Int)) M := Iff.rfl
@[simp] def andD := intD (fun _ _ => True) fun i j => .int (Builtin.bitAnd i j)
/-- o[i] as a target -/
@[simp] def dGSub (to ti : TEd) : TGd := fun d S M Q => to S M (fun x M1 => ti S M1 (fun y M2 => setD x y d M2 (Q S)) (fun _ _ _ => False)) (fun _ _ _ => False)
end
end Dl
set_option Elab.async false
set_option linter.all false
set_option maxRecDepth 100000
set_option maxHeartbeats 4000000
namespace Dl
open PySem PySem.Spec PyProof.Rows L2 GxR Gn
mutual
/-- the key that a datum is -/
def nkD : D → Option NestedKey
  | .non => some .none
  | .int i => some (.num i)
  | .str x => some (.text x)
  | .tup ds => match nksD ds with
    | some ks => some (.tup ks)
    | none => none
  | .bl _ => none
  | .obj _ => none
  | .adr _ => none
  | .ty _ => none
  | .scr _ => none
  | .lam _ _ _ _ _ _ => none
  | .exc _ _ _ => none
def nksD : List D → Option (List NestedKey)
  | [] => some []
  | d :: ds => match nkD d, nksD ds with
    | some k, some ks => some (k :: ks)
    | _, _ => none
end
section
variable {K : PySem.W.Frag} {ρ : Rho} {H : Hp}
abbrev PN (K : PySem.W.Frag) (ρ : Rho) (H : Hp) : List (NestedKey × D) → List Nk.Ent → Prop := Paired fun p q => p.1 = q.1 ∧ Nk.NIs H q.1 (.ref q.2.1) ∧ q.1.depth ≤ 8 ∧ Sh K ρ H p.2 q.2.2
theorem PN.ok {kvs : List (NestedKey × D)} {ws : List Nk.Ent} (h : PN K ρ H kvs ws) : Nk.KeysOk H ws := by
  induction h with
  | nil => intro p hp; cases hp
  | @cons p q ps qs h t ih =>
    intro x hx
    rcases List.mem_cons.mp hx with rfl | hx
    · exact ⟨h.2.1, h.2.2.1⟩
    · exact ih x hx
theorem PN.val {kvs : List (NestedKey × D)} {ws : List Nk.Ent} (h : PN K ρ H kvs ws) (k : NestedKey) : (valD kvs k = none ∧ Nk.valE ws k = none) ∨ ∃ d v, valD kvs k = some d ∧ Nk.valE ws k = some v ∧ Sh K ρ H d v := by
  induction h with
  | nil => exact .inl ⟨rfl, rfl⟩
  | @cons p q ps qs h t ih =>
    obtain ⟨e0, _, _, hs⟩ := h
    by_cases e : p.1 = k
    · have e2 : q.1 = k := e0.symm.trans e
      exact .inr ⟨p.2, q.2.2, by simp [valD, List.find?_cons, e], by simp [Nk.valE, List.find?_cons, e2], hs⟩
    · have e2 : ¬ q.1 = k := fun z => e (e0.trans z)
      have e3 : valD (p :: ps) k = valD ps k := by simp [valD, List.find?_cons, e]
      have e4 : Nk.valE (q :: qs) k = Nk.valE qs k := by simp [Nk.valE, List.find?_cons, e2]
      rw [e3, e4]
      exact ih
theorem valD_any {κ : Type} [DecidableEq κ] (kvs : List (κ × D)) (k : κ) : (kvs.any fun kv => decide (kv.1 = k)) = (valD kvs k).isSome := by
  induction kvs with
  | nil => rfl
  | cons p ps ih =>
    rw [List.any_cons]
    by_cases e : p.1 = k
    · simp [valD, List.find?_cons, e]
    · have e3 : valD (p :: ps) k = valD ps k := by simp [valD, List.find?_cons, e]
      rw [e3, ← ih]
      simp [e]
theorem PN.put {kvs : List (NestedKey × D)} {ws : List Nk.Ent} (h : PN K ρ H kvs ws) {k : NestedKey} {b : Addr} {d : D} {v : V} (n : Nk.NIs H k (.ref b)) (hd : k.depth ≤ 8) (s : Sh K ρ H d v) : PN K ρ H (putKD kvs k d) (Nk.putE ws k b v) := by
  have e : (kvs.any fun kv => decide (kv.1 = k)) = (Nk.valE ws k).isSome := by
    rw [valD_any]
    rcases h.val k with ⟨z1, z2⟩ | ⟨d', w, z1, z2, _⟩ <;> rw [z1, z2] <;> rfl
  unfold putKD Nk.putE
  rw [e]
  split
  · rename_i hs
    clear e hs
    induction h with
    | nil => exact .nil
    | @cons p q ps qs h t ih =>
      rw [List.map_cons, List.map_cons]
      refine .cons ?_ ih
      obtain ⟨h1, h2, h3, h4⟩ := h
      by_cases z : p.1 = k
      · rw [if_pos z, if_pos (h1.symm.trans z)]; exact ⟨h1, h2, h3, s⟩
      · rw [if_neg z, if_neg (fun y => z (h1.trans y))]; exact ⟨h1, h2, h3, h4⟩
  · exact Paired.snoc h ⟨rfl, n, hd, s⟩
variable {Ts : Tbs} {M : Mem}
end
/-- a tuple as a nested key -/
def nkT (y : D) (k : NestedKey) : Prop := (∃ ds, y = .tup ds) ∧ nkD y = some k ∧ k.depth ≤ 8
section
variable {X : Cx} {Ts : Tbs} {E : XK} {pos p apos tpos cpos : Pos} {a b c e o i f : Expr} {es : List Expr} {ta tb to ti te tx ty tz : TEd} {t : TAd}
@[simp] def dNewN : TEd := fun S M Q E => Q (.obj M.length) (M ++ [.dN []])
def ixN (x y : D) (M : Mem) (Q : KD) : Prop := ∃ n kvs k v, x = .obj n ∧ M[n]? = some (.dN kvs) ∧ nkT y k ∧ valD kvs k = some v ∧ Q v M
/-- d[t] = e -/
@[simp] def setN (x y z : D) (M : Mem) (Q : Mem → Prop) : Prop := ∃ n kvs k, x = .obj n ∧ M[n]? = some (.dN kvs) ∧ nkT y k ∧ kvs.length < sizeLine ∧ Q (M.set n (.dN (putKD kvs k z)))
@[simp] def dPutN (to ti te : TEd) : TSd := fun D E S M => te S M (fun d M1 => to S M1 (fun x M2 => ti S M2 (fun y M3 => setN x y d M3 (D.nx S)) E) E) E
/-- d.get(t, x) -/
@[simp] def dGetN (to ty tz : TEd) : TEd := fun S M Q E => to S M (fun x M1 => ∃ n kvs, x = .obj n ∧ M1[n]? = some (.dN kvs) ∧ ty S M1 (fun y M2 => tz S M2 (fun z M3 => ∃ kvs3 k, M3[n]? = some (.dN kvs3) ∧ nkT y k ∧ Q ((valD kvs3 k).getD z) M3) E) E) E
end
end Dl
set_option Elab.async false
set_option linter.all false
set_option maxRecDepth 100000
set_option maxHeartbeats 4000000
namespace Dl
open PySem PySem.Spec PyProof.Rows L2 GxR Gn
section
variable {X : Cx} {Ts : Tbs}
/-- list(d) of a dict whose keys are tuples of ints -/
def lstTD : List D → Mem → KD → Prop
  | [.obj n], M, Q => ∃ (kvs : List (List Key × D)) (ks : List (List Int)), M[n]? = some (.dT kvs) ∧ kvs.map (·.1) = ks.map Zn.kI ∧ Q (.obj M.length) (M ++ [.lst (ks.map kyI)])
  | _, _, _ => False
@[simp] theorem lstTD_obj {n : Nat} {M : Mem} {Q : KD} : lstTD [.obj n] M Q ↔ ∃ (kvs : List (List Key × D)) (ks : List (List Int)), M[n]? = some (.dT kvs) ∧ kvs.map (·.1) = ks.map Zn.kI ∧ Q (.obj M.length) (M ++ [.lst (ks.map kyI)]) := Iff.rfl
/-- sorted(l) of a list of tuples of ints -/
def sortTLD : List D → Mem → KD → Prop
  | [.obj n], M, Q => ∃ ks : List (List Int), M[n]? = some (.lst (ks.map kyI)) ∧ ∀ ks' : List (List Int), ks'.Perm ks → ks'.Pairwise (fun x y => HT.lexLt y x = false) → Q (.obj M.length) (M ++ [.lst (ks'.map kyI)])
  | _, _, _ => False
@[simp] theorem sortTLD_obj {n : Nat} {M : Mem} {Q : KD} : sortTLD [.obj n] M Q ↔ ∃ ks : List (List Int), M[n]? = some (.lst (ks.map kyI)) ∧ ∀ ks' : List (List Int), ks'.Perm ks → ks'.Pairwise (fun x y => HT.lexLt y x = false) → Q (.obj M.length) (M ++ [.lst (ks'.map kyI)]) := Iff.rfl
end
end Dl
set_option Elab.async false
set_option linter.all false
set_option maxRecDepth 100000
set_option maxHeartbeats 4000000
namespace Dl
open PySem PySem.Spec PyProof.Rows L2 GxR Gn
section
variable {X : Cx} {Ts : Tbs} {E : XK} {pos : Pos} {o : Expr} {to : TEd} {m : Str}
@[simp] def dGFld (C : Addr) (x : Str) (to : TEd) : TGd := fun d S M Q => to S M (fun o M1 => putC C x d o M1 (Q S)) (fun _ _ _ => False)
end
end Dl
set_option Elab.async false
set_option linter.all false
set_option maxRecDepth 100000
set_option maxHeartbeats 4000000
namespace Dl
open PySem PySem.Spec PyProof.Rows L2 GxR Gn
end Dl
set_option Elab.async false
set_option linter.all false
set_option maxRecDepth 100000
set_option maxHeartbeats 4000000
namespace Dl
open PySem PySem.Spec PyProof.Rows L2 GxR Gn
/-- the turns of the inner clause -/
def lcDi (gd : TGd) (tt : TTd) (te : TEd) (vs : List Nat) (n : Nat) (alive : Mem → Prop) (Nx : Mem → Prop) (S : Sl) : List D → Mem → Prop
  | [], M => alive M ∧ Nx M
  | d :: ds, M => alive M ∧ gd d (wipeD S vs) M fun S1 M1 => tt S1 M1 (fun b M2 => if b = true then te S1 M2 (fun y M3 => ∃ acc, M3[n]? = some (.lst acc) ∧ acc.length < sizeLine ∧ lcDi gd tt te vs n alive Nx S ds (M3.set n (.lst (acc ++ [y])))) E00
      else lcDi gd tt te vs n alive Nx S ds M2) E00
/-- the turns of the outer clause -/
def lcD2 (gd : TGd) (tt : TTd) (ti1 : TId) (gd1 : TGd) (tt1 : TTd) (te : TEd) (vs vs1 : List Nat) (n : Nat) (alive : Mem → Prop) (Q : KD) (S : Sl) : List D → Mem → Prop
  | [], M => alive M ∧ Q (.obj n) M
  | d :: ds, M => alive M ∧ gd d (wipeD S vs) M fun S1 M1 => tt S1 M1 (fun b M2 => if b = true then ti1 S1 M2 (fun ds1 alive1 M3 => lcDi gd1 tt1 te vs1 n alive1 (lcD2 gd tt ti1 gd1 tt1 te vs vs1 n alive Q S ds) S1 ds1 M3) E00
      else lcD2 gd tt ti1 gd1 tt1 te vs vs1 n alive Q S ds M2) E00
@[simp] def dLc2 (ti : TId) (gd : TGd) (tt : TTd) (ti1 : TId) (gd1 : TGd) (tt1 : TTd) (te : TEd) (vs vs1 : List Nat) : TEd := fun S M Q E => ti S M (fun ds alive M1 => lcD2 gd tt ti1 gd1 tt1 te vs vs1 M1.length alive Q S ds (M1 ++ [.lst []])) E
end Dl
set_option Elab.async false
set_option linter.all false
set_option maxRecDepth 100000
set_option maxHeartbeats 4000000
namespace Dl
open PySem PySem.Spec PyProof.Rows L2 GxR Gn
section
variable {X : Cx} {Ts : Tbs} {E : XK} {pos p apos tpos cpos : Pos} {a b c e o i f tg : Expr} {es : List Expr} {ta tb to ti te ty tz : TEd} {t : TAd} {st : Stmt} {ts : TSd}
theorem Shp.at {K : PySem.W.Frag} {ρ : Rho} {H : Hp} {κ : Type} {ds : List (κ × D)} {vs : List (κ × V)} (h : Shp K ρ H ds vs) : ∀ (i : Nat) (k : κ) (v : V), vs[i]? = some (k, v) → ∃ d, ds[i]? = some (k, d) ∧ Sh K ρ H d v := by
  induction h with
  | nil => intro i k v e; simp at e
  | cons h1 _ ih =>
    intro i k v e
    cases i with
    | zero => simp at e; obtain ⟨rfl, rfl⟩ := e; exact ⟨_, rfl, h1⟩
    | succ i => simpa using ih i k v (by simpa using e)
theorem Rl.lkd {K : PySem.W.Frag} {ρ : Rho} {M : Mem} {H : Hp} (R : Rl K Ts ρ M H) {i : Nat} {ds : List (Key × D)} (e : M[i]? = some (.lkd ds)) : ∃ a od vs, ρ i = some a ∧ H a = some (.frz od (.dK vs)) ∧ Shp K ρ H ds vs := by
  obtain ⟨a, o, e1, e2, od, vs, rfl, s⟩ := R.cell i _ e
  exact ⟨a, od, vs, e1, e2, s⟩
@[simp] def dVals (to : TEd) : TId := fun S M Q E => to S M (fun x M1 => ∃ n kvs, x = .obj n ∧ M1[n]? = some (.lkd kvs) ∧ Q (kvs.map (·.2)) (fun _ => True) M1) E
@[simp] def dKeys (to : TEd) : TId := fun S M Q E => to S M (fun x M1 => ∃ n kvs, x = .obj n ∧ M1[n]? = some (.lkd kvs) ∧ Q (kvs.map fun kv => kyD kv.1) (fun _ => True) M1) E
@[simp] def dItems (to : TEd) : TId := fun S M Q E => to S M (fun x M1 => ∃ n kvs, x = .obj n ∧ M1[n]? = some (.lkd kvs) ∧ Q (kvs.map fun kv => .tup [kyD kv.1, kv.2]) (fun _ => True) M1) E
@[simp] def dPopK (to ty tz : TEd) : TEd := fun S M Q E => to S M (fun x M1 => ∃ n kvs, x = .obj n ∧ M1[n]? = some (.dK kvs) ∧ ty S M1 (fun y M2 => tz S M2 (fun z M3 => ∃ kvs3 k, M3[n]? = some (.dK kvs3) ∧ keyOf y = some k ∧ (∀ v, valD kvs3 k = some v → Q v (M3.set n (.dK (dropKD kvs3 k)))) ∧ (valD kvs3 k = none → Q z M3)) E) E) E
@[simp] def dDel (to ty : TEd) : TSd := fun D E S M => to S M (fun x M1 => ty S M1 (fun y M2 => ∃ n kvs k v, x = .obj n ∧ M2[n]? = some (.dK kvs) ∧ keyOf y = some k ∧ valD kvs k = some v ∧ D.nx S (M2.set n (.dK (dropKD kvs k)))) E) E
end
end Dl
set_option Elab.async false
set_option linter.all false
set_option maxRecDepth 100000
set_option maxHeartbeats 4000000
namespace PySem
namespace ErrX
open PySem.W PySem.Calls PyProof.Rows PySem.HandSPX
/-- the mro of Exception -/
abbrev eT : List Value := [.type "Exception", .type "BaseException", .type "object"]
def iA (p1 p2 : Pos) : Arguments := { posonlyargs := [], args := [{ arg := "self", annotation := none, pos := p1 }, { arg := "thing", annotation := none, pos := p2 }], vararg := none, kwonlyargs := [], kw_defaults := [], kwarg := none, defaults := [] }
def iB (q1 q2 q3 q4 : Pos) : List Stmt := [.Assign [.Attribute (.Name "self" q1) "thing" q2] (.Name "thing" q3) q4]
def iS : Scope := { kind := .function, names := [(PySem.Str.ofString "self", .local), (PySem.Str.ofString "thing", .local)], isGenerator := false, isCoroutine := false, more := [] }
/-- what the written part says of the class x, at C, and of its __init__, at fI -/
structure ErrTxt (K : Frag) (mg : Str → Option Value) (x : Str) (C fI : Addr) : Prop where
  gC : mg x = some (.ref C)
  xi : excInitIn K C eT "Exception.__new__" = true
  xo : excOver K C eT = true
  sa : findIn K (.ref C) "__setattr__" = some (some (.builtin "object.__setattr__"))
  ga : findIn K (.ref C) "__getattribute__" = some (some (.builtin "BaseException.__getattribute__"))
  gg : findIn K (.ref C) "__getattr__" = some none
  noN : findIn K (.ref C) "thing" = some none
  iC : findIn K (.ref C) "__init__" = some (some (.ref fI))
  tC : typeIn K (.ref fI) = some (.type "function")
  kC : keepIn K (.ref C) = true
  exC : subIn K (.ref C) (.type "BaseException") = some true
  tyC : typeIn K (.ref C) = some (.type "type")
  hdC : hasDictIn K C = true
  fn : ∃ (oc : Value) (od : Option Addr) (kV doc pm : Value) (an : Option Addr) (cdv ct : Value) (osl : Array (Option Value)) (q : Str) (p1 p2 q1 q2 q3 q4 : Pos),
    K.lookup fI = some ⟨oc, od, .func (fnOf "__init__" q (iA p1 p2) (iB q1 q2 q3 q4) iS .none kV doc pm an cdv ct), osl⟩ ∧ codeIn K cdv q = true
theorem one_size (v : Value) : [v].length ≤ sizeLine := by
  rw [sizeLine_eq]
  exact (by decide : 1 ≤ 16777216)
theorem ldC {M : Model} {s : Shared} {name : Str} {scope : Scope} {L a : Addr} {cd : Value} {m : Str → Option Value} {x : Str} {pos : Pos} {v : Value} {Q : Value → Shared → Prop} {A : Around} {E : Value → Shared → Prop} (hn : s.heap.Ns L m) (hv : m x = some v) (h : Q v s)
    (hk : scope.kind = .function := by rfl) (hl : (envOfC name scope L a cd).kindOf x = some .local := by rfl) (hd : (x == ("__debug__" : Str)) = false := by decide) :
    wpAny M A (eval (.Name x pos) (envOfC name scope L a cd)) Q E s := wpAny_Name (wpAny_loadName_local hk hl hn hv h) hd
/-- what __init__ leaves of a fresh exception at x -/
structure InitEnd (h h' : Heap) (x C dx t1 : Addr) (v : Value) : Prop where
  keep : ∀ b o, b ≠ x → h.get? b = some o → h'.get? b = some o
  obj : h'.get? x = some { cls := .ref C, dict := some dx, data := .fields #[.ref t1, .none, .none, .none, .bool false, .none] }
  dbig : h.objs.size ≤ dx
  dne : dx ≠ x
  ns : h'.Ns1 dx (fun y => if y = "thing" then some v else none)
/-- a made error -/
structure OwnMade (h h' : Heap) (e C d : Addr) (v : Value) : Prop where
  keep : ∀ b o, h.get? b = some o → h'.get? b = some o
  new : h.objs.size ≤ e
  obj : ∃ oe vs, h'.get? e = some oe ∧ oe.cls = .ref C ∧ oe.dict = some d ∧ oe.data = .fields vs ∧ vs[1]? = some .none
  dbig : h.objs.size ≤ d
  dne : d ≠ e
  ns : h'.Ns1 d (fun y => if y = "thing" then some v else none)
section
variable {prog : Program} {w : World} {A : Around} {E : Value → Shared → Prop} {R : Result → Shared → Prop} {s : Shared} {K : Frag} {mg : Str → Option Value} {C fI : Addr} {x : Str}
open Builtin Builtin.ObjectAttr in
/-- the first store to a fresh error -/
theorem set_new {name : Str} {tk : Tok} {v : Value} {y : Addr} {fv : Array Value} (X : K.In s.heap) (hx : s.heap.get? y = some { cls := .ref C, data := .fields fv }) (xo : excOver K C eT = true) (hd : hasDictIn K C = true) (ha : findIn K (.ref C) name = some none)
    (hq : ∀ h' tk' dx, (∀ b o, b ≠ y → s.heap.get? b = some o → h'.get? b = some o) → s.heap.objs.size ≤ dx → dx ≠ y → h'.get? y = some { cls := .ref C, dict := some dx, data := .fields fv } → h'.Ns1 dx (fun z => if z = name then some v else none) →
      R (.ok (.ret .none)) { s with heap := h', toks := tk' }) :
    codeAny (model prog w) A (.call (.builtin "object.__setattr__") ⟨[.ref y, .str name tk, v], []⟩) R s := by
  have I : InstAt s.heap y { cls := .ref C, data := .fields fv } C none := ⟨hx, rfl, rfl, trivial⟩
  have hys : y ≠ s.heap.objs.size := Nat.ne_of_lt (Heap.lt_size hx)
  refine osa_openX F.store_Exception X I xo (r := none) (by unfold takerIn; rw [ha]; rfl) fun b => ?_
  obtain ⟨cd, hc, hd'⟩ := any_some hd
  have Lc : Looks (model prog w) s.heap (classData C) cd := looks_clsIn X hc
  obtain ⟨hp, g, d, t, os⟩ := s
  obtain ⟨nm, bs, mro, ns, qn, dd, sn, sb, ab, col, del⟩ := cd
  dsimp only at hd'
  subst hd'
  show wpAny _ _ (storeInOwnDict (.ref y) (.ref C) (.str name tk) name v b) _ _ _
  unfold storeInOwnDict ownDictForStores
  repeat (first | with_reducible refine store_in_new ?_ ?_ | with_reducible refine wpAny_loadPart_at hx ?_ | with_reducible refine Lc.at ?_ | wp_step)
  · refine ⟨_, #[], _, (Heap.get?_update_ne _ _ _ _ hys.symm).trans (Heap.get?_push_at rfl rfl), rfl, fun e he => absurd he (by simp), fun _ => rfl⟩
  · intro h' tk' hn' hs
    have hx1 : (hp.push { cls := .type "dict", data := .dict #[] }).get? y = some { cls := .ref C, data := .fields fv } := Heap.get?_push_of_some _ hx
    refine hq h' tk' hp.objs.size (fun c o hb ho => ?_) (Nat.le_refl _) hys.symm ((hs.2 y hys).trans (Heap.get?_update_self _ hx1 rfl)) hn'
    have q1 := hs.2 c (Nat.ne_of_lt (Heap.lt_size ho))
    rw [q1, Heap.get?_update_ne _ _ _ _ hb]
    exact Heap.get?_push_of_some _ ho
theorem err_init (T : ErrTxt K mg x C fI) {y t0 : Addr} {v : Value} (X : K.In s.heap) (hlim : s.heap.NoLimit) (hx : s.heap.get? y = some (excO C t0)) (hroom : A.depth < recursionLimit)
    (hq : ∀ h' tk dx, InitEnd s.heap h' y C dx t0 v → R (.ok (.ret .none)) { s with heap := h', toks := tk }) :
    codeAny (model prog w) A (.call (.ref fI) ⟨[.ref y, v], []⟩) R s := by
  obtain ⟨oc, od, kV, doc, pm, an, cdv, ct, osl, qn, p1, p2, q1, q2, q3, q4, ho, hcd⟩ := T.fn
  refine Att.call_fn (binds := [("self", .ref y), ("thing", v)]) X hlim ho hcd hroom (BindsTo.of_eq (by first | rfl | with_unfolding_all rfl)) (by first | rfl | decide | with_unfolding_all rfl) (fun s₁ IC => ?_) rfl rfl rfl
  obtain ⟨h₁, tk₁, rfl⟩ := IC.toInCall.same
  have k : ∀ b o, s.heap.get? b = some o → h₁.get? b = some o := IC.toInCall.keep
  have hn := IC.toInCall.ns
  have X₁ : K.In h₁ := X.keeps k
  have hx₁ := k _ _ hx
  -- self.thing = thing
  show wpAny _ _ (execs _ _) _ _ _
  refine wpAny_execs_cons (plainObj_wpAny_Assign_Attribute ?_)
  refine ldC (v := v) hn (by first | rfl | with_unfolding_all rfl | kernel_rfl) (ldC (v := .ref y) hn (by first | rfl | with_unfolding_all rfl | kernel_rfl) ?_)
  refine set_plain X₁ (ox := excO C t0) (od := none) ⟨hx₁, rfl, rfl, trivial⟩ T.sa ?_
  refine set_new (s := ⟨h₁, _, _, _, _⟩) X₁ hx₁ T.xo T.hdC T.noN (fun h₃ tk₃ dx k₃ dn dne hx₃ hn₃ => ?_)
  show wpAny _ _ (execs _ _) _ _ _
  have z : s.heap.objs.size < h₁.objs.size := hn.lt
  exact wpAny_execs_nil (hq h₃ tk₃ dx ⟨fun b o hb e => k₃ b o hb (k b o e), hx₃, Nat.le_of_lt (Nat.lt_of_lt_of_le z dn), dne, hn₃⟩)
theorem err_made (T : ErrTxt K mg x C fI) {v : Value} (X : K.In s.heap) (hlim : s.heap.NoLimit) (hroom : A.depth + 1 < recursionLimit)
    (hq : ∀ h' tk e d, OwnMade s.heap h' e C d v → R (.ok (.ret (.ref e))) { s with heap := h', toks := tk }) :
    codeAny (model prog w) A (.call (.ref C) ⟨[v], []⟩) R s := by
  obtain ⟨hp, g, dr, tk, os⟩ := s
  obtain ⟨nm, N, qn, bs, bm, hdct, sn, sub, ab, col, dd, k0, k1, k2, k3, k5, hC, hT⟩ := excInit_of X T.xi
  have k : ∀ b o, hp.get? b = some o → ((hp.push (kdv_tup [v])).push (excO C hp.objs.size)).get? b = some o := fun b o e => Heap.get?_push_of_some _ (Heap.get?_push_of_some _ e)
  have hget : ((hp.push (kdv_tup [v])).push (excO C hp.objs.size)).get? (hp.objs.size + 1) = some (excO C hp.objs.size) := by heap_get
  refine call_own F.excBase_Exception hT hC (looks_findIn X T.iC) (fun self => bind_fn X self T.tC) (one_size v) ?_
  refine err_init (s := ⟨(hp.push (kdv_tup [v])).push (excO C hp.objs.size), g, dr, tk, os⟩) T (X.keeps k) (hlim.keeps k) hget ?_ fun h' tk' dx ⟨k', hx, dn, dne, hns⟩ => ?_
  · show A.depth + 1 < recursionLimit
    exact hroom
  · have old : ∀ b o, hp.get? b = some o → h'.get? b = some o := fun b o e => k' b o (Nat.ne_of_lt (Nat.lt_succ_of_lt (Heap.lt_size e))) (k b o e)
    have z : hp.objs.size + 1 + 1 ≤ dx := by
      first
        | (simpa only [Heap.size_push] using dn)
        | exact dn
        | (have q := dn; rw [Heap.size_push, Heap.size_push] at q; exact q)
    exact ⟨rfl, hq h' tk' (hp.objs.size + 1) dx ⟨old, Nat.le_succ _, ⟨_, _, hx, rfl, rfl, rfl, rfl⟩, Nat.le_trans (Nat.le_trans (Nat.le_succ _) (Nat.le_succ _)) z, dne, hns⟩⟩
end
end ErrX
end PySem
namespace Zn
open PySem PySem.Spec PyProof.Rows L2 GxR
theorem relO_thing {v : V} {v' : Value} (r : RelV v v') (f : Str) : RelO (List.lookup f [(("thing" : Str), v)]) (if f = "thing" then some v' else none) := by
  by_cases hw : f = "thing"
  · subst hw
    rw [if_pos rfl]
    have q : List.lookup ("thing" : Str) [(("thing" : Str), v)] = some v := by simp [List.lookup]
    rw [q]
    exact r
  · rw [if_neg hw]
    have qw : (f == ("thing" : Str)) = false := by simpa using hw
    have q2 : List.lookup f [(("thing" : Str), v)] = none := by simp [List.lookup, qw]
    rw [q2]
    trivial
section
variable {X : Cx} {C fI : Addr} {x : Str}
/-- C(e) -/
def tMkErr (C : Addr) (ta : TA) : L2.St → Hp → XK → Prop := fun σ H Q => ta σ H fun vs H1 => ∃ v, vs = [v] ∧ ∀ d, H1 d = none → Q (.ref C) (some d) (upd H1 d (.xd [(("thing" : Str), v)]))
theorem pmk_err {a : Expr} {ta : TA} {p pos : Pos} {k : Nat} (T : PySem.ErrX.ErrTxt X.K X.mg x C fI) (hr : Room k X.A) (ha : PA X [a] ta) (hg : Gl X x) (hdb : (x == ("__debug__" : Str)) = false := by decide)
    (he : starEach (a :: []) X.env = (false, eval a X.env) :: starEach [] X.env := by rfl) (hpl : (backTo pos (starEach [] X.env)).any (·.1) = false := by rfl) :
    PMk X (.Call (.Name x p) [a] [] pos) (tMkErr C ta) := by
  intro pins s σ H Q I h
  refine wpAny_Call_Name_kw (ld_glob I hg T.gC ?_ hdb)
  refine PySem.W.callWith_K (h₀ := X.base) I.ok.mod.kin T.kC (thn (ha.run pos pins s σ H _ I h) fun us s1 hh => ?_) he hpl
  obtain ⟨vs, H1, I1, r1, v, ev, q1⟩ := hh
  subst ev
  refine ⟨I1.kIn, ?_⟩
  cases r1 with
  | cons rv rn =>
    rename_i v' us'
    cases rn
    show wpAny _ _ (call (.ref C) [v']) _ _ _
    have hlim := I1.nolimit
    obtain ⟨hp, g, dr, tk, os⟩ := s1
    refine wpAny_call (PySem.ErrX.err_made T I1.kIn hlim (by have := hr.dp; omega) fun h' tk' e d M => ?_)
    show MkP X pins σ Q (.ref e) ⟨h', g, dr, tk', os⟩
    obtain ⟨oe, fv, hoe, hc, hd, hdat, h1⟩ := M.obj
    have hns := M.ns
    obtain ⟨G', g1, g2⟩ := restrict h' fun b => decide (b ≠ e)
    have gk : ∀ b, b ≠ e → G'.get? b = h'.get? b := fun b hb => g1 b (decide_eq_true hb)
    have ge : G'.get? e = none := g2 e (by simp)
    have old : ∀ b o, hp.get? b = some o → G'.get? b = some o := fun b o q => (gk b (Nat.ne_of_lt (Nat.lt_of_lt_of_le (Heap.lt_size q) M.new))).trans (M.keep b o q)
    have ob : ObjOk X.prog X.w (upd H1 d (.xd [(("thing" : Str), v)])) G' d (.xd [(("thing" : Str), v)]) :=
      ⟨_, hns.at (fun o q => (gk d M.dne).trans q), fun f => relO_thing rv f⟩
    have J : Inv X pins σ (upd H1 d (.xd [(("thing" : Str), v)])) ⟨G', g, dr, tk', os⟩ := I1.laid (t' := tk') old M.dbig ob
    refine ⟨e, oe, fv, ⟨G', g, dr, tk', os⟩, _, .ref C, some d, rfl, J, fun b o q => ?_, ge, hoe, ⟨hc, hd⟩, hdat, h1, ?_, rfl, I1.bare, raises_own T.exC T.tyC, q1 d (I1.hok.fresh M.dbig)⟩
    · by_cases hb : b = e
      · have q' : G'.get? b = some o := q
        rw [hb, ge] at q'; cases q'
      · exact (gk b hb).symm.trans q
    · rw [upd_ne (Ne.symm M.dne)]
      exact I1.hok.fresh M.new
/-- raise C(e) -/
def tRaiseErr (C : Addr) (W : WX) (ta : TA) : TS := fun _ σ H => tMkErr C ta σ H fun cls d H' => W cls d σ H'
theorem ps_raiseErr {a : Expr} {ta : TA} {W : WX} {p pos pos2 : Pos} {k : Nat} (hc : X.calm = true) (T : PySem.ErrX.ErrTxt X.K X.mg x C fI) (hr : Room k X.A) (tk : Takes X W) (ha : PA X [a] ta) (hg : Gl X x) (hdb : (x == ("__debug__" : Str)) = false := by decide)
    (he : starEach (a :: []) X.env = (false, eval a X.env) :: starEach [] X.env := by rfl) (hpl : (backTo pos (starEach [] X.env)).any (·.1) = false := by rfl) :
    PS X (.Raise (some (.Call (.Name x p) [a] [] pos)) none pos2) (tRaiseErr C W ta) := ps_raise hc tk (pmk_err T hr ha hg hdb he hpl)
end
end Zn
set_option Elab.async false
set_option linter.all false
set_option maxRecDepth 100000
set_option maxHeartbeats 4000000
namespace LamX
open PySem PySem.Spec PyProof.Rows L2
/-- all stays but the table at P -/
abbrev ButTab (P : Addr) (H H1 : Hp) : Prop := ∀ b o, H b = some o → b ≠ P → H1 b = some o
section
variable {X : Cx} {pins : List (Addr × Obj)} {σ : L2.St} {H : Hp} {s : Shared}
theorem tabS_put {P c' : Addr} {q : Str} {ps : Array Value} {pos : Pos} (hP : H P = some (.tbl ps)) (ht : TriplesOk ps.toList) (nC : H c' = none) (ha : ∀ (p : Pos) (cv : Value), codeAmong p ps.toList = some cv → ∃ c, cv = .ref c ∧ H c = some (CodeO c q)) :
    ButTab P H (upd (upd H P (.tbl (ps ++ #[rawInt pos.line, rawInt pos.col, .ref c']))) c' (CodeO c' q)) ∧ TabS (upd (upd H P (.tbl (ps ++ #[rawInt pos.line, rawInt pos.col, .ref c']))) c' (CodeO c' q)) P q := by
  have stay : ButTab P H (upd (upd H P (.tbl (ps ++ #[rawInt pos.line, rawInt pos.col, .ref c']))) c' (CodeO c' q)) := fun b o e nb => by
    rw [upd_ne (ne_of_none e nC), upd_ne nb]
    exact e
  have el : (ps ++ #[rawInt pos.line, rawInt pos.col, .ref c']).toList = ps.toList ++ [rawInt pos.line, rawInt pos.col, .ref c'] := by simp
  refine ⟨stay, _, by rw [upd_ne (ne_of_none hP nC), upd_same], by rw [el]; exact PySem.TriplesOk_snoc _ _ _ _ ht, fun p cv hc => ?_⟩
  rw [el] at hc
  rcases among_app _ ht hc with z | z
  · obtain ⟨c, e1, e2⟩ := ha p cv z
    exact ⟨c, e1, stay _ _ e2 fun y => by rw [y, hP] at e2; exact codeO_ne _ (Option.some.inj e2).symm⟩
  · exact ⟨c', z, upd_same⟩
/-- what the making of a lambda gives: the function at f, its code at c' -/
structure LamNew (X : Cx) (H : Hp) (P : Addr) (params : Arguments) (body : Expr) (scope : Scope) (f c' : Addr) (pm ctv : Value) (H1 : Hp) (s' : Shared) : Prop where
  but : ButTab P H H1
  tab : TabS H1 P (X.env.qual ++ "<lambda>")
  at_ : s'.heap.get? f = some (PySem.W.kla_obj "<lambda>" (X.env.qual ++ "<lambda>") params body scope (cloFrom X.env.cells scope.names []) pm c' ctv)
  free : H1 f = none
  nofr : f ∉ frs X.stack
  code : H1 c' = some (CodeO c' (X.env.qual ++ "<lambda>"))
theorem lam_make3 {c P : Addr} {params : Arguments} {body : Expr} {scope : Scope} {pos : Pos} {E : Value → Shared → Prop} {Q : Value → Shared → Prop} (I : Inv X pins σ H s) (TB : TabB X.base X.mg c P) (hcode : X.env.code = .ref c)
    (hT : TabS H P (X.env.qual ++ "<lambda>")) (hdef : defaultsOf params X.env = ([], [])) (hfree : ∀ y ∈ scope.names, y.2 = .free → ∃ c, X.env.cells.lookup y.1 = some c)
    (h : ∀ (f c' : Addr) (pm ctv : Value) (H1 : Hp) (s' : Shared), Inv X pins σ H1 s' → LamNew X H P params body scope f c' pm ctv H1 s' → Q (.ref f) s') :
    wpAny (model X.prog X.w) X.A (eval (.Lambda params body scope pos) X.env) Q E s := by
  obtain ⟨ps, hP, ht, ha⟩ := id hT
  have inP : s.heap.get? P = some { cls := .none, data := .fields ps } := I.hok P _ hP
  have out : ∀ f, s.heap.objs.size ≤ f → f ∉ frs X.stack := fun f hf z => (List.mem_cons.mp (I.stkSub _ z)).elim
    (fun e => Nat.lt_irrefl _ (Nat.lt_of_lt_of_le (e ▸ I.lt) hf)) fun e => I.nofs hf e
  have bm := TB.bm.keeps I.bk
  have hd := TB.code.keeps I.bk
  have gl := I.mod.glob.keeps I.bk
  refine PySem.W.kla_eval hdef ?_
  rcases hc : codeAmong pos ps.toList with _ | cv
  · refine PySem.W.kla_makeFunction (mg := X.mg) (c := c) (P := P) (ps := ps) (closure_ok hfree) I.ok.glob gl hcode hd inP ht hc TB.gP bm fun c' ctv h' tk hx hge hlt hrec htb => ?_
    obtain ⟨c2, oc, vs, t, e2, hoc, hda, hv⟩ := hrec
    obtain rfl : c' = c2 := Value.ref.inj e2
    have nC : H c' = none := I.hok.fresh hge
    have big : s.heap.objs.size ≤ h'.objs.size := Nat.le_trans hge (Nat.le_of_lt hlt)
    obtain ⟨b1, t1⟩ := tabS_put (pos := pos) hP ht nC ha
    have I1 := inv_table (t' := tk) (more := #[rawInt pos.line, rawInt pos.col, .ref c'])
      (h' := h'.push (PySem.W.kla_obj "<lambda>" (X.env.qual ++ "<lambda>") params body scope (cloFrom X.env.cells scope.names []) ((X.mg "__name__").getD .none) c' ctv)) I hP
      (fun b o hb e => Heap.get?_push_of_some _ (hx b o hb e)) (Heap.get?_push_of_some _ htb) hge ⟨oc, vs, t, Heap.get?_push_of_some _ hoc, hda, hv⟩
    exact h _ c' _ ctv _ _ I1 ⟨b1, t1, Heap.get?_push_size _ rfl, by
      rw [upd_ne (Nat.ne_of_gt hlt), upd_ne (Nat.ne_of_gt (Nat.lt_of_lt_of_le (Heap.lt_size inP) big))]
      exact I.hok.fresh big, out _ big, upd_same⟩
  · obtain ⟨c', rfl, hco⟩ := ha pos cv hc
    refine PySem.W.kla_makeFunctionHit (mg := X.mg) (c := c) (P := P) (ps := ps) (closure_ok hfree) I.ok.glob gl hcode hd inP ht hc bm fun ctv h' tk hx big => ?_
    have I1 : Inv X pins σ H { s with heap := h'.push (PySem.W.kla_obj "<lambda>" (X.env.qual ++ "<lambda>") params body scope (cloFrom X.env.cells scope.names []) ((X.mg "__name__").getD .none) c' ctv), toks := tk } :=
      I.kept fun b o e => Heap.get?_push_of_some _ (hx b o e)
    exact h _ c' _ ctv H _ I1 ⟨fun _ _ e _ => e, hT, Heap.get?_push_size _ rfl, I.hok.fresh big, out _ big, hco⟩
end
end LamX
namespace LamX
open PySem PySem.Spec PyProof.Rows L2 Gn
/-- the context of the def that gets the lambda -/
abbrev gCx (P : Program) (w : World) (K : PySem.W.Frag) (mg : Str → Option Value) (base : Heap) (Ng : List Str) (qg : Str) (sg : Scope) (g : Addr) (cdg : Value) (A : Around) (outer : List Env) (s : Shared) (H : Hp) (Eg : XK) : Cx := cxOf (L2.CX P w) P w K mg base Ng qg sg g cdg A outer s H Eg
section
variable {X : Cx} {pins : List (Addr × Obj)} {σ : L2.St} {H HZ : Hp} {s s1 : Shared}
/-- a(), a the lambda's name in the def that got it -/
theorem pe_act3 {P0 : Addr} {H0 : Hp} {Eg : XK} {Ng : List Str} {qg : Str} {sg : Scope} {g f c' : Addr} {cdg pm ctv : Value} {params : Arguments} {body : Expr} {scope : Scope} {k i : Nat} {a : Str} {pn : List (Addr × Obj)} {xe : Value → Shared → Prop} {W : WX} {E : XK} {tb : TE} {p1 p2 : Pos}
    (I : Inv X pins σ H s) (L : LamS X.env.scope scope) (N : LamNew X H0 P0 params body scope f c' pm ctv H s)
    (hbind : bindArgs (PySem.W.kla_fn "<lambda>" (X.env.qual ++ "<lambda>") params body scope (cloFrom X.env.cells scope.names []) pm (.ref c') ctv) ⟨[], []⟩ = pure [])
    (tk : Takes ((gCx X.prog X.w X.K X.mg X.base Ng qg sg g cdg X.A X.stack s H Eg).tr pn xe) W) (hW : ∀ cls d σ' H', E cls d H' → W cls d σ' H') (hr : Dl.RoomG (k + 1) (X.A.deeper (envOfC qg sg s.heap.objs.size g cdg)))
    (hbody : ∀ (A : Around) (outer : List Env) (s : Shared) (H : Hp), Dl.RoomG k (A.deeper (lamEnv X scope s.heap.objs.size f c')) → PE (lamCx X A outer s H E scope f c') body tb)
    (hN : Ng[i]? = some a) (hv : Vis sg a) (hd : (a == ("__debug__" : Str)) = false := by decide) (hcd : (a == ("__classdict__" : Str)) = false := by decide) :
    PE ((gCx X.prog X.w X.K X.mg X.base Ng qg sg g cdg X.A X.stack s H Eg).tr pn xe) (.Call (.Name a p1) [] [] p2)
      (fun σZ HZ Q => σZ[i]? = some (some (.ref f)) ∧ HZ c' = some (CodeO c' (X.env.qual ++ "<lambda>")) ∧ tb σ HZ Q) := by
  refine ⟨fun pinsZ sZ σZ HZ Q IZ ⟨hs, hc, ht⟩ => ?_⟩
  refine wpAny_Call_Name_kw (thn ((pe_var (pos := p1) (i := i) hN hv hd hcd).run pinsZ sZ σZ HZ (fun v H1 => v = .ref f ∧ H1 = HZ) IZ ⟨.ref f, hs, rfl, rfl⟩) ?_)
  rintro u s1 ⟨v, H1, I1, r1, rfl, rfl⟩
  obtain rfl : u = Value.ref f := r1
  have at1 := I1.base.keep f _ N.at_ N.free N.nofr (fun z => nomatch (show f ∈ ([] : List Addr) from z))
  have un : Un (frs X.stack) [] H H1 s.heap s1.heap := I1.base
  obtain ⟨⟨oc, vs, t, hoc, hdc, hvc⟩, _, _⟩ := I1.hok c' _ hc
  refine PySem.W.callWith_F0 ⟨_, _, _, _, at1⟩ (wpAny_call ?_)
  have run : codeAny (model X.prog X.w) (X.A.deeper (envOfC qg sg s.heap.objs.size g cdg)) (.call (.ref f) ⟨[], []⟩) (CR (L2.CX X.prog X.w) (envOfC qg sg s.heap.objs.size g cdg :: X.stack) X.prog X.w H1 s1 Q E) s1 := by
    refine PySem.W.kla_callFunE hr.r.depth at1 rfl L.co L.gen rfl ⟨c', oc, vs, t, rfl, hoc, hdc, hvc⟩ ?_
    rw [hbind]
    refine wpAny_pure (wpAny_newFunctionEnv (fun y hy => (L.own y hy).2) (fun y hy => absurd hy (by simp)) (fun h₁ hns hsb => ⟨I1.nolimit.fresh _ hsb, ?_⟩) L.kind)
    have kp : ∀ b o, s1.heap.get? b = some o → h₁.get? b = some o := fun b o e => hsb.extBut b o (Nat.ne_of_lt (Heap.lt_size e)) (Heap.get?_push_of_some _ e)
    have J := lam_start2 (E := E) (f := f) (c' := c') (tk := s1.toks + ([] : List (Str × Value)).length) I L I1.env0 hr.r.hd un hns kp
    refine PySem.W.kla_codeExpr (wpAny_mono ((hbody _ _ s1 H1 ⟨hr.r.deeper _, hr.g⟩).run [] _ _ H1 Q J ht) (fun v s' hq => ?_) fun e s' hq => hq)
    obtain ⟨w', H', J', rv, q⟩ := hq
    exact ⟨w', H', J'.os, J'.bare, J'.base, J'.hok, rv, q⟩
  refine codeAny_mono run fun r s' hq => ?_
  have hx := passes_call (X := (gCx X.prog X.w X.K X.mg X.base Ng qg sg g cdg X.A X.stack s H Eg).tr pn xe) tk hW
  match r, hq with
  | .error e, hq => exact hx pinsZ σZ H1 s1 e s' I1 hq
  | .ok (.ret u), hq => exact I1.after hq
  | .ok .next, hq => exact False.elim hq
  | .ok .brk, hq => exact False.elim hq
  | .ok .cont, hq => exact False.elim hq
end
/-- what a def that calls its lambda keeps: at whatever place it is entered -/
def Gives (X : Cx) (k : Nat) (Ng : List Str) (x : Str) (sg : Scope) (g : Addr) (cdg : Value) (bg : List Stmt) (a q : Str) (TT : (XK → Hp → VK → Prop) → Hp → VK → Prop) : Prop :=
  ∀ (f c' : Addr) (s : Shared) (H : Hp) (Q : VK) (tl : XK → Hp → VK → Prop), Dl.RoomG (k + 1) (X.A.deeper (envOfC x sg s.heap.objs.size g cdg)) →
    (∀ (W : WX) (pn : List (Addr × Obj)) (xe : Value → Shared → Prop) (E : XK) (p1 p2 : Pos), Takes ((gCx X.prog X.w X.K X.mg X.base Ng x sg g cdg X.A X.stack s H C8.E0).tr pn xe) W → (∀ cls d σ' H', E cls d H' → W cls d σ' H') →
      PE ((gCx X.prog X.w X.K X.mg X.base Ng x sg g cdg X.A X.stack s H C8.E0).tr pn xe) (.Call (.Name a p1) [] [] p2) (fun σZ HZ Q => σZ[0]? = some (some (.ref f)) ∧ HZ c' = some (CodeO c' q) ∧ tl E HZ Q)) →
    H c' = some (CodeO c' q) → TT tl H Q →
    ∃ t, PSs (gCx X.prog X.w X.K X.mg X.base Ng x sg g cdg X.A X.stack s H C8.E0) bg t ∧ t { nx := fun _ H' => Q .non H', rt := Q } (L2.start Ng [.ref f]) H
def tLam3 (P : Addr) (q : Str) (TT : (XK → Hp → VK → Prop) → Hp → VK → Prop) (t : XK → TE) : TE := fun σ H Q => TabS H P q ∧ ∀ H1, ButTab P H H1 → TabS H1 P q → TT (fun E H' Q' => t E σ H' Q') H1 Q
section
variable {X : Cx}
/-- x(lambda: body) -/
theorem pe_lamcall3 {TT : (XK → Hp → VK → Prop) → Hp → VK → Prop} {x a : Str} {g c P : Addr} {k : Nat} {pg : Arguments} {bg : List Stmt} {sg : Scope} {dV kV doc pm cdv ct oc : Value} {an od : Option Addr} {osl : Array (Option Value)} {Ng : List Str}
    {params : Arguments} {body : Expr} {scope : Scope} {t : XK → TE} {p lpos pos : Pos} (hg : Gl X x) (hm : X.mg x = some (.ref g)) (hk : PySem.W.keepIn X.K (.ref g) = true)
    (lk : X.K.lookup g = some ⟨oc, od, .func (PySem.W.fnOf x x pg bg sg dV kV doc pm an cdv ct), osl⟩) (hcg : PySem.W.codeIn X.K cdv x = true) (hb : L2.Binds X.K (PySem.W.fnOf x x pg bg sg dV kV doc pm an cdv ct) [a] []) (Sg : FnScope Ng [a] sg) (hNg : Ng[0]? = some a) (hva : Vis sg a)
    (hG : Gives X k Ng x sg g cdv bg a (X.env.qual ++ "<lambda>") TT)
    (TB : TabB X.base X.mg c P) (hcode : X.env.code = .ref c) (hr : Dl.RoomG (k + 2) X.A) (L : LamS X.env.scope scope) (hdef : defaultsOf params X.env = ([], []))
    (hbind : ∀ (q : Str) (cl : List (Str × Addr)) (pm cv ctv : Value), bindArgs (PySem.W.kla_fn "<lambda>" q params body scope cl pm cv ctv) ⟨[], []⟩ = pure [])
    (hbody : ∀ (A : Around) (outer : List Env) (s : Shared) (H : Hp) (E : XK) (f c' : Addr), Dl.RoomG k (A.deeper (lamEnv X scope s.heap.objs.size f c')) → PE (lamCx X A outer s H E scope f c') body (t E))
    (hdb : (x == ("__debug__" : Str)) = false := by decide) (hd : (a == ("__debug__" : Str)) = false := by decide) (hcd : (a == ("__classdict__" : Str)) = false := by decide) :
    PE X (.Call (.Name x p) [.Lambda params body scope lpos] [] pos) (tLam3 P (X.env.qual ++ "<lambda>") TT t) := by
  refine ⟨fun pins s σ H Q I ⟨hT, h⟩ => ?_⟩
  refine wpAny_Call_Name_kw (ld_glob I hg hm (PySem.W.callWith_K (h₀ := X.base) I.ok.mod.kin hk ?_ (by rfl) (by rfl)) hdb)
  show wpAny _ _ (spliced ((false, eval (.Lambda params body scope lpos) X.env) :: backTo pos (starEach [] X.env))) _ _ s
  refine Calls.spliced_cons (lam_make3 I TB hcode hT hdef (L.has I.ok) fun f c' pm' ctv H1 s' I1 N => Calls.spliced_nil ⟨I1.kIn, wpAny_call ?_⟩)
  have run : codeAny (model X.prog X.w) X.A (.call (.ref g) ⟨[.ref f], []⟩) (CR (L2.CX X.prog X.w) X.stack X.prog X.w H1 s' Q C8.E0) s' := by
    refine run_ofS (N := Ng) (ps := [a]) (us := [.ref f]) (vs := [.ref f]) lk hcg Sg hr.r I1.env0 (hb s' [.ref f] I1.kIn rfl) (.cons rfl .nil) rfl fun hr' => ?_
    exact hG f c' s' H1 Q (fun E H' Q' => t E σ H' Q') ⟨hr', hr.g⟩ (fun W pn xe E p1 p2 tk hW => pe_act3 (i := 0) I1 L N (hbind _ _ _ _ _) tk hW ⟨hr', hr.g⟩ (fun A outer s H hr2 => hbody A outer s H E f c' hr2) hNg hva hd hcd) N.code (h H1 N.but N.tab)
  refine codeAny_mono run fun r s2 hq => ?_
  match r, hq with
  | .error e, hq => exact (by obtain ⟨_, _, _, _, _, _, _, _, _, _, _, _, z⟩ := hq; exact False.elim z)
  | .ok (.ret u), hq => exact I1.after hq
  | .ok .next, hq => exact False.elim hq
  | .ok .brk, hq => exact False.elim hq
  | .ok .cont, hq => exact False.elim hq
end
end LamX
set_option Elab.async false
set_option linter.all false
set_option maxRecDepth 100000
set_option maxHeartbeats 4000000
namespace Dl
open PySem PySem.Spec PyProof.Rows L2 GxR Gn
section
variable {X : Cx} {Ts : Tbs} {E : XK} {pos p apos : Pos} {a b c e : Expr} {es : List Expr} {ta tb te : TEd} {t : TAd}
@[simp] def dRaise (C : Addr) (te : TEd) : TSd := fun _ E S M => te S M (fun d M1 => E C d M1) E
theorem qs_raise {C fI : Addr} {x : Str} {p pos pos2 : Pos} {k : Nat} (hc : X.calm = true) (T : PySem.ErrX.ErrTxt X.K X.mg x C fI) (hr : RoomG k X.A) (tk : Takes X (fun c d _ H => E c d H)) (ha : QE X Ts E a te) (hg : Gl X x) (hdb : (x == ("__debug__" : Str)) = false := by decide)
    (he : starEach (a :: []) X.env = (false, eval a X.env) :: starEach [] X.env := by rfl) (hpl : (backTo pos (starEach [] X.env)).any (·.1) = false := by rfl) :
    QS X Ts E (.Raise (some (.Call (.Name x p) [a] [] pos)) none pos2) (dRaise C te) :=
  psLe (Zn.ps_raiseErr hc T hr.r tk (qa_cons ha qa_nil he) hg hdb he hpl) fun D σ H ⟨ρ, S, M, Dd, Ed, R, sl, q, kn, kr, kb, kc, x⟩ => by
    refine ⟨ρ, S, M, fun ds M' => ∃ d, ds = [d] ∧ Ed C d M', Ed, R, sl, ?_, fun ds M' ⟨d, eds, q1⟩ ρ1 H1 vs g1 R1 s1 => ?_, x⟩
    · have q : te S M (fun d M1 => Ed C d M1) Ed := q
      exact cast (by
        have : (fun d M1 => Ed C d M1) = (fun d M1 => ∃ d', [d] = [d'] ∧ Ed C d' M1) := by
          funext d M1
          exact propext ⟨fun h => ⟨d, rfl, h⟩, fun ⟨d', e, h⟩ => by cases e; exact h⟩
        rw [this]
        rfl) q
    · subst eds
      cases s1 with
      | cons h1 h2 =>
        cases h2
        refine ⟨_, rfl, fun dd hd => ?_⟩
        exact x C d M' q1 ρ1 _ dd _ (g1.tr (grw_new hd)) (R1.new hd) upd_same (Sh.grw (grw_new hd) _ _ h1)
theorem Sls.setN {K : PySem.W.Frag} {ρ : Rho} {H : Hp} {S : Sl} {σ : L2.St} (h : Sls K ρ H S σ) (i : Nat) : Sls K ρ H (S.set i none) (σ.set i none) := by
  refine ⟨by rw [List.length_set, List.length_set]; exact h.len, fun j d' e => ?_⟩
  by_cases hj : i = j
  · subst hj
    have hl : i < S.length := by
      have := (List.getElem?_eq_some_iff.mp e).1
      rwa [List.length_set] at this
    rw [List.getElem?_set_self hl] at e
    cases e
  · rw [List.getElem?_set_ne hj] at e
    rw [List.getElem?_set_ne hj]
    exact h.at_ j d' e
theorem sls_none {K : PySem.W.Frag} {ρ : Rho} {H : Hp} {σ : L2.St} {N : Nat} (h : σ.length = N) : Sls K ρ H (List.replicate N none) σ := by
  refine ⟨by rw [List.length_replicate]; exact h.symm, fun j d e => ?_⟩
  have := List.mem_of_getElem? e
  simp at this
/-- the suite's ends: its name is gone -/
@[simp] def gone (i : Nat) (Dd : EndsD) : EndsD := { nx := fun S M => Dd.nx (S.set i none) M, rt := Dd.rt, bk := fun S M => Dd.bk (S.set i none) M, ct := fun S M => Dd.ct (S.set i none) M }
@[simp] def dTryAs (cs : Nat → Addr) (js : List Nat) (N i : Nat) (tb : TSd) (su : Nat → Addr → Addr → TSd) : TSd := fun Dd E S M =>
  tb Dd (fun C d M' => ∃ j, j ∈ js ∧ C = cs j ∧ ∀ a dx, su j a dx (gone i Dd) E00 ((List.replicate N none).set i (some (.exc a dx d))) M') S M
theorem qs_tryAs {x n : Str} {CB : Addr} {i : Nat} {body suite : List Stmt} {b₀ : Stmt} {np pos pos' : Pos} {cs : Nat → Addr} {js : List Nat} {N : Nat} {tb : TSd} {su : Nat → Addr → Addr → TSd}
    (hs : X.stack = X.env :: X.outer) (hf : X.env.frame = some X.env.locals) (hN : X.N.Nodup) (hi : X.N[i]? = some n) (hln : X.env.kindOf n = some .local) (hc : Names X x (.ref CB)) (hl : X.N.length = N)
    (hx : ∀ j ∈ js, PySem.W.exmOne X.K (.ref (cs j)) (.ref CB) = some true)
    (hb : ∀ (E' : XK) (pn : List (Addr × Obj)) (xe : Value → Shared → Prop), Takes (X.tr pn xe) (fun c d _ H => E' c d H) → PassesOwn (model X.prog X.w) X.A X.env xe → QSs (X.tr pn xe) Ts E' body tb)
    (hsu : ∀ j, j ∈ js → ∀ (a dx : Addr) (oe : Obj) (pn : List (Addr × Obj)), Zc (.ref (cs j)) (some dx) oe → (∃ vs, oe.data = .fields vs) → QSs (X.suite a ((a, oe) :: pn)) Ts X00 (b₀ :: suite) (su j a dx)) :
    QS X Ts E (.Try body [.ExceptHandler (some (.Name x np)) (some n) (b₀ :: suite) pos'] [] [] pos) (dTryAs cs js N i tb su) := by
  refine psLe (ps_try_as (Wout := fun _ _ _ _ => False) hs hf hN hi hln hc takes0
    (tb := fun W D σ H => ∃ E' : XK, (∀ c d σ' H', σ'.length = X.N.length → E' c d H' → W c d σ' H') ∧ rdS X.K Ts E' tb D σ H)
    (ts := fun a cls d D σ H => ∃ j dx, j ∈ js ∧ cls = .ref (cs j) ∧ d = some dx ∧ rdS X.K Ts X00 (su j a dx) D σ H)
    (fun W pn xe tkW po => ⟨fun pins s σ H D I ⟨E', hW, h⟩ => (hb E' pn xe (fun u s' ⟨a, B, sI, pins, σ, H, cls, d, e1, I1, e3, e4, e5, e6, e7, e8, w⟩ => tkW u s' ⟨a, B, sI, pins, σ, H, cls, d, e1, I1, e3, e4, e5, e6, e7, e8, hW _ _ _ _ I1.len w⟩) po).run pins s σ H D I h⟩)
    (fun a oe cls d pn hz hf => ⟨fun pins s σ H D I ⟨j, dx, hj, ec, ed, h⟩ => by
      subst ec ed
      exact (hsu j hj a dx oe pn hz hf).run pins s σ H D I h⟩)) fun D σ H ⟨ρ, S, M, Dd, Ed, R, sl, q, kn, kr, kb, kc, x⟩ => ?_
  refine ⟨fun cls d H' => ∀ σ' : L2.St, σ'.length = X.N.length → wAs X.K (.ref CB) i _ (fun _ _ _ _ => False) D cls d σ' H', fun c d σ' H' hl h => h σ' hl, ρ, S, M, Dd, _, R, sl, q, kn, kr, kb, kc, ?_⟩
  rintro C d M' ⟨j, hj, eC, hq⟩ ρ' H' dx v g R' hx' hs' σ' hl'
  subst eC
  refine ⟨true, hx j hj, fun _ a na => ⟨j, dx, hj, rfl, rfl, ρ', _, M', gone i Dd, E00, R', (sls_none (hl'.trans hl)).set i (.exc hx' hs'), hq a dx, ?_, ?_, ?_, ?_, xok0⟩, fun z => nomatch z⟩
  · exact fun S' M2 q2 ρ2 H2 σ2 g2 R2 sl2 => kn _ _ q2 ρ2 H2 _ (g.tr g2) R2 (sl2.setN i)
  · exact fun d2 M2 q2 ρ2 H2 v2 g2 R2 s2 => kr _ _ q2 ρ2 H2 _ (g.tr g2) R2 s2
  · exact fun S' M2 q2 ρ2 H2 σ2 g2 R2 sl2 => kb _ _ q2 ρ2 H2 _ (g.tr g2) R2 (sl2.setN i)
  · exact fun S' M2 q2 ρ2 H2 σ2 g2 R2 sl2 => kc _ _ q2 ρ2 H2 _ (g.tr g2) R2 (sl2.setN i)
end
end Dl
set_option Elab.async false
set_option linter.all false
set_option maxRecDepth 100000
set_option maxHeartbeats 4000000
namespace Dl
open PySem PySem.Spec PyProof.Rows L2 GxR Gn
/-- what a class of errors must say, so that isinstance asks its instances rightly and their fields are read -/
structure ExK (K : PySem.W.Frag) (C : Addr) : Prop where
  cl : (PySem.W.clsIn K C).isSome = true
  ga : PySem.W.findIn K (.ref C) "__getattribute__" = some (some (.builtin "BaseException.__getattribute__"))
  gg : PySem.W.findIn K (.ref C) "__getattr__" = some none
  ex : PySem.W.subIn K (.ref C) (.type "BaseException") = some true
  hd : PySem.W.hasDictIn K C = true
  ac : PySem.W.findIn K (.ref C) "__class__" = some (some (.builtin "object.__class__"))
  hn : PySem.W.specialIn K (.builtin "object.__class__") "__get__" = some (some (.builtin "getset_descriptor.__get__"))
  ht : PySem.W.takesIn K (.builtin "object.__class__") = some true
  hm : PySem.W.mroIn K C (.type "object") = some true
section
variable {X : Cx} {Ts : Tbs} {E : XK} {pos p apos : Pos} {e : Expr} {es : List Expr} {ta tb te : TEd} {t : TAd} {ea dx C : Addr} {oe : Obj} {pn : List (Addr × Obj)}
/-- isinstance(e, D), e the caught error -/
def rIsX (a dx D : Addr) (b : Bool) : List V → Hp → VK → Prop := fun xs H Q => xs = [.ref a, .ref D] ∧ (∃ fs, H dx = some (.xd fs)) ∧ Q (.bl b) H
theorem call_isX {D : Addr} {b : Bool} (T : ExK X.K C) (hk : PySem.W.kitOne X.K (.ref C) (.ref D) = some b) (hz : Zc (.ref C) (some dx) oe) (hf : ∃ vs, oe.data = .fields vs) : CallR (X.suite ea ((ea, oe) :: pn)) (.builtin "isinstance") (rIsX ea dx D b) := by
  intro pins s σ H xs us Q I r ⟨exs, ⟨fs, hx⟩, q⟩
  subst exs
  obtain ⟨u1, u2, rfl, r1, r2⟩ := vals2 r
  obtain rfl : u1 = Value.ref ea := r1
  obtain rfl : u2 = Value.ref D := r2
  obtain ⟨ha, _⟩ := I.pin (ea, oe) (List.mem_append_left _ List.mem_cons_self)
  obtain ⟨vs, hd⟩ := hf
  obtain ⟨mA, hns, _⟩ := (show ObjOk X.prog X.w H s.heap dx (.xd fs) from I.hok dx _ hx)
  obtain ⟨od, ho, _⟩ := lookIn_ns hns
  have J : PySem.W.InstAt s.heap ea oe C (some od) := ⟨ha, hz.1, by unfold PySem.W.notCls; rw [hd] <;> rfl, by rw [hz.2]; exact ho⟩
  exact PySem.W.kia_one (PySem.W.kitx_exc T.cl T.ga T.gg T.ex T.ac T.hn T.ht T.hm) I.kIn J hk (fun z => nomatch z) fun tk => ⟨.bl b, H, I.kept (t' := tk) fun _ _ z => z, rfl, q⟩
def isXD (a dx B : Addr) (b : Bool) : List D → Mem → KD → Prop := fun ds M Q => ∃ d, ds = [.exc a dx d, .adr B] ∧ Q (.bl b) M
@[simp] theorem isXD_at {a dx K : Addr} {b : Bool} {d : D} {M : Mem} {Q : KD} : isXD a dx K b [.exc a dx d, .adr K] M Q ↔ Q (.bl b) M := ⟨fun ⟨_, _, q⟩ => q, fun q => ⟨d, rfl, q⟩⟩
theorem cd_isX {K : Addr} {b : Bool} : CallD X Ts (rIsX ea dx K b) (isXD ea dx K b) := fun ρ M H ds vs Q Qd R s ⟨d, eds, q⟩ k => by
  subst eds
  cases s with
  | cons s1 s2 =>
    cases s2 with
    | cons s2 s3 =>
      cases s3
      cases s1 with
      | exc h1 h2 =>
        cases s2
        exact ⟨rfl, ⟨_, h1⟩, k.same R q (.bl b)⟩
/-- a class's name -/
theorem qe_cls {C : Addr} {x : Str} (hg : Gl X x) (hm : X.mg x = some (.ref C)) (hdb : (x == ("__debug__" : Str)) = false := by decide) : QE X Ts E (.Name x p) (dC (.adr C)) :=
  ⟨fun pins s σ H Q I ⟨ρ, S, M, Qd, Ed, R, sl, q, k, x⟩ => ld_glob I hg hm ⟨.ref C, H, I, rfl, k.same R q (.adr C)⟩ hdb⟩
/-- e.thing -/
@[simp] def dThing (a dx : Addr) (te : TEd) : TEd := fun S M Q E => te S M (fun x M1 => ∃ d, x = .exc a dx d ∧ Q d M1) E
theorem qe_thing (T : ExK X.K C) (hno : PySem.W.findIn X.K (.ref C) "thing" = some none) (hz : Zc (.ref C) (some dx) oe) (hf : ∃ vs, oe.data = .fields vs) (he : QE (X.suite ea ((ea, oe) :: pn)) Ts E e te) (hb : attributeBase e "thing" X.env (eval e X.env) = eval e X.env := by rfl) :
    QE (X.suite ea ((ea, oe) :: pn)) Ts E (.Attribute e "thing" pos) (dThing ea dx te) :=
  peLe (pe_xf (n := "thing") ⟨T.ga, T.gg, T.ex, T.hd⟩ hno hz hf he hb) fun σ H Q ⟨ρ, S, M, Qd, Ed, R, sl, q, k, x⟩ =>
    ⟨ρ, S, M, _, Ed, R, sl, q, fun d M1 ⟨d1, ed, q1⟩ ρ1 H1 v g1 R1 s1 => by
      subst ed
      cases s1 with
      | @exc _ _ _ v1 h1 h2 =>
        exact ⟨rfl, rfl, dx, _, v1, rfl, h1, by simp [List.lookup], k _ _ q1 ρ1 H1 v1 g1 R1 h2⟩, x⟩
end
theorem sls_pack {K : PySem.W.Frag} {ρ : Rho} {H : Hp} : ∀ {S : Sl} {σ : L2.St}, Sls K ρ H S σ → ∃ vs, Shs K ρ H (S.map (·.getD .non)) vs ∧ FitSt (S.map (·.isSome)) vs σ
  | [], σ, h => ⟨[], .nil, by simpa using h.len, fun j v e => by simp at e⟩
  | o :: S, [], h => by have := h.len; simp at this
  | o :: S, p :: σ, h => by
    obtain ⟨vs, h1, h2⟩ := sls_pack (S := S) (σ := σ) ⟨by have := h.len; simpa using this, fun j d e => h.at_ (j + 1) d e⟩
    cases o with
    | none =>
      refine ⟨.non :: vs, .cons .non h1, by have := h2.len; simpa using this, fun j v e1 e2 => ?_⟩
      cases j with
      | zero => simp at e1
      | succ j => exact h2.at_ j v (by simpa using e1) (by simpa using e2)
    | some d =>
      obtain ⟨v, e1, e2⟩ := h.at_ 0 d rfl
      refine ⟨v :: vs, .cons e2 h1, by have := h2.len; simpa using this, fun j w f1 f2 => ?_⟩
      cases j with
      | zero => cases (show some v = some w from f2); exact e1
      | succ j => exact h2.at_ j w (by simpa using f1) (by simpa using f2)
theorem sls_unpack {K : PySem.W.Frag} {ρ : Rho} {H : Hp} {S : Sl} {σ : L2.St} {vs : List V} (h : Shs K ρ H (S.map (·.getD .non)) vs) (f : FitSt (S.map (·.isSome)) vs σ) : Sls K ρ H S σ := by
  refine ⟨by have := f.len; simpa using this, fun j d e => ?_⟩
  obtain ⟨v, e3, s⟩ := h.getD (i := j) (d := d) (by simp [e])
  exact ⟨v, f.at_ j v (by simp [e]) e3, s⟩
/-- what a lambda does when it is called -/
abbrev LamD := Mem → KD → KE' → Prop
/-- call(), in the def that got the lambda l as its slot 0 -/
@[simp] def dAct (l : D) (tl : LamD) : TEd := fun S M Q E => S[0]? = some (some l) ∧ tl M Q E
def TLd (K : PySem.W.Frag) (Ts : Tbs) (sp : LamD → Mem → KD → Prop) : (XK → Hp → VK → Prop) → Hp → VK → Prop := fun tl H Q => ∃ ρ M Qd TL S0 σ0, Rl K Ts ρ M H ∧ Sls K ρ H S0 σ0 ∧ sp TL M Qd ∧ KOk K Ts ρ H Qd Q ∧
  ∀ E ρ' M' H' Q' Qd' Ed', Sls K ρ' H' S0 σ0 → Rl K Ts ρ' M' H' → TL M' Qd' Ed' → KOk K Ts ρ' H' Qd' Q' → XOk K Ts ρ' H' Ed' E → tl E H' Q'
/-- the def x keeps r of every lambda that it is given -/
def LamFn (P : Program) (w : World) (K : PySem.W.Frag) (mg : Str → Option Value) (base : Heap) (Ts : Tbs) (k : Nat) (Ng : List Str) (x : Str) (sg : Scope) (g : Addr) (cdg : Value) (bg : List Stmt) (a : Str) (r : D → LamD → TSd) : Prop :=
  ∀ (A : Around) (outer : List Env) (l : D) (s : Shared) (H : Hp) (TL : LamD), RoomG k (A.deeper (envOfC x sg s.heap.objs.size g cdg)) →
    (∀ (W : WX) (pn : List (Addr × Obj)) (xe : Value → Shared → Prop) (E : XK) (p1 p2 : Pos), Takes ((LamX.gCx P w K mg base Ng x sg g cdg A outer s H C8.E0).tr pn xe) W → (∀ cls d σ' H', E cls d H' → W cls d σ' H') →
      QE ((LamX.gCx P w K mg base Ng x sg g cdg A outer s H C8.E0).tr pn xe) Ts E (.Call (.Name a p1) [] [] p2) (dAct l TL)) →
    QSs (LamX.gCx P w K mg base Ng x sg g cdg A outer s H C8.E0) Ts C8.E0 bg (r l TL)
def spLam (Ng : List Str) (r : D → LamD → TSd) : LamD → Mem → KD → Prop := fun TL M Q => ∀ l, r l TL { nx := fun _ M' => Q .non M', rt := Q } E00 (startD Ng [l]) M
@[simp] def dLam (sp : LamD → Mem → KD → Prop) (te : TEd) : TEd := fun S M Q _ => sp (fun M' Q' E' => te S M' Q' E') M Q
theorem lam_rl {K : PySem.W.Frag} {Ts : Tbs} {ρ : Rho} {M : Mem} {H H1 : Hp} {P : Addr} {q : Str} (R : Rl K Ts ρ M H) (hl : (P, q) ∈ Ts.l) (hu : ∀ p ∈ Ts.l, p.1 = P → p.2 = q) (b : LamX.ButTab P H H1) (t : LamX.TabS H1 P q) : Grw ρ H ρ H1 ∧ Rl K Ts ρ M H1 := by
  obtain ⟨ps, e, _⟩ := R.lam _ hl
  have ne : ∀ b o, H b = some o → (∀ qs, o ≠ .tbl qs) → b ≠ P := fun b o h n z => by
    rw [z] at h
    exact n ps (Option.some.inj (h.symm.trans e))
  have g : Grw ρ H ρ H1 := ⟨fun _ _ h => h, fun c xs h => b c _ h (ne c _ h fun qs z => by cases z), fun c o u h => b c _ h (ne c _ h fun qs z => by cases z), fun c fs h => b c _ h (ne c _ h fun qs z => by cases z), fun c p r h => b c _ h (ne c _ h fun qs => LamX.codeO_ne qs)⟩
  refine ⟨g, R.inj, R.dom, fun i c h => ?_, fun P' hP' => ?_, fun p hp => ?_⟩
  · obtain ⟨a, o, e1, e2, e3⟩ := R.cell i c h
    have z := e3.is
    exact ⟨a, o, e1, b a o e2 (ne a o e2 (fun qs y => by subst y; exact z)), e3.grw g⟩
  · obtain ⟨qs, h1, h2⟩ := R.tab P' hP'
    exact ⟨qs, b P' _ h1 (fun z => Ts.dis _ hl (by rw [← z]; exact hP')), h2⟩
  · by_cases z : p.1 = P
    · rw [z, hu p hp z]; exact t
    · obtain ⟨qs, h1, h2, h3⟩ := R.lam p hp
      refine ⟨qs, b _ _ h1 z, h2, fun pos cv hc => ?_⟩
      obtain ⟨c, e1, e2⟩ := h3 pos cv hc
      exact ⟨c, e1, b _ _ e2 (ne c _ e2 fun qs => LamX.codeO_ne qs)⟩
section
variable {X : Cx} {Ts : Tbs} {E : XK}
theorem qe_lamcall {x a : Str} {st : Stmt} {g c P : Addr} {fd : FuncData} {c0 : Value} {k : Nat} {Ng : List Str} {params : Arguments} {body : Expr} {scope : Scope} {te : TEd} {p lpos pos : Pos} {r : D → LamD → TSd}
    (hg : Gl X x) (hm : X.mg x = some (.ref g)) (hk : PySem.W.keepIn X.K (.ref g) = true) (F : Fun X.K x x st g fd) (hc : fd.code = c0) (hb : Binds X.K fd [a] []) (Sg : FnScope Ng [a] (defScope st)) (hNg : Ng[0]? = some a) (hva : Vis (defScope st) a)
    (G : LamFn X.prog X.w X.K X.mg X.base Ts (k + 1) Ng x (defScope st) g c0 (defBody st) a r)
    (TB : LamX.TabB X.base X.mg c P) (hcode : X.env.code = .ref c) (hl : (P, X.env.qual ++ "<lambda>") ∈ Ts.l) (hu : ∀ p ∈ Ts.l, p.1 = P → p.2 = X.env.qual ++ "<lambda>") (hr : RoomG (k + 2) X.A) (L : LamX.LamS X.env.scope scope) (hdef : defaultsOf params X.env = ([], []))
    (hbind : ∀ (q : Str) (cl : List (Str × Addr)) (pm cv ctv : Value), bindArgs (PySem.W.kla_fn "<lambda>" q params body scope cl pm cv ctv) ⟨[], []⟩ = pure [])
    (hbody : ∀ (A : Around) (outer : List Env) (s : Shared) (H : Hp) (E : XK) (f c' : Addr), RoomG k (A.deeper (LamX.lamEnv X scope s.heap.objs.size f c')) → QE (LamX.lamCx X A outer s H E scope f c') Ts E body te)
    (hdb : (x == ("__debug__" : Str)) = false := by decide) (hd : (a == ("__debug__" : Str)) = false := by decide) (hcd : (a == ("__classdict__" : Str)) = false := by decide) :
    QE X Ts E (.Call (.Name x p) [.Lambda params body scope lpos] [] pos) (dLam (spLam Ng r) te) := by
  obtain ⟨oc, od, kV, doc, pm, an, cdv, ct, osl, rfl, lk, hco⟩ := F.ex
  have hc : cdv = c0 := hc
  subst hc
  refine peLe (LamX.pe_lamcall3 (TT := TLd X.K Ts (spLam Ng r)) (t := fun E => rdE X.K Ts E te) hg hm hk lk hco hb Sg hNg hva ?_ TB hcode hr L hdef hbind hbody hdb hd hcd) fun σ H Q ⟨ρ, S, M, Qd, Ed, R, sl, q, kk, x⟩ => ?_
  · intro f c' s H Q tl hr' act hcf ⟨ρ, M, Qd, TL, S0, σ0, R, sl, hsp, kk, hTL⟩
    obtain ⟨vs, h1, h2⟩ := sls_pack sl
    refine ⟨_, G X.A X.stack (.lam f c' (X.env.qual ++ "<lambda>") (S0.map (·.isSome)) (S0.map (·.getD .non)) σ0) s H TL hr' (fun W pn xe E p1 p2 tk hW => peLe (act W pn xe E p1 p2 tk hW) fun σZ HZ Q' ⟨ρ', S, M', Qd', Ed', R', sl', ⟨hS, hq⟩, k', x'⟩ => ?_),
      ρ, _, M, _, E00, R, start_sls Ng (.cons (.lam hcf h1 h2) .nil), hsp _, fun S' M' q' ρ' H' σ' g R' _ => kk _ _ q' ρ' H' .non g R' .non, kk, fun _ _ z => z.elim, fun _ _ z => z.elim, xok0⟩
    obtain ⟨v, e1, sh⟩ := sl'.at_ 0 _ hS
    cases sh with
    | lam e2 e3 e4 => exact ⟨e1, e2, hTL E ρ' M' HZ Q' Qd' Ed' (sls_unpack e3 e4) R' hq k' x'⟩
  · refine ⟨R.lam _ hl, fun H1 b t => ?_⟩
    obtain ⟨g, R1⟩ := lam_rl R hl hu b t
    exact ⟨ρ, M, Qd, _, S, σ, R1, sl.grw g, q, kk.grw g, fun E' ρ' M' H' Q' Qd' Ed' sl2 R2 q2 k2 x2 => ⟨ρ', S, M', Qd', Ed', R2, sl2, q2, k2, x2⟩⟩
end
end Dl
set_option Elab.async false
set_option linter.all false
set_option maxRecDepth 100000
set_option maxHeartbeats 4000000
namespace Dl
open PySem PySem.Spec PyProof.Rows L2 GxR Gn
/-- repr(x), x of whatever kind; of dicts only the empty one, and it alone -/
def rReprX (K : PySem.W.Frag) : List V → Hp → VK → Prop := fun xs H Q => ∃ x, xs = [x] ∧
  ((∃ d, Dp K H x d ∧ PyData.showable d = true ∧ d.hasDict = false ∧ d.depth ≤ 60 ∧ d.shown.length ≤ sizeLine ∧ Q (.str d.shown) H) ∨ (∃ a, x = .ref a ∧ H a = some (.dK []) ∧ Q (.str (PyData.dict []).shown) H))
section
variable {X : Cx} {Ts : Tbs} {E : XK}
theorem cr_reprX (hg : X.A.guards = some []) (hu : X.A.units + 64 < cLine) : CallR X (.builtin "repr") (rReprX X.K) := by
  intro pins s σ H xs us Q I r h
  obtain ⟨x, rfl, ⟨d, hd, hs, hn, hdp, hz, q⟩ | ⟨a, rfl, ha, q⟩⟩ := h
  · have go : ((∃ a, x = .ref a) ∨ ∃ z, x = .str z) → wpAny (model X.prog X.w) X.A (call (.builtin "repr") us) _ X.xe s := fun hx => Zn.cr_repr hg hu pins s σ H _ us Q I r ⟨x, d, rfl, hd, hs, hn, hdp, hz, hx, q⟩
    cases hd with
    | non =>
      obtain ⟨u, rfl, rfl⟩ := vals1 r
      simp only [PyData.shown] at q
      exact PySem.P.repr_of_none ⟨.str _, H, I.tok _, ⟨_, rfl⟩, q⟩
    | bl b =>
      obtain ⟨u, rfl, rfl⟩ := vals1 r
      simp only [PyData.shown] at q
      exact PySem.P.repr_of_bool ⟨.str _, H, I.tok _, ⟨_, rfl⟩, q⟩
    | int i =>
      obtain ⟨u, rfl, t, rfl⟩ := vals1 r
      simp only [PyData.shown] at q
      exact PySem.P.repr_of_int (by simpa [PyData.showable] using hs) ⟨.str _, H, I.tok _, ⟨_, rfl⟩, q⟩
    | str z => exact go (.inr ⟨z, rfl⟩)
    | lst h1 h2 => exact go (.inl ⟨_, rfl⟩)
    | tup h1 h2 => exact go (.inl ⟨_, rfl⟩)
  · obtain ⟨u, rfl, rfl⟩ := vals1 r
    obtain ⟨_, hS, vs, kv, o, es, ep, h1, h2, h3, h4, h5, h6⟩ := dk_of I.hok ha
    cases kv
    have he : es = #[] := by
      have hl : es.toList = [] := by
        cases hq : es.toList with
        | nil => rfl
        | cons e l => rw [hq] at h5; cases h5
      exact Array.toList_eq_nil_iff.mp hl
    subst he
    have rd : Reads s.heap (.ref a) (.dict []) ([a] ++ []) := .dict h1 h2.1 h3 .nil .nil
    exact repr_of_reads' rd (by simp [PyData.showable, PyData.showableKv]) (fun _ hm => by
      simp at hm
      rw [hm] at hS
      simp at hS) hg (by simp only [PyData.depth, PyData.depthKv]; omega) (fun _ _ e => e) (fun h' u tk hk => ⟨.str _, H, I.kept (t' := tk) hk, ⟨_, rfl⟩, q⟩) (by simp only [PyData.shown]; decide)
def reprXD : List D → Mem → KD → Prop
  | [x], M, Q => (∃ n d, pyM M n x = some d ∧ PyData.showable d = true ∧ d.hasDict = false ∧ d.depth ≤ 60 ∧ d.shown.length ≤ sizeLine ∧ Q (.str d.shown) M) ∨ (∃ i, x = .obj i ∧ M[i]? = some (.dK []) ∧ Q (.str (PyData.dict []).shown) M)
  | _, _, _ => False
theorem cd_reprX : CallD X Ts (rReprX X.K) reprXD := fun ρ M H ds vs Q Qd R s h k => by
  cases s with
  | nil => exact h.elim
  | cons s1 s2 =>
    cases s2 with
    | cons _ _ => exact h.elim
    | nil =>
      rcases h with ⟨n, d, e, h1, h2, h3, h4, q⟩ | ⟨i, rfl, em, q⟩
      · exact ⟨_, rfl, .inl ⟨d, pyM_dp R n _ d _ e s1, h1, h2, h3, h4, k.same R q (.str _)⟩⟩
      · cases s1 with
        | obj ea =>
          obtain ⟨a', ws, r1, g1, t1⟩ := R.dict em
          rw [ea] at r1; cases r1
          cases t1
          exact ⟨_, rfl, .inr ⟨_, rfl, g1, k.same R q (.str _)⟩⟩
/-- x in t, t a tuple -/
def inTtD (y x : D) (M : Mem) (Q : KD) : Prop := ∃ n d ds ps, x = .tup ds ∧ pyM M n y = some d ∧ pyMs M n ds = some ps ∧ SeqAt.shaped d = true ∧ SeqAt.shaped (.tuple ps) = true ∧ Q (.bl (ps.any fun z => PyData.eqv z d)) M
theorem od_inTt : OpD X Ts (Zn.rInT X.K) inTtD := fun ρ M H y x v u Q Qd R sy sx ⟨n, d, ds, ps, ex, e1, e2, h1, h2, q⟩ k => by
  subst ex
  cases sx with
  | tup ha hs => exact ⟨d, ps, pyM_dp R n y d v e1 sy, .tup (SqT.of ha) (pyMs_dp R n ds ps _ e2 hs), h1, h2, k.same R q (.bl _)⟩
/-- in a suite: what repr and `in` ask -/
theorem suite_g {k : Nat} {a : Addr} {pn : List (Addr × Obj)} (hr : RoomG k X.A) : (X.suite a pn).A.guards = some [] := hr.g
theorem suite_u {k : Nat} {a : Addr} {pn : List (Addr × Obj)} (hr : RoomG k X.A) : (X.suite a pn).A.units + 64 < cLine := by
  have := hr.r.units
  show X.A.units + 64 < cLine
  omega
theorem suite_u5 {k : Nat} {a : Addr} {pn : List (Addr × Obj)} (hr : RoomG k X.A) : (X.suite a pn).A.units + 65 < cLine := by
  have := hr.r.un
  show X.A.units + 65 < cLine
  omega
theorem takesL {A : Around} {outer : List Env} {s : Shared} {H : Hp} {scope : Scope} {f c' : Addr} : Takes (LamX.lamCx X A outer s H E scope f c') (fun c d _ H => E c d H) := takes_of rfl rfl rfl rfl
end
end Dl
set_option Elab.async false
set_option linter.all false
set_option maxRecDepth 100000
set_option maxHeartbeats 4000000
namespace Z13
open PySem PySem.Spec PyProof.Rows L2 GxR Gn Dl
def top (i : Nat) : Stmt := PySem.Challenge.pw_draftward_k13_draws_by_weights.main.body.getD i (.Pass ⟨0, 0, 0, 0⟩)
def subX (j m : Nat) : Bool := ([(3, 3), (3, 2), (4, 4), (4, 2), (5, 5), (5, 2)] : List (Nat × Nat)).contains (j, m)
set_option genInjectivity false in
set_option genSizeOfSpec false in
structure Wd (K : PySem.W.Frag) (mg : Str → Option Value) (base : Heap) where
  a0 : Addr
  d0 : FuncData
  D0 : Df K mg "_wall" (top 0) ["k"] a0 d0
  a7 : Addr
  d7 : FuncData
  D7 : Df K mg "is_integer" (top 7) ["thing"] a7 d7
  a8 : Addr
  d8 : FuncData
  D8 : Df K mg "is_integer_from" (top 8) ["thing", "least"] a8 d8
  a9 : Addr
  d9 : FuncData
  D9 : Df K mg "are_weights" (top 9) ["thing"] a9 d9
  a10 : Addr
  d10 : FuncData
  D10 : Df K mg "is_tape" (top 10) ["thing"] a10 d10
  a12 : Addr
  d12 : FuncData
  D12 : Df K mg "need_number" (top 12) ["thing", "least"] a12 d12
  a13 : Addr
  d13 : FuncData
  D13 : Df K mg "need_tape" (top 13) ["tape"] a13 d13
  a17 : Addr
  d17 : FuncData
  D17 : Df K mg "draw" (top 17) ["weights", "tape", "used"] a17 d17
  a19 : Addr
  d19 : FuncData
  D19 : Df K mg "_law_deck" (top 19) ["script"] a19 d19
  a20 : Addr
  d20 : FuncData
  D20 : Df K mg "_law_draw" (top 20) ["deck", "many"] a20 d20
  a21 : Addr
  d21 : FuncData
  D21 : Df K mg "_law_pick" (top 21) ["deck", "some"] a21 d21
  a22 : Addr
  d22 : FuncData
  D22 : Df K mg "_law_drawn_weights" (top 22) ["deck", "size", "most"] a22 d22
  a23 : Addr
  d23 : FuncData
  D23 : Df K mg "_law_taken" (top 23) ["weights", "number"] a23 d23
  a24 : Addr
  d24 : FuncData
  D24 : Df K mg "_law_tried" (top 24) ["call"] a24 d24
  a25 : Addr
  d25 : FuncData
  D25 : Df K mg "_law_are_all_numbers_right" (top 25) ["deck"] a25 d25
  a26 : Addr
  d26 : FuncData
  D26 : Df K mg "law" (top 26) ["script"] a26 d26
  cs : Nat → Addr
  x2 : mg "DraftError" = some (.ref (cs 2))
  x3 : mg "BadNumber" = some (.ref (cs 3))
  x4 : mg "BadTape" = some (.ref (cs 4))
  x5 : mg "BadWeights" = some (.ref (cs 5))
  y3 : Addr
  e3 : PySem.ErrX.ErrTxt K mg "BadNumber" (cs 3) y3
  y4 : Addr
  e4 : PySem.ErrX.ErrTxt K mg "BadTape" (cs 4) y4
  y5 : Addr
  e5 : PySem.ErrX.ErrTxt K mg "BadWeights" (cs 5) y5
  eks : ∀ j, j ∈ ([3, 4, 5] : List Nat) → ExK K (cs j)
  ens : ∀ j, j ∈ ([3, 4, 5] : List Nat) → PySem.W.findIn K (.ref (cs j)) "thing" = some none
  xk3 : ∀ j, j ∈ ([3, 4, 5] : List Nat) → PySem.W.kitOne K (.ref (cs j)) (.ref (cs 3)) = some (subX j 3)
  xk4 : ∀ j, j ∈ ([3, 4, 5] : List Nat) → PySem.W.kitOne K (.ref (cs j)) (.ref (cs 4)) = some (subX j 4)
  xk5 : ∀ j, j ∈ ([3, 4, 5] : List Nat) → PySem.W.kitOne K (.ref (cs j)) (.ref (cs 5)) = some (subX j 5)
  xm2 : ∀ j, j ∈ ([3, 4, 5] : List Nat) → PySem.W.exmOne K (.ref (cs j)) (.ref (cs 2)) = some true
  a15_0 : Addr
  d15_0 : FuncData
  D15_0 : Dm K "__init__" "TapeReader.__init__" (inClass (top 15) 0) ["self", "tape", "used"] a15_0 d15_0
  k15 : Mk K (cs 15) a15_0
  a15_1 : Addr
  d15_1 : FuncData
  D15_1 : Dm K "below" "TapeReader.below" (inClass (top 15) 1) ["self", "whole"] a15_1 d15_1
  m15_1 : Meth K (cs 15) "below" a15_1
  a15_2 : Addr
  d15_2 : FuncData
  D15_2 : Dm K "token_by" "TapeReader.token_by" (inClass (top 15) 2) ["self", "weights"] a15_2 d15_2
  m15_2 : Meth K (cs 15) "token_by" a15_2
  cl15 : Cls K (cs 15)
  g15 : mg "TapeReader" = some (.ref (cs 15))
  n15_tape : NoAttr K (cs 15) "tape"
  n15_used : NoAttr K (cs 15) "used"
  c9 : Addr
  P9 : Addr
  T9 : Tb mg base d9 c9 P9
  c10 : Addr
  P10 : Addr
  T10 : Tb mg base d10 c10 P10
  c26 : Addr
  P26 : Addr
  T26 : Tb mg base d26 c26 P26
  m_all : mg "all" = none
  m_bool : mg "bool" = none
  m_enumerate : mg "enumerate" = none
  m_int : mg "int" = none
  m_isinstance : mg "isinstance" = none
  m_len : mg "len" = none
  m_list : mg "list" = none
  m_max : mg "max" = none
  m_range : mg "range" = none
  m_repr : mg "repr" = none
  m_sum : mg "sum" = none
  m_tuple : mg "tuple" = none
  dis : P26 ≠ P9 ∧ P26 ≠ P10
def Wd.Ts {K : PySem.W.Frag} {mg : Str → Option Value} {base : Heap} (W : Wd K mg base) (w : World) : Tbs := { w := w, g := [W.P9, W.P10], l := [(W.P26, (("law" : Str) ++ ".<locals>.") ++ "<lambda>")], dis := by simpa using W.dis }
theorem sc7 : FnScope ["thing"] ["thing"] (defScope (top 7)) := ⟨rfl, rfl, rfl, by decide +kernel, rfl, by decide +kernel, by decide +kernel⟩
theorem sc8 : FnScope ["thing", "least"] ["thing", "least"] (defScope (top 8)) := ⟨rfl, rfl, rfl, by decide +kernel, rfl, by decide +kernel, by decide +kernel⟩
theorem sc9 : FnScope ["thing", "item"] ["thing"] (defScope (top 9)) := ⟨rfl, rfl, rfl, by decide +kernel, rfl, by decide +kernel, by decide +kernel⟩
theorem sc10 : FnScope ["thing", "item"] ["thing"] (defScope (top 10)) := ⟨rfl, rfl, rfl, by decide +kernel, rfl, by decide +kernel, by decide +kernel⟩
theorem sc12 : FnScope ["thing", "least"] ["thing", "least"] (defScope (top 12)) := ⟨rfl, rfl, rfl, by decide +kernel, rfl, by decide +kernel, by decide +kernel⟩
theorem sc13 : FnScope ["tape"] ["tape"] (defScope (top 13)) := ⟨rfl, rfl, rfl, by decide +kernel, rfl, by decide +kernel, by decide +kernel⟩
theorem sc17 : FnScope ["weights", "tape", "used", "reader", "token"] ["weights", "tape", "used"] (defScope (top 17)) := ⟨rfl, rfl, rfl, by decide +kernel, rfl, by decide +kernel, by decide +kernel⟩
theorem sc19 : FnScope ["script", "mixed", "cell"] ["script"] (defScope (top 19)) := ⟨rfl, rfl, rfl, by decide +kernel, rfl, by decide +kernel, by decide +kernel⟩
theorem sc20 : FnScope ["deck", "many", "cell", "figure"] ["deck", "many"] (defScope (top 20)) := ⟨rfl, rfl, rfl, by decide +kernel, rfl, by decide +kernel, by decide +kernel⟩
theorem sc21 : FnScope ["deck", "some"] ["deck", "some"] (defScope (top 21)) := ⟨rfl, rfl, rfl, by decide +kernel, rfl, by decide +kernel, by decide +kernel⟩
theorem sc22 : FnScope ["deck", "size", "most", "found", "x"] ["deck", "size", "most"] (defScope (top 22)) := ⟨rfl, rfl, rfl, by decide +kernel, rfl, by decide +kernel, by decide +kernel⟩
theorem sc23 : FnScope ["weights", "number", "total", "x", "weight"] ["weights", "number"] (defScope (top 23)) := ⟨rfl, rfl, rfl, by decide +kernel, rfl, by decide +kernel, by decide +kernel⟩
theorem sc24 : FnScope ["call", "e", "kinds"] ["call"] (defScope (top 24)) := ⟨rfl, rfl, rfl, by decide +kernel, rfl, by decide +kernel, by decide +kernel⟩
theorem sc25 : FnScope ["deck", "weights", "number", "told"] ["deck"] (defScope (top 25)) := ⟨rfl, rfl, rfl, by decide +kernel, rfl, by decide +kernel, by decide +kernel⟩
theorem sc26 : FnScope ["script", "deck", "many", "weights", "tape", "used", "number", "due", "odd", "first", "at", "is_right", "thing", "told", "a", "b", "c", "turn", "x", "k", "place"] ["script"] (defScope (top 26)) := ⟨rfl, rfl, rfl, by decide +kernel, rfl, by decide +kernel, by decide +kernel⟩
theorem sc15_0 : FnScope ["self", "tape", "used"] ["self", "tape", "used"] (defScope (inClass (top 15) 0)) := ⟨rfl, rfl, rfl, by decide +kernel, rfl, by decide +kernel, by decide +kernel⟩
theorem sc15_1 : FnScope ["self", "whole", "found"] ["self", "whole"] (defScope (inClass (top 15) 1)) := ⟨rfl, rfl, rfl, by decide +kernel, rfl, by decide +kernel, by decide +kernel⟩
theorem sc15_2 : FnScope ["self", "weights", "number", "token"] ["self", "weights"] (defScope (inClass (top 15) 2)) := ⟨rfl, rfl, rfl, by decide +kernel, rfl, by decide +kernel, by decide +kernel⟩
end Z13
set_option Elab.async false
set_option linter.all false
set_option maxRecDepth 100000
set_option maxHeartbeats 4000000
namespace Z13
open PySem PySem.Spec PyProof.Rows L2 GxR Gn Dl
section
variable {P : Program} {w : World} {K : PySem.W.Frag} {mg : Str → Option Value} {base : Heap} (W : Wd K mg base)
def r_is_integer : TSd := dRet (dAnd (dCB isiD (dCons (dVar 0) (dCons (dC (.ty "int")) (dNil)))) (dNot (dCB isiD (dCons (dVar 0) (dCons (dC (.ty "bool")) (dNil))))))
def sp_is_integer : SpD := fun ds M Q E => r_is_integer { nx := fun _ M' => Q .non M', rt := Q } E (startD ["thing"] ds) M
theorem ok_is_integer : FnD P w K mg base (W.Ts w) 1 W.a7 W.d7 1 ["thing"] sp_is_integer :=
  fnD (N := ["thing"]) (ps := ["thing"]) W.D7.F rfl sc7 (fun A outer s H E hr => qss_one (qs_ret (qe_and (qe_cb (id := "isinstance") call_isi cd_isi (by rfl) W.m_isinstance bt_isinstance (qa_cons (qv 0) (qa_cons (qe_bltn (n := "int") (by rfl) W.m_int (by decide +kernel)) (qa_nil)))) (qe_one (qe_not (qe_cb (id := "isinstance") call_isi cd_isi (by rfl) W.m_isinstance bt_isinstance (qa_cons (qv 0) (qa_cons (qe_bltn (n := "bool") (by rfl) W.m_bool (by decide +kernel)) (qa_nil))))))))) fun _ _ _ _ _ h => h
def r_is_integer_from : TSd := dRet (dAnd (dCall 1 sp_is_integer (dCons (dVar 0) (dNil))) (dOp geD (dVar 0) (dVar 1)))
def sp_is_integer_from : SpD := fun ds M Q E => r_is_integer_from { nx := fun _ M' => Q .non M', rt := Q } E (startD ["thing", "least"] ds) M
theorem ok_is_integer_from : FnD P w K mg base (W.Ts w) 2 W.a8 W.d8 2 ["thing", "least"] sp_is_integer_from :=
  fnD (N := ["thing", "least"]) (ps := ["thing", "least"]) W.D8.F rfl sc8 (fun A outer s H E hr => qss_one (qs_ret (qe_and (qe_call (ok_is_integer W) (hr.mono (by decide)) (by rfl) W.D7.g W.D7.kp W.D7.b takesD (qa_cons (qv 0) (qa_nil))) (qe_one (qe_cmp (op_rI0 op_ge) od_ge (qv 0) (qv 1) (nomark _)))))) fun _ _ _ _ _ h => h
def r_are_weights : TSd := dSeq (dIfS (dNotT (dTest (dCB isiD (dCons (dVar 0) (dCons (dC (.ty "tuple")) (dNil)))))) (dRet (dC (.bl false))) (dNext)) (dRet (dAnd (dAll (dWalk (dVar 0)) (dGN 1) (dCall 2 sp_is_integer_from (dCons (dVar 1) (dCons (dC (.int 0)) (dNil)))) [1]) (dOp gtD (dCB sumHD (dCons (dVar 0) (dNil))) (dC (.int 0)))))
def sp_are_weights : SpD := fun ds M Q E => r_are_weights { nx := fun _ M' => Q .non M', rt := Q } E (startD ["thing", "item"] ds) M
theorem ok_are_weights : FnD P w K mg base (W.Ts w) 4 W.a9 W.d9 1 ["thing"] sp_are_weights :=
  fnD (N := ["thing", "item"]) (ps := ["thing"]) W.D9.F W.T9.code sc9 (fun A outer s H E hr => qss_cons (qs_if (qt_not (qt_val (qe_cb (id := "isinstance") call_isi cd_isi (by rfl) W.m_isinstance bt_isinstance (qa_cons (qv 0) (qa_cons (qe_bltn (n := "tuple") (by rfl) W.m_tuple (by decide +kernel)) (qa_nil)))))) (qss_one (qs_ret (qe_bl))) (qss_nil)) (qss_one (qs_ret (qe_and (qe_all (own := [("item", 1)]) (g := gName 1) (by simp [Wd.Ts]) rfl hr.r (by rfl) W.m_all W.T9.tab rfl sc9.nd (blkOk_by (N := ["thing", "item"]) (sc := defScope (top 9)) (by decide +kernel)) rfl (by decide +kernel) (by decide +kernel) (qi_any (qv 0)) (fun _ _ _ _ _ _ _ => pg_name (i := 1) sc9.nd rfl (by first | exact .inl rfl | exact .inr rfl)) (tg_name (by simp)) (gm_name) (fun _ _ _ _ _ _ _ h1 h2 => have hz1 : RoomG _ _ := ⟨h1, h2.trans hr.g⟩; qe_call (ok_is_integer_from W) (hz1.mono (by decide)) (by rfl) W.D8.g W.D8.kp W.D8.b Dl.takes0 (qa_cons (qv 1) (qa_cons (qe_int) (qa_nil))))) (qe_one (qe_cmp (op_rI0 op_gt) od_gt (qe_cb (id := "sum") (cr_sumH rfl) cd_sumH (by rfl) W.m_sum bt_sum (qa_cons (qv 0) (qa_nil))) (qe_int) (nomark _))))))) fun _ _ _ _ _ h => h
def r_is_tape : TSd := dRet (dAnd (dCB isiD (dCons (dVar 0) (dCons (dC (.ty "tuple")) (dNil)))) (dAll (dWalk (dVar 0)) (dGN 1) (dCall 2 sp_is_integer_from (dCons (dVar 1) (dCons (dC (.int 0)) (dNil)))) [1]))
def sp_is_tape : SpD := fun ds M Q E => r_is_tape { nx := fun _ M' => Q .non M', rt := Q } E (startD ["thing", "item"] ds) M
theorem ok_is_tape : FnD P w K mg base (W.Ts w) 4 W.a10 W.d10 1 ["thing"] sp_is_tape :=
  fnD (N := ["thing", "item"]) (ps := ["thing"]) W.D10.F W.T10.code sc10 (fun A outer s H E hr => qss_one (qs_ret (qe_and (qe_cb (id := "isinstance") call_isi cd_isi (by rfl) W.m_isinstance bt_isinstance (qa_cons (qv 0) (qa_cons (qe_bltn (n := "tuple") (by rfl) W.m_tuple (by decide +kernel)) (qa_nil)))) (qe_one (qe_all (own := [("item", 1)]) (g := gName 1) (by simp [Wd.Ts]) rfl hr.r (by rfl) W.m_all W.T10.tab rfl sc10.nd (blkOk_by (N := ["thing", "item"]) (sc := defScope (top 10)) (by decide +kernel)) rfl (by decide +kernel) (by decide +kernel) (qi_any (qv 0)) (fun _ _ _ _ _ _ _ => pg_name (i := 1) sc10.nd rfl (by first | exact .inl rfl | exact .inr rfl)) (tg_name (by simp)) (gm_name) (fun _ _ _ _ _ _ _ h1 h2 => have hz2 : RoomG _ _ := ⟨h1, h2.trans hr.g⟩; qe_call (ok_is_integer_from W) (hz2.mono (by decide)) (by rfl) W.D8.g W.D8.kp W.D8.b Dl.takes0 (qa_cons (qv 1) (qa_cons (qe_int) (qa_nil))))))))) fun _ _ _ _ _ h => h
def r_need_number (cs : Nat → Addr) : TSd := dIfS (dNotT (dTest (dCall 2 sp_is_integer_from (dCons (dVar 0) (dCons (dVar 1) (dNil)))))) (dRaise (cs 3) (dVar 0)) (dNext)
def sp_need_number (cs : Nat → Addr) : SpD := fun ds M Q E => r_need_number cs { nx := fun _ M' => Q .non M', rt := Q } E (startD ["thing", "least"] ds) M
theorem ok_need_number : FnD P w K mg base (W.Ts w) 3 W.a12 W.d12 2 ["thing", "least"] (sp_need_number W.cs) :=
  fnD (N := ["thing", "least"]) (ps := ["thing", "least"]) W.D12.F rfl sc12 (fun A outer s H E hr => qss_one (qs_if (qt_not (qt_val (qe_call (ok_is_integer_from W) (hr.mono (by decide)) (by rfl) W.D8.g W.D8.kp W.D8.b takesD (qa_cons (qv 0) (qa_cons (qv 1) (qa_nil)))))) (qss_one (qs_raise rfl W.e3 hr takesD (qv 0) (by rfl))) (qss_nil))) fun _ _ _ _ _ h => h
def r_need_tape (cs : Nat → Addr) : TSd := dIfS (dNotT (dTest (dCall 1 sp_is_tape (dCons (dVar 0) (dNil))))) (dRaise (cs 4) (dVar 0)) (dNext)
def sp_need_tape (cs : Nat → Addr) : SpD := fun ds M Q E => r_need_tape cs { nx := fun _ M' => Q .non M', rt := Q } E (startD ["tape"] ds) M
theorem ok_need_tape : FnD P w K mg base (W.Ts w) 5 W.a13 W.d13 1 ["tape"] (sp_need_tape W.cs) :=
  fnD (N := ["tape"]) (ps := ["tape"]) W.D13.F rfl sc13 (fun A outer s H E hr => qss_one (qs_if (qt_not (qt_val (qe_call (ok_is_tape W) (hr.mono (by decide)) (by rfl) W.D10.g W.D10.kp W.D10.b takesD (qa_cons (qv 0) (qa_nil))))) (qss_one (qs_raise rfl W.e4 hr takesD (qv 0) (by rfl))) (qss_nil))) fun _ _ _ _ _ h => h
def r_TapeReader___init__ (cs : Nat → Addr) : TSd := dSeq (dPutC (cs 15) "tape" (dVar 0) (dVar 1)) (dPutC (cs 15) "used" (dVar 0) (dVar 2))
def sp_TapeReader___init__ (cs : Nat → Addr) : SpD := fun ds M Q E => r_TapeReader___init__ cs { nx := fun _ M' => Q .non M', rt := Q } E (startD ["self", "tape", "used"] ds) M
theorem ok_TapeReader___init__ : FnD P w K mg base (W.Ts w) 1 W.a15_0 W.d15_0 3 ["self", "tape", "used"] (sp_TapeReader___init__ W.cs) :=
  fnD (N := ["self", "tape", "used"]) (ps := ["self", "tape", "used"]) W.D15_0.F rfl sc15_0 (fun A outer s H E hr => qss_cons (qs_fldC W.cl15 W.n15_tape (qv 0) (qv 1)) (qss_one (qs_fldC W.cl15 W.n15_used (qv 0) (qv 2)))) fun _ _ _ _ _ h => h
def r_TapeReader_below (cs : Nat → Addr) : TSd := dSeq (dSet 2 (dIf (dTest (dOp (cmpD true) (dFldC (cs 15) "used" (dVar 0)) (dCB lenD (dCons (dFldC (cs 15) "tape" (dVar 0)) (dNil))))) (dOp ixA (dFldC (cs 15) "tape" (dVar 0)) (dFldC (cs 15) "used" (dVar 0))) (dC (.int 0)))) (dSeq (dAugC (cs 15) "used" (Dl.intD (fun _ _ => True) fun i j => .int (i + j)) (dVar 0) (dC (.int 1))) (dRet (dOp modD (dVar 2) (dVar 1))))
def sp_TapeReader_below (cs : Nat → Addr) : SpD := fun ds M Q E => r_TapeReader_below cs { nx := fun _ M' => Q .non M', rt := Q } E (startD ["self", "whole", "found"] ds) M
theorem ok_TapeReader_below : FnD P w K mg base (W.Ts w) 1 W.a15_1 W.d15_1 2 ["self", "whole"] (sp_TapeReader_below W.cs) :=
  fnD (N := ["self", "whole", "found"]) (ps := ["self", "whole"]) W.D15_1.F rfl sc15_1 (fun A outer s H E hr => qss_cons (qs_set (i := 2) sc15_1.nd rfl (by first | exact .inl rfl | exact .inr rfl) (qe_if (qt_cmp (op_ltH hr.r) od_ltH (qe_fldC W.cl15 W.n15_used (qv 0)) (qe_cb (id := "len") cr_lenH cd_len (by rfl) W.m_len bt_len (qa_cons (qe_fldC W.cl15 W.n15_tape (qv 0)) (qa_nil))) (nomark _)) (qe_at hr.r (qe_fldC W.cl15 W.n15_tape (qv 0)) (qe_fldC W.cl15 W.n15_used (qv 0))) (qe_int))) (qss_cons (qs_augCI W.cl15 W.n15_used (qv 0) (qe_int) iop_addT) (qss_one (qs_ret (qe_mod (qv 2) (qv 1)))))) fun _ _ _ _ _ h => h
def r_TapeReader_token_by (cs : Nat → Addr) : TSd := dSeq (dSet 2 (dMethC (cs 15) "below" 2 (sp_TapeReader_below cs) (dVar 0) (dCons (dCB sumHD (dCons (dVar 1) (dNil))) (dNil)))) (dSeq (dSet 3 (dC (.int 0))) (dSeq (dWhile (dTest (dOp geD (dVar 2) (dOp ixA (dVar 1) (dVar 3)))) (dSeq (dAug 2 (Dl.intD (fun _ _ => True) fun i j => .int (i - j)) (dOp ixA (dVar 1) (dVar 3))) (dAug 3 (Dl.intD (fun _ _ => True) fun i j => .int (i + j)) (dC (.int 1))))) (dRet (dVar 3))))
def sp_TapeReader_token_by (cs : Nat → Addr) : SpD := fun ds M Q E => r_TapeReader_token_by cs { nx := fun _ M' => Q .non M', rt := Q } E (startD ["self", "weights", "number", "token"] ds) M
theorem ok_TapeReader_token_by : FnD P w K mg base (W.Ts w) 2 W.a15_2 W.d15_2 2 ["self", "weights"] (sp_TapeReader_token_by W.cs) :=
  fnD (N := ["self", "weights", "number", "token"]) (ps := ["self", "weights"]) W.D15_2.F rfl sc15_2 (fun A outer s H E hr => qss_cons (qs_set (i := 2) sc15_2.nd rfl (by first | exact .inl rfl | exact .inr rfl) (qe_methC (qv 0) W.cl15 W.m15_1 (ok_TapeReader_below W) (hr.mono (by decide)) W.D15_1.b takesD (qa_cons (qe_cb (id := "sum") (cr_sumH rfl) cd_sumH (by rfl) W.m_sum bt_sum (qa_cons (qv 1) (qa_nil))) (qa_nil)))) (qss_cons (qs_set (i := 3) sc15_2.nd rfl (by first | exact .inl rfl | exact .inr rfl) (qe_int)) (qss_cons (qs_while passD (qt_cmp (op_rI0 op_ge) od_ge (qv 2) (qe_at hr.r (qv 1) (qv 3)) (nomark _)) (qss_cons (qs_augI (i := 2) sc15_2.nd rfl (by first | exact .inl rfl | exact .inr rfl) (qe_at hr.r (qv 1) (qv 3)) iop_subT) (qss_one (qs_augI (i := 3) sc15_2.nd rfl (by first | exact .inl rfl | exact .inr rfl) (qe_int) iop_addT)))) (qss_one (qs_ret (qv 3)))))) fun _ _ _ _ _ h => h
def r_draw (cs : Nat → Addr) : TSd := dSeq (dIfS (dNotT (dTest (dCall 1 sp_are_weights (dCons (dVar 0) (dNil))))) (dRaise (cs 5) (dVar 0)) (dNext)) (dSeq (dDrop (dCall 1 (sp_need_tape cs) (dCons (dVar 1) (dNil)))) (dSeq (dDrop (dCall 2 (sp_need_number cs) (dCons (dVar 2) (dCons (dC (.int 0)) (dNil))))) (dSeq (dSet 3 (dMake (cs 15) 3 (sp_TapeReader___init__ cs) (dCons (dVar 1) (dCons (dVar 2) (dNil))))) (dSeq (dSet 4 (dMethC (cs 15) "token_by" 2 (sp_TapeReader_token_by cs) (dVar 3) (dCons (dVar 0) (dNil)))) (dRet (dTup (dCons (dVar 4) (dCons (dFldC (cs 15) "used" (dVar 3)) (dNil)))))))))
def sp_draw (cs : Nat → Addr) : SpD := fun ds M Q E => r_draw cs { nx := fun _ M' => Q .non M', rt := Q } E (startD ["weights", "tape", "used", "reader", "token"] ds) M
theorem ok_draw : FnD P w K mg base (W.Ts w) 6 W.a17 W.d17 3 ["weights", "tape", "used"] (sp_draw W.cs) :=
  fnD (N := ["weights", "tape", "used", "reader", "token"]) (ps := ["weights", "tape", "used"]) W.D17.F rfl sc17 (fun A outer s H E hr => qss_cons (qs_if (qt_not (qt_val (qe_call (ok_are_weights W) (hr.mono (by decide)) (by rfl) W.D9.g W.D9.kp W.D9.b takesD (qa_cons (qv 0) (qa_nil))))) (qss_one (qs_raise rfl W.e5 hr takesD (qv 0) (by rfl))) (qss_nil)) (qss_cons (qs_expr (qe_call (ok_need_tape W) (hr.mono (by decide)) (by rfl) W.D13.g W.D13.kp W.D13.b takesD (qa_cons (qv 1) (qa_nil)))) (qss_cons (qs_expr (qe_call (ok_need_number W) (hr.mono (by decide)) (by rfl) W.D12.g W.D12.kp W.D12.b takesD (qa_cons (qv 2) (qa_cons (qe_int) (qa_nil))))) (qss_cons (qs_set (i := 3) sc17.nd rfl (by first | exact .inl rfl | exact .inr rfl) (qe_make W.k15 (ok_TapeReader___init__ W) (hr.mono (by decide)) (by rfl) W.g15 W.D15_0.b takesD (qa_cons (qv 1) (qa_cons (qv 2) (qa_nil))))) (qss_cons (qs_set (i := 4) sc17.nd rfl (by first | exact .inl rfl | exact .inr rfl) (qe_methC (qv 3) W.cl15 W.m15_2 (ok_TapeReader_token_by W) (hr.mono (by decide)) W.D15_2.b takesD (qa_cons (qv 0) (qa_nil)))) (qss_one (qs_ret (qe_tup (qa_cons (qv 4) (qa_cons (qe_fldC W.cl15 W.n15_used (qv 3)) (qa_nil))))))))))) fun _ _ _ _ _ h => h
def r__law_deck : TSd := dSeq (dSet 1 (dC (.int 14408013))) (dSeq (dFor (dWalk (dSl (dVar 0) (dNo) (dPart (dC (.int 63))))) (dGN 2) (dSet 1 (dOp modD (dCB intOfD (dCons (dOp addD (dOp addD (dOp mulA (dVar 1) (dC (.int 40692))) (dOp modD (dCB intOfD (dCons (dVar 2) (dNil))) (dC (.int 2147483647)))) (dC (.int 31))) (dNil))) (dC (.int 2147483563))))) (dRet (dDisp [(dC (.str "left"), dRev (dCB lstOfD (dCons (dSl (dVar 0) (dNo) (dPart (dC (.int 63)))) (dNil)))), (dC (.str "mixed"), dVar 1), (dC (.str "draws"), dC (.int 0))])))
def sp__law_deck : SpD := fun ds M Q E => r__law_deck { nx := fun _ M' => Q .non M', rt := Q } E (startD ["script", "mixed", "cell"] ds) M
theorem ok__law_deck : FnD P w K mg base (W.Ts w) 1 W.a19 W.d19 1 ["script"] sp__law_deck :=
  fnD (N := ["script", "mixed", "cell"]) (ps := ["script"]) W.D19.F rfl sc19 (fun A outer s H E hr => qss_cons (qs_set (i := 1) sc19.nd rfl (by first | exact .inl rfl | exact .inr rfl) (qe_int)) (qss_cons (qs_for passD rfl (qi_any (qe_slice (qv 0) (qo_none) (qo_some (qe_int)))) (qg_name (i := 2) sc19.nd rfl (by first | exact .inl rfl | exact .inr rfl)) (qss_one (qs_set (i := 1) sc19.nd rfl (by first | exact .inl rfl | exact .inr rfl) (qe_mod (qe_cty (T := "int") call_int1 cd_int (by rfl) W.m_int bt_int (qa_cons (qe_add (qe_add (qe_mulA (qv 1) (qe_int)) (qe_mod (qe_cty (T := "int") call_int1 cd_int (by rfl) W.m_int bt_int (qa_cons (qv 2) (qa_nil))) (qe_int))) (qe_int)) (qa_nil))) (qe_int))))) (qss_one (qs_ret (qe_disp (trs := [(dC (.str "left"), dRev (dCB lstOfD (dCons (dSl (dVar 0) (dNo) (dPart (dC (.int 63)))) (dNil)))), (dC (.str "mixed"), dVar 1), (dC (.str "draws"), dC (.int 0))]) (pps_cons (qe_str) (qe_rev (qe_cty (T := "list") (cr_lstOf hr.r.hd) cd_lst (by rfl) W.m_list bt_list (qa_cons (qe_slice (qv 0) (qo_none) (qo_some (qe_int))) (qa_nil)))) (pps_cons (qe_str) (qv 1) (pps_cons (qe_str) (qe_int) (pps_nil))))))))) fun _ _ _ _ _ h => h
def r__law_draw : TSd := dSeq (dPut (dVar 0) (dC (.str "draws")) (dOp addD (dOp ixA (dVar 0) (dC (.str "draws"))) (dC (.int 1)))) (dSeq (dIfS (dTest (dOp (eqA true) (dOp ixA (dVar 0) (dC (.str "left"))) (dLst (dNil)))) (dSeq (dSet 2 (dBM0 isLst popD (dOp ixA (dVar 0) (dC (.str "left"))))) (dSeq (dIfS (dTest (dOp geD (dVar 2) (dOp powD (dC (.int 10)) (dC (.int 18))))) (dSeq (dDrop (dBM isLst appendD (dOp ixA (dVar 0) (dC (.str "left"))) (dCons (dOp fdivWD (dVar 2) (dCB (max2D true) (dCons (dC (.int 2)) (dCons (dVar 1) (dNil))))) (dNil)))) (dRet (dOp modD (dCB intOfD (dCons (dVar 2) (dNil))) (dVar 1)))) (dNext)) (dPut (dVar 0) (dC (.str "mixed")) (dOp modD (dCB intOfD (dCons (dOp addD (dOp addD (dOp mulA (dOp ixA (dVar 0) (dC (.str "mixed"))) (dC (.int 39373))) (dOp modD (dCB intOfD (dCons (dVar 2) (dNil))) (dC (.int 2147483629)))) (dC (.int 1))) (dNil))) (dC (.int 2147483587)))))) (dNext)) (dSeq (dSet 3 (dOp modD (dCB intOfD (dCons (dOp addD (dOp ixA (dVar 0) (dC (.str "mixed"))) (dOp mulA (dC (.int 31337)) (dOp ixA (dVar 0) (dC (.str "draws"))))) (dNil))) (dC (.int 2147483647)))) (dSeq (dSet 3 (dOp modD (dCB intOfD (dCons (dOp addD (dOp addD (dOp mulA (dVar 3) (dVar 3)) (dOp mulA (dC (.int 48271)) (dOp ixA (dVar 0) (dC (.str "draws"))))) (dC (.int 3))) (dNil))) (dC (.int 2147483629)))) (dSeq (dSet 3 (dOp modD (dCB intOfD (dCons (dOp addD (dOp mulA (dVar 3) (dC (.int 69621))) (dC (.int 77))) (dNil))) (dC (.int 2147483563)))) (dRet (dOp modD (dCB intOfD (dCons (dOp fdivWD (dVar 3) (dC (.int 64))) (dNil))) (dVar 1)))))))
def sp__law_draw : SpD := fun ds M Q E => r__law_draw { nx := fun _ M' => Q .non M', rt := Q } E (startD ["deck", "many", "cell", "figure"] ds) M
theorem ok__law_draw : FnD P w K mg base (W.Ts w) 1 W.a20 W.d20 2 ["deck", "many"] sp__law_draw :=
  fnD (N := ["deck", "many", "cell", "figure"]) (ps := ["deck", "many"]) W.D20.F rfl sc20 (fun A outer s H E hr => qss_cons (qs_putA hr.r (qv 0) (qe_str) (qe_add (qe_at hr.r (qv 0) (qe_str)) (qe_int))) (qss_cons (qs_if (qt_cmp (op_neA hr.r) od_neA (qe_at hr.r (qv 0) (qe_str)) (qe_lst (qa_nil)) (nomark _)) (qss_cons (qs_set (i := 2) sc20.nd rfl (by first | exact .inl rfl | exact .inr rfl) (qe_pop0 (qe_at hr.r (qv 0) (qe_str)))) (qss_cons (qs_if (qt_cmp (op_rI0 op_ge) od_ge (qv 2) (qe_pow (qe_int) (qe_int)) (nomark _)) (qss_cons (qs_expr (qe_append (qe_at hr.r (qv 0) (qe_str)) (qa_cons (qe_fdivW (qv 2) (qe_cb (id := "max") (call_max2 rfl) cd_max2 (by rfl) W.m_max bt_max (qa_cons (qe_int) (qa_cons (qv 1) (qa_nil))))) (qa_nil)))) (qss_one (qs_ret (qe_mod (qe_cty (T := "int") call_int1 cd_int (by rfl) W.m_int bt_int (qa_cons (qv 2) (qa_nil))) (qv 1))))) (qss_nil)) (qss_one (qs_putA hr.r (qv 0) (qe_str) (qe_mod (qe_cty (T := "int") call_int1 cd_int (by rfl) W.m_int bt_int (qa_cons (qe_add (qe_add (qe_mulA (qe_at hr.r (qv 0) (qe_str)) (qe_int)) (qe_mod (qe_cty (T := "int") call_int1 cd_int (by rfl) W.m_int bt_int (qa_cons (qv 2) (qa_nil))) (qe_int))) (qe_int)) (qa_nil))) (qe_int)))))) (qss_nil)) (qss_cons (qs_set (i := 3) sc20.nd rfl (by first | exact .inl rfl | exact .inr rfl) (qe_mod (qe_cty (T := "int") call_int1 cd_int (by rfl) W.m_int bt_int (qa_cons (qe_add (qe_at hr.r (qv 0) (qe_str)) (qe_mulA (qe_int) (qe_at hr.r (qv 0) (qe_str)))) (qa_nil))) (qe_int))) (qss_cons (qs_set (i := 3) sc20.nd rfl (by first | exact .inl rfl | exact .inr rfl) (qe_mod (qe_cty (T := "int") call_int1 cd_int (by rfl) W.m_int bt_int (qa_cons (qe_add (qe_add (qe_mulA (qv 3) (qv 3)) (qe_mulA (qe_int) (qe_at hr.r (qv 0) (qe_str)))) (qe_int)) (qa_nil))) (qe_int))) (qss_cons (qs_set (i := 3) sc20.nd rfl (by first | exact .inl rfl | exact .inr rfl) (qe_mod (qe_cty (T := "int") call_int1 cd_int (by rfl) W.m_int bt_int (qa_cons (qe_add (qe_mulA (qv 3) (qe_int)) (qe_int)) (qa_nil))) (qe_int))) (qss_one (qs_ret (qe_mod (qe_cty (T := "int") call_int1 cd_int (by rfl) W.m_int bt_int (qa_cons (qe_fdivW (qv 3) (qe_int)) (qa_nil))) (qv 1))))))))) fun _ _ _ _ _ h => h
def r__law_pick : TSd := dRet (dOp ixA (dVar 1) (dCall 2 sp__law_draw (dCons (dVar 0) (dCons (dCB lenD (dCons (dVar 1) (dNil))) (dNil)))))
def sp__law_pick : SpD := fun ds M Q E => r__law_pick { nx := fun _ M' => Q .non M', rt := Q } E (startD ["deck", "some"] ds) M
theorem ok__law_pick : FnD P w K mg base (W.Ts w) 2 W.a21 W.d21 2 ["deck", "some"] sp__law_pick :=
  fnD (N := ["deck", "some"]) (ps := ["deck", "some"]) W.D21.F rfl sc21 (fun A outer s H E hr => qss_one (qs_ret (qe_at hr.r (qv 1) (qe_call (ok__law_draw W) (hr.mono (by decide)) (by rfl) W.D20.g W.D20.kp W.D20.b takesD (qa_cons (qv 0) (qa_cons (qe_cb (id := "len") cr_lenH cd_len (by rfl) W.m_len bt_len (qa_cons (qv 1) (qa_nil))) (qa_nil))))))) fun _ _ _ _ _ h => h
end
end Z13
set_option Elab.async false
set_option linter.all false
set_option maxRecDepth 100000
set_option maxHeartbeats 4000000
namespace Z13
open PySem PySem.Spec PyProof.Rows L2 GxR Gn Dl
section
variable {P : Program} {w : World} {K : PySem.W.Frag} {mg : Str → Option Value} {base : Heap} (W : Wd K mg base)
def r__law_drawn_weights : TSd := dSeq (dSet 3 (dLc (dRange1 (dCons (dVar 1) (dNil))) (dGN 4) (dYes) (dCall 2 sp__law_pick (dCons (dVar 0) (dCons (dLst (dCons (dC (.int 0)) (dCons (dC (.int 1)) (dCons (dOp addD (dC (.int 1)) (dCall 2 sp__law_draw (dCons (dVar 0) (dCons (dC (.int 6)) (dNil))))) (dCons (dOp addD (dC (.int 1)) (dCall 2 sp__law_draw (dCons (dVar 0) (dCons (dVar 2) (dNil))))) (dNil)))))) (dNil)))) [4])) (dRet (dIf (dTest (dOp gtD (dCB sumHD (dCons (dVar 3) (dNil))) (dC (.int 0)))) (dCB tupOfD (dCons (dVar 3) (dNil))) (dOp addD (dOp mulA (dTup (dCons (dC (.int 0)) (dNil))) (dOp subD (dVar 1) (dC (.int 1)))) (dTup (dCons (dOp addD (dC (.int 1)) (dCall 2 sp__law_draw (dCons (dVar 0) (dCons (dC (.int 9)) (dNil))))) (dNil))))))
def sp__law_drawn_weights : SpD := fun ds M Q E => r__law_drawn_weights { nx := fun _ M' => Q .non M', rt := Q } E (startD ["deck", "size", "most", "found", "x"] ds) M
theorem ok__law_drawn_weights : FnD P w K mg base (W.Ts w) 3 W.a22 W.d22 3 ["deck", "size", "most"] sp__law_drawn_weights :=
  fnD (N := ["deck", "size", "most", "found", "x"]) (ps := ["deck", "size", "most"]) W.D22.F rfl sc22 (fun A outer s H E hr => qss_cons (qs_setLc (i := 3) (own := [("x", 4)]) (g := gName 4) rfl sc22.nd rfl rfl (sw_true rfl rfl rfl (by decide +kernel)) (qi_range1 (by rfl) W.m_range (qa_cons (qv 1) (qa_nil))) (blkOk_by (N := ["deck", "size", "most", "found", "x"]) (sc := defScope (top 22)) (by decide +kernel)) (fun _ _ _ _ _ => pg_name (i := 4) sc22.nd rfl (by first | exact .inl rfl | exact .inr rfl)) (tg_name (by simp)) (gm_name) (fun _ _ _ _ _ => qts_nil) (fun _ _ _ _ _ => qe_call (ok__law_pick W) (hr.mono (by decide)) (by rfl) W.D21.g W.D21.kp W.D21.b Dl.takes0 (qa_cons (qv 0) (qa_cons (qe_lst (qa_cons (qe_int) (qa_cons (qe_int) (qa_cons (qe_add (qe_int) (qe_call (ok__law_draw W) (hr.mono (by decide)) (by rfl) W.D20.g W.D20.kp W.D20.b Dl.takes0 (qa_cons (qv 0) (qa_cons (qe_int) (qa_nil))))) (qa_cons (qe_add (qe_int) (qe_call (ok__law_draw W) (hr.mono (by decide)) (by rfl) W.D20.g W.D20.kp W.D20.b Dl.takes0 (qa_cons (qv 0) (qa_cons (qv 2) (qa_nil))))) (qa_nil)))))) (qa_nil))))) (qss_one (qs_ret (qe_if (qt_cmp (op_rI0 op_gt) od_gt (qe_cb (id := "sum") (cr_sumH rfl) cd_sumH (by rfl) W.m_sum bt_sum (qa_cons (qv 3) (qa_nil))) (qe_int) (nomark _)) (qe_cty (T := "tuple") call_tuple_of cd_tup (by rfl) W.m_tuple bt_tuple (qa_cons (qv 3) (qa_nil))) (qe_add (qe_mulA (qe_tup (qa_cons (qe_int) (qa_nil))) (qe_sub (qv 1) (qe_int))) (qe_tup (qa_cons (qe_add (qe_int) (qe_call (ok__law_draw W) (hr.mono (by decide)) (by rfl) W.D20.g W.D20.kp W.D20.b takesD (qa_cons (qv 0) (qa_cons (qe_int) (qa_nil))))) (qa_nil)))))))) fun _ _ _ _ _ h => h
def r__law_taken : TSd := dSeq (dSet 2 (dC (.int 0))) (dSeq (dFor (dEnumA (dCons (dVar 0) (dNil))) (dGTup 2 (dGCons (dGN 3) (dGCons (dGN 4) (dGNil)))) (dSeq (dSet 2 (dOp addD (dVar 2) (dVar 4))) (dIfS (dTest (dOp gtD (dVar 2) (dVar 1))) (dRet (dVar 3)) (dNext)))) (dRet (dC .non)))
def sp__law_taken : SpD := fun ds M Q E => r__law_taken { nx := fun _ M' => Q .non M', rt := Q } E (startD ["weights", "number", "total", "x", "weight"] ds) M
theorem ok__law_taken : FnD P w K mg base (W.Ts w) 1 W.a23 W.d23 2 ["weights", "number"] sp__law_taken :=
  fnD (N := ["weights", "number", "total", "x", "weight"]) (ps := ["weights", "number"]) W.D23.F rfl sc23 (fun A outer s H E hr => qss_cons (qs_set (i := 2) sc23.nd rfl (by first | exact .inl rfl | exact .inr rfl) (qe_int)) (qss_cons (qs_for passD rfl (qi_enumA (by rfl) W.m_enumerate (qa_cons (qv 0) (qa_nil))) (qg_tupA rfl (qgs_cons (qg_name (i := 3) sc23.nd rfl (by first | exact .inl rfl | exact .inr rfl)) (qgs_cons (qg_name (i := 4) sc23.nd rfl (by first | exact .inl rfl | exact .inr rfl)) (qgs_nil)))) (qss_cons (qs_set (i := 2) sc23.nd rfl (by first | exact .inl rfl | exact .inr rfl) (qe_add (qv 2) (qv 4))) (qss_one (qs_if (qt_cmp (op_rI0 op_gt) od_gt (qv 2) (qv 1) (nomark _)) (qss_one (qs_ret (qv 3))) (qss_nil))))) (qss_one (qs_ret (qe_non))))) fun _ _ _ _ _ h => h
def r__law_tried (cs : Nat → Addr) (l : D) (TL : LamD) : TSd := dTryAs cs [3, 4, 5] 3 1 (dRet (dTup (dCons (dC (.str "returned")) (dCons (dAct l TL) (dNil))))) (fun j ea dx => dSeq (dSet 2 (dTup (dCons (dCB (isXD ea dx (cs 5) (subX j 5)) (dCons (dVar 1) (dCons (dC (.adr (cs 5))) (dNil)))) (dCons (dCB (isXD ea dx (cs 4) (subX j 4)) (dCons (dVar 1) (dCons (dC (.adr (cs 4))) (dNil)))) (dCons (dCB (isXD ea dx (cs 3) (subX j 3)) (dCons (dVar 1) (dCons (dC (.adr (cs 3))) (dNil)))) (dNil)))))) (dRet (dTup (dCons (dC (.str "raised")) (dCons (dVar 2) (dCons (dIf (dTest (dOp inTtD (dC (.bl true)) (dVar 2))) (dCB reprXD (dCons (dThing ea dx (dVar 1)) (dNil))) (dC .non)) (dNil)))))))
theorem ok__law_tried {k : Nat} : LamFn P w K mg base (W.Ts w) k ["call", "e", "kinds"] "_law_tried" (defScope (top 24)) W.a24 W.d24.code (defBody (top 24)) "call" (r__law_tried W.cs) :=
  fun A outer l s H TL hr act => qss_one (qs_tryAs (cs := W.cs) (js := [3, 4, 5]) (N := 3) (i := 1) rfl rfl sc24.nd rfl rfl ⟨by rfl, by decide, .inl W.x2⟩ rfl W.xm2 (fun E1 pn xe tkE po => qss_one (qs_ret (qe_tup (qa_cons (qe_str) (qa_cons (act _ _ _ _ _ _ tkE (fun _ _ _ _ h => h)) (qa_nil)))))) (fun j hj ea dx oe pn hz hf => qss_cons (qs_set (i := 2) sc24.nd rfl (by first | exact .inl rfl | exact .inr rfl) (qe_tup (qa_cons (qe_cb (id := "isinstance") (call_isX (W.eks j hj) (W.xk5 j hj) hz hf) cd_isX (by rfl) W.m_isinstance bt_isinstance (qa_cons (qv 1) (qa_cons (qe_cls (by rfl) W.x5) (qa_nil)))) (qa_cons (qe_cb (id := "isinstance") (call_isX (W.eks j hj) (W.xk4 j hj) hz hf) cd_isX (by rfl) W.m_isinstance bt_isinstance (qa_cons (qv 1) (qa_cons (qe_cls (by rfl) W.x4) (qa_nil)))) (qa_cons (qe_cb (id := "isinstance") (call_isX (W.eks j hj) (W.xk3 j hj) hz hf) cd_isX (by rfl) W.m_isinstance bt_isinstance (qa_cons (qv 1) (qa_cons (qe_cls (by rfl) W.x3) (qa_nil)))) (qa_nil)))))) (qss_one (qs_ret (qe_tup (qa_cons (qe_str) (qa_cons (qv 2) (qa_cons (qe_if (qt_cmp (Zn.op_inT (suite_u5 hr)) od_inTt (qe_bl) (qv 2) (by rfl)) (qe_cb (id := "repr") (cr_reprX (suite_g hr) (suite_u hr)) cd_reprX (by rfl) W.m_repr bt_repr (qa_cons (qe_thing (W.eks j hj) (W.ens j hj) hz hf (qv 1)) (qa_nil))) (qe_non)) (qa_nil)))))))))
def r__law_are_all_numbers_right (cs : Nat → Addr) : TSd := dSeq (dSet 1 (dCall 3 sp__law_drawn_weights (dCons (dVar 0) (dCons (dOp addD (dC (.int 1)) (dCall 2 sp__law_draw (dCons (dVar 0) (dCons (dC (.int 6)) (dNil))))) (dCons (dC (.int 9)) (dNil)))))) (dSeq (dFor (dRange1 (dCons (dCB sumHD (dCons (dVar 1) (dNil))) (dNil))) (dGN 2) (dSeq (dSet 3 (dCall 3 (sp_draw cs) (dCons (dVar 1) (dCons (dTup (dCons (dC (.int 7)) (dCons (dOp addD (dVar 2) (dOp mulA (dCB sumHD (dCons (dVar 1) (dNil))) (dCall 2 sp__law_pick (dCons (dVar 0) (dCons (dLst (dCons (dC (.int 0)) (dCons (dC (.int 1)) (dCons (dOp powD (dC (.int 10)) (dC (.int 9))) (dNil))))) (dNil)))))) (dNil)))) (dCons (dC (.int 1)) (dNil)))))) (dIfS (dTest (dOp (eqA true) (dCB reprD (dCons (dVar 3) (dNil))) (dCB reprD (dCons (dTup (dCons (dCall 2 sp__law_taken (dCons (dVar 1) (dCons (dVar 2) (dNil)))) (dCons (dC (.int 2)) (dNil)))) (dNil))))) (dRet (dC (.bl false))) (dNext)))) (dRet (dC (.bl true))))
def sp__law_are_all_numbers_right (cs : Nat → Addr) : SpD := fun ds M Q E => r__law_are_all_numbers_right cs { nx := fun _ M' => Q .non M', rt := Q } E (startD ["deck", "weights", "number", "told"] ds) M
theorem ok__law_are_all_numbers_right : FnD P w K mg base (W.Ts w) 7 W.a25 W.d25 1 ["deck"] (sp__law_are_all_numbers_right W.cs) :=
  fnD (N := ["deck", "weights", "number", "told"]) (ps := ["deck"]) W.D25.F rfl sc25 (fun A outer s H E hr => qss_cons (qs_set (i := 1) sc25.nd rfl (by first | exact .inl rfl | exact .inr rfl) (qe_call (ok__law_drawn_weights W) (hr.mono (by decide)) (by rfl) W.D22.g W.D22.kp W.D22.b takesD (qa_cons (qv 0) (qa_cons (qe_add (qe_int) (qe_call (ok__law_draw W) (hr.mono (by decide)) (by rfl) W.D20.g W.D20.kp W.D20.b takesD (qa_cons (qv 0) (qa_cons (qe_int) (qa_nil))))) (qa_cons (qe_int) (qa_nil)))))) (qss_cons (qs_for passD rfl (qi_range1 (by rfl) W.m_range (qa_cons (qe_cb (id := "sum") (cr_sumH rfl) cd_sumH (by rfl) W.m_sum bt_sum (qa_cons (qv 1) (qa_nil))) (qa_nil))) (qg_name (i := 2) sc25.nd rfl (by first | exact .inl rfl | exact .inr rfl)) (qss_cons (qs_set (i := 3) sc25.nd rfl (by first | exact .inl rfl | exact .inr rfl) (qe_call (ok_draw W) (hr.mono (by decide)) (by rfl) W.D17.g W.D17.kp W.D17.b takesD (qa_cons (qv 1) (qa_cons (qe_tup (qa_cons (qe_int) (qa_cons (qe_add (qv 2) (qe_mulA (qe_cb (id := "sum") (cr_sumH rfl) cd_sumH (by rfl) W.m_sum bt_sum (qa_cons (qv 1) (qa_nil))) (qe_call (ok__law_pick W) (hr.mono (by decide)) (by rfl) W.D21.g W.D21.kp W.D21.b takesD (qa_cons (qv 0) (qa_cons (qe_lst (qa_cons (qe_int) (qa_cons (qe_int) (qa_cons (qe_pow (qe_int) (qe_int)) (qa_nil))))) (qa_nil)))))) (qa_nil)))) (qa_cons (qe_int) (qa_nil)))))) (qss_one (qs_if (qt_cmp (op_neA hr.r) od_neA (qe_cb (id := "repr") (cr_reprG hr) cd_repr (by rfl) W.m_repr bt_repr (qa_cons (qv 3) (qa_nil))) (qe_cb (id := "repr") (cr_reprG hr) cd_repr (by rfl) W.m_repr bt_repr (qa_cons (qe_tup (qa_cons (qe_call (ok__law_taken W) (hr.mono (by decide)) (by rfl) W.D23.g W.D23.kp W.D23.b takesD (qa_cons (qv 1) (qa_cons (qv 2) (qa_nil)))) (qa_cons (qe_int) (qa_nil)))) (qa_nil))) (nomark _)) (qss_one (qs_ret (qe_bl))) (qss_nil))))) (qss_one (qs_ret (qe_bl))))) fun _ _ _ _ _ h => h
def r_law (cs : Nat → Addr) : TSd := dSeq (dSet 1 (dCall 1 sp__law_deck (dCons (dVar 0) (dNil)))) (dSeq (dIfS (dNotT (dTest (dCall 1 (sp__law_are_all_numbers_right cs) (dCons (dVar 1) (dNil))))) (dRet (dC (.bl false))) (dNext)) (dSeq (dFor (dRange1 (dCons (dC (.int 6)) (dNil))) (dGN 17) (dSeq (dSet 2 (dCall 2 sp__law_pick (dCons (dVar 1) (dCons (dLst (dCons (dC (.int 1)) (dCons (dOp powD (dC (.int 10)) (dC (.int 20))) (dNil)))) (dNil))))) (dSeq (dSet 3 (dCB tupOfD (dCons (dLc (dWalk (dCall 3 sp__law_drawn_weights (dCons (dVar 1) (dCons (dOp addD (dC (.int 1)) (dCall 2 sp__law_draw (dCons (dVar 1) (dCons (dC (.int 8)) (dNil))))) (dCons (dCall 2 sp__law_pick (dCons (dVar 1) (dCons (dLst (dCons (dC (.int 9)) (dCons (dOp powD (dC (.int 10)) (dC (.int 8))) (dNil)))) (dNil)))) (dNil)))))) (dGN 18) (dYes) (dOp mulA (dVar 2) (dVar 18)) [18]) (dNil)))) (dSeq (dSet 4 (dCB tupOfD (dCons (dLc (dRange1 (dCons (dCall 2 sp__law_draw (dCons (dVar 1) (dCons (dC (.int 6)) (dNil)))) (dNil))) (dGN 19) (dYes) (dOp addD (dCall 2 sp__law_draw (dCons (dVar 1) (dCons (dCall 2 sp__law_pick (dCons (dVar 1) (dCons (dLst (dCons (dC (.int 3)) (dCons (dC (.int 40)) (dCons (dOp powD (dC (.int 10)) (dC (.int 7))) (dNil))))) (dNil)))) (dNil)))) (dCall 2 sp__law_pick (dCons (dVar 1) (dCons (dLst (dCons (dC (.int 0)) (dCons (dOp mulA (dVar 2) (dCall 2 sp__law_draw (dCons (dVar 1) (dCons (dOp powD (dC (.int 10)) (dC (.int 6))) (dNil))))) (dNil)))) (dNil))))) [19]) (dNil)))) (dSeq (dSet 5 (dCall 2 sp__law_pick (dCons (dVar 1) (dCons (dOp addD (dOp mulA (dLst (dCons (dCall 2 sp__law_draw (dCons (dVar 1) (dCons (dOp addD (dCB lenD (dCons (dVar 4) (dNil))) (dC (.int 3))) (dNil)))) (dNil))) (dC (.int 3))) (dLst (dCons (dOp powD (dC (.int 10)) (dC (.int 20))) (dNil)))) (dNil))))) (dSeq (dSet 6 (dIf (dTest (dOp (cmpD true) (dVar 5) (dCB lenD (dCons (dVar 4) (dNil))))) (dOp modD (dCB intOfD (dCons (dOp ixA (dVar 4) (dVar 5)) (dNil))) (dCB sumHD (dCons (dVar 3) (dNil)))) (dC (.int 0)))) (dSeq (dSet 7 (dTup (dCons (dCall 2 sp__law_taken (dCons (dVar 3) (dCons (dVar 6) (dNil)))) (dCons (dOp addD (dVar 5) (dC (.int 1))) (dNil))))) (dSeq (dIfS (dTest (dOp (eqA true) (dCB reprD (dCons (dTup (dCons (dCall 3 (sp_draw cs) (dCons (dVar 3) (dCons (dVar 4) (dCons (dVar 5) (dNil))))) (dCons (dCallW 3 [2, 1, 0] (sp_draw cs) (dCons (dVar 5) (dCons (dVar 4) (dCons (dVar 3) (dNil))))) (dNil)))) (dNil))) (dCB reprD (dCons (dTup (dCons (dVar 7) (dCons (dVar 7) (dNil)))) (dNil))))) (dRet (dC (.bl false))) (dNext)) (dSeq (dSet 8 (dLst (dCons (dTup (dNil)) (dCons (dTup (dCons (dC (.int 0)) (dNil))) (dCons (dTup (dCons (dC (.int 0)) (dCons (dC (.int 0)) (dNil)))) (dCons (dTup (dCons (dC (.int 3)) (dCons (dNeg (dC (.int 1))) (dNil)))) (dCons (dTup (dCons (dC (.int 1)) (dCons (dNeg (dC (.int 1))) (dNil)))) (dCons (dTup (dCons (dC (.int 1)) (dCons (dC (.bl true)) (dNil)))) (dCons (dCB lstOfD (dCons (dVar 3) (dNil))) (dCons (dC .non) (dCons (dC (.int 5)) (dCons (dTup (dCons (dC (.int 1)) (dCons (dC (.str "1")) (dNil)))) (dCons (dNewK) (dCons (dTup (dCons (dTup (dCons (dC (.int 1)) (dNil))) (dNil))) (dNil))))))))))))))) (dSeq (dSet 14 (dIf (dTest (dOp gtD (dCall 2 sp__law_draw (dCons (dVar 1) (dCons (dC (.int 3)) (dNil)))) (dC (.int 0)))) (dVar 3) (dCall 2 sp__law_pick (dCons (dVar 1) (dCons (dVar 8) (dNil)))))) (dSeq (dSet 15 (dIf (dTest (dOp gtD (dCall 2 sp__law_draw (dCons (dVar 1) (dCons (dC (.int 3)) (dNil)))) (dC (.int 0)))) (dVar 4) (dCall 2 sp__law_pick (dCons (dVar 1) (dCons (dLst (dCons (dC .non) (dCons (dLst (dCons (dC (.int 1)) (dNil))) (dCons (dTup (dCons (dNeg (dC (.int 1))) (dNil))) (dCons (dTup (dCons (dC (.int 0)) (dCons (dNeg (dC (.int 1))) (dNil)))) (dCons (dTup (dCons (dC (.int 0)) (dCons (dC (.bl true)) (dNil)))) (dCons (dTup (dCons (dC (.bl true)) (dNil))) (dCons (dTup (dCons (dC (.str "0")) (dNil))) (dCons (dC (.int 3)) (dCons (dTup (dCons (dC .non) (dNil))) (dCons (dNewK) (dNil)))))))))))) (dNil)))))) (dSeq (dSet 16 (dIf (dTest (dOp gtD (dCall 2 sp__law_draw (dCons (dVar 1) (dCons (dC (.int 3)) (dNil)))) (dC (.int 0)))) (dVar 5) (dCall 2 sp__law_pick (dCons (dVar 1) (dCons (dLst (dCons (dNeg (dC (.int 1))) (dCons (dC (.bl true)) (dCons (dC .non) (dCons (dC (.str "0")) (dCons (dTup (dCons (dC (.int 0)) (dNil))) (dCons (dLst (dNil)) (dNil)))))))) (dNil)))))) (dSeq (dSet 9 (dTup (dCons (dC (.str "returned")) (dCons (dVar 7) (dNil))))) (dSeq (dFor (dWalk (dTup (dCons (dTup (dCons (dC (.int 2)) (dCons (dOp (eqA false) (dCB reprXD (dCons (dVar 16) (dNil))) (dCB reprXD (dCons (dVar 5) (dNil)))) (dCons (dVar 16) (dNil))))) (dCons (dTup (dCons (dC (.int 1)) (dCons (dOp (eqA false) (dCB reprXD (dCons (dVar 15) (dNil))) (dCB reprD (dCons (dVar 4) (dNil)))) (dCons (dVar 15) (dNil))))) (dCons (dTup (dCons (dC (.int 0)) (dCons (dOp (eqA false) (dCB reprXD (dCons (dVar 14) (dNil))) (dCB reprD (dCons (dVar 3) (dNil)))) (dCons (dVar 14) (dNil))))) (dNil)))))) (dGTup 3 (dGCons (dGN 10) (dGCons (dGN 11) (dGCons (dGN 12) (dGNil))))) (dIfS (dNotT (dTru (dVar 11))) (dSet 9 (dTup (dCons (dC (.str "raised")) (dCons (dCB tupOfD (dCons (dLc (dRange1 (dCons (dC (.int 3)) (dNil))) (dGN 20) (dYes) (dOp (eqA false) (dVar 20) (dVar 10)) [20]) (dNil))) (dCons (dCB reprXD (dCons (dVar 12) (dNil))) (dNil)))))) (dNext))) (dSeq (dSet 13 (dLam (spLam ["call", "e", "kinds"] (r__law_tried cs)) (dIf (dTest (dOp (cmpD true) (dVar 17) (dC (.int 3)))) (dCall 3 (sp_draw cs) (dCons (dVar 14) (dCons (dVar 15) (dCons (dVar 16) (dNil))))) (dCallW 3 [2, 1, 0] (sp_draw cs) (dCons (dVar 16) (dCons (dVar 15) (dCons (dVar 14) (dNil)))))))) (dIfS (dTest (dOp (eqA true) (dCB reprD (dCons (dVar 13) (dNil))) (dCB reprD (dCons (dVar 9) (dNil))))) (dRet (dC (.bl false))) (dNext))))))))))))))))) (dRet (dC (.bl true)))))
def sp_law (cs : Nat → Addr) : SpD := fun ds M Q E => r_law cs { nx := fun _ M' => Q .non M', rt := Q } E (startD ["script", "deck", "many", "weights", "tape", "used", "number", "due", "odd", "first", "at", "is_right", "thing", "told", "a", "b", "c", "turn", "x", "k", "place"] ds) M
theorem ok_law : FnD P w K mg base (W.Ts w) 9 W.a26 W.d26 1 ["script"] (sp_law W.cs) :=
  fnD (N := ["script", "deck", "many", "weights", "tape", "used", "number", "due", "odd", "first", "at", "is_right", "thing", "told", "a", "b", "c", "turn", "x", "k", "place"]) (ps := ["script"]) W.D26.F W.T26.code sc26 (fun A outer s H E hr => qss_cons (qs_set (i := 1) sc26.nd rfl (by first | exact .inl rfl | exact .inr rfl) (qe_call (ok__law_deck W) (hr.mono (by decide)) (by rfl) W.D19.g W.D19.kp W.D19.b takesD (qa_cons (qv 0) (qa_nil)))) (qss_cons (qs_if (qt_not (qt_val (qe_call (ok__law_are_all_numbers_right W) (hr.mono (by decide)) (by rfl) W.D25.g W.D25.kp W.D25.b takesD (qa_cons (qv 1) (qa_nil))))) (qss_one (qs_ret (qe_bl))) (qss_nil)) (qss_cons (qs_for passD rfl (qi_range1 (by rfl) W.m_range (qa_cons (qe_int) (qa_nil))) (qg_name (i := 17) sc26.nd rfl (by first | exact .inl rfl | exact .inr rfl)) (qss_cons (qs_set (i := 2) sc26.nd rfl (by first | exact .inl rfl | exact .inr rfl) (qe_call (ok__law_pick W) (hr.mono (by decide)) (by rfl) W.D21.g W.D21.kp W.D21.b takesD (qa_cons (qv 1) (qa_cons (qe_lst (qa_cons (qe_int) (qa_cons (qe_pow (qe_int) (qe_int)) (qa_nil)))) (qa_nil))))) (qss_cons (qs_set (i := 3) sc26.nd rfl (by first | exact .inl rfl | exact .inr rfl) (qe_cty (T := "tuple") call_tuple_of cd_tup (by rfl) W.m_tuple bt_tuple (qa_cons (qe_lc (own := [("x", 18)]) (g := gName 18) rfl sc26.nd (qi_any (qe_call (ok__law_drawn_weights W) (hr.mono (by decide)) (by rfl) W.D22.g W.D22.kp W.D22.b takesD (qa_cons (qv 1) (qa_cons (qe_add (qe_int) (qe_call (ok__law_draw W) (hr.mono (by decide)) (by rfl) W.D20.g W.D20.kp W.D20.b takesD (qa_cons (qv 1) (qa_cons (qe_int) (qa_nil))))) (qa_cons (qe_call (ok__law_pick W) (hr.mono (by decide)) (by rfl) W.D21.g W.D21.kp W.D21.b takesD (qa_cons (qv 1) (qa_cons (qe_lst (qa_cons (qe_int) (qa_cons (qe_pow (qe_int) (qe_int)) (qa_nil)))) (qa_nil)))) (qa_nil)))))) (blkOk_by (N := ["script", "deck", "many", "weights", "tape", "used", "number", "due", "odd", "first", "at", "is_right", "thing", "told", "a", "b", "c", "turn", "x", "k", "place"]) (sc := defScope (top 26)) (by decide +kernel)) (fun _ _ _ _ _ => pg_name (i := 18) sc26.nd rfl (by first | exact .inl rfl | exact .inr rfl)) (tg_name (by simp)) (gm_name) (fun _ _ _ _ _ => qts_nil) (fun _ _ _ _ _ => qe_mulA (qv 2) (qv 18))) (qa_nil)))) (qss_cons (qs_set (i := 4) sc26.nd rfl (by first | exact .inl rfl | exact .inr rfl) (qe_cty (T := "tuple") call_tuple_of cd_tup (by rfl) W.m_tuple bt_tuple (qa_cons (qe_lc (own := [("k", 19)]) (g := gName 19) rfl sc26.nd (qi_range1 (by rfl) W.m_range (qa_cons (qe_call (ok__law_draw W) (hr.mono (by decide)) (by rfl) W.D20.g W.D20.kp W.D20.b takesD (qa_cons (qv 1) (qa_cons (qe_int) (qa_nil)))) (qa_nil))) (blkOk_by (N := ["script", "deck", "many", "weights", "tape", "used", "number", "due", "odd", "first", "at", "is_right", "thing", "told", "a", "b", "c", "turn", "x", "k", "place"]) (sc := defScope (top 26)) (by decide +kernel)) (fun _ _ _ _ _ => pg_name (i := 19) sc26.nd rfl (by first | exact .inl rfl | exact .inr rfl)) (tg_name (by simp)) (gm_name) (fun _ _ _ _ _ => qts_nil) (fun _ _ _ _ _ => qe_add (qe_call (ok__law_draw W) (hr.mono (by decide)) (by rfl) W.D20.g W.D20.kp W.D20.b Dl.takes0 (qa_cons (qv 1) (qa_cons (qe_call (ok__law_pick W) (hr.mono (by decide)) (by rfl) W.D21.g W.D21.kp W.D21.b Dl.takes0 (qa_cons (qv 1) (qa_cons (qe_lst (qa_cons (qe_int) (qa_cons (qe_int) (qa_cons (qe_pow (qe_int) (qe_int)) (qa_nil))))) (qa_nil)))) (qa_nil)))) (qe_call (ok__law_pick W) (hr.mono (by decide)) (by rfl) W.D21.g W.D21.kp W.D21.b Dl.takes0 (qa_cons (qv 1) (qa_cons (qe_lst (qa_cons (qe_int) (qa_cons (qe_mulA (qv 2) (qe_call (ok__law_draw W) (hr.mono (by decide)) (by rfl) W.D20.g W.D20.kp W.D20.b Dl.takes0 (qa_cons (qv 1) (qa_cons (qe_pow (qe_int) (qe_int)) (qa_nil))))) (qa_nil)))) (qa_nil)))))) (qa_nil)))) (qss_cons (qs_set (i := 5) sc26.nd rfl (by first | exact .inl rfl | exact .inr rfl) (qe_call (ok__law_pick W) (hr.mono (by decide)) (by rfl) W.D21.g W.D21.kp W.D21.b takesD (qa_cons (qv 1) (qa_cons (qe_add (qe_mulA (qe_lst (qa_cons (qe_call (ok__law_draw W) (hr.mono (by decide)) (by rfl) W.D20.g W.D20.kp W.D20.b takesD (qa_cons (qv 1) (qa_cons (qe_add (qe_cb (id := "len") cr_lenH cd_len (by rfl) W.m_len bt_len (qa_cons (qv 4) (qa_nil))) (qe_int)) (qa_nil)))) (qa_nil))) (qe_int)) (qe_lst (qa_cons (qe_pow (qe_int) (qe_int)) (qa_nil)))) (qa_nil))))) (qss_cons (qs_set (i := 6) sc26.nd rfl (by first | exact .inl rfl | exact .inr rfl) (qe_if (qt_cmp (op_ltH hr.r) od_ltH (qv 5) (qe_cb (id := "len") cr_lenH cd_len (by rfl) W.m_len bt_len (qa_cons (qv 4) (qa_nil))) (nomark _)) (qe_mod (qe_cty (T := "int") call_int1 cd_int (by rfl) W.m_int bt_int (qa_cons (qe_at hr.r (qv 4) (qv 5)) (qa_nil))) (qe_cb (id := "sum") (cr_sumH rfl) cd_sumH (by rfl) W.m_sum bt_sum (qa_cons (qv 3) (qa_nil)))) (qe_int))) (qss_cons (qs_set (i := 7) sc26.nd rfl (by first | exact .inl rfl | exact .inr rfl) (qe_tup (qa_cons (qe_call (ok__law_taken W) (hr.mono (by decide)) (by rfl) W.D23.g W.D23.kp W.D23.b takesD (qa_cons (qv 3) (qa_cons (qv 6) (qa_nil)))) (qa_cons (qe_add (qv 5) (qe_int)) (qa_nil))))) (qss_cons (qs_if (qt_cmp (op_neA hr.r) od_neA (qe_cb (id := "repr") (cr_reprG hr) cd_repr (by rfl) W.m_repr bt_repr (qa_cons (qe_tup (qa_cons (qe_call (ok_draw W) (hr.mono (by decide)) (by rfl) W.D17.g W.D17.kp W.D17.b takesD (qa_cons (qv 3) (qa_cons (qv 4) (qa_cons (qv 5) (qa_nil))))) (qa_cons (qe_callW (is := [2, 1, 0]) (ok_draw W) (hr.mono (by decide)) (by rfl) W.D17.g W.D17.kp (kb_three W.D17.F (ks := ["used", "tape", "weights"]) (is := [2, 1, 0])) takesD (qk_cons (qv 5) (qk_cons (qv 4) (qk_cons (qv 3) (qk_nil))))) (qa_nil)))) (qa_nil))) (qe_cb (id := "repr") (cr_reprG hr) cd_repr (by rfl) W.m_repr bt_repr (qa_cons (qe_tup (qa_cons (qv 7) (qa_cons (qv 7) (qa_nil)))) (qa_nil))) (nomark _)) (qss_one (qs_ret (qe_bl))) (qss_nil)) (qss_cons (qs_set (i := 8) sc26.nd rfl (by first | exact .inl rfl | exact .inr rfl) (qe_lst (qa_cons (qe_tup (qa_nil)) (qa_cons (qe_tup (qa_cons (qe_int) (qa_nil))) (qa_cons (qe_tup (qa_cons (qe_int) (qa_cons (qe_int) (qa_nil)))) (qa_cons (qe_tup (qa_cons (qe_int) (qa_cons (qe_neg (qe_int)) (qa_nil)))) (qa_cons (qe_tup (qa_cons (qe_int) (qa_cons (qe_neg (qe_int)) (qa_nil)))) (qa_cons (qe_tup (qa_cons (qe_int) (qa_cons (qe_bl) (qa_nil)))) (qa_cons (qe_cty (T := "list") (cr_lstOf hr.r.hd) cd_lst (by rfl) W.m_list bt_list (qa_cons (qv 3) (qa_nil))) (qa_cons (qe_non) (qa_cons (qe_int) (qa_cons (qe_tup (qa_cons (qe_int) (qa_cons (qe_str) (qa_nil)))) (qa_cons (qe_newK) (qa_cons (qe_tup (qa_cons (qe_tup (qa_cons (qe_int) (qa_nil))) (qa_nil))) (qa_nil))))))))))))))) (qss_cons (qs_set (i := 14) sc26.nd rfl (by first | exact .inl rfl | exact .inr rfl) (qe_if (qt_cmp (op_rI0 op_gt) od_gt (qe_call (ok__law_draw W) (hr.mono (by decide)) (by rfl) W.D20.g W.D20.kp W.D20.b takesD (qa_cons (qv 1) (qa_cons (qe_int) (qa_nil)))) (qe_int) (nomark _)) (qv 3) (qe_call (ok__law_pick W) (hr.mono (by decide)) (by rfl) W.D21.g W.D21.kp W.D21.b takesD (qa_cons (qv 1) (qa_cons (qv 8) (qa_nil)))))) (qss_cons (qs_set (i := 15) sc26.nd rfl (by first | exact .inl rfl | exact .inr rfl) (qe_if (qt_cmp (op_rI0 op_gt) od_gt (qe_call (ok__law_draw W) (hr.mono (by decide)) (by rfl) W.D20.g W.D20.kp W.D20.b takesD (qa_cons (qv 1) (qa_cons (qe_int) (qa_nil)))) (qe_int) (nomark _)) (qv 4) (qe_call (ok__law_pick W) (hr.mono (by decide)) (by rfl) W.D21.g W.D21.kp W.D21.b takesD (qa_cons (qv 1) (qa_cons (qe_lst (qa_cons (qe_non) (qa_cons (qe_lst (qa_cons (qe_int) (qa_nil))) (qa_cons (qe_tup (qa_cons (qe_neg (qe_int)) (qa_nil))) (qa_cons (qe_tup (qa_cons (qe_int) (qa_cons (qe_neg (qe_int)) (qa_nil)))) (qa_cons (qe_tup (qa_cons (qe_int) (qa_cons (qe_bl) (qa_nil)))) (qa_cons (qe_tup (qa_cons (qe_bl) (qa_nil))) (qa_cons (qe_tup (qa_cons (qe_str) (qa_nil))) (qa_cons (qe_int) (qa_cons (qe_tup (qa_cons (qe_non) (qa_nil))) (qa_cons (qe_newK) (qa_nil)))))))))))) (qa_nil)))))) (qss_cons (qs_set (i := 16) sc26.nd rfl (by first | exact .inl rfl | exact .inr rfl) (qe_if (qt_cmp (op_rI0 op_gt) od_gt (qe_call (ok__law_draw W) (hr.mono (by decide)) (by rfl) W.D20.g W.D20.kp W.D20.b takesD (qa_cons (qv 1) (qa_cons (qe_int) (qa_nil)))) (qe_int) (nomark _)) (qv 5) (qe_call (ok__law_pick W) (hr.mono (by decide)) (by rfl) W.D21.g W.D21.kp W.D21.b takesD (qa_cons (qv 1) (qa_cons (qe_lst (qa_cons (qe_neg (qe_int)) (qa_cons (qe_bl) (qa_cons (qe_non) (qa_cons (qe_str) (qa_cons (qe_tup (qa_cons (qe_int) (qa_nil))) (qa_cons (qe_lst (qa_nil)) (qa_nil)))))))) (qa_nil)))))) (qss_cons (qs_set (i := 9) sc26.nd rfl (by first | exact .inl rfl | exact .inr rfl) (qe_tup (qa_cons (qe_str) (qa_cons (qv 7) (qa_nil))))) (qss_cons (qs_for passD rfl (qi_any (qe_tup (qa_cons (qe_tup (qa_cons (qe_int) (qa_cons (qe_cmp (op_eqA hr.r) od_eqA (qe_cb (id := "repr") (cr_reprX hr.g hr.r.units) cd_reprX (by rfl) W.m_repr bt_repr (qa_cons (qv 16) (qa_nil))) (qe_cb (id := "repr") (cr_reprX hr.g hr.r.units) cd_reprX (by rfl) W.m_repr bt_repr (qa_cons (qv 5) (qa_nil))) (nomark _)) (qa_cons (qv 16) (qa_nil))))) (qa_cons (qe_tup (qa_cons (qe_int) (qa_cons (qe_cmp (op_eqA hr.r) od_eqA (qe_cb (id := "repr") (cr_reprX hr.g hr.r.units) cd_reprX (by rfl) W.m_repr bt_repr (qa_cons (qv 15) (qa_nil))) (qe_cb (id := "repr") (cr_reprG hr) cd_repr (by rfl) W.m_repr bt_repr (qa_cons (qv 4) (qa_nil))) (nomark _)) (qa_cons (qv 15) (qa_nil))))) (qa_cons (qe_tup (qa_cons (qe_int) (qa_cons (qe_cmp (op_eqA hr.r) od_eqA (qe_cb (id := "repr") (cr_reprX hr.g hr.r.units) cd_reprX (by rfl) W.m_repr bt_repr (qa_cons (qv 14) (qa_nil))) (qe_cb (id := "repr") (cr_reprG hr) cd_repr (by rfl) W.m_repr bt_repr (qa_cons (qv 3) (qa_nil))) (nomark _)) (qa_cons (qv 14) (qa_nil))))) (qa_nil)))))) (qg_tupA rfl (qgs_cons (qg_name (i := 10) sc26.nd rfl (by first | exact .inl rfl | exact .inr rfl)) (qgs_cons (qg_name (i := 11) sc26.nd rfl (by first | exact .inl rfl | exact .inr rfl)) (qgs_cons (qg_name (i := 12) sc26.nd rfl (by first | exact .inl rfl | exact .inr rfl)) (qgs_nil))))) (qss_one (qs_if (qt_not (qt_tru (qv 11))) (qss_one (qs_set (i := 9) sc26.nd rfl (by first | exact .inl rfl | exact .inr rfl) (qe_tup (qa_cons (qe_str) (qa_cons (qe_cty (T := "tuple") call_tuple_of cd_tup (by rfl) W.m_tuple bt_tuple (qa_cons (qe_lc (own := [("place", 20)]) (g := gName 20) rfl sc26.nd (qi_range1 (by rfl) W.m_range (qa_cons (qe_int) (qa_nil))) (blkOk_by (N := ["script", "deck", "many", "weights", "tape", "used", "number", "due", "odd", "first", "at", "is_right", "thing", "told", "a", "b", "c", "turn", "x", "k", "place"]) (sc := defScope (top 26)) (by decide +kernel)) (fun _ _ _ _ _ => pg_name (i := 20) sc26.nd rfl (by first | exact .inl rfl | exact .inr rfl)) (tg_name (by simp)) (gm_name) (fun _ _ _ _ _ => qts_nil) (fun _ _ _ _ _ => qe_cmp (op_eqA hr.r) od_eqA (qv 20) (qv 10) (nomark _))) (qa_nil))) (qa_cons (qe_cb (id := "repr") (cr_reprX hr.g hr.r.units) cd_reprX (by rfl) W.m_repr bt_repr (qa_cons (qv 12) (qa_nil))) (qa_nil))))))) (qss_nil)))) (qss_cons (qs_set (i := 13) sc26.nd rfl (by first | exact .inl rfl | exact .inr rfl) (qe_lamcall (k := 6) (by rfl) W.D24.g W.D24.kp W.D24.F rfl W.D24.b sc24 rfl (.inl rfl) (ok__law_tried W) ⟨W.T26.tab.1, W.T26.tab.2, W.T26.tab.3⟩ rfl (by exact .head _) (fun p hp _ => by cases hp with | head => rfl | tail _ h => cases h) (hr.mono (by decide)) (LamX.lamS_by (by show LamX.lamSB (defScope (top 26)) _ = true; decide +kernel)) rfl (by intros; rfl) (fun A2 outer2 s2 H2 E2 f2 c2 hr2 => qe_if (qt_cmp (op_ltH hr2.r) od_ltH (qv 17) (qe_int) (nomark _)) (qe_call (ok_draw W) (hr2.mono (by decide)) (by rfl) W.D17.g W.D17.kp W.D17.b takesL (qa_cons (qv 14) (qa_cons (qv 15) (qa_cons (qv 16) (qa_nil))))) (qe_callW (is := [2, 1, 0]) (ok_draw W) (hr2.mono (by decide)) (by rfl) W.D17.g W.D17.kp (kb_three W.D17.F (ks := ["used", "tape", "weights"]) (is := [2, 1, 0])) takesL (qk_cons (qv 16) (qk_cons (qv 15) (qk_cons (qv 14) (qk_nil)))))))) (qss_one (qs_if (qt_cmp (op_neA hr.r) od_neA (qe_cb (id := "repr") (cr_reprG hr) cd_repr (by rfl) W.m_repr bt_repr (qa_cons (qv 13) (qa_nil))) (qe_cb (id := "repr") (cr_reprG hr) cd_repr (by rfl) W.m_repr bt_repr (qa_cons (qv 9) (qa_nil))) (nomark _)) (qss_one (qs_ret (qe_bl))) (qss_nil)))))))))))))))))) (qss_one (qs_ret (qe_bl)))))) fun _ _ _ _ _ h => h
end
end Z13
set_option Elab.async false
set_option linter.all false
set_option maxRecDepth 100000
set_option maxHeartbeats 4000000
namespace Z13
open PySem PySem.Spec PyProof.Rows L2 GxR Gn Dl
inductive Stp where
  | power (e : Nat)
  | greatest (n : Nat)
  | share (a b : Nat)
  | ban (ts : List Int)
  | seen (a b : Nat)
  | least (n : Nat)
def Stp.d : Stp → D
  | .power e => .tup [.str "power", .int e]
  | .greatest n => .tup [.str "greatest", .int n]
  | .share a b => .tup [.str "share", .int a, .int b]
  | .ban ts => .tup [.str "ban", vI ts]
  | .seen a b => .tup [.str "seen", .int a, .int b]
  | .least n => .tup [.str "least", .int n]
def TokOk (many : Int) (ts : List Int) : Prop := ∀ t ∈ ts, 0 ≤ t ∧ t < many
open Classical in
/-! what a step makes -/
/-! weights -/
theorem sum_nn : ∀ {ws : List Int}, (∀ x ∈ ws, 0 ≤ x) → 0 ≤ ws.sum
  | [], _ => by simp
  | x :: ws, h => by
    have h1 := h x (by simp)
    have h2 := sum_nn fun y hy => h y (List.mem_cons_of_mem x hy)
    simp
    omega
end Z13
set_option Elab.async false
set_option linter.all false
set_option maxRecDepth 100000
set_option maxHeartbeats 4000000
set_option Elab.async false
set_option linter.all false
set_option maxRecDepth 100000
set_option maxHeartbeats 4000000
set_option Elab.async false
set_option linter.all false
set_option maxRecDepth 100000
set_option maxHeartbeats 4000000
namespace Z13
open PySem PySem.Spec PyProof.Rows L2 GxR Gn Dl
theorem p_is_integer {n : Int} {M : Mem} {Q : KD} {E : KE'} (h : Q (.bl true) M) : sp_is_integer [.int n] M Q E := by
  simp [sp_is_integer, r_is_integer, h]
theorem p_is_integer_from {n l : Int} {M : Mem} {Q : KD} {E : KE'} (h : Q (.bl (decide (l ≤ n))) M) : sp_is_integer_from [.int n, .int l] M Q E := by
  simp [sp_is_integer_from, r_is_integer_from]
  apply p_is_integer
  simp [h]
def lyD (L : List (List (List Int))) : D := .tup (L.map mI)
structure Net where
  many : Int
  w : Int
  embeds : List (List Int)
  places : List (List Int)
  layers : List (List (List (List Int)))
  outs : List (List Int)
def Net.d (N : Net) : D := .tup [.str "net", .int N.many, .int N.w, mI N.embeds, mI N.places, .tup (N.layers.map lyD), mI N.outs]
end Z13
set_option Elab.async false
set_option linter.all false
set_option maxRecDepth 100000
set_option maxHeartbeats 4000000
namespace Z13
open PySem PySem.Spec PyProof.Rows L2 GxR Gn Dl
def Fr (i j : Nat) (M M' : Mem) : Prop := M.length ≤ M'.length ∧ ∀ k, k < M.length → k ≠ i → k ≠ j → M'[k]? = M[k]?
theorem Fr.tr {i j : Nat} {M M1 M2 : Mem} (a : Fr i j M M1) (b : Fr i j M1 M2) : Fr i j M M2 :=
  ⟨Nat.le_trans a.1 b.1, fun k h1 h2 h3 => (b.2 k (Nat.lt_of_lt_of_le h1 a.1) h2 h3).trans (a.2 k h1 h2 h3)⟩
theorem Fr.app (i j : Nat) (M G : Mem) : Fr i j M (M ++ G) := ⟨by simp, fun k h _ _ => List.getElem?_append_left h⟩
theorem Fr.set1 (i j : Nat) (M : Mem) (c : Cell) : Fr i j M (M.set i c) := ⟨by simp, fun k h a b => by rw [List.getElem?_set_ne (Ne.symm a)]⟩
theorem Fr.set2 (i j : Nat) (M : Mem) (c : Cell) : Fr i j M (M.set j c) := ⟨by simp, fun k h a b => by rw [List.getElem?_set_ne (Ne.symm b)]⟩
def dkv (j : Nat) (m k : Int) : List (L2.Key × D) := [(Sum.inr "left", .obj j), (Sum.inr "mixed", .int m), (Sum.inr "draws", .int k)]
@[simp] theorem dkv_left (j : Nat) (m k : Int) : valD (dkv j m k) (.inr "left") = some (.obj j) := rfl
@[simp] theorem dkv_mixed (j : Nat) (m k : Int) : valD (dkv j m k) (.inr "mixed") = some (.int m) := rfl
@[simp] theorem dkv_draws (j : Nat) (m k : Int) : valD (dkv j m k) (.inr "draws") = some (.int k) := rfl
@[simp] theorem dkv_putm (j : Nat) (m k x : Int) : putKD (dkv j m k) (.inr "mixed") (.int x) = dkv j x k := rfl
@[simp] theorem dkv_putd (j : Nat) (m k x : Int) : putKD (dkv j m k) (.inr "draws") (.int x) = dkv j m x := rfl
theorem dkv_len (j : Nat) (m k : Int) : (dkv j m k).length < sizeLine := by
  show 3 < sizeLine
  decide
structure DkAt (i j : Nat) (f : Nat) (ns : List Int) (m k : Int) (M : Mem) : Prop where
  d : M[i]? = some (.dK (dkv j m k))
  l : M[j]? = some (.lst (ns.map D.int))
  ne : i ≠ j
  m0 : 0 ≤ m
  m1 : m < 2147483648
  k0 : 0 ≤ k
  k1 : k + f ≤ 1000000000000
  nl : ns.length ≤ 64
def Dk (i j f : Nat) (M : Mem) : Prop := ∃ ns m k, DkAt i j f ns m k M
theorem Dk.app {i j f : Nat} {M : Mem} (h : Dk i j f M) (G : Mem) : Dk i j f (M ++ G) := by
  obtain ⟨ns, m, k, h⟩ := h
  have hi := (List.getElem?_eq_some_iff.mp h.d).1
  have hj := (List.getElem?_eq_some_iff.mp h.l).1
  exact ⟨ns, m, k, by rw [List.getElem?_append_left hi]; exact h.d, by rw [List.getElem?_append_left hj]; exact h.l, h.ne, h.m0, h.m1, h.k0, h.k1, h.nl⟩
theorem Dk.le {i j f g : Nat} {M : Mem} (h : Dk i j f M) (hg : g ≤ f) : Dk i j g M := by
  obtain ⟨ns, m, k, h⟩ := h
  exact ⟨ns, m, k, h.d, h.l, h.ne, h.m0, h.m1, h.k0, by have := h.k1; omega, h.nl⟩
theorem draw_arith {many m k : Int} (h0 : 0 < many) (m0 : 0 ≤ m) (m1 : m < 2147483648) (k0 : 0 ≤ k) (k1 : k ≤ 1000000000000) (P : Int → Prop) (hq : ∀ r, 0 ≤ r → r < many → P r) :
    CMulW 31337 k ∧
    CMulW ((m + 31337 * k).fmod 2147483647) ((m + 31337 * k).fmod 2147483647) ∧
      CMulW 48271 k ∧
        CMulW (((m + 31337 * k).fmod 2147483647 * (m + 31337 * k).fmod 2147483647 + 48271 * k + 3).fmod 2147483629) 69621 ∧
          CDivA ((((m + 31337 * k).fmod 2147483647 * (m + 31337 * k).fmod 2147483647 + 48271 * k + 3).fmod 2147483629 * 69621 + 77).fmod 2147483563) 64 ∧
            ¬many = 0 ∧
              P ((((((m + 31337 * k).fmod 2147483647 * (m + 31337 * k).fmod 2147483647 + 48271 * k + 3).fmod 2147483629 * 69621 + 77).fmod 2147483563).fdiv 64).fmod many) := by
  have p1 : ∀ a : Int, 0 ≤ a.fmod 2147483647 ∧ a.fmod 2147483647 < 2147483647 := fun a => ⟨Int.fmod_nonneg_of_pos a (by decide), Int.fmod_lt_of_pos a (by decide)⟩
  have p2 : ∀ a : Int, 0 ≤ a.fmod 2147483629 ∧ a.fmod 2147483629 < 2147483629 := fun a => ⟨Int.fmod_nonneg_of_pos a (by decide), Int.fmod_lt_of_pos a (by decide)⟩
  refine ⟨cmul_of (B := 31337) (C := 1000000000000) (by omega) (by omega), ?_⟩
  have q1 := p1 (m + 31337 * k)
  generalize (m + 31337 * k).fmod 2147483647 = a1 at q1 ⊢
  refine ⟨cmul_of (B := 2147483647) (C := 2147483647) (by omega) (by omega), cmul_of (B := 48271) (C := 1000000000000) (by omega) (by omega), ?_⟩
  have q2 := p2 (a1 * a1 + 48271 * k + 3)
  generalize (a1 * a1 + 48271 * k + 3).fmod 2147483629 = a2 at q2 ⊢
  refine ⟨cmul_of (B := 2147483647) (C := 69621) (by omega) (by omega), ⟨by decide, by decide⟩, by omega, ?_⟩
  exact hq _ (Int.fmod_nonneg_of_pos _ h0) (Int.fmod_lt_of_pos _ h0)
theorem p__law_drawW {i j f : Nat} {many : Int} {M : Mem} {Q : KD} {E : KE'} (h : Dk i j (f + 1) M) (h0 : 0 < many) (h1 : many < 2 ^ 1000) (hq : ∀ r M', 0 ≤ r → r < many → Dk i j f M' → Fr i j M M' → Q (.int r) M') : sp__law_draw [.obj i, .int many] M Q E := by
  obtain ⟨ns, m, k, h⟩ := h
  have hi := (List.getElem?_eq_some_iff.mp h.d).1
  have hj := (List.getElem?_eq_some_iff.mp h.l).1
  have hne : j ≠ i := fun e => h.ne e.symm
  have k1 := h.k1
  simp [sp__law_draw, r__law_draw, h.d]
  refine ⟨dkv_len _ _ _, ?_⟩
  rw [List.getElem?_set_self hi]
  simp
  obtain ⟨M1, e1⟩ : ∃ M1, M1 = M.set i (.dK (dkv j m (k + 1))) ++ [Cell.lst []] := ⟨_, rfl⟩
  have f1 : Fr i j M M1 := by rw [e1]; exact (Fr.set1 i j M _).tr (Fr.app i j _ _)
  have d1 : M1[i]? = some (.dK (dkv j m (k + 1))) := by rw [e1, List.getElem?_append_left (by simpa using hi), List.getElem?_set_self hi]
  have l1 : M1[j]? = some (.lst (ns.map D.int)) := by rw [e1, List.getElem?_append_left (by simpa using hj), List.getElem?_set_ne h.ne]; exact h.l
  have n1 : M1[M.length]? = some (.lst []) := by rw [e1]; simp
  rw [← e1]
  clear e1
  refine eqD_lst0 l1 n1 ?_
  rcases List.eq_nil_or_concat ns with rfl | ⟨ns0, c, rfl⟩
  · simp [d1]
    exact draw_arith h0 h.m0 h.m1 (by have := h.k0; omega) (by omega) (fun r => Q (.int r) M1) fun r r0 r1 => hq r M1 r0 r1 ⟨[], m, k + 1, d1, l1, h.ne, h.m0, h.m1, by have := h.k0; omega, by omega, by simp⟩ f1
  · have hj1 : j < M1.length := Nat.lt_of_lt_of_le hj f1.1
    have hi1 : i < M1.length := Nat.lt_of_lt_of_le hi f1.1
    simp [d1, isLst, l1]
    have hc : CPow 10 18 := by unfold CPow; decide
    refine ⟨hc, ?_⟩
    have nl := h.nl
    have nl0 : ns0.length + 1 ≤ 64 := by simpa using nl
    obtain ⟨M2, e2⟩ : ∃ M2, M2 = M1.set j (.lst (ns0.map D.int)) := ⟨_, rfl⟩
    have f2 : Fr i j M M2 := by rw [e2]; exact f1.tr (Fr.set2 i j M1 _)
    have d2 : M2[i]? = some (.dK (dkv j m (k + 1))) := by rw [e2, List.getElem?_set_ne hne]; exact d1
    have l2 : M2[j]? = some (.lst (ns0.map D.int)) := by rw [e2, List.getElem?_set_self hj1]
    have hi2 : i < M2.length := Nat.lt_of_lt_of_le hi f2.1
    have hj2 : j < M2.length := Nat.lt_of_lt_of_le hj f2.1
    rw [← e2]
    clear e2
    simp only [d2]
    by_cases hcc : c < 1000000000000000000
    · refine .inl ⟨hcc, ?_⟩
      simp [d2]
      have p0 : ∀ a : Int, 0 ≤ a.fmod 2147483587 ∧ a.fmod 2147483587 < 2147483587 := fun a => ⟨Int.fmod_nonneg_of_pos a (by decide), Int.fmod_lt_of_pos a (by decide)⟩
      have m0 := h.m0
      have m1 := h.m1
      have kk := h.k0
      refine ⟨cmul_of (B := 2147483648) (C := 39373) (by omega) (by omega), dkv_len _ _ _, ?_⟩
      rw [List.getElem?_set_self hi2]
      simp
      have q0 := p0 (m * 39373 + c.fmod 2147483629 + 1)
      generalize (m * 39373 + c.fmod 2147483629 + 1).fmod 2147483587 = m' at q0 ⊢
      have d3 : (M2.set i (.dK (dkv j m' (k + 1))))[i]? = some (.dK (dkv j m' (k + 1))) := List.getElem?_set_self hi2
      have l3 : (M2.set i (.dK (dkv j m' (k + 1))))[j]? = some (.lst (ns0.map D.int)) := by rw [List.getElem?_set_ne h.ne]; exact l2
      have f3 : Fr i j M (M2.set i (.dK (dkv j m' (k + 1)))) := f2.tr (Fr.set1 i j M2 _)
      rw [d3]
      simp [hi2]
      exact draw_arith h0 q0.1 (by omega) (by omega) (by omega) (fun r => Q (.int r) _) fun r r0 r1 => hq r _ r0 r1 ⟨ns0, m', k + 1, d3, l3, h.ne, q0.1, by omega, by omega, by omega, by omega⟩ f3
    · refine .inr ⟨by omega, ?_⟩
      simp [l2]
      have hb : CDivA c (if 2 < many then many else 2) := by
        split
        · rename_i h2
          obtain ⟨k, rfl⟩ : ∃ k : Nat, many = k := ⟨many.toNat, by omega⟩
          exact cdiv_of (b := 1000) (by omega) (by exact_mod_cast h1)
        · exact ⟨by decide, by decide⟩
      refine ⟨hb, small_le (n := ns0.length + 1) (by omega), by omega, ?_⟩
      refine hq _ _ (Int.fmod_nonneg_of_pos _ h0) (Int.fmod_lt_of_pos _ h0) ⟨ns0 ++ [c.fdiv (if 2 < many then many else 2)], m, k + 1, ?_, ?_, h.ne, h.m0, h.m1, by have := h.k0; omega, by omega, by simp; omega⟩ (f2.tr (Fr.set2 i j M2 _))
      · rw [List.getElem?_set_ne hne]; exact d2
      · rw [List.getElem?_set_self hj2]; simp
theorem p__law_draw {i j f : Nat} {many : Int} {M : Mem} {Q : KD} {E : KE'} (h : Dk i j (f + 1) M) (h0 : 0 < many) (h1 : many < 1000000000) (hq : ∀ r M', 0 ≤ r → r < many → Dk i j f M' → Fr i j M M' → Q (.int r) M') : sp__law_draw [.obj i, .int many] M Q E :=
  p__law_drawW h h0 (Int.lt_trans h1 (by decide)) hq
end Z13
set_option Elab.async false
set_option linter.all false
set_option maxRecDepth 100000
set_option maxHeartbeats 4000000
namespace Z13
open PySem PySem.Spec PyProof.Rows L2 GxR Gn Dl
theorem cutL_map (ns : List Int) (lo hi : Option Int) : cutL (ns.map D.int) lo hi = (cutL ns lo hi).map D.int := by
  unfold cutL
  rw [List.length_map, List.map_take, List.map_drop]
theorem cutL_len {α : Type} (xs : List α) (lo hi : Option Int) : (cutL xs lo hi).length ≤ xs.length := by
  unfold cutL
  rw [List.length_take, List.length_drop]
  omega
theorem deck_go {scr : D} {M : Mem} {alive : Mem → Prop} {Dd : EndsD} {E : KE'} (al : alive M) : ∀ (cs : List Int) (m : Int) (x : Option D), 0 ≤ m → m < 2147483648 →
    (∀ m' x', 0 ≤ m' → m' < 2147483648 → Dd.nx [some scr, some (.int m'), x'] M) →
    forD (dGN 2) (dSet 1 (dOp modD (dCB Dl.intOfD (dCons (dOp addD (dOp addD (dOp mulA (dVar 1) (dC (.int 40692))) (dOp modD (dCB Dl.intOfD (dCons (dVar 2) (dNil))) (dC (.int 2147483647)))) (dC (.int 31))) (dNil))) (dC (.int 2147483563)))) alive Dd E (cs.map D.int) [some scr, some (.int m), x] M
  | [], m, x, h0, h1, h => ⟨al, h m x h0 h1⟩
  | c :: cs, m, x, h0, h1, h => by
    refine ⟨al, ?_⟩
    simp
    refine ⟨cmul_of (B := 2147483648) (C := 40692) (by omega) (by omega), ?_⟩
    have p0 : ∀ a : Int, 0 ≤ a.fmod 2147483563 ∧ a.fmod 2147483563 < 2147483563 := fun a => ⟨Int.fmod_nonneg_of_pos a (by decide), Int.fmod_lt_of_pos a (by decide)⟩
    have q0 := p0 (m * 40692 + c.fmod 2147483647 + 31)
    exact deck_go al cs _ _ q0.1 (by omega) h
theorem p__law_deck {ns : List Int} {Q : KD} {E : KE'} (hl : ns.length ≤ 63) (hq : ∀ i j M', Dk i j 1000000 M' → Q (.obj i) M') : sp__law_deck [.scr ns] [] Q E := by
  simp [sp__law_deck, r__law_deck]
  rw [cutL_map]
  refine deck_go (by rfl) _ 14408013 none (by decide) (by decide) fun m' x' h0 h1 => ?_
  simp
  refine ⟨dkv 4 m' 0, rfl, by show 3 ≤ 15; decide, hq 1 4 _ ⟨(cutL ns none (some 63)).reverse, m', 0, rfl, ?_, by decide, h0, h1, by decide, by decide, ?_⟩⟩
  · rw [cutL_map, ← List.map_reverse]
    rfl
  · rw [List.length_reverse]
    have := cutL_len ns none (some 63)
    omega
theorem atI_in {α : Type} {xs : List α} {r : Int} (h0 : 0 ≤ r) (h1 : r < xs.length) : ∃ v, atI xs r = some v ∧ v ∈ xs := by
  obtain ⟨n, rfl⟩ : ∃ n : Nat, r = n := ⟨r.toNat, by omega⟩
  have hn : n < xs.length := by omega
  exact ⟨xs[n], atI_nat (List.getElem?_eq_getElem hn), List.getElem_mem hn⟩
theorem p__law_pick_l {i j f : Nat} {ds : List D} {n : Nat} {M : Mem} {Q : KD} {E : KE'} (h : Dk i j (f + 1) M) (hn : M[n]? = some (.lst ds)) (h0 : 0 < ds.length) (h1 : ds.length < 1000) (ni : n ≠ i) (nj : n ≠ j) (hq : ∀ d M', d ∈ ds → Dk i j f M' → Fr i j M M' → Q d M') : sp__law_pick [.obj i, .obj n] M Q E := by
  have hl := (List.getElem?_eq_some_iff.mp hn).1
  simp [sp__law_pick, r__law_pick, hn]
  refine p__law_draw h (by omega) (by omega) fun r M' r0 r1 D1 f1 => ?_
  have hn' : M'[n]? = some (.lst ds) := (f1.2 n hl ni nj).trans hn
  obtain ⟨v, e, hv⟩ := atI_in r0 r1
  exact (ixA_objI hn').mpr ⟨v, e, hq v M' hv D1 f1⟩
theorem lcD_draw {α : Type} {i j c : Nat} {gd : TGd} {te : TEd} {vs : List Nat} {alive : Mem → Prop} {Q : KD} {S : Sl} (dd : α → D) (P : D → Prop) (M0 : Mem) (n : Nat) (ni : n ≠ i) (nj : n ≠ j) (hn0 : M0.length ≤ n) (al : ∀ M, Fr i j M0 M → alive M) : ∀ (as : List α) (acc : List D) (f : Nat) (M : Mem),
    Dk i j (f + c * as.length) M → Fr i j M0 M → M[n]? = some (.lst acc) → (∀ d ∈ acc, P d) → acc.length + as.length ≤ sizeLine →
    (∀ a ∈ as, ∀ (g : Nat) (M : Mem) (Q' : KD), Dk i j (g + c) M → Fr i j M0 M → (∀ d M', P d → Dk i j g M' → Fr i j M M' → Q' d M') → gd (dd a) (wipeD S vs) M fun S1 M1 => te S1 M1 Q' E00) →
    (∀ ds M', (∀ d ∈ ds, P d) → ds.length = acc.length + as.length → Dk i j f M' → Fr i j M0 M' → M'[n]? = some (.lst ds) → Q (.obj n) M') →
    lcD gd dYes te vs n alive Q S (as.map dd) M
  | [], acc, f, M, D0, F0, hn, hp, hz, el, h => ⟨al M F0, h acc M hp (by simp) (by simpa using D0) F0 hn⟩
  | a :: as, acc, f, M, D0, F0, hn, hp, hz, el, h => by
    refine ⟨al M F0, ?_⟩
    simp only [dYes, if_true]
    have e0 : f + c * (a :: as).length = (f + c * as.length) + c := by rw [List.length_cons, Nat.mul_succ, Nat.add_assoc]
    rw [e0] at D0
    have hl := (List.getElem?_eq_some_iff.mp hn).1
    refine el a (by simp) _ M _ D0 F0 fun d M' pd D1 F1 => ⟨acc, (F1.2 n hl ni nj).trans hn, by simp at hz; omega, ?_⟩
    have hl' : n < M'.length := Nat.lt_of_lt_of_le hl F1.1
    have F2 : Fr i j M0 (M'.set n (.lst (acc ++ [d]))) := by
      refine ⟨by rw [List.length_set]; exact Nat.le_trans F0.1 F1.1, fun k h1 h2 h3 => ?_⟩
      rw [List.getElem?_set_ne (by omega)]
      exact (F0.tr F1).2 k h1 h2 h3
    have D2 : Dk i j (f + c * as.length) (M'.set n (.lst (acc ++ [d]))) := by
      obtain ⟨ns, m, k, q⟩ := D1
      exact ⟨ns, m, k, by rw [List.getElem?_set_ne ni]; exact q.d, by rw [List.getElem?_set_ne nj]; exact q.l, q.ne, q.m0, q.m1, q.k0, q.k1, q.nl⟩
    refine lcD_draw dd P M0 n ni nj hn0 al as (acc ++ [d]) f _ D2 F2 (List.getElem?_set_self hl') (fun x hx => ?_) (by simp at hz ⊢; omega) (fun b hb => el b (List.mem_cons_of_mem _ hb)) (fun ds M2 p1 p2 => h ds M2 p1 (by simp at p2 ⊢; omega))
    rcases List.mem_append.mp hx with hx | hx
    · exact hp x hx
    · rw [List.mem_singleton.mp hx]; exact pd
end Z13
set_option Elab.async false
set_option linter.all false
set_option maxRecDepth 100000
set_option maxHeartbeats 4000000
namespace Z13
open PySem PySem.Spec PyProof.Rows L2 GxR Gn Dl
theorem ints_ex {p : Int → Prop} : ∀ {ds : List D}, (∀ d ∈ ds, ∃ n, d = .int n ∧ p n) → ∃ ns : List Int, ds = ns.map D.int ∧ ∀ n ∈ ns, p n
  | [], _ => ⟨[], rfl, by simp⟩
  | d :: ds, h => by
    obtain ⟨n, rfl, hn⟩ := h d (by simp)
    obtain ⟨ns, rfl, hs⟩ := ints_ex fun d hd => h d (List.mem_cons_of_mem _ hd)
    exact ⟨n :: ns, rfl, fun m hm => (List.mem_cons.mp hm).elim (fun e => e ▸ hn) (hs m)⟩
theorem rngD_map (lo : Int) (n : Nat) : rngD lo n = (List.range n).map fun i => D.int (lo + (i : Nat)) := rfl
theorem Dk.out {i j f : Nat} {M : Mem} (h : Dk i j f M) : M.length ≠ i ∧ M.length ≠ j := by
  obtain ⟨ns, m, k, h⟩ := h
  have hi := (List.getElem?_eq_some_iff.mp h.d).1
  have hj := (List.getElem?_eq_some_iff.mp h.l).1
  omega
theorem lcD_drawn {α : Type} {i j c f : Nat} {gd : TGd} {te : TEd} {vs : List Nat} {alive : Mem → Prop} {Q : KD} {S : Sl} (dd : α → D) (P : D → Prop) (as : List α) (M : Mem) (al : ∀ M', Fr i j M M' → alive M')
    (D0 : Dk i j (f + c * as.length) M) (hz : as.length ≤ 1000)
    (el : ∀ a ∈ as, ∀ (g : Nat) (M1 : Mem) (Q' : KD), Dk i j (g + c) M1 → Fr i j M M1 → (∀ d M', P d → Dk i j g M' → Fr i j M1 M' → Q' d M') → gd (dd a) (wipeD S vs) M1 fun S1 M1 => te S1 M1 Q' E00)
    (h : ∀ ds M', (∀ d ∈ ds, P d) → ds.length = as.length → Dk i j f M' → Fr i j M M' → M'[M.length]? = some (.lst ds) → Q (.obj M.length) M') :
    lcD gd dYes te vs M.length alive Q S (as.map dd) (M ++ [.lst []]) := by
  refine lcD_draw (i := i) (j := j) (c := c) dd P M M.length D0.out.1 D0.out.2 (Nat.le_refl _) al as [] f _ (D0.app _) (Fr.app _ _ _ _) (by simp) (by simp) (small_le (by simpa using hz)) el fun ds M' p1 p2 p3 p4 p5 => h ds M' p1 (by simpa using p2) p3 p4 p5
end Z13
set_option Elab.async false
set_option linter.all false
set_option maxRecDepth 100000
set_option maxHeartbeats 4000000
set_option Elab.async false
set_option linter.all false
set_option maxRecDepth 100000
set_option maxHeartbeats 4000000
namespace Z13
open PySem PySem.Spec PyProof.Rows L2 GxR Gn Dl
def Ext (M M' : Mem) : Prop := ∃ G, M' = M ++ G
theorem Ext.tr {M M1 M2 : Mem} (a : Ext M M1) (b : Ext M1 M2) : Ext M M2 := by
  obtain ⟨G, rfl⟩ := a
  obtain ⟨H, rfl⟩ := b
  exact ⟨G ++ H, by simp⟩
theorem Ext.app (M G : Mem) : Ext M (M ++ G) := ⟨G, rfl⟩
theorem Ext.at {M M' : Mem} (a : Ext M M') {n : Nat} {c : Cell} (h : M[n]? = some c) : M'[n]? = some c := by
  obtain ⟨G, rfl⟩ := a
  rw [List.getElem?_append_left (List.getElem?_eq_some_iff.mp h).1]
  exact h
theorem lcD_ex {α : Type} {gd : TGd} {te : TEd} {vs : List Nat} {alive : Mem → Prop} {Q : KD} {S : Sl} (dd f : α → D) (as : List α) (M : Mem) (al : ∀ M', Ext M M' → alive M')
    (el : ∀ a ∈ as, ∀ (M1 : Mem) (Q' : KD), Ext M M1 → (∀ G', Q' (f a) (M1 ++ G')) → gd (dd a) (wipeD S vs) M1 fun S1 M2 => te S1 M2 Q' E00) (hz : as.length ≤ 1000)
    (h : ∀ M', Ext M M' → M'[M.length]? = some (.lst (as.map f)) → Q (.obj M.length) M') :
    lcD gd dYes te vs M.length alive Q S (as.map dd) (M ++ [.lst []]) :=
  lcD_of dd f as M (fun G => al _ (Ext.app M G)) (fun a ha G Q' k => el a ha _ Q' (Ext.app M G) k) (small_le hz) fun G => h _ (Ext.app M _) at_end
end Z13
set_option Elab.async false
set_option linter.all false
set_option maxRecDepth 100000
set_option maxHeartbeats 4000000
set_option Elab.async false
set_option linter.all false
set_option maxRecDepth 100000
set_option maxHeartbeats 4000000
set_option Elab.async false
set_option linter.all false
set_option maxRecDepth 100000
set_option maxHeartbeats 4000000
set_option Elab.async false
set_option linter.all false
set_option maxRecDepth 100000
set_option maxHeartbeats 4000000
set_option Elab.async false
set_option linter.all false
set_option maxRecDepth 100000
set_option maxHeartbeats 4000000
namespace Z13
open PySem PySem.Spec PyProof.Rows L2 GxR Gn Dl
def Lo (n : Nat) (M M' : Mem) : Prop := M.length ≤ M'.length ∧ ∀ k, k < n → M'[k]? = M[k]?
theorem Lo.tr {n : Nat} {M M1 M2 : Mem} (a : Lo n M M1) (b : Lo n M1 M2) : Lo n M M2 := ⟨Nat.le_trans a.1 b.1, fun k h => (b.2 k h).trans (a.2 k h)⟩
theorem Lo.set {n p : Nat} (M : Mem) (c : Cell) (hp : n ≤ p) : Lo n M (M.set p c) := ⟨by simp, fun k hk => by rw [List.getElem?_set_ne (by omega)]⟩
end Z13
set_option Elab.async false
set_option linter.all false
set_option maxRecDepth 100000
set_option maxHeartbeats 4000000
namespace Z13
open PySem PySem.Spec PyProof.Rows L2 GxR Gn Dl
theorem enumD_map {α : Type} (f : α → D) : ∀ (as : List α) (i : Nat), ((as.map f).zipIdx i).map (fun p => D.tup [.int (p.2 : Nat), p.1]) = (as.zipIdx i).map fun q => D.tup [.int (q.2 : Nat), f q.1]
  | [], _ => rfl
  | a :: as, i => by
    have := enumD_map f as (i + 1)
    simp only [List.map_cons, List.zipIdx_cons]
    rw [this]
end Z13
set_option Elab.async false
set_option linter.all false
set_option maxRecDepth 100000
set_option maxHeartbeats 4000000
set_option Elab.async false
set_option linter.all false
set_option maxRecDepth 100000
set_option maxHeartbeats 4000000
set_option Elab.async false
set_option linter.all false
set_option maxRecDepth 100000
set_option maxHeartbeats 4000000
set_option Elab.async false
set_option linter.all false
set_option maxRecDepth 100000
set_option maxHeartbeats 4000000
set_option Elab.async false
set_option linter.all false
set_option maxRecDepth 100000
set_option maxHeartbeats 4000000
set_option Elab.async false
set_option linter.all false
set_option maxRecDepth 100000
set_option maxHeartbeats 4000000
set_option Elab.async false
set_option linter.all false
set_option maxRecDepth 100000
set_option maxHeartbeats 4000000
set_option Elab.async false
set_option linter.all false
set_option maxRecDepth 100000
set_option maxHeartbeats 4000000
set_option Elab.async false
set_option linter.all false
set_option maxRecDepth 100000
set_option maxHeartbeats 4000000
namespace Z13
open PySem PySem.Spec PyProof.Rows L2 GxR Gn Dl
theorem z1k {n : Nat} (h : n ≤ 1000 := by decide) : n ≤ sizeLine := small_le h
theorem enumI (ws : List Int) : enumD (ws.map D.int) = ws.zipIdx.map fun q => D.tup [.int (q.2 : Nat), .int q.1] := by
  unfold enumD
  rw [enumD_map]
end Z13
set_option Elab.async false
set_option linter.all false
set_option maxRecDepth 100000
set_option maxHeartbeats 4000000
namespace Z13
open PySem PySem.Spec PyProof.Rows L2 GxR Gn Dl
def Ld (M M' : Mem) : Prop := M.length ≤ M'.length ∧ ∀ k, k < M.length → M'[k]? = M[k]?
theorem Ld.tr {A B C : Mem} (h : Ld A B) (k : Ld B C) : Ld A C := ⟨Nat.le_trans h.1 k.1, fun n hn => (k.2 n (Nat.lt_of_lt_of_le hn h.1)).trans (h.2 n hn)⟩
theorem Ext.ld {M M' : Mem} (h : Ext M M') : Ld M M' := by
  obtain ⟨G, rfl⟩ := h
  exact ⟨by simp, fun k hk => List.getElem?_append_left hk⟩
theorem Ld.app {M M' : Mem} (h : Ld M M') (G : Mem) : Ld M (M' ++ G) := h.tr (Ext.app M' G).ld
theorem Ld.set {M M' : Mem} (h : Ld M M') {k : Nat} (hk : M.length ≤ k) (c : Cell) : Ld M (M'.set k c) := ⟨by rw [List.length_set]; exact h.1, fun n hn => by
  rw [List.getElem?_set_ne (by omega)]
  exact h.2 n hn⟩
theorem Ld.at {M M' : Mem} (h : Ld M M') {n : Nat} {c : Cell} (e : M[n]? = some c) : M'[n]? = some c := (h.2 n (List.getElem?_eq_some_iff.mp e).1).trans e
theorem Dk.ld {i j f : Nat} {M M' : Mem} (h : Dk i j f M) (l : Ld M M') : Dk i j f M' := by
  obtain ⟨ns, m, k, q⟩ := h
  exact ⟨ns, m, k, l.at q.d, l.at q.l, q.ne, q.m0, q.m1, q.k0, q.k1, q.nl⟩
end Z13
set_option Elab.async false
set_option linter.all false
set_option maxRecDepth 100000
set_option maxHeartbeats 4000000
set_option Elab.async false
set_option linter.all false
set_option maxRecDepth 100000
set_option maxHeartbeats 4000000
set_option Elab.async false
set_option linter.all false
set_option maxRecDepth 100000
set_option maxHeartbeats 4000000
set_option Elab.async false
set_option linter.all false
set_option maxRecDepth 100000
set_option maxHeartbeats 4000000
set_option Elab.async false
set_option linter.all false
set_option maxRecDepth 100000
set_option maxHeartbeats 4000000
namespace Z13
open PySem PySem.Spec PyProof.Rows L2 GxR Gn Dl
theorem Dk.set {i j f k : Nat} {M : Mem} {c : Cell} (h : Dk i j f M) (hi : k ≠ i) (hj : k ≠ j) : Dk i j f (M.set k c) := by
  obtain ⟨ns, m, q, h⟩ := h
  exact ⟨ns, m, q, by rw [List.getElem?_set_ne hi]; exact h.d, by rw [List.getElem?_set_ne hj]; exact h.l, h.ne, h.m0, h.m1, h.k0, h.k1, h.nl⟩
end Z13
set_option Elab.async false
set_option linter.all false
set_option maxRecDepth 100000
set_option maxHeartbeats 4000000
set_option Elab.async false
set_option linter.all false
set_option maxRecDepth 100000
set_option maxHeartbeats 4000000
namespace Z13.Wn
open PySem PySem.Spec PyProof.Rows L2 GxR Gn Dl
structure WOk (w : Nat) (ws : List Int) : Prop where
  len : ws.length = w
  bd : ∀ x ∈ ws, 0 ≤ x ∧ x ≤ 100000000
  pos : 0 < ws.sum
theorem sum_rep (n : Nat) (v : Int) : (List.replicate n 0 ++ [v]).sum = v := by simp
theorem p__law_drawn_weights {i j f wide most : Nat} {M : Mem} {Q : KD} {E : KE'} (h : Dk i j (f + 2 + 3 * wide) M) (hw : 0 < wide) (hw2 : wide ≤ 900) (hm : 1 ≤ most) (hm2 : most ≤ 100000000) (hq : ∀ ws M', WOk wide ws → Dk i j f M' → Fr i j M M' → Q (vI ws) M') : sp__law_drawn_weights [.obj i, .int wide, .int most] M Q E := by
  simp [sp__law_drawn_weights, r__law_drawn_weights, rngD_map]
  refine ⟨by omega, ?_⟩
  refine lcD_drawn (i := i) (j := j) (c := 3) (f := f + 2) (fun i : Nat => D.int (i : Int)) (fun x => ∃ t : Int, x = .int t ∧ (0 ≤ t ∧ t ≤ 100000000)) (List.range wide) M (fun _ _ => trivial) (by simpa using h) (by simp; omega) (fun a ha g M1 Q' D2 F2 k => ?_) fun ds M2 p1 p2 D2 F2 e2 => ?_
  · simp
    refine p__law_draw (f := g + 2) D2 (by decide) (by decide) fun r1 M3 a0 a1 D3 F3 => ?_
    refine addD_int.mpr ?_
    refine p__law_draw (f := g + 1) D3 (by omega) (by omega) fun r2 M4 b0 b1 D4 F4 => ?_
    refine addD_int.mpr ?_
    refine ⟨z1k, ?_⟩
    have D5 : Dk i j (g + 1) (M4 ++ [.lst [.int 0, .int 1, .int (1 + r1), .int (1 + r2)]]) := D4.app _
    have hl5 : (M4 ++ [Cell.lst [.int 0, .int 1, .int (1 + r1), .int (1 + r2)]])[M4.length]? = some (.lst [.int 0, .int 1, .int (1 + r1), .int (1 + r2)]) := by simp
    refine p__law_pick_l (f := g) (n := M4.length) D5 hl5 (by simp) (by simp) D4.out.1 D4.out.2 fun d M5 hd D6 F6 => k d M5 ?_ D6 (((F3.tr F4).tr (Fr.app _ _ _ _)).tr F6)
    simp only [List.mem_cons, List.not_mem_nil, or_false] at hd
    rcases hd with rfl | rfl | rfl | rfl
    all_goals exact ⟨_, rfl, by omega⟩
  · obtain ⟨ns, rfl, hn⟩ := ints_ex p1
    simp at p2
    have nn : ∀ x ∈ ns, 0 ≤ x := fun x hx => (hn x hx).1
    have hs0 := sum_nn nn
    simp [e2, intsOf_map]
    by_cases hz : 0 < ns.sum
    · refine .inr ⟨hz, ?_⟩
      exact hq ns M2 ⟨p2, hn, hz⟩ (D2.le (by omega)) F2
    · refine .inl ⟨by omega, z1k, mulA_tup (by simp) (by omega) (by omega) (by simp) ?_⟩
      have en : ((wide : Int) - 1).toNat = wide - 1 := by omega
      rw [en]
      have er : (List.replicate (wide - 1) [D.int 0]).flatten = (List.replicate (wide - 1) 0).map D.int := by rw [List.flatten_replicate_singleton, List.map_replicate]
      rw [er]
      refine p__law_draw (f := f + 1) D2 (by decide) (by decide) fun r M3 a0 a1 D3 F3 => ?_
      refine addD_int.mpr ⟨z1k, addD_tup.mpr ⟨small_le (by simp; omega), ?_⟩⟩
      have e3 : (List.replicate (wide - 1) 0).map D.int ++ [D.int (1 + r)] = (List.replicate (wide - 1) 0 ++ [1 + r]).map D.int := by simp
      rw [e3]
      refine hq (List.replicate (wide - 1) 0 ++ [1 + r]) M3 ⟨by simp; omega, fun x hx => ?_, by rw [sum_rep]; omega⟩ (D3.le (by omega)) (F2.tr F3)
      rcases List.mem_append.mp hx with hx | hx
      · rw [List.eq_of_mem_replicate hx]; decide
      · rw [List.mem_singleton.mp hx]; omega
end Z13.Wn
set_option Elab.async false
set_option linter.all false
set_option maxRecDepth 100000
set_option maxHeartbeats 4000000
namespace Z13.Wn
open PySem PySem.Spec PyProof.Rows L2 GxR Gn Dl
abbrev Ent := List Int × List Int
structure Win where
  many : Int
  k : Int
  ents : List Ent
  dflt : List Int
def entD (e : Ent) : D := .tup [vI e.1, vI e.2]
def Win.d (W : Win) : D := .tup [.str "window", .int W.many, .int W.k, .tup (W.ents.map entD), vI W.dflt]
def EOk (many k : Nat) (e : Ent) : Prop := (TokOk many e.1 ∧ e.1.length ≤ k) ∧ WOk many e.2
structure WinB (W : Win) : Prop where
  ex : ∃ m k : Nat, W.many = m ∧ W.k = k ∧ 2 ≤ m ∧ m ≤ 8 ∧ k ≤ 3 ∧ (∀ e ∈ W.ents, EOk m k e) ∧ WOk m W.dflt
  few : W.ents.length ≤ 200
  asc : (W.ents.map (·.1)).Pairwise fun x y => HT.lexLt x y = true
end Z13.Wn
set_option Elab.async false
set_option linter.all false
set_option maxRecDepth 100000
set_option maxHeartbeats 4000000
namespace Z13.Wn
open PySem PySem.Spec PyProof.Rows L2 GxR Gn Dl
structure KvB (m k : Nat) (kvs : List Ent) : Prop where
  ok : ∀ e ∈ kvs, EOk m k e
  nd : (kvs.map (·.1)).Nodup
end Z13.Wn
set_option Elab.async false
set_option linter.all false
set_option maxRecDepth 100000
set_option maxHeartbeats 4000000
namespace Z13.Wn
open PySem PySem.Spec PyProof.Rows L2 GxR Gn Dl
end Z13.Wn
set_option Elab.async false
set_option linter.all false
set_option maxRecDepth 100000
set_option maxHeartbeats 4000000
namespace Z13.Wn
open PySem PySem.Spec PyProof.Rows L2 GxR Gn Dl
end Z13.Wn
set_option Elab.async false
set_option linter.all false
set_option maxRecDepth 100000
set_option maxHeartbeats 4000000
namespace Z13.Wn
open PySem PySem.Spec PyProof.Rows L2 GxR Gn Dl
end Z13.Wn
set_option Elab.async false
set_option linter.all false
set_option maxRecDepth 100000
set_option maxHeartbeats 4000000
namespace Z13.Wn
open PySem PySem.Spec PyProof.Rows L2 GxR Gn Dl
theorem WinB.k0 {W : Win} (B : WinB W) : 0 ≤ W.k := by
  obtain ⟨m, k, em, ek, _⟩ := B.ex
  omega
end Z13.Wn
set_option Elab.async false
set_option linter.all false
set_option maxRecDepth 100000
set_option maxHeartbeats 4000000
namespace Z13.Wn
open PySem PySem.Spec PyProof.Rows L2 GxR Gn Dl
theorem KvB.drop {m k : Nat} {kvs : List Ent} (B : KvB m k kvs) (p : Ent → Bool) : KvB m k (kvs.filter p) :=
  ⟨fun e he => B.ok e (List.mem_filter.mp he).1, B.nd.sublist (List.Sublist.map _ List.filter_sublist)⟩
end Z13.Wn
set_option Elab.async false
set_option linter.all false
set_option maxRecDepth 100000
set_option maxHeartbeats 4000000
set_option Elab.async false
set_option linter.all false
set_option maxRecDepth 100000
set_option maxHeartbeats 4000000
set_option Elab.async false
set_option linter.all false
set_option maxRecDepth 100000
set_option maxHeartbeats 4000000
namespace Z13
open PySem PySem.Spec PyProof.Rows L2 GxR Gn Dl
section
variable {N : Net} {ts : List Int} {y9 y10 y11 y12 y13 y14 y15 y16 y17 y18 y19 y20 y21 : Option D} {M : Mem} {D0 : EndsD} {E : KE'}
def pairsE (k : Nat) (ts : List Int) : List D := (ts.zipIdx k).map fun q => D.tup [.int (q.2 : Nat), .int q.1]
theorem pairsE_cons (k : Nat) (t : Int) (ts : List Int) : pairsE k (t :: ts) = .tup [.int (k : Nat), .int t] :: pairsE (k + 1) ts := rfl
end
end Z13
set_option Elab.async false
set_option linter.all false
set_option maxRecDepth 100000
set_option maxHeartbeats 4000000
set_option Elab.async false
set_option linter.all false
set_option maxRecDepth 100000
set_option maxHeartbeats 4000000
set_option Elab.async false
set_option linter.all false
set_option maxRecDepth 100000
set_option maxHeartbeats 4000000
set_option Elab.async false
set_option linter.all false
set_option maxRecDepth 100000
set_option maxHeartbeats 4000000
namespace Z13
open PySem PySem.Spec PyProof.Rows L2 GxR Gn Dl
theorem lk_here {k : Str} {v : D} {fs : List (Str × D)} : ((k, v) :: fs).lookup k = some v := by
  rw [List.lookup_cons, show (k == k) = true from beq_self_eq_true _]
theorem lk_next {k m : Str} {v : D} {fs : List (Str × D)} (h : (m == k) = false) : ((k, v) :: fs).lookup m = fs.lookup m := by
  rw [List.lookup_cons, h]
theorem pt_here {k : Str} {v d : D} {fs : List (Str × D)} : putD k d ((k, v) :: fs) = (k, d) :: fs := by
  unfold putD
  rw [if_pos rfl]
theorem pt_next {k m : Str} {v d : D} {fs : List (Str × D)} (h : ¬ k = m) : putD m d ((k, v) :: fs) = (k, v) :: putD m d fs := by
  rw [putD, if_neg h]
def trF (tp : List Int) (u : Nat) : List (Str × D) := [(Str.ofString "tape", vI tp), (Str.ofString "used", .int u)]
theorem lk_tape {tp : List Int} {u : Nat} : (trF tp u).lookup (Str.ofString "tape") = some (vI tp) := lk_here
theorem lk_used {tp : List Int} {u : Nat} : (trF tp u).lookup (Str.ofString "used") = some (.int u) := (lk_next (by decide +kernel)).trans lk_here
theorem ne_tr {m : Str} (h1 : (m == Str.ofString "tape") = false) (h2 : (m == Str.ofString "used") = false) {tp : List Int} {u : Nat} : (trF tp u).lookup m = none :=
  (lk_next h1).trans ((lk_next h2).trans rfl)
theorem put_used {tp : List Int} {u : Nat} : putD (Str.ofString "used") (.int ((u : Int) + 1)) (trF tp u) = trF tp (u + 1) := by
  unfold trF
  rw [pt_next (by decide +kernel), pt_here]
  rfl
def numAt (tp : List Int) (u : Nat) : Int := tp.getD u 0
section
variable {C : Nat → Addr}
def TB1 (C : Nat → Addr) : TSd := (dSeq (dAugC (C 15) "used" (Dl.intD (fun _ _ => True) fun i j => .int (i + j)) (dVar 0) (dC (.int 1))) (dRet (dOp modD (dVar 2) (dVar 1))))
theorem below_eq : r_TapeReader_below C = dSeq (dSet 2 (dIf (dTest (dOp (cmpD true) (dFldC (C 15) "used" (dVar 0)) (dCB lenD (dCons (dFldC (C 15) "tape" (dVar 0)) (dNil))))) (dOp ixA (dFldC (C 15) "tape" (dVar 0)) (dFldC (C 15) "used" (dVar 0))) (dC (.int 0)))) (TB1 C) := rfl
theorem tb1 {o u : Nat} {tp : List Int} {x whole : Int} {M : Mem} {D0 : EndsD} {E : KE'} (hM : M[o]? = some (.ins (C 15) (trF tp u))) (hw : 0 < whole)
    (h : D0.rt (.int (x % whole)) (M.set o (.ins (C 15) (trF tp (u + 1))))) : TB1 C D0 E [some (.obj o), some (.int whole), some (.int x)] M := by
  simp [TB1]
  refine augC_of hM lk_used ?_
  simp
  refine ⟨_, hM, by simp [trF], ?_⟩
  rw [put_used]
  refine ⟨by omega, ?_⟩
  rw [Int.fmod_eq_emod_of_nonneg _ (Int.le_of_lt hw)]
  exact h
theorem p_below {o u : Nat} {tp : List Int} {whole : Int} {M : Mem} {Q : KD} {E : KE'} (hM : M[o]? = some (.ins (C 15) (trF tp u))) (hw : 0 < whole)
    (h : Q (.int (numAt tp u % whole)) (M.set o (.ins (C 15) (trF tp (u + 1))))) : sp_TapeReader_below C [.obj o, .int whole] M Q E := by
  simp only [sp_TapeReader_below]
  rw [below_eq]
  simp
  refine fldC_of hM lk_used ?_
  refine fldC_of hM lk_tape ?_
  refine lenD_tup.mpr ?_
  rw [List.length_map]
  refine cmpD_int.mpr ?_
  by_cases hu : u < tp.length
  · refine .inr ⟨by simpa using hu, ?_⟩
    refine fldC_of hM lk_tape ?_
    refine fldC_of hM lk_used ?_
    refine ixA_tup.mpr ⟨.int (numAt tp u), atI_nat (by rw [List.getElem?_map, List.getElem?_eq_getElem hu]; unfold numAt; simp [List.getD_eq_getElem?_getD, hu]), ?_⟩
    exact tb1 hM hw h
  · refine .inl ⟨by simpa using hu, ?_⟩
    have e : numAt tp u = 0 := by unfold numAt; simp [List.getD_eq_getElem?_getD, List.getElem?_eq_none (Nat.le_of_not_lt hu)]
    rw [e] at h
    exact tb1 hM hw h
end
end Z13
set_option Elab.async false
set_option linter.all false
set_option maxRecDepth 100000
set_option maxHeartbeats 4000000
namespace Z13
open PySem PySem.Spec PyProof.Rows L2 GxR Gn Dl
def tkn : List Int → Int → Nat
  | [], _ => 0
  | w :: ws, n => if n < w then 0 else tkn ws (n - w) + 1
theorem tkn_lt : ∀ {ws : List Int} {n : Int}, 0 ≤ n → n < ws.sum → tkn ws n < ws.length
  | [], n, h0, h1 => by simp at h1; omega
  | w :: ws, n, h0, h1 => by
    unfold tkn
    split
    · simp
    · have := tkn_lt (ws := ws) (n := n - w) (by omega) (by simp at h1; omega)
      simp
      omega
section
variable {C : Nat → Addr}
def KT1 : TSd := (dSeq (dAug 2 (Dl.intD (fun _ _ => True) fun i j => .int (i - j)) (dOp ixA (dVar 1) (dVar 3))) (dAug 3 (Dl.intD (fun _ _ => True) fun i j => .int (i + j)) (dC (.int 1))))
theorem token_eq : r_TapeReader_token_by C = dSeq (dSet 2 (dMethC (C 15) "below" 2 (sp_TapeReader_below C) (dVar 0) (dCons (dCB sumHD (dCons (dVar 1) (dNil))) (dNil)))) (dSeq (dSet 3 (dC (.int 0))) (dSeq (dWhile (dTest (dOp geD (dVar 2) (dOp ixA (dVar 1) (dVar 3)))) KT1) (dRet (dVar 3)))) := rfl
theorem drop_at {ws : List Int} {k : Nat} {n : Int} (h0 : 0 ≤ n) (h1 : n < (ws.drop k).sum) : ∃ w, ws[k]? = some w ∧ ws.drop k = w :: ws.drop (k + 1) := by
  by_cases h : k < ws.length
  · exact ⟨ws[k], List.getElem?_eq_getElem h, List.drop_eq_getElem_cons h⟩
  · rw [List.drop_of_length_le (by omega)] at h1
    simp at h1
    omega
theorem p_token_by {o u : Nat} {tp ws : List Int} {M : Mem} {Q : KD} {E : KE'} (hM : M[o]? = some (.ins (C 15) (trF tp u))) (hp : 0 < ws.sum)
    (h : Q (.int (tkn ws (numAt tp u % ws.sum) : Nat)) (M.set o (.ins (C 15) (trF tp (u + 1))))) : sp_TapeReader_token_by C [.obj o, vI ws] M Q E := by
  simp only [sp_TapeReader_token_by]
  rw [token_eq]
  simp
  refine methC_of hM (ne_tr (by decide +kernel) (by decide +kernel)) ?_
  refine sumHD_tup.mpr ⟨ws, intsOf_map ws, ?_⟩
  refine p_below hM hp ?_
  generalize M.set o (.ins (C 15) (trF tp (u + 1))) = M1 at h ⊢
  have r0 : 0 ≤ numAt tp u % ws.sum := Int.emod_nonneg _ (by omega)
  have r1 : numAt tp u % ws.sum < ws.sum := Int.emod_lt_of_pos _ hp
  generalize numAt tp u % ws.sum = n0 at h r0 r1 ⊢
  refine ⟨fun m S M' => ∃ (k : Nat) (n : Int), m = ws.length - k ∧ S = [some (.obj o), some (vI ws), some (.int n), some (.int k)] ∧ M' = M1 ∧ 0 ≤ n ∧ n < (ws.drop k).sum ∧ tkn (ws.drop k) n + k = tkn ws n0, ⟨_, 0, n0, rfl, rfl, rfl, r0, by simpa using r1, by simp⟩, ?_⟩
  rintro m S M' ⟨k, n, rfl, rfl, rfl, n0', n1, ht⟩
  obtain ⟨w, hw, hd⟩ := drop_at n0' n1
  have hk := (List.getElem?_eq_some_iff.mp hw).1
  have hat : atI (ws.map D.int) (k : Int) = some (.int w) := atI_nat (by rw [List.getElem?_map, hw]; rfl)
  have ix : ∀ {Q : KD} {M : Mem}, Q (.int w) M → ixA (vI ws) (.int (k : Int)) M Q := fun q => ixA_tup.mpr ⟨_, hat, q⟩
  simp
  refine ix ?_
  refine intD_int.mpr ⟨trivial, ?_⟩
  rw [hd] at ht n1
  by_cases hlt : n < w
  · refine .inl ⟨by simpa using hlt, ?_⟩
    rw [tkn, if_pos hlt, Nat.zero_add] at ht
    rw [ht]
    exact h
  · refine .inr ⟨by simpa using hlt, ?_⟩
    rw [tkn, if_neg hlt] at ht
    simp at n1
    simp [KT1, dAug]
    refine ix ?_
    refine intD_int.mpr ⟨trivial, ?_⟩
    refine ⟨ws.length - (k + 1), by omega, k + 1, rfl, n - w, ⟨rfl, by simp⟩, rfl, by omega, by omega, by omega⟩
theorem p_reader {o : Nat} {tp : List Int} {u : Nat} {M : Mem} {Q : KD} {E : KE'} (hM : M[o]? = some (.ins (C 15) [])) (h : Q .non (M.set o (.ins (C 15) (trF tp u)))) : sp_TapeReader___init__ C [.obj o, vI tp, .int u] M Q E := by
  have ho := (List.getElem?_eq_some_iff.mp hM).1
  simp [sp_TapeReader___init__, r_TapeReader___init__]
  refine putC_of hM (by decide) ?_
  simp
  refine putC_of (fs := [(Str.ofString "tape", vI tp)]) (List.getElem?_set_self ho) (by simp) ?_
  rw [List.set_set]
  rw [show putD (Str.ofString "used") (.int (u : Int)) [(Str.ofString "tape", vI tp)] = trF tp u from by
    rw [pt_next (by decide +kernel)]
    rfl]
  exact h
end
end Z13
set_option Elab.async false
set_option linter.all false
set_option maxRecDepth 100000
set_option maxHeartbeats 4000000
set_option Elab.async false
set_option linter.all false
set_option maxRecDepth 100000
set_option maxHeartbeats 4000000
namespace Z13
open PySem PySem.Spec PyProof.Rows L2 GxR Gn Dl
theorem Fr.at {i j n : Nat} {M M' : Mem} {c : Cell} (h : Fr i j M M') (hi : n ≠ i) (hj : n ≠ j) (e : M[n]? = some c) : M'[n]? = some c := (h.2 n (List.getElem?_eq_some_iff.mp e).1 hi hj).trans e
end Z13
set_option Elab.async false
set_option linter.all false
set_option maxRecDepth 100000
set_option maxHeartbeats 4000000
set_option Elab.async false
set_option linter.all false
set_option maxRecDepth 100000
set_option maxHeartbeats 4000000
set_option Elab.async false
set_option linter.all false
set_option maxRecDepth 100000
set_option maxHeartbeats 4000000
set_option Elab.async false
set_option linter.all false
set_option maxRecDepth 100000
set_option maxHeartbeats 4000000
set_option Elab.async false
set_option linter.all false
set_option maxRecDepth 100000
set_option maxHeartbeats 4000000
namespace Z13
open PySem PySem.Spec PyProof.Rows L2 GxR Gn Dl
def TkB : TSd := (dSeq (dSet 2 (dOp addD (dVar 2) (dVar 4))) (dIfS (dTest (dOp gtD (dVar 2) (dVar 1))) (dRet (dVar 3)) (dNext)))
theorem tk_go {D0 : EndsD} {E : KE'} {a0 : Option D} {n : Int} : ∀ (rest : List Int) (k : Nat) (tot : Int) (y3 y4 : Option D) (M : Mem), 0 ≤ n - tot → n - tot < rest.sum → D0.rt (.int ((k + tkn rest (n - tot) : Nat) : Int)) M →
    forD (dGTup 2 (dGCons (dGN 3) (dGCons (dGN 4) (dGNil)))) TkB (fun _ => True) D0 E (pairsE k rest) [a0, some (.int n), some (.int tot), y3, y4] M
  | [], k, tot, y3, y4, M, h0, h1, h => by simp at h1; omega
  | w :: rest, k, tot, y3, y4, M, h0, h1, h => by
    rw [pairsE_cons]
    refine ⟨trivial, ?_⟩
    simp [TkB]
    simp at h1
    rw [tkn] at h
    by_cases hw : n < tot + w
    · refine .inr ⟨by simpa using hw, ?_⟩
      rw [if_pos (by omega)] at h
      simpa using h
    · refine .inl ⟨by simpa using hw, ?_⟩
      rw [if_neg (by omega)] at h
      refine tk_go rest (k + 1) (tot + w) _ _ M (by omega) (by omega) ?_
      have e : n - (tot + w) = n - tot - w := by omega
      rw [e]
      have e2 : k + 1 + tkn rest (n - tot - w) = k + (tkn rest (n - tot - w) + 1) := by omega
      rw [e2]
      exact h
theorem taken_eq : r__law_taken = dSeq (dSet 2 (dC (.int 0))) (dSeq (dFor (dEnumA (dCons (dVar 0) (dNil))) (dGTup 2 (dGCons (dGN 3) (dGCons (dGN 4) (dGNil)))) TkB) (dRet (dC .non))) := rfl
theorem p__law_taken {ws : List Int} {n : Int} {M : Mem} {Q : KD} {E : KE'} (h0 : 0 ≤ n) (h1 : n < ws.sum) (h : Q (.int (tkn ws n : Nat)) M) : sp__law_taken [vI ws, .int n] M Q E := by
  simp only [sp__law_taken]
  rw [taken_eq]
  simp
  refine .inl ⟨_, rfl, ?_⟩
  rw [enumI]
  refine tk_go ws 0 0 none none M (by omega) (by omega) ?_
  simpa using h
end Z13
set_option Elab.async false
set_option linter.all false
set_option maxRecDepth 100000
set_option maxHeartbeats 1000000
namespace Z13
open PySem PySem.Spec PyProof.Rows L2 GxR Gn Dl Wn
def okI : D → Bool
  | .int n => decide (0 ≤ n)
  | _ => false
theorem kb_int : kitB "int" "int" = some true ∧ kitB "int" "bool" = some false ∧ kitB "int" "tuple" = some false := by decide +kernel
theorem kb_bool : kitB "bool" "int" = some true ∧ kitB "bool" "bool" = some true ∧ kitB "bool" "tuple" = some false := by decide +kernel
theorem kb_oth : ∀ k ∈ ["NoneType", "str", "tuple", "list", "dict"], kitB k "int" = some false ∧ kitB k "tuple" = some (decide (k = "tuple")) := by decide +kernel
theorem kind_mem {d : D} {M : Mem} {k : String} (h : kindD d M = some k) : (∃ n, d = .int n) ∧ k = "int" ∨ (∃ b, d = .bl b) ∧ k = "bool" ∨ okI d = false ∧ k ∈ ["NoneType", "str", "tuple", "list", "dict"] := by
  cases d with
  | int n => cases h; exact .inl ⟨⟨n, rfl⟩, rfl⟩
  | bl b => cases h; exact .inr (.inl ⟨⟨b, rfl⟩, rfl⟩)
  | non => cases h; exact .inr (.inr ⟨rfl, by decide⟩)
  | str x => cases h; exact .inr (.inr ⟨rfl, by decide⟩)
  | tup ds => cases h; exact .inr (.inr ⟨rfl, by decide⟩)
  | obj i =>
    refine .inr (.inr ⟨rfl, ?_⟩)
    simp only [kindD] at h
    cases e : M[i]? with
    | none => rw [e] at h; simp at h
    | some c =>
      rw [e] at h
      cases c <;> simp at h <;> subst h <;> decide
  | _ => cases h
theorem p_iif {d : D} {M : Mem} {Q : KD} {E : KE'} {k : String} (hk : kindD d M = some k) (h : Q (.bl (okI d)) M) : sp_is_integer_from [d, .int 0] M Q E := by
  rcases kind_mem hk with ⟨⟨n, rfl⟩, rfl⟩ | ⟨⟨b, rfl⟩, rfl⟩ | ⟨ho, hm⟩
  · exact p_is_integer_from h
  · simp [sp_is_integer_from, r_is_integer_from, sp_is_integer, r_is_integer, kindD, kb_bool.1, kb_bool.2.1]
    exact h
  · simp [sp_is_integer_from, r_is_integer_from, sp_is_integer, r_is_integer]
    rw [ho] at h
    exact ⟨k, hk, .inl ⟨(kb_oth k hm).1, h⟩⟩
/-- data whose kinds are told in M -/
def Kn (M : Mem) (d : D) : Prop := ∃ k, kindD d M = some k
theorem Kn.app {M : Mem} {d : D} (h : Kn M d) (G : Mem) : Kn (M ++ G) d := by
  obtain ⟨k, h⟩ := h
  refine ⟨k, ?_⟩
  cases d with
  | obj i =>
    simp only [kindD] at h ⊢
    cases e : M[i]? with
    | none => rw [e] at h; simp at h
    | some c =>
      have hi := (List.getElem?_eq_some_iff.mp e).1
      rw [List.getElem?_append_left hi, e]
      rw [e] at h
      exact h
  | _ => exact h
def tapB : D → Bool
  | .tup ds => ds.all okI
  | _ => false
def intD0 : D → Int
  | .int n => n
  | _ => 0
def wtB : D → Bool
  | .tup ds => ds.all okI && decide (0 < (ds.map intD0).sum)
  | _ => false
/-- such data, and if they are tuples, their items -/
def KnT (M : Mem) (d : D) : Prop := Kn M d ∧ ∀ ds, d = .tup ds → ∀ x ∈ ds, Kn M x
theorem intsOf_ok : ∀ {ds : List D}, ds.all okI = true → intsOf ds = some (ds.map intD0)
  | [], _ => rfl
  | d :: ds, h => by
    rw [List.all_cons, Bool.and_eq_true] at h
    cases d with
    | int n => simp [intsOf, intsOf_ok h.2, intD0]
    | _ => simp [okI] at h
theorem kind_tup {d : D} {M : Mem} {k : String} (h : kindD d M = some k) (hn : ∀ ds, d ≠ .tup ds) : kitB k "tuple" = some false := by
  rcases kind_mem h with ⟨⟨n, rfl⟩, rfl⟩ | ⟨⟨b, rfl⟩, rfl⟩ | ⟨ho, hm⟩
  · exact kb_int.2.2
  · exact kb_bool.2.2
  · rw [(kb_oth k hm).2]
    have : k ≠ "tuple" := fun z => by
      subst z
      cases d with
      | tup ds => exact hn ds rfl
      | obj i =>
        simp only [kindD] at h
        cases e : M[i]? with
        | none => rw [e] at h; simp at h
        | some c =>
          rw [e] at h
          cases c <;> simp at h
      | _ => simp [kindD] at h
    simp [this]
theorem kb_tt : kitB "tuple" "tuple" = some true := by decide +kernel
theorem p_tape_any {d : D} {M : Mem} {Q : KD} {E : KE'} (hk : KnT M d) (h : ∀ G, Q (.bl (tapB d)) (M ++ G)) : sp_is_tape [d] M Q E := by
  obtain ⟨⟨k, hk1⟩, hi⟩ := hk
  by_cases ht : ∃ ds, d = .tup ds
  · obtain ⟨ds, rfl⟩ := ht
    simp [sp_is_tape, r_is_tape, kindD, kb_tt]
    have := allD_of (gd := dGN 1) (te := dCall 2 sp_is_integer_from (dCons (dVar 1) (dCons (dC (.int 0)) dNil))) (vs := [1]) (alive := fun _ => True) (Q := Q) (S := [some (.tup ds), none]) (fun d : D => d) okI ds M (fun _ => trivial) (fun a ha G Q' k => by
      simp
      obtain ⟨ka, hka⟩ := (hi ds rfl a ha).app G
      refine p_iif hka ?_
      simpa using k []) (by intro G; simpa [tapB] using h G) []
    simpa using this
  · have hn : ∀ ds, d ≠ .tup ds := fun ds z => ht ⟨ds, z⟩
    have hf : tapB d = false := by cases d <;> first | rfl | exact absurd rfl (hn _)
    simp [sp_is_tape, r_is_tape]
    rw [hf] at h
    exact ⟨k, hk1, .inl ⟨kind_tup hk1 hn, by simpa using h []⟩⟩
theorem p_weights_any {d : D} {M : Mem} {Q : KD} {E : KE'} (hk : KnT M d) (h : ∀ G, Q (.bl (wtB d)) (M ++ G)) : sp_are_weights [d] M Q E := by
  obtain ⟨⟨k, hk1⟩, hi⟩ := hk
  by_cases ht : ∃ ds, d = .tup ds
  · obtain ⟨ds, rfl⟩ := ht
    simp [sp_are_weights, r_are_weights, kindD, kb_tt]
    have := allD_of (gd := dGN 1) (te := dCall 2 sp_is_integer_from (dCons (dVar 1) (dCons (dC (.int 0)) dNil))) (vs := [1]) (alive := fun _ => True)
      (Q := fun y M2 => ∃ b, y = .bl b ∧ if b = true then sumHD [.tup ds] M2 (fun z M3 => gtD z (.int 0) M3 Q) else Q (.bl false) M2) (S := [some (.tup ds), none]) (fun d : D => d) okI ds M (fun _ => trivial) (fun a ha G Q' k => by
      simp
      obtain ⟨ka, hka⟩ := (hi ds rfl a ha).app G
      refine p_iif hka ?_
      simpa using k []) (by
        intro G
        refine ⟨_, rfl, ?_⟩
        have hG := h G
        by_cases ha : ds.all okI = true
        · rw [if_pos ha]
          refine sumHD_tup.mpr ⟨_, intsOf_ok ha, ?_⟩
          simp [wtB, ha] at hG
          simpa using hG
        · rw [if_neg ha]
          simp only [Bool.not_eq_true] at ha
          simpa [wtB, ha] using hG) []
    simpa using this
  · have hn : ∀ ds, d ≠ .tup ds := fun ds z => ht ⟨ds, z⟩
    have hf : wtB d = false := by cases d <;> first | rfl | exact absurd rfl (hn _)
    simp [sp_are_weights, r_are_weights]
    rw [hf] at h
    exact ⟨k, hk1, .inl ⟨kind_tup hk1 hn, by simpa using h []⟩⟩
end Z13
set_option Elab.async false
set_option linter.all false
set_option maxRecDepth 100000
set_option maxHeartbeats 1000000
namespace Z13
open PySem PySem.Spec PyProof.Rows L2 GxR Gn Dl Wn
section
variable {C : Nat → Addr}
theorem map_intD0 : ∀ {ds : List D}, ds.all okI = true → ds = (ds.map intD0).map D.int ∧ ∀ x ∈ ds.map intD0, 0 ≤ x
  | [], _ => ⟨rfl, fun x hx => by cases hx⟩
  | d :: ds, h => by
    rw [List.all_cons, Bool.and_eq_true] at h
    obtain ⟨e, hx⟩ := map_intD0 h.2
    cases d with
    | int n =>
      refine ⟨?_, fun x hm => ?_⟩
      · rw [List.map_cons, List.map_cons, ← e]; rfl
      · rw [List.map_cons] at hm
        rcases List.mem_cons.mp hm with rfl | hm
        · simpa [okI, intD0] using h.1
        · exact hx x hm
    | _ => simp [okI] at h
theorem tap_vI {d : D} (h : tapB d = true) : ∃ tp, d = vI tp ∧ ∀ x ∈ tp, 0 ≤ x := by
  cases d with
  | tup ds =>
    obtain ⟨e, hx⟩ := map_intD0 (ds := ds) h
    exact ⟨_, by rw [vI, ← e], hx⟩
  | _ => cases h
theorem wt_vI {d : D} (h : wtB d = true) : ∃ ws, d = vI ws ∧ (∀ x ∈ ws, 0 ≤ x) ∧ 0 < ws.sum := by
  cases d with
  | tup ds =>
    simp only [wtB, Bool.and_eq_true, decide_eq_true_eq] at h
    obtain ⟨e, hx⟩ := map_intD0 h.1
    exact ⟨_, by rw [vI, ← e], hx, h.2⟩
  | _ => cases h
theorem okI_nat {d : D} (h : okI d = true) : ∃ u : Nat, d = .int u := by
  cases d with
  | int n =>
    have h0 : 0 ≤ n := by simpa [okI] using h
    obtain ⟨u, rfl⟩ := Int.eq_ofNat_of_zero_le h0
    exact ⟨u, rfl⟩
  | _ => cases h
theorem p_need_tape_any {b : D} {M : Mem} {Q : KD} {E : KE'} (hk : KnT M b) (h4 : tapB b = false → ∀ G, E (C 4) b (M ++ G)) (h : tapB b = true → ∀ G, Q .non (M ++ G)) : sp_need_tape C [b] M Q E := by
  simp [sp_need_tape, r_need_tape]
  refine p_tape_any hk fun G => ?_
  cases e : tapB b with
  | false => exact .inl ⟨rfl, h4 e G⟩
  | true => exact .inr ⟨rfl, h e G⟩
theorem p_need_number_any {c : D} {M : Mem} {Q : KD} {E : KE'} (hk : Kn M c) (h3 : okI c = false → E (C 3) c M) (h : okI c = true → Q .non M) : sp_need_number C [c, .int 0] M Q E := by
  obtain ⟨k, hk⟩ := hk
  simp [sp_need_number, r_need_number]
  refine p_iif hk ?_
  cases e : okI c with
  | false => exact .inl ⟨rfl, h3 e⟩
  | true => exact .inr ⟨rfl, h e⟩
theorem KnT.app {M : Mem} {d : D} (h : KnT M d) (G : Mem) : KnT (M ++ G) d := ⟨h.1.app G, fun ds e x hx => (h.2 ds e x hx).app G⟩
theorem set_end {M : Mem} {c d : Cell} : (M ++ [c]).set M.length d = M ++ [d] := by
  rw [List.set_append_right _ _ (Nat.le_refl _), Nat.sub_self]
  rfl
theorem p_draw_any {a b c : D} {M : Mem} {Q : KD} {E : KE'} (ha : KnT M a) (hb : KnT M b) (hc : Kn M c)
    (h5 : wtB a = false → ∀ G, E (C 5) a (M ++ G)) (h4 : wtB a = true → tapB b = false → ∀ G, E (C 4) b (M ++ G)) (h3 : wtB a = true → tapB b = true → okI c = false → ∀ G, E (C 3) c (M ++ G))
    (hq : ∀ (ws tp : List Int) (u : Nat), a = vI ws → b = vI tp → c = .int u → wtB a = true → tapB b = true → okI c = true → 0 < ws.sum → ∀ G, Q (.tup [.int (tkn ws (numAt tp u % ws.sum) : Nat), .int ((u : Int) + 1)]) (M ++ G)) : sp_draw C [a, b, c] M Q E := by
  simp [sp_draw, r_draw]
  refine p_weights_any ha fun G1 => ?_
  cases ea : wtB a with
  | false => exact .inl ⟨rfl, h5 ea G1⟩
  | true =>
    refine .inr ⟨rfl, ?_⟩
    refine p_need_tape_any (hb.app G1) (fun eb G2 => ?_) fun eb G2 => ?_
    · rw [List.append_assoc]; exact h4 ea eb _
    refine p_need_number_any ((hc.app G1).app G2) (fun ec => ?_) fun ec => ?_
    · rw [List.append_assoc]; exact h3 ea eb ec _
    obtain ⟨ws, rfl, hw, hp⟩ := wt_vI ea
    obtain ⟨tp, rfl, ht⟩ := tap_vI eb
    obtain ⟨u, rfl⟩ := okI_nat ec
    have e1 : M ++ G1 ++ G2 = M ++ (G1 ++ G2) := List.append_assoc _ _ _
    rw [e1]
    generalize G1 ++ G2 = G
    refine p_reader (o := (M ++ G).length) (tp := tp) (u := u) (by simp) ?_
    rw [set_end]
    have hM : (M ++ G ++ [Cell.ins (C 15) (trF tp u)])[(M ++ G).length]? = some (.ins (C 15) (trF tp u)) := by simp
    refine ⟨rfl, methC_of hM (ne_tr (by decide +kernel) (by decide +kernel)) ?_⟩
    refine p_token_by hM hp ?_
    rw [set_end]
    have hM2 : (M ++ G ++ [Cell.ins (C 15) (trF tp (u + 1))])[(M ++ G).length]? = some (.ins (C 15) (trF tp (u + 1))) := by simp
    refine fldC_of hM2 lk_used ⟨by rw [sizeLine_eq]; omega, ?_⟩
    rw [List.append_assoc]
    have := hq ws tp u rfl rfl rfl ea eb ec hp (G ++ [Cell.ins (C 15) (trF tp (u + 1))])
    exact this
def Shw (M : Mem) (d : D) (t : Str) : Prop := (∃ n p, pyM M n d = some p ∧ PyData.showable p = true ∧ p.hasDict = false ∧ p.depth ≤ 60 ∧ p.shown.length ≤ sizeLine ∧ t = p.shown) ∨ (∃ i, d = .obj i ∧ M[i]? = some (.dK []) ∧ t = (PyData.dict []).shown)
theorem reprX_of {d : D} {t : Str} {M : Mem} {Q : KD} (h : Shw M d t) (q : Q (.str t) M) : reprXD [d] M Q := by
  rcases h with ⟨n, p, e, h1, h2, h3, h4, rfl⟩ | ⟨i, rfl, e, rfl⟩
  · exact .inl ⟨n, p, e, h1, h2, h3, h4, q⟩
  · exact .inr ⟨i, rfl, e, q⟩
theorem three {j : Nat} (h : j ∈ ([3, 4, 5] : List Nat)) : j = 3 ∨ j = 4 ∨ j = 5 := by simpa using h
theorem inTt_true {a b c : Bool} {M : Mem} {Q : KD} (h : Q (.bl (a || (b || c))) M) : inTtD (.bl true) (.tup [.bl a, .bl b, .bl c]) M Q := by
  refine ⟨0, .bool true, _, [.bool a, .bool b, .bool c], rfl, by rw [pyM], by simp [pyMs, pyM], by decide, by cases a <;> cases b <;> cases c <;> decide, ?_⟩
  cases a <;> cases b <;> cases c <;> simpa [PyData.eqv] using h
theorem p_tried {TL : LamD} {M : Mem} {Q : KD} (h : ∀ E' : KE', (∀ j d M' t, j ∈ ([3, 4, 5] : List Nat) → Shw M' d t → Q (.tup [.str "raised", .tup [.bl (decide (j = 5)), .bl (decide (j = 4)), .bl (decide (j = 3))], .str t]) M' → E' (C j) d M') → TL M (fun d M' => [D.str "returned", d].length ≤ sizeLine ∧ Q (.tup [.str "returned", d]) M') E') :
    spLam ["call", "e", "kinds"] (r__law_tried C) TL M Q := by
  intro l
  simp only [r__law_tried, dTryAs, startD, dRet, dTup, dCons, dC, dAct, dNil]
  refine ⟨rfl, ?_⟩
  refine h _ fun j d M' t hj hs hq => ⟨j, hj, rfl, fun a dx => ?_⟩
  have z3 : 3 ≤ sizeLine := by rw [sizeLine_eq]; omega
  have e5 : subX j 5 = decide (j = 5) := by rcases three hj with rfl | rfl | rfl <;> decide
  have e4 : subX j 4 = decide (j = 4) := by rcases three hj with rfl | rfl | rfl <;> decide
  have e3 : subX j 3 = decide (j = 3) := by rcases three hj with rfl | rfl | rfl <;> decide
  have ea : (decide (j = 5) || (decide (j = 4) || decide (j = 3))) = true := by rcases three hj with rfl | rfl | rfl <;> decide
  rw [e5, e4, e3]
  generalize decide (j = 5) = b5 at hq ea ⊢
  generalize decide (j = 4) = b4 at hq ea ⊢
  generalize decide (j = 3) = b3 at hq ea ⊢
  simp [z3]
  refine inTt_true ?_
  rw [ea]
  refine .inr ⟨rfl, ?_⟩
  refine reprX_of hs ?_
  simpa using hq
end
end Z13
set_option Elab.async false
set_option linter.all false
set_option maxRecDepth 100000
set_option maxHeartbeats 1000000
namespace Z13
open PySem PySem.Spec PyProof.Rows L2 GxR Gn Dl Wn
theorem num_dig {n : Int} (h : 0 ≤ n) : ∀ c ∈ (PyData.int n).shown.cps.toList, 48 ≤ c ∧ c ≤ 57 := by
  obtain ⟨m, rfl⟩ := Int.eq_ofNat_of_zero_le h
  intro c hc
  rw [PyData.shown_int] at hc
  rw [PySem.W.KIN.signs_num] at hc
  obtain ⟨ch, hch, e⟩ := List.mem_map.mp hc
  have r := digit_range (Nat.isDigit_of_mem_toDigits (by decide) (by decide) hch)
  rw [← e]
  exact r
theorem val_zero : ∀ (l : List Nat), (∀ c ∈ l, c = 48) → ∀ a, l.foldl (fun v c => v * 10 + (c - 48)) a = a * 10 ^ l.length
  | [], _, a => by simp
  | c :: l, h, a => by
    rw [List.foldl_cons, val_zero l (fun x hx => h x (List.mem_cons_of_mem _ hx)), h c List.mem_cons_self]
    simp [Nat.pow_succ]
    rw [Nat.mul_assoc, Nat.mul_comm 10]
theorem num_pos {n : Int} (h : 0 < n) : ∃ c ∈ (PyData.int n).shown.cps.toList, 49 ≤ c ∧ c ≤ 57 := by
  have hd := num_dig (n := n) (by omega)
  obtain ⟨m, rfl⟩ := Int.eq_ofNat_of_zero_le (Int.le_of_lt h)
  rw [PyData.shown_int] at hd ⊢
  rw [PySem.W.KIN.signs_num] at hd ⊢
  by_cases hx : ∃ c ∈ (Nat.toDigits 10 m).map Char.toNat, 49 ≤ c
  · obtain ⟨c, h1, h2⟩ := hx
    exact ⟨c, h1, h2, (hd c h1).2⟩
  · exfalso
    have all : ∀ c ∈ (Nat.toDigits 10 m).map Char.toNat, c = 48 := fun c hc => by
      have h1 := hd c hc
      have h2 : ¬ 49 ≤ c := fun z => hx ⟨c, hc, z⟩
      omega
    have e := PySem.W.KIN.val_back m
    unfold PySem.NumText.digitsVal at e
    rw [val_zero _ all] at e
    omega
theorem shownAll_ints : ∀ ws : List Int, PyData.shownAll (ws.map .int) = ws.map fun w => (PyData.int w).shown
  | [] => by simp [PyData.shownAll]
  | w :: ws => by rw [List.map_cons, PyData.shownAll, shownAll_ints ws, List.map_cons]
theorem sep_signs : (", " : Str).cps.toList = [44, 32] := by decide
/-- a tuple of numbers: its signs -/
theorem tup_signs {ws : List Int} (h : ∀ w ∈ ws, 0 ≤ w) : ∃ R, (pI ws).shown.cps.toList = 40 :: R ∧ (∀ c ∈ R, c = 41 ∨ c = 44 ∨ c = 32 ∨ 48 ≤ c ∧ c ≤ 57) ∧ ((∃ w ∈ ws, 0 < w) → ∃ c ∈ R, 49 ≤ c ∧ c ≤ 57) := by
  obtain ⟨tl, ht⟩ : ∃ tl : Str, (if (ws.map fun w => (PyData.int w).shown).length == 1 then ",)" else ")" : String) = tl ∧ ∀ c ∈ tl.cps.toList, c = 41 ∨ c = 44 := by
    refine ⟨_, rfl, ?_⟩
    split
    · have : ((",)" : String) : Str).cps.toList = [44, 41] := by decide
      rw [this]; simp
    · have : (((")" : String) : Str)).cps.toList = [41] := by decide
      rw [this]; simp
  refine ⟨(Str.join ", " (ws.map fun w => (PyData.int w).shown)).cps.toList ++ tl.cps.toList, ?_, fun c hc => ?_, fun ⟨w, hw, hp⟩ => ?_⟩
  · unfold pI
    rw [PyData.shown, shownAll_ints]
    unfold tupleText
    rw [cps_toList_append, cps_toList_append, ht.1]
    have : ("(" : Str).cps.toList = [40] := by decide
    rw [this]
    simp
  · rcases List.mem_append.mp hc with hc | hc
    · rcases (mem_join _ _ _).mp hc with ⟨t, ht1, hc⟩ | ⟨_, hc⟩
      · obtain ⟨w, hw, rfl⟩ := List.mem_map.mp ht1
        exact .inr (.inr (.inr (num_dig (h w hw) c hc)))
      · rw [sep_signs] at hc
        simp at hc
        omega
    · have := ht.2 c hc
      omega
  · obtain ⟨c, hc, h1⟩ := num_pos hp
    exact ⟨c, List.mem_append_left _ ((mem_join _ _ _).mpr (.inl ⟨_, List.mem_map.mpr ⟨w, hw, rfl⟩, hc⟩)), h1⟩
theorem pos_of_sum : ∀ {ws : List Int}, (∀ w ∈ ws, 0 ≤ w) → 0 < ws.sum → ∃ w ∈ ws, 0 < w
  | [], _, h => by simp at h
  | w :: ws, h0, h => by
    by_cases hw : 0 < w
    · exact ⟨w, List.mem_cons_self, hw⟩
    · have := h0 w List.mem_cons_self
      rw [List.sum_cons] at h
      obtain ⟨x, hx, hp⟩ := pos_of_sum (fun y hy => h0 y (List.mem_cons_of_mem _ hy)) (by omega : 0 < ws.sum)
      exact ⟨x, List.mem_cons_of_mem _ hx, hp⟩
/-- a text whose signs are these is not a number's from 0 on -/
theorem not_num {n : Int} (h : 0 ≤ n) {t : Str} (c : Nat) (hc : c ∈ t.cps.toList) (hb : c < 48 ∨ 57 < c) : t ≠ (PyData.int n).shown := fun e => by
  subst e
  have := num_dig h c hc
  omega
theorem not_tup {ws : List Int} (h : ∀ w ∈ ws, 0 ≤ w) {t : Str} {l : List Nat} (e : t.cps.toList = l)
    (hb : l.head? ≠ some 40 ∨ (∃ c ∈ l.tail, c ≠ 41 ∧ c ≠ 44 ∧ c ≠ 32 ∧ (c < 48 ∨ 57 < c))) : t ≠ (pI ws).shown := fun z => by
  obtain ⟨R, h1, h2, _⟩ := tup_signs h
  rw [← z, e] at h1
  rcases hb with hb | ⟨c, hc, n1, n2, n3, n4⟩
  · rw [h1] at hb; exact hb rfl
  · rw [h1] at hc
    have := h2 c hc
    omega
theorem not_pos {ws : List Int} (h : ∀ w ∈ ws, 0 ≤ w) (hp : 0 < ws.sum) {t : Str} {l : List Nat} (e : t.cps.toList = l) (hb : ∀ c ∈ l, c < 49 ∨ 57 < c) : t ≠ (pI ws).shown := fun z => by
  obtain ⟨R, h1, _, h3⟩ := tup_signs h
  obtain ⟨c, hc, c1, c2⟩ := h3 (pos_of_sum h hp)
  have := hb c (by rw [← e, z, h1]; exact List.mem_cons_of_mem _ hc)
  omega
end Z13
set_option Elab.async false
set_option linter.all false
set_option maxRecDepth 100000
set_option maxHeartbeats 1000000
namespace Z13
open PySem PySem.Spec PyProof.Rows L2 GxR Gn Dl Wn
theorem sz_big {i : Int} (h : i.natAbs < 2 ^ 700) : Sz 213 0 (.int i) := by
  refine ⟨?_, rfl, by rw [PyData.depth]; decide, ?_⟩
  · rw [PyData.showable]
    refine decide_eq_true ?_
    show (Int.natAbs i).log2 < 1920
    by_cases h0 : i.natAbs = 0
    · rw [h0]; decide
    · exact (Nat.log2_lt h0).mpr (Nat.lt_of_lt_of_le h (Nat.pow_le_pow_right (by decide) (by decide)))
  · rw [PyData.shown]
    have h10 : i.natAbs < 10 ^ 211 := Nat.lt_trans h (by decide +kernel)
    have := int_text_length_le10 (a := i) (k := 211) (by decide) h10
    show (Str.ofString (toString i)).length ≤ 213
    rw [PySem.ofString_length]
    omega
theorem Sz.list {k d m : Nat} {ps : List PyData} (h : ∀ p ∈ ps, Sz k d p) (hm : ps.length ≤ m) : Sz (m * (k + 2) + 3) (d + 1) (.list ps) := by
  obtain ⟨a, b, c, e, f⟩ := sz_all ps h
  refine ⟨by rw [PyData.showable]; exact a, by rw [PyData.hasDict]; exact b, by rw [PyData.depth]; omega, ?_⟩
  rw [PyData.shown, listText_eq_join, str_app_len, str_app_len]
  have h1 := join_le _ f
  rw [e] at h1
  have h3 : ((("[" : Str))).length = 1 := rfl
  have h5 : ((("]" : Str))).length = 1 := rfl
  have h4 : ps.length * (k + 2) ≤ m * (k + 2) := Nat.mul_le_mul_right _ hm
  omega
structure TxtOk (t : Str) : Prop where
  len : t.length ≤ 3000
  ok : ∀ c ∈ t.cps.toList, c < 16 ^ 8
/-- a datum among the odd ones, and its text -/
inductive OddV (i j : Nat) (M : Mem) : D → Str → Prop
  | pure {d : D} {p : PyData} (hp : Pu d p) (hz : Sz 3000 3 p) (ht : TxtOk p.shown) (hk : ∀ M, KnT M d) : OddV i j M d p.shown
  | lst {n : Nat} {ns : List Int} (hi : n ≠ i) (hj : n ≠ j) (e : M[n]? = some (.lst (ns.map D.int))) (hz : Sz 3000 3 (.list (ns.map .int))) (ht : TxtOk (PyData.list (ns.map .int)).shown) : OddV i j M (.obj n) (PyData.list (ns.map .int)).shown
  | dct {n : Nat} (hi : n ≠ i) (hj : n ≠ j) (e : M[n]? = some (.dK [])) : OddV i j M (.obj n) (PyData.dict []).shown
theorem OddV.fr {i j : Nat} {M M' : Mem} {d : D} {t : Str} (F : Fr i j M M') (h : OddV i j M d t) : OddV i j M' d t := by
  cases h with
  | pure hp hz ht hk => exact .pure hp hz ht hk
  | lst hi hj e hz ht => exact .lst hi hj (F.at hi hj e) hz ht
  | dct hi hj e => exact .dct hi hj (F.at hi hj e)
theorem OddV.txt {i j : Nat} {M : Mem} {d : D} {t : Str} (h : OddV i j M d t) : TxtOk t := by
  cases h with
  | pure hp hz ht hk => exact ht
  | lst hi hj e hz ht => exact ht
  | dct hi hj e => exact ⟨by simp only [PyData.shown]; decide, by simp only [PyData.shown]; decide⟩
theorem OddV.shw {i j : Nat} {M : Mem} {d : D} {t : Str} (h : OddV i j M d t) : Shw M d t := by
  cases h with
  | pure hp hz ht hk => exact .inl ⟨0, _, hp M 0, hz.sh, hz.nd, Nat.le_trans hz.dp (by decide), by have := hz.ln; rw [sizeLine_eq]; omega, rfl⟩
  | @lst n ns hi hj e hz ht => exact .inl ⟨1, _, by rw [pyM, e]; simp [Pus.map (fun a _ => Pu.int a) M 0], hz.sh, hz.nd, Nat.le_trans hz.dp (by decide), by have := hz.ln; rw [sizeLine_eq]; omega, rfl⟩
  | dct hi hj e => exact .inr ⟨_, rfl, e, rfl⟩
theorem OddV.kn {i j : Nat} {M : Mem} {d : D} {t : Str} (h : OddV i j M d t) : KnT M d := by
  cases h with
  | pure hp hz ht hk => exact hk M
  | lst hi hj e hz ht => exact ⟨⟨"list", by simp [kindD, e]⟩, fun ds z => by cases z⟩
  | dct hi hj e => exact ⟨⟨"dict", by simp [kindD, e]⟩, fun ds z => by cases z⟩
def chk (p : PyData) : Bool := PyData.showable p && !p.hasDict && decide (p.depth ≤ 3) && decide (p.shown.length ≤ 3000) && p.shown.cps.toList.all (fun c => decide (c < 16 ^ 8))
theorem mkPure {i j : Nat} {M : Mem} {d : D} {p : PyData} (hp : Pu d p) (hc : chk p = true) (hk : ∀ M, KnT M d) : OddV i j M d p.shown := by
  unfold chk at hc
  simp only [Bool.and_eq_true, Bool.not_eq_true', decide_eq_true_eq, List.all_eq_true] at hc
  obtain ⟨⟨⟨⟨h1, h2⟩, h3⟩, h4⟩, h5⟩ := hc
  exact .pure hp ⟨h1, h2, h3, h4⟩ ⟨h4, h5⟩ hk
theorem knI (ns : List Int) (M : Mem) : KnT M (vI ns) := ⟨⟨"tuple", rfl⟩, fun ds e x hx => by
  unfold vI at e
  cases e
  obtain ⟨n, _, rfl⟩ := List.mem_map.mp hx
  exact ⟨"int", rfl⟩⟩
theorem pI_ok {ws : List Int} (h0 : ∀ w ∈ ws, 0 ≤ w) (hb : ∀ w ∈ ws, w.natAbs < 2 ^ 700) (hl : ws.length ≤ 9) : Sz 3000 3 (pI ws) ∧ TxtOk (pI ws).shown := by
  have z : Sz (9 * (213 + 2) + 3) (0 + 1) (pI ws) := Sz.tup (k := 213) (d := 0) (fun p hp => by
    obtain ⟨n, hn, rfl⟩ := List.mem_map.mp hp
    exact sz_big (hb n hn)) (by rw [List.length_map]; exact hl)
  refine ⟨z.mono (by decide) (by decide), Nat.le_trans z.ln (by decide), fun c hc => ?_⟩
  obtain ⟨R, h1, h2, _⟩ := tup_signs h0
  rw [h1] at hc
  rcases List.mem_cons.mp hc with rfl | hc
  · decide
  · have := h2 c hc
    have : (16 : Nat) ^ 8 = 4294967296 := by decide
    omega
theorem odd_vI {i j : Nat} {M : Mem} {ws : List Int} (h0 : ∀ w ∈ ws, 0 ≤ w) (hb : ∀ w ∈ ws, w.natAbs < 2 ^ 700) (hl : ws.length ≤ 9) : OddV i j M (vI ws) (pI ws).shown :=
  .pure (Pu.vI ws) (pI_ok h0 hb hl).1 (pI_ok h0 hb hl).2 (knI ws)
theorem odd_int {i j : Nat} {M : Mem} {n : Int} (h : n.natAbs < 2 ^ 700) : OddV i j M (.int n) (PyData.int n).shown := by
  have z := sz_big h
  refine .pure (Pu.int n) (z.mono (by decide) (by decide)) ⟨Nat.le_trans z.ln (by decide), fun c hc => ?_⟩ fun M => ⟨⟨"int", rfl⟩, fun ds e => by cases e⟩
  have e16 : (16 : Nat) ^ 8 = 4294967296 := by decide
  by_cases hx : c ≠ 45 ∧ (c < 48 ∨ 57 < c)
  · exact absurd hc (shown_int_free' hx n)
  · omega
/-- the list of these numbers -/
theorem lst_ok {ws : List Int} (h0 : ∀ w ∈ ws, 0 ≤ w) (hb : ∀ w ∈ ws, w.natAbs < 2 ^ 700) (hl : ws.length ≤ 9) : Sz 3000 3 (.list (ws.map .int)) ∧ TxtOk (PyData.list (ws.map .int)).shown ∧ (PyData.list (ws.map .int)).shown.cps.toList.head? = some 91 := by
  have z : Sz (9 * (213 + 2) + 3) (0 + 1) (.list (ws.map .int)) := Sz.list (k := 213) (d := 0) (fun p hp => by
    obtain ⟨n, hn, rfl⟩ := List.mem_map.mp hp
    exact sz_big (hb n hn)) (by rw [List.length_map]; exact hl)
  have e : (PyData.list (ws.map .int)).shown.cps.toList = 91 :: ((Str.join ", " (ws.map fun w => (PyData.int w).shown)).cps.toList ++ [93]) := by
    rw [PyData.shown, shownAll_ints, listText_eq_join, cps_toList_append, cps_toList_append]
    have h1 : ("[" : Str).cps.toList = [91] := by decide
    have h2 : ("]" : Str).cps.toList = [93] := by decide
    rw [h1, h2]
    simp
  refine ⟨z.mono (by decide) (by decide), ⟨Nat.le_trans z.ln (by decide), fun c hc => ?_⟩, by rw [e]; rfl⟩
  have e16 : (16 : Nat) ^ 8 = 4294967296 := by decide
  rw [e] at hc
  rcases List.mem_cons.mp hc with rfl | hc
  · omega
  · rcases List.mem_append.mp hc with hc | hc
    · rcases (mem_join _ _ _).mp hc with ⟨t, ht1, hc⟩ | ⟨_, hc⟩
      · obtain ⟨w, hw, rfl⟩ := List.mem_map.mp ht1
        have := num_dig (h0 w hw) c hc
        omega
      · rw [sep_signs] at hc
        simp at hc
        omega
    · simp at hc
      omega
end Z13
set_option Elab.async false
set_option linter.all false
set_option maxRecDepth 100000
set_option maxHeartbeats 1000000
namespace Z13
open PySem PySem.Spec PyProof.Rows L2 GxR Gn Dl Wn
structure WsOk (ws : List Int) : Prop where
  nn : ∀ w ∈ ws, 0 ≤ w
  pos : 0 < ws.sum
  bd : ∀ w ∈ ws, w.natAbs < 2 ^ 700
  len : ws.length ≤ 9
structure TpOk (ws : List Int) : Prop where
  nn : ∀ w ∈ ws, 0 ≤ w
  bd : ∀ w ∈ ws, w.natAbs < 2 ^ 700
  len : ws.length ≤ 9
def GoodA (i j : Nat) (M : Mem) (ws : List Int) (d : D) : Prop := ∃ t, OddV i j M d t ∧ (wtB d = true → d = vI ws) ∧ decide (t = (pI ws).shown) = wtB d
def GoodB (i j : Nat) (M : Mem) (tp : List Int) (d : D) : Prop := ∃ t, OddV i j M d t ∧ (tapB d = true → d = vI tp) ∧ decide (t = (pI tp).shown) = tapB d
def GoodC (i j : Nat) (M : Mem) (u : Nat) (d : D) : Prop := ∃ t, OddV i j M d t ∧ (okI d = true → d = .int u) ∧ decide (t = (PyData.int u).shown) = okI d
section
variable {i j : Nat} {M M' : Mem} {ws tp : List Int} {u : Nat} {d : D}
theorem GoodA.fr (F : Fr i j M M') (h : GoodA i j M ws d) : GoodA i j M' ws d := let ⟨t, a, b⟩ := h; ⟨t, a.fr F, b⟩
theorem GoodB.fr (F : Fr i j M M') (h : GoodB i j M tp d) : GoodB i j M' tp d := let ⟨t, a, b⟩ := h; ⟨t, a.fr F, b⟩
theorem GoodC.fr (F : Fr i j M M') (h : GoodC i j M u d) : GoodC i j M' u d := let ⟨t, a, b⟩ := h; ⟨t, a.fr F, b⟩
theorem wtB_vI (h : ∀ w ∈ ws, 0 ≤ w) : wtB (vI ws) = decide (0 < ws.sum) := by
  have h1 : (ws.map D.int).all okI = true := by
    rw [List.all_eq_true]
    intro d hd
    obtain ⟨n, hn, rfl⟩ := List.mem_map.mp hd
    simpa [okI] using h n hn
  have h2 : (ws.map D.int).map intD0 = ws := by
    rw [List.map_map]
    exact (List.map_congr_left fun a _ => rfl).trans (List.map_id' ws)
  simp [wtB, vI, h1, h2]
theorem tapB_vI (h : ∀ w ∈ tp, 0 ≤ w) : tapB (vI tp) = true := by
  show (tp.map D.int).all okI = true
  rw [List.all_eq_true]
  intro d hd
  obtain ⟨n, hn, rfl⟩ := List.mem_map.mp hd
  simpa [okI] using h n hn
theorem goodA_self (W : WsOk ws) : GoodA i j M ws (vI ws) := ⟨_, odd_vI W.nn W.bd W.len, fun _ => rfl, by rw [wtB_vI W.nn]; simp [W.pos]⟩
theorem goodB_self (W : TpOk tp) : GoodB i j M tp (vI tp) := ⟨_, odd_vI W.nn W.bd W.len, fun _ => rfl, by rw [tapB_vI W.nn]; simp⟩
theorem goodC_self (h : u < 2 ^ 700) : GoodC i j M u (.int u) := ⟨_, odd_int (by simpa using h), fun _ => rfl, by simp [okI]⟩
theorem goodA_no {t : Str} (h : OddV i j M d t) (hf : wtB d = false) (hn : t ≠ (pI ws).shown) : GoodA i j M ws d := ⟨t, h, fun z => absurd (hf.symm.trans z) (by decide), by rw [hf]; simpa using hn⟩
theorem goodB_no {t : Str} (h : OddV i j M d t) (hf : tapB d = false) (hn : t ≠ (pI tp).shown) : GoodB i j M tp d := ⟨t, h, fun z => absurd (hf.symm.trans z) (by decide), by rw [hf]; simpa using hn⟩
theorem goodC_no {t : Str} (h : OddV i j M d t) (hf : okI d = false) (hn : t ≠ (PyData.int u).shown) : GoodC i j M u d := ⟨t, h, fun z => absurd (hf.symm.trans z) (by decide), by rw [hf]; simpa using hn⟩
def oddsA (nl nd : Nat) : List D := [.tup [], .tup [.int 0], .tup [.int 0, .int 0], .tup [.int 3, .int (-1)], .tup [.int 1, .int (-1)], .tup [.int 1, .bl true], .obj nl, .non, .int 5, .tup [.int 1, .str "1"], .obj nd, .tup [.tup [.int 1]]]
theorem kt {ds : List D} (h : ∀ x ∈ ds, ∀ M, Kn M x) : ∀ M, KnT M (.tup ds) := fun M => ⟨⟨"tuple", rfl⟩, fun ds' e x hx => by cases e; exact h x hx M⟩
theorem k1 : ∀ M, KnT M .non := fun M => ⟨⟨_, rfl⟩, fun ds e => by cases e⟩
theorem k2 {n : Int} : ∀ M, KnT M (.int n) := fun M => ⟨⟨_, rfl⟩, fun ds e => by cases e⟩
theorem k3 {b : Bool} : ∀ M, KnT M (.bl b) := fun M => ⟨⟨_, rfl⟩, fun ds e => by cases e⟩
theorem k4 {b : Str} : ∀ M, KnT M (.str b) := fun M => ⟨⟨_, rfl⟩, fun ds e => by cases e⟩
theorem goodA_odds {nl nd : Nat} (W : WsOk ws) (hl1 : nl ≠ i) (hl2 : nl ≠ j) (hl : M[nl]? = some (.lst (ws.map D.int))) (hd1 : nd ≠ i) (hd2 : nd ≠ j) (hd : M[nd]? = some (.dK [])) : ∀ d ∈ oddsA nl nd, GoodA i j M ws d := by
  intro d h
  simp only [oddsA, List.mem_cons, List.not_mem_nil, or_false] at h
  rcases h with rfl | rfl | rfl | rfl | rfl | rfl | rfl | rfl | rfl | rfl | rfl | rfl
  · exact goodA_no (mkPure (Pu.tup .nil) (by decide +kernel) (kt (by simp))) rfl (not_pos W.nn W.pos rfl (by decide +kernel))
  · exact goodA_no (mkPure (Pu.tup (.cons (Pu.int 0) .nil)) (by decide +kernel) (kt (by simp; exact fun M => ⟨_, rfl⟩))) rfl (not_pos W.nn W.pos rfl (by decide +kernel))
  · exact goodA_no (mkPure (Pu.tup (.cons (Pu.int 0) (.cons (Pu.int 0) .nil))) (by decide +kernel) (kt (by simp; exact fun M => ⟨_, rfl⟩))) rfl (not_pos W.nn W.pos rfl (by decide +kernel))
  · exact goodA_no (mkPure (Pu.tup (.cons (Pu.int 3) (.cons (Pu.int (-1)) .nil))) (by decide +kernel) (kt (by simp; exact ⟨fun M => ⟨_, rfl⟩, fun M => ⟨_, rfl⟩⟩))) rfl (not_tup W.nn rfl (by decide +kernel))
  · exact goodA_no (mkPure (Pu.tup (.cons (Pu.int 1) (.cons (Pu.int (-1)) .nil))) (by decide +kernel) (kt (by simp; exact ⟨fun M => ⟨_, rfl⟩, fun M => ⟨_, rfl⟩⟩))) rfl (not_tup W.nn rfl (by decide +kernel))
  · exact goodA_no (mkPure (Pu.tup (.cons (Pu.int 1) (.cons (Pu.bl true) .nil))) (by decide +kernel) (kt (by simp; exact ⟨fun M => ⟨_, rfl⟩, fun M => ⟨_, rfl⟩⟩))) rfl (not_tup W.nn rfl (by decide +kernel))
  · obtain ⟨z, t, h91⟩ := lst_ok W.nn W.bd W.len
    exact goodA_no (.lst hl1 hl2 hl z t) rfl (not_tup W.nn rfl (.inl (by rw [h91]; decide)))
  · exact goodA_no (mkPure Pu.non (by decide +kernel) k1) rfl (not_tup W.nn rfl (by decide +kernel))
  · exact goodA_no (mkPure (Pu.int 5) (by decide +kernel) k2) rfl (not_tup W.nn rfl (by decide +kernel))
  · exact goodA_no (mkPure (Pu.tup (.cons (Pu.int 1) (.cons (Pu.str "1") .nil))) (by decide +kernel) (kt (by simp; exact ⟨fun M => ⟨_, rfl⟩, fun M => ⟨_, rfl⟩⟩))) rfl (not_tup W.nn rfl (by decide +kernel))
  · exact goodA_no (.dct hd1 hd2 hd) rfl (not_tup W.nn rfl (by decide +kernel))
  · exact goodA_no (mkPure (Pu.tup (.cons (Pu.tup (.cons (Pu.int 1) .nil)) .nil)) (by decide +kernel) (kt (by simp; exact fun M => ⟨_, rfl⟩))) rfl (not_tup W.nn rfl (by decide +kernel))
def oddsB (nl nd : Nat) : List D := [.non, .obj nl, .tup [.int (-1)], .tup [.int 0, .int (-1)], .tup [.int 0, .bl true], .tup [.bl true], .tup [.str "0"], .int 3, .tup [.non], .obj nd]
theorem goodB_odds {nl nd : Nat} (W : TpOk tp) (hl1 : nl ≠ i) (hl2 : nl ≠ j) (hl : M[nl]? = some (.lst [.int 1])) (hd1 : nd ≠ i) (hd2 : nd ≠ j) (hd : M[nd]? = some (.dK [])) : ∀ d ∈ oddsB nl nd, GoodB i j M tp d := by
  intro d h
  simp only [oddsB, List.mem_cons, List.not_mem_nil, or_false] at h
  rcases h with rfl | rfl | rfl | rfl | rfl | rfl | rfl | rfl | rfl | rfl
  · exact goodB_no (mkPure Pu.non (by decide +kernel) k1) rfl (not_tup W.nn rfl (by decide +kernel))
  · obtain ⟨z, t, h91⟩ := lst_ok (ws := [1]) (by decide) (by intro w hw; simp at hw; subst hw; decide +kernel) (by decide)
    exact goodB_no (.lst (ns := [1]) hl1 hl2 hl z t) rfl (not_tup W.nn rfl (.inl (by rw [h91]; decide)))
  · exact goodB_no (mkPure (Pu.tup (.cons (Pu.int (-1)) .nil)) (by decide +kernel) (kt (by simp; exact fun M => ⟨_, rfl⟩))) rfl (not_tup W.nn rfl (by decide +kernel))
  · exact goodB_no (mkPure (Pu.tup (.cons (Pu.int 0) (.cons (Pu.int (-1)) .nil))) (by decide +kernel) (kt (by simp; exact ⟨fun M => ⟨_, rfl⟩, fun M => ⟨_, rfl⟩⟩))) rfl (not_tup W.nn rfl (by decide +kernel))
  · exact goodB_no (mkPure (Pu.tup (.cons (Pu.int 0) (.cons (Pu.bl true) .nil))) (by decide +kernel) (kt (by simp; exact ⟨fun M => ⟨_, rfl⟩, fun M => ⟨_, rfl⟩⟩))) rfl (not_tup W.nn rfl (by decide +kernel))
  · exact goodB_no (mkPure (Pu.tup (.cons (Pu.bl true) .nil)) (by decide +kernel) (kt (by simp; exact fun M => ⟨_, rfl⟩))) rfl (not_tup W.nn rfl (by decide +kernel))
  · exact goodB_no (mkPure (Pu.tup (.cons (Pu.str "0") .nil)) (by decide +kernel) (kt (by simp; exact fun M => ⟨_, rfl⟩))) rfl (not_tup W.nn rfl (by decide +kernel))
  · exact goodB_no (mkPure (Pu.int 3) (by decide +kernel) k2) rfl (not_tup W.nn rfl (by decide +kernel))
  · exact goodB_no (mkPure (Pu.tup (.cons Pu.non .nil)) (by decide +kernel) (kt (by simp; exact fun M => ⟨_, rfl⟩))) rfl (not_tup W.nn rfl (by decide +kernel))
  · exact goodB_no (.dct hd1 hd2 hd) rfl (not_tup W.nn rfl (by decide +kernel))
def oddsC (nl : Nat) : List D := [.int (-1), .bl true, .non, .str "0", .tup [.int 0], .obj nl]
theorem goodC_odds {nl : Nat} (hl1 : nl ≠ i) (hl2 : nl ≠ j) (hl : M[nl]? = some (.lst [])) : ∀ d ∈ oddsC nl, GoodC i j M u d := by
  intro d h
  have hu : (0 : Int) ≤ (u : Int) := Int.natCast_nonneg u
  simp only [oddsC, List.mem_cons, List.not_mem_nil, or_false] at h
  rcases h with rfl | rfl | rfl | rfl | rfl | rfl
  · exact goodC_no (mkPure (Pu.int (-1)) (by decide +kernel) k2) rfl (not_num hu 45 (by decide +kernel) (by decide))
  · exact goodC_no (mkPure (Pu.bl true) (by decide +kernel) k3) rfl (not_num hu 84 (by decide +kernel) (by decide))
  · exact goodC_no (mkPure Pu.non (by decide +kernel) k1) rfl (not_num hu 78 (by decide +kernel) (by decide))
  · exact goodC_no (mkPure (Pu.str "0") (by decide +kernel) k4) rfl (not_num hu 39 (by decide +kernel) (by decide))
  · exact goodC_no (mkPure (Pu.tup (.cons (Pu.int 0) .nil)) (by decide +kernel) (kt (by simp; exact fun M => ⟨_, rfl⟩))) rfl (not_num hu 40 (by decide +kernel) (by decide))
  · obtain ⟨z, t, h91⟩ := lst_ok (ws := []) (by simp) (by simp) (by decide)
    exact goodC_no (.lst (ns := []) hl1 hl2 hl z t) rfl (not_num hu 91 (List.mem_of_mem_head? (by rw [h91]; rfl)) (by decide))
end
end Z13
set_option Elab.async false
set_option linter.all false
set_option maxRecDepth 100000
set_option maxHeartbeats 1000000
namespace Z13
open PySem PySem.Spec PyProof.Rows L2 GxR Gn Dl Wn
def LWB0 : TSd := (dIfS (dNotT (dTru (dVar 11))) (dSet 9 (dTup (dCons (dC (.str "raised")) (dCons (dCB tupOfD (dCons (dLc (dRange1 (dCons (dC (.int 3)) (dNil))) (dGN 20) (dYes) (dOp (eqA false) (dVar 20) (dVar 10)) [20]) (dNil))) (dCons (dCB reprXD (dCons (dVar 12) (dNil))) (dNil)))))) (dNext))
def LWA4 (C : Nat → Addr) : TSd := (dSeq (dSet 13 (dLam (spLam ["call", "e", "kinds"] (r__law_tried C)) (dIf (dTest (dOp (cmpD true) (dVar 17) (dC (.int 3)))) (dCall 3 (sp_draw C) (dCons (dVar 14) (dCons (dVar 15) (dCons (dVar 16) (dNil))))) (dCallW 3 [2, 1, 0] (sp_draw C) (dCons (dVar 16) (dCons (dVar 15) (dCons (dVar 14) (dNil)))))))) (dIfS (dTest (dOp (eqA true) (dCB reprD (dCons (dVar 13) (dNil))) (dCB reprD (dCons (dVar 9) (dNil))))) (dRet (dC (.bl false))) (dNext)))
def LWA3 (C : Nat → Addr) : TSd := (dSeq (dSet 9 (dTup (dCons (dC (.str "returned")) (dCons (dVar 7) (dNil))))) (dSeq (dFor (dWalk (dTup (dCons (dTup (dCons (dC (.int 2)) (dCons (dOp (eqA false) (dCB reprXD (dCons (dVar 16) (dNil))) (dCB reprXD (dCons (dVar 5) (dNil)))) (dCons (dVar 16) (dNil))))) (dCons (dTup (dCons (dC (.int 1)) (dCons (dOp (eqA false) (dCB reprXD (dCons (dVar 15) (dNil))) (dCB reprD (dCons (dVar 4) (dNil)))) (dCons (dVar 15) (dNil))))) (dCons (dTup (dCons (dC (.int 0)) (dCons (dOp (eqA false) (dCB reprXD (dCons (dVar 14) (dNil))) (dCB reprD (dCons (dVar 3) (dNil)))) (dCons (dVar 14) (dNil))))) (dNil)))))) (dGTup 3 (dGCons (dGN 10) (dGCons (dGN 11) (dGCons (dGN 12) (dGNil))))) LWB0) (LWA4 C)))
def LWA2 (C : Nat → Addr) : TSd := (dSeq (dSet 8 (dLst (dCons (dTup (dNil)) (dCons (dTup (dCons (dC (.int 0)) (dNil))) (dCons (dTup (dCons (dC (.int 0)) (dCons (dC (.int 0)) (dNil)))) (dCons (dTup (dCons (dC (.int 3)) (dCons (dNeg (dC (.int 1))) (dNil)))) (dCons (dTup (dCons (dC (.int 1)) (dCons (dNeg (dC (.int 1))) (dNil)))) (dCons (dTup (dCons (dC (.int 1)) (dCons (dC (.bl true)) (dNil)))) (dCons (dCB lstOfD (dCons (dVar 3) (dNil))) (dCons (dC .non) (dCons (dC (.int 5)) (dCons (dTup (dCons (dC (.int 1)) (dCons (dC (.str "1")) (dNil)))) (dCons (dNewK) (dCons (dTup (dCons (dTup (dCons (dC (.int 1)) (dNil))) (dNil))) (dNil))))))))))))))) (dSeq (dSet 14 (dIf (dTest (dOp gtD (dCall 2 sp__law_draw (dCons (dVar 1) (dCons (dC (.int 3)) (dNil)))) (dC (.int 0)))) (dVar 3) (dCall 2 sp__law_pick (dCons (dVar 1) (dCons (dVar 8) (dNil)))))) (dSeq (dSet 15 (dIf (dTest (dOp gtD (dCall 2 sp__law_draw (dCons (dVar 1) (dCons (dC (.int 3)) (dNil)))) (dC (.int 0)))) (dVar 4) (dCall 2 sp__law_pick (dCons (dVar 1) (dCons (dLst (dCons (dC .non) (dCons (dLst (dCons (dC (.int 1)) (dNil))) (dCons (dTup (dCons (dNeg (dC (.int 1))) (dNil))) (dCons (dTup (dCons (dC (.int 0)) (dCons (dNeg (dC (.int 1))) (dNil)))) (dCons (dTup (dCons (dC (.int 0)) (dCons (dC (.bl true)) (dNil)))) (dCons (dTup (dCons (dC (.bl true)) (dNil))) (dCons (dTup (dCons (dC (.str "0")) (dNil))) (dCons (dC (.int 3)) (dCons (dTup (dCons (dC .non) (dNil))) (dCons (dNewK) (dNil)))))))))))) (dNil)))))) (dSeq (dSet 16 (dIf (dTest (dOp gtD (dCall 2 sp__law_draw (dCons (dVar 1) (dCons (dC (.int 3)) (dNil)))) (dC (.int 0)))) (dVar 5) (dCall 2 sp__law_pick (dCons (dVar 1) (dCons (dLst (dCons (dNeg (dC (.int 1))) (dCons (dC (.bl true)) (dCons (dC .non) (dCons (dC (.str "0")) (dCons (dTup (dCons (dC (.int 0)) (dNil))) (dCons (dLst (dNil)) (dNil)))))))) (dNil)))))) (LWA3 C)))))
def LWA1 (C : Nat → Addr) : TSd := (dSeq (dIfS (dTest (dOp (eqA true) (dCB reprD (dCons (dTup (dCons (dCall 3 (sp_draw C) (dCons (dVar 3) (dCons (dVar 4) (dCons (dVar 5) (dNil))))) (dCons (dCallW 3 [2, 1, 0] (sp_draw C) (dCons (dVar 5) (dCons (dVar 4) (dCons (dVar 3) (dNil))))) (dNil)))) (dNil))) (dCB reprD (dCons (dTup (dCons (dVar 7) (dCons (dVar 7) (dNil)))) (dNil))))) (dRet (dC (.bl false))) (dNext)) (LWA2 C))
def LWA0 (C : Nat → Addr) : TSd := (dSeq (dSet 2 (dCall 2 sp__law_pick (dCons (dVar 1) (dCons (dLst (dCons (dC (.int 1)) (dCons (dOp powD (dC (.int 10)) (dC (.int 20))) (dNil)))) (dNil))))) (dSeq (dSet 3 (dCB tupOfD (dCons (dLc (dWalk (dCall 3 sp__law_drawn_weights (dCons (dVar 1) (dCons (dOp addD (dC (.int 1)) (dCall 2 sp__law_draw (dCons (dVar 1) (dCons (dC (.int 8)) (dNil))))) (dCons (dCall 2 sp__law_pick (dCons (dVar 1) (dCons (dLst (dCons (dC (.int 9)) (dCons (dOp powD (dC (.int 10)) (dC (.int 8))) (dNil)))) (dNil)))) (dNil)))))) (dGN 18) (dYes) (dOp mulA (dVar 2) (dVar 18)) [18]) (dNil)))) (dSeq (dSet 4 (dCB tupOfD (dCons (dLc (dRange1 (dCons (dCall 2 sp__law_draw (dCons (dVar 1) (dCons (dC (.int 6)) (dNil)))) (dNil))) (dGN 19) (dYes) (dOp addD (dCall 2 sp__law_draw (dCons (dVar 1) (dCons (dCall 2 sp__law_pick (dCons (dVar 1) (dCons (dLst (dCons (dC (.int 3)) (dCons (dC (.int 40)) (dCons (dOp powD (dC (.int 10)) (dC (.int 7))) (dNil))))) (dNil)))) (dNil)))) (dCall 2 sp__law_pick (dCons (dVar 1) (dCons (dLst (dCons (dC (.int 0)) (dCons (dOp mulA (dVar 2) (dCall 2 sp__law_draw (dCons (dVar 1) (dCons (dOp powD (dC (.int 10)) (dC (.int 6))) (dNil))))) (dNil)))) (dNil))))) [19]) (dNil)))) (dSeq (dSet 5 (dCall 2 sp__law_pick (dCons (dVar 1) (dCons (dOp addD (dOp mulA (dLst (dCons (dCall 2 sp__law_draw (dCons (dVar 1) (dCons (dOp addD (dCB lenD (dCons (dVar 4) (dNil))) (dC (.int 3))) (dNil)))) (dNil))) (dC (.int 3))) (dLst (dCons (dOp powD (dC (.int 10)) (dC (.int 20))) (dNil)))) (dNil))))) (dSeq (dSet 6 (dIf (dTest (dOp (cmpD true) (dVar 5) (dCB lenD (dCons (dVar 4) (dNil))))) (dOp modD (dCB intOfD (dCons (dOp ixA (dVar 4) (dVar 5)) (dNil))) (dCB sumHD (dCons (dVar 3) (dNil)))) (dC (.int 0)))) (dSeq (dSet 7 (dTup (dCons (dCall 2 sp__law_taken (dCons (dVar 3) (dCons (dVar 6) (dNil)))) (dCons (dOp addD (dVar 5) (dC (.int 1))) (dNil))))) (LWA1 C)))))))
theorem law_eq {C : Nat → Addr} : r_law C = (dSeq (dSet 1 (dCall 1 sp__law_deck (dCons (dVar 0) (dNil)))) (dSeq (dIfS (dNotT (dTest (dCall 1 (sp__law_are_all_numbers_right C) (dCons (dVar 1) (dNil))))) (dRet (dC (.bl false))) (dNext)) (dSeq (dFor (dRange1 (dCons (dC (.int 6)) (dNil))) (dGN 17) (LWA0 C)) (dRet (dC (.bl true)))))) := rfl
theorem reprs {ds : List D} {p : PyData} {n d : Nat} {M : Mem} {K : KD} (hp : Pu (.tup ds) p) (hs : Sz n d p) (hn : n ≤ sizeLine) (hd : d ≤ 60) (h : K (.bl false) M) : reprD [.tup ds] M fun x M1 => reprD [.tup ds] M1 fun y M2 => eqA true x y M2 K := by
  refine repr_tupL hp hs hn hd (repr_tupL hp hs hn hd ?_)
  simp
  exact h
def dueV (ws tp : List Int) (u : Nat) : D := .tup [.int (tkn ws (numAt tp u % ws.sum) : Nat), .int ((u : Int) + 1)]
def raisV (x y z : Bool) (t : Str) : D := .tup [.str "raised", .tup [.bl x, .bl y, .bl z], .str t]
def resV (ws tp : List Int) (u : Nat) (a b c : D) (ta tb tc : Str) : D :=
  if wtB a = true then if tapB b = true then if okI c = true then .tup [.str "returned", dueV ws tp u] else raisV false false true tc else raisV false true false tb else raisV true false false ta
theorem sz_txt {t : Str} (h : TxtOk t) : Sz 30002 0 (.str t) := by
  refine ⟨by simp [PyData.showable], by simp [PyData.hasDict], by simp [PyData.depth], ?_⟩
  rw [PyData.shown]
  have := StrLaws.reprText_len t h.ok
  have := h.len
  omega
theorem sz_bl {b : Bool} : Sz 30002 0 (.bool b) := ⟨by simp [PyData.showable], by simp [PyData.hasDict], by simp [PyData.depth], by cases b <;> simp only [PyData.shown] <;> decide⟩
theorem sz_lit {t : Str} (h : (reprText t).length ≤ 30002) : Sz 30002 0 (.str t) := ⟨by simp [PyData.showable], by simp [PyData.hasDict], by simp [PyData.depth], by rw [PyData.shown]; exact h⟩
theorem rais_ok {x y z : Bool} {t : Str} (h : TxtOk t) : ∃ ds p, raisV x y z t = .tup ds ∧ Pu (.tup ds) p ∧ Sz 300000 3 p := by
  refine ⟨_, _, rfl, Pu.tup (.cons (Pu.str _) (.cons (Pu.tup (.cons (Pu.bl x) (.cons (Pu.bl y) (.cons (Pu.bl z) .nil)))) (.cons (Pu.str t) .nil))), ?_⟩
  have zi : Sz (3 * (30002 + 2) + 3) 1 (.tuple [.bool x, .bool y, .bool z]) := Sz.tup (d := 0) (fun p hp => by
    simp at hp
    rcases hp with rfl | rfl | rfl <;> exact sz_bl) (by simp)
  refine (Sz.tup (k := 90015) (d := 1) (m := 3) (fun p hp => ?_) (by simp)).mono (by decide) (by decide)
  simp at hp
  rcases hp with rfl | rfl | rfl
  · exact (sz_lit (by decide +kernel)).mono (by decide) (by decide)
  · exact zi.mono (by decide) (by decide)
  · exact (sz_txt h).mono (by decide) (by decide)
theorem ret_ok {ws tp : List Int} {u : Nat} (hw : WsOk ws) (hu : u < 2 ^ 600) : ∃ ds p, D.tup [.str "returned", dueV ws tp u] = .tup ds ∧ Pu (.tup ds) p ∧ Sz 300000 3 p := by
  refine ⟨_, _, rfl, Pu.tup (.cons (Pu.str _) (.cons (Pu.tup (.cons (Pu.int _) (.cons (Pu.int _) .nil))) .nil)), ?_⟩
  have r0 : 0 ≤ numAt tp u % ws.sum := Int.emod_nonneg _ (by have := hw.pos; omega)
  have r1 : numAt tp u % ws.sum < ws.sum := Int.emod_lt_of_pos _ hw.pos
  have hk := tkn_lt r0 r1
  have hl := hw.len
  have b1 : (((tkn ws (numAt tp u % ws.sum) : Nat) : Int)).natAbs < 2 ^ 700 := by
    rw [Int.natAbs_natCast]
    exact Nat.lt_of_lt_of_le (by omega : _ < 2 ^ 4) (Nat.pow_le_pow_right (by decide) (by decide))
  have b2 : (((u : Int) + 1)).natAbs < 2 ^ 700 := by
    have e : ((u : Int) + 1) = ((u + 1 : Nat) : Int) := rfl
    rw [e, Int.natAbs_natCast]
    have : (2 : Nat) ^ 600 + 1 ≤ 2 ^ 700 := by decide +kernel
    omega
  have zi : Sz (2 * (213 + 2) + 3) 1 (.tuple [.int (tkn ws (numAt tp u % ws.sum) : Nat), .int ((u : Int) + 1)]) := Sz.tup (d := 0) (fun p hp => by
    simp at hp
    rcases hp with rfl | rfl
    · exact sz_big b1
    · exact sz_big b2) (by simp)
  refine (Sz.tup (k := 90015) (d := 1) (m := 2) (fun p hp => ?_) (by simp)).mono (by decide) (by decide)
  simp at hp
  rcases hp with rfl | rfl
  · exact (sz_lit (by decide +kernel)).mono (by decide) (by decide)
  · exact zi.mono (by decide) (by decide)
theorem res_ok {ws tp : List Int} {u : Nat} {a b c : D} {ta tb tc : Str} (hw : WsOk ws) (hu : u < 2 ^ 600) (ha : TxtOk ta) (hb : TxtOk tb) (hc : TxtOk tc) : ∃ ds p, resV ws tp u a b c ta tb tc = .tup ds ∧ Pu (.tup ds) p ∧ Sz 300000 3 p := by
  unfold resV
  split
  · split
    · split
      · exact ret_ok hw hu
      · exact rais_ok hc
    · exact rais_ok hb
  · exact rais_ok ha
end Z13
set_option Elab.async false
set_option linter.all false
set_option maxRecDepth 100000
set_option maxHeartbeats 1000000
namespace Z13
open PySem PySem.Spec PyProof.Rows L2 GxR Gn Dl Wn
section
variable {C : Nat → Addr} {i j : Nat} {ws tp : List Int} {u turn : Nat} {a b c : D} {ta tb tc : Str}
theorem ints_inj : ∀ {xs ys : List Int}, xs.map D.int = ys.map D.int → xs = ys
  | [], [], _ => rfl
  | [], _ :: _, h => by cases h
  | _ :: _, [], h => by cases h
  | x :: xs, y :: ys, h => by
    rw [List.map_cons, List.map_cons] at h
    injection h with h1 h2
    injection h1 with h1
    rw [h1, ints_inj h2]
theorem vI_inj {xs ys : List Int} (h : vI xs = vI ys) : xs = ys := by
  unfold vI at h
  injection h with h
  exact ints_inj h
/-- what draw gives of such data, by whichever way it is called -/
theorem p_draw_res {M : Mem} {Q : KD} {E : KE'} (ha : OddV i j M a ta) (hb : OddV i j M b tb) (hc : OddV i j M c tc) (ea : wtB a = true → a = vI ws) (eb : tapB b = true → b = vI tp) (ec : okI c = true → c = .int u)
    (hE : ∀ (k : Nat) (d : D) (G : Mem) (t : Str), k ∈ ([3, 4, 5] : List Nat) → Shw (M ++ G) d t → resV ws tp u a b c ta tb tc = raisV (decide (k = 5)) (decide (k = 4)) (decide (k = 3)) t → E (C k) d (M ++ G))
    (hq : resV ws tp u a b c ta tb tc = .tup [.str "returned", dueV ws tp u] → ∀ G, Q (dueV ws tp u) (M ++ G)) : sp_draw C [a, b, c] M Q E := by
  refine p_draw_any ha.kn hb.kn hc.kn.1 (fun e G => ?_) (fun e1 e2 G => ?_) (fun e1 e2 e3 G => ?_) fun ws' tp' u' h1 h2 h3 h4 h5 h6 h7 G => ?_
  · exact hE 5 a G ta (by decide) (ha.fr (Fr.app i j M G)).shw (by simp [resV, e])
  · exact hE 4 b G tb (by decide) (hb.fr (Fr.app i j M G)).shw (by simp [resV, e1, e2])
  · exact hE 3 c G tc (by decide) (hc.fr (Fr.app i j M G)).shw (by simp [resV, e1, e2, e3])
  · have e1 := vI_inj (h1.symm.trans (ea h4))
    have e2 := vI_inj (h2.symm.trans (eb h5))
    have e3 : u' = u := by
      have := h3.symm.trans (ec h6)
      injection this with this
      omega
    subst e1 e2 e3
    exact hq (by simp [resV, h4, h5, h6]) G
theorem lwa4 {ns : List Int} {y2 y6 y7 y8 y10 y11 y12 y13 y18 y19 y20 : Option D} {M : Mem} {D0 : EndsD} {E : KE'} {f : Nat} (hD : Dk i j f M) (hw : WsOk ws) (hu : u < 2 ^ 600) (ha : OddV i j M a ta) (hb : OddV i j M b tb) (hc : OddV i j M c tc)
    (ea : wtB a = true → a = vI ws) (eb : tapB b = true → b = vI tp) (ec : okI c = true → c = .int u)
    (h : ∀ M' y13, Dk i j f M' → D0.nx [some (.scr ns), some (.obj i), y2, some (vI ws), some (vI tp), some (.int u), y6, y7, y8, some (resV ws tp u a b c ta tb tc), y10, y11, y12, y13, some a, some b, some c, some (.int turn), y18, y19, y20] M') :
    LWA4 C D0 E [some (.scr ns), some (.obj i), y2, some (vI ws), some (vI tp), some (.int u), y6, y7, y8, some (resV ws tp u a b c ta tb tc), y10, y11, y12, y13, some a, some b, some c, some (.int turn), y18, y19, y20] M := by
  obtain ⟨ds, p, er, hp, hs⟩ := res_ok (a := a) (b := b) (c := c) (tp := tp) hw hu ha.txt hb.txt hc.txt
  have hn : 300000 ≤ sizeLine := by rw [sizeLine_eq]; omega
  simp [LWA4]
  refine p_tried fun E' hE => ?_
  have key : ∀ {Q : KD}, (∀ d M', Q d M' ↔ ([D.str "returned", d].length ≤ sizeLine ∧ reprD [D.tup [D.str "returned", d]] M' fun x M1 => reprD [resV ws tp u a b c ta tb tc] M1 fun y M2 => eqA true x y M2 fun e M' => e = D.bl false ∧
        D0.nx [some (.scr ns), some (.obj i), y2, some (vI ws), some (vI tp), some (.int u), y6, y7, y8, some (resV ws tp u a b c ta tb tc), y10, y11, y12, some (D.tup [D.str "returned", d]), some a, some b, some c, some (.int turn), y18, y19, y20] M' ∨ e = D.bl true ∧ D0.rt (D.bl false) M')) → sp_draw C [a, b, c] M Q E' := fun hQ => by
    refine p_draw_res ha hb hc ea eb ec (fun k d G t hk hs' er' => ?_) fun er' G => ?_
    · refine hE k d _ t hk hs' ?_
      rw [show D.tup [D.str "raised", D.tup [D.bl (decide (k = 5)), D.bl (decide (k = 4)), D.bl (decide (k = 3))], D.str t] = D.tup ds from er'.symm.trans er, er]
      refine reprs hp hs hn (by decide) (.inl ⟨rfl, ?_⟩)
      rw [← er]
      exact h _ _ (hD.app G)
    · refine (hQ _ _).mpr ⟨by rw [sizeLine_eq]; simp, ?_⟩
      rw [show D.tup [D.str "returned", dueV ws tp u] = D.tup ds from er'.symm.trans er, er]
      refine reprs hp hs hn (by decide) (.inl ⟨rfl, ?_⟩)
      rw [← er]
      exact h _ _ (hD.app G)
  by_cases ht : turn < 3
  · exact .inr ⟨by omega, key fun _ _ => Iff.rfl⟩
  · exact .inl ⟨by omega, rfl, key fun _ _ => Iff.rfl⟩
end
end Z13
set_option Elab.async false
set_option linter.all false
set_option maxRecDepth 100000
set_option maxHeartbeats 1000000
namespace Z13
open PySem PySem.Spec PyProof.Rows L2 GxR Gn Dl Wn
section
variable {C : Nat → Addr} {i j : Nat} {ws tp : List Int} {u turn : Nat} {a b c : D} {ta tb tc : Str}
theorem exFr {M M' : Mem} (x : Ext M M') : Fr i j M M' := by
  obtain ⟨G, rfl⟩ := x
  exact Fr.app i j M G
theorem Ext.rfl' {M : Mem} : Ext M M := ⟨[], (List.append_nil M).symm⟩
theorem lwb1 {n : Nat} {r : Bool} {d : D} {t : Str} {ns : List Int} {y2 y3 y4 y5 y6 y7 y8 y9 y13 y14 y15 y16 y17 y18 y19 y20 : Option D} {M : Mem} {D0 : EndsD} {E : KE'} (hs : ∀ M', Ext M M' → Shw M' d t)
    (h1 : r = true → D0.nx [some (.scr ns), some (.obj i), y2, y3, y4, y5, y6, y7, y8, y9, some (.int n), some (.bl r), some d, y13, y14, y15, y16, y17, y18, y19, y20] M)
    (h2 : r = false → ∀ M', Ext M M' → D0.nx [some (.scr ns), some (.obj i), y2, y3, y4, y5, y6, y7, y8, some (raisV (decide (n = 0)) (decide (n = 1)) (decide (n = 2)) t), some (.int n), some (.bl r), some d, y13, y14, y15, y16, y17, y18, y19, y20] M') :
    LWB0 D0 E [some (.scr ns), some (.obj i), y2, y3, y4, y5, y6, y7, y8, y9, some (.int n), some (.bl r), some d, y13, y14, y15, y16, y17, y18, y19, y20] M := by
  simp [LWB0]
  cases r with
  | true => exact .inr ⟨rfl, h1 rfl⟩
  | false =>
    refine .inl ⟨rfl, ?_⟩
    have er : rngD 0 3 = [0, 1, 2].map (fun k : Nat => D.int (k : Int)) := by first | rfl | simp [rngD_map]
    rw [er]
    refine lcD_ex (fun k : Nat => D.int (k : Int)) (fun k => D.bl (decide (k = n))) [0, 1, 2] M (fun _ _ => trivial) (fun k hk M1 Q' x kk => ?_) (by decide) fun M' x hl => ?_
    · simp
      have := kk []
      rw [List.append_nil] at this
      simpa [Int.natCast_inj] using this
    · refine tupOfD_obj.mpr ⟨_, hl, ?_⟩
      refine reprX_of (hs M' x) ⟨by rw [sizeLine_eq]; omega, ?_⟩
      have := h2 rfl M' x
      have e0 : ∀ m : Nat, decide (m = n) = decide (n = m) := fun m => by simp [eq_comm]
      simpa [raisV, e0] using this
theorem lwb {n : Nat} {r : Bool} {d : D} {t : Str} {rest : List D} {ns : List Int} {y2 y3 y4 y5 y6 y7 y8 y9 y10 y11 y12 y13 y14 y15 y16 y17 y18 y19 y20 : Option D} {M : Mem} {D0 : EndsD} {E : KE'} (hs : ∀ M', Ext M M' → Shw M' d t)
    (h1 : r = true → ∀ z10 z11 z12, forD (dGTup 3 (dGCons (dGN 10) (dGCons (dGN 11) (dGCons (dGN 12) dGNil)))) LWB0 (fun _ => True) D0 E rest [some (.scr ns), some (.obj i), y2, y3, y4, y5, y6, y7, y8, y9, z10, z11, z12, y13, y14, y15, y16, y17, y18, y19, y20] M)
    (h2 : r = false → ∀ z10 z11 z12 M', Ext M M' → forD (dGTup 3 (dGCons (dGN 10) (dGCons (dGN 11) (dGCons (dGN 12) dGNil)))) LWB0 (fun _ => True) D0 E rest [some (.scr ns), some (.obj i), y2, y3, y4, y5, y6, y7, y8, some (raisV (decide (n = 0)) (decide (n = 1)) (decide (n = 2)) t), z10, z11, z12, y13, y14, y15, y16, y17, y18, y19, y20] M') :
    forD (dGTup 3 (dGCons (dGN 10) (dGCons (dGN 11) (dGCons (dGN 12) dGNil)))) LWB0 (fun _ => True) D0 E (.tup [.int n, .bl r, d] :: rest) [some (.scr ns), some (.obj i), y2, y3, y4, y5, y6, y7, y8, y9, y10, y11, y12, y13, y14, y15, y16, y17, y18, y19, y20] M := by
  refine ⟨trivial, _, rfl, rfl, ?_⟩
  refine ⟨_, _, rfl, _, _, rfl, _, _, rfl, rfl, ?_⟩
  exact lwb1 hs (fun e => h1 e _ _ _) (fun e M' x => h2 e _ _ _ M' x)
theorem lwa3 {ns : List Int} {y2 y6 y8 y9 y10 y11 y12 y13 y18 y19 y20 : Option D} {M : Mem} {D0 : EndsD} {E : KE'} {f : Nat} (hD : Dk i j f M) (hw : WsOk ws) (ht : TpOk tp) (hu : u < 2 ^ 600) (ha : OddV i j M a ta) (hb : OddV i j M b tb) (hc : OddV i j M c tc)
    (ea : wtB a = true → a = vI ws) (eb : tapB b = true → b = vI tp) (ec : okI c = true → c = .int u)
    (fa : decide (ta = (pI ws).shown) = wtB a) (fb : decide (tb = (pI tp).shown) = tapB b) (fc : decide (tc = (PyData.int u).shown) = okI c)
    (h : ∀ M' y9 y10 y11 y12 y13 y20, Dk i j f M' → D0.nx [some (.scr ns), some (.obj i), y2, some (vI ws), some (vI tp), some (.int u), y6, some (dueV ws tp u), y8, y9, y10, y11, y12, y13, some a, some b, some c, some (.int turn), y18, y19, y20] M') :
    LWA3 C D0 E [some (.scr ns), some (.obj i), y2, some (vI ws), some (vI tp), some (.int u), y6, some (dueV ws tp u), y8, y9, y10, y11, y12, y13, some a, some b, some c, some (.int turn), y18, y19, y20] M := by
  have hn3 : 3 ≤ sizeLine := by rw [sizeLine_eq]; omega
  have hu7 : (u : Int).natAbs < 2 ^ 700 := by
    rw [Int.natAbs_natCast]
    exact Nat.lt_of_lt_of_le hu (Nat.pow_le_pow_right (by decide) (by decide))
  have fin : ∀ (y9 : D) (y10 y11 y12 : Option D) (M' : Mem), Ext M M' → y9 = resV ws tp u a b c ta tb tc → LWA4 C D0 E [some (.scr ns), some (.obj i), y2, some (vI ws), some (vI tp), some (.int u), y6, some (dueV ws tp u), y8, some y9, y10, y11, y12, y13, some a, some b, some c, some (.int turn), y18, y19, y20] M' := fun y9 y10 y11 y12 M' x e => by
    subst e
    obtain ⟨G, rfl⟩ := x
    exact lwa4 (hD.app G) hw hu (ha.fr (Fr.app i j M G)) (hb.fr (Fr.app i j M G)) (hc.fr (Fr.app i j M G)) ea eb ec fun M' y13 D' => h _ _ _ _ _ _ _ D'
  simp [LWA3]
  refine ⟨by rw [sizeLine_eq]; omega, ?_⟩
  refine reprX_of hc.shw ?_
  refine reprX_of (odd_int (i := i) (j := j) (M := M) hu7).shw ?_
  refine eqA_str.mpr ?_
  rw [if_neg (by decide), fc]
  refine ⟨hn3, reprX_of hb.shw ?_⟩
  have zt := (pI_ok ht.nn ht.bd ht.len).1
  have zw := (pI_ok hw.nn hw.bd hw.len).1
  refine repr_tupL (Pu.vI tp) zt (by rw [sizeLine_eq]; omega) (by decide) ?_
  refine eqA_str.mpr ?_
  have fb' : decide (tb = (PyData.tuple (tp.map .int)).shown) = tapB b := fb
  have fa' : decide (ta = (PyData.tuple (ws.map .int)).shown) = wtB a := fa
  rw [if_neg (by decide), fb']
  refine ⟨hn3, reprX_of ha.shw ?_⟩
  refine repr_tupL (Pu.vI ws) zw (by rw [sizeLine_eq]; omega) (by decide) ?_
  refine eqA_str.mpr ?_
  rw [if_neg (by decide), fa']
  refine ⟨hn3, ?_⟩
  have sc : ∀ M', Ext M M' → Shw M' c tc := fun M' x => (hc.fr (exFr x)).shw
  have sb : ∀ M', Ext M M' → Shw M' b tb := fun M' x => (hb.fr (exFr x)).shw
  have sa : ∀ M', Ext M M' → Shw M' a ta := fun M' x => (ha.fr (exFr x)).shw
  refine lwb (n := 2) sc (fun e2 z10 z11 z12 => ?_) (fun e2 z10 z11 z12 M1 x1 => ?_)
  · refine lwb (n := 1) sb (fun e1 z10 z11 z12 => ?_) (fun e1 z10 z11 z12 M2 x2 => ?_)
    · refine lwb (n := 0) sa (fun e0 z10 z11 z12 => ?_) (fun e0 z10 z11 z12 M3 x3 => ?_)
      · exact ⟨trivial, fin _ _ _ _ _ Ext.rfl' (by simp [resV, e0, e1, e2])⟩
      · exact ⟨trivial, fin _ _ _ _ _ x3 (by simp [resV, e0])⟩
    · refine lwb (n := 0) (fun M' x => sa M' (x2.tr x)) (fun e0 z10 z11 z12 => ?_) (fun e0 z10 z11 z12 M3 x3 => ?_)
      · exact ⟨trivial, fin _ _ _ _ _ x2 (by simp [resV, e0, e1])⟩
      · exact ⟨trivial, fin _ _ _ _ _ (x2.tr x3) (by simp [resV, e0])⟩
  · refine lwb (n := 1) (fun M' x => sb M' (x1.tr x)) (fun e1 z10 z11 z12 => ?_) (fun e1 z10 z11 z12 M2 x2 => ?_)
    · refine lwb (n := 0) (fun M' x => sa M' (x1.tr x)) (fun e0 z10 z11 z12 => ?_) (fun e0 z10 z11 z12 M3 x3 => ?_)
      · exact ⟨trivial, fin _ _ _ _ _ x1 (by simp [resV, e0, e1, e2])⟩
      · exact ⟨trivial, fin _ _ _ _ _ (x1.tr x3) (by simp [resV, e0])⟩
    · refine lwb (n := 0) (fun M' x => sa M' ((x1.tr x2).tr x)) (fun e0 z10 z11 z12 => ?_) (fun e0 z10 z11 z12 M3 x3 => ?_)
      · exact ⟨trivial, fin _ _ _ _ _ (x1.tr x2) (by simp [resV, e0, e1])⟩
      · exact ⟨trivial, fin _ _ _ _ _ ((x1.tr x2).tr x3) (by simp [resV, e0])⟩
end
end Z13
set_option Elab.async false
set_option linter.all false
set_option maxRecDepth 100000
set_option maxHeartbeats 1000000
namespace Z13
open PySem PySem.Spec PyProof.Rows L2 GxR Gn Dl Wn
def P8 : TSd := (dSet 8 (dLst (dCons (dTup (dNil)) (dCons (dTup (dCons (dC (.int 0)) (dNil))) (dCons (dTup (dCons (dC (.int 0)) (dCons (dC (.int 0)) (dNil)))) (dCons (dTup (dCons (dC (.int 3)) (dCons (dNeg (dC (.int 1))) (dNil)))) (dCons (dTup (dCons (dC (.int 1)) (dCons (dNeg (dC (.int 1))) (dNil)))) (dCons (dTup (dCons (dC (.int 1)) (dCons (dC (.bl true)) (dNil)))) (dCons (dCB lstOfD (dCons (dVar 3) (dNil))) (dCons (dC .non) (dCons (dC (.int 5)) (dCons (dTup (dCons (dC (.int 1)) (dCons (dC (.str "1")) (dNil)))) (dCons (dNewK) (dCons (dTup (dCons (dTup (dCons (dC (.int 1)) (dNil))) (dNil))) (dNil)))))))))))))))
def P14 : TSd := (dSet 14 (dIf (dTest (dOp gtD (dCall 2 sp__law_draw (dCons (dVar 1) (dCons (dC (.int 3)) (dNil)))) (dC (.int 0)))) (dVar 3) (dCall 2 sp__law_pick (dCons (dVar 1) (dCons (dVar 8) (dNil))))))
def P15 : TSd := (dSet 15 (dIf (dTest (dOp gtD (dCall 2 sp__law_draw (dCons (dVar 1) (dCons (dC (.int 3)) (dNil)))) (dC (.int 0)))) (dVar 4) (dCall 2 sp__law_pick (dCons (dVar 1) (dCons (dLst (dCons (dC .non) (dCons (dLst (dCons (dC (.int 1)) (dNil))) (dCons (dTup (dCons (dNeg (dC (.int 1))) (dNil))) (dCons (dTup (dCons (dC (.int 0)) (dCons (dNeg (dC (.int 1))) (dNil)))) (dCons (dTup (dCons (dC (.int 0)) (dCons (dC (.bl true)) (dNil)))) (dCons (dTup (dCons (dC (.bl true)) (dNil))) (dCons (dTup (dCons (dC (.str "0")) (dNil))) (dCons (dC (.int 3)) (dCons (dTup (dCons (dC .non) (dNil))) (dCons (dNewK) (dNil)))))))))))) (dNil))))))
def P16 : TSd := (dSet 16 (dIf (dTest (dOp gtD (dCall 2 sp__law_draw (dCons (dVar 1) (dCons (dC (.int 3)) (dNil)))) (dC (.int 0)))) (dVar 5) (dCall 2 sp__law_pick (dCons (dVar 1) (dCons (dLst (dCons (dNeg (dC (.int 1))) (dCons (dC (.bl true)) (dCons (dC .non) (dCons (dC (.str "0")) (dCons (dTup (dCons (dC (.int 0)) (dNil))) (dCons (dLst (dNil)) (dNil)))))))) (dNil))))))
theorem lwa2_eq {C : Nat → Addr} : LWA2 C = dSeq P8 (dSeq P14 (dSeq P15 (dSeq P16 (LWA3 C)))) := rfl
section
variable {C : Nat → Addr} {i j : Nat} {ws tp : List Int} {u turn : Nat}
theorem drawB {f : Nat} {M : Mem} {K1 K2 : Mem → Prop} {E : KE'} (hD : Dk i j (f + 1) M) (k1 : ∀ M', Fr i j M M' → Dk i j f M' → K1 M') (k2 : ∀ M', Fr i j M M' → Dk i j f M' → K2 M') :
    sp__law_draw [.obj i, .int 3] M (fun x M1 => Dl.intD (fun _ _ => True) (fun i j => D.bl (decide (j < i))) x (.int 0) M1 fun d M' => d = .bl false ∧ K1 M' ∨ d = .bl true ∧ K2 M') E := by
  refine p__law_draw hD (by decide) (by decide) fun r M3 r0 r1 D3 F3 => ?_
  refine intD_int.mpr ⟨trivial, ?_⟩
  by_cases hr : 0 < r
  · exact .inr ⟨by simp [hr], k2 M3 F3 D3⟩
  · exact .inl ⟨by simp [hr], k1 M3 F3 D3⟩
theorem out1 {f : Nat} {M : Mem} (h : Dk i j f M) (c : Cell) : M.length + 1 ≠ i ∧ M.length + 1 ≠ j := by
  have := (h.app [c]).out
  rw [List.length_append] at this
  exact this
theorem out2 {f : Nat} {M : Mem} (h : Dk i j f M) (c d : Cell) : M.length + 2 ≠ i ∧ M.length + 2 ≠ j := by
  have := (h.app [c, d]).out
  rw [List.length_append] at this
  exact this
theorem p16 {s0 s2 s3 s4 s6 s7 s8 s9 s10 s11 s12 s13 s14 s15 s16 s17 s18 s19 s20 : Option D} {M : Mem} {D0 : EndsD} {E : KE'} {f : Nat} (hD : Dk i j (f + 2) M) (hu : u < 2 ^ 700)
    (h : ∀ c M', GoodC i j M' u c → Fr i j M M' → Dk i j f M' → D0.nx [s0, some (.obj i), s2, s3, s4, some (.int u), s6, s7, s8, s9, s10, s11, s12, s13, s14, s15, some c, s17, s18, s19, s20] M') :
    P16 D0 E [s0, some (.obj i), s2, s3, s4, some (.int u), s6, s7, s8, s9, s10, s11, s12, s13, s14, s15, s16, s17, s18, s19, s20] M := by
  have z1 : 1 ≤ sizeLine := by rw [sizeLine_eq]; omega
  have z6 : 6 ≤ sizeLine := by rw [sizeLine_eq]; omega
  simp [P16, z1, z6]
  refine drawB (f := f + 1) hD (fun M1 F1 D1 => ?_) fun M1 F1 D1 => h _ _ (goodC_self hu) F1 (D1.le (by omega))
  refine p__law_pick_l (f := f) (ds := oddsC M1.length) (D1.app _) (by simp [oddsC]) (by simp [oddsC]) (by simp [oddsC]) (out1 D1 (.lst [])).1 (out1 D1 (.lst [])).2 fun d M2 hd D2 F2 => ?_
  have hg : GoodC i j (M1 ++ [Cell.lst [], Cell.lst (oddsC M1.length)]) u d := goodC_odds (D1.out).1 (D1.out).2 (by simp) d hd
  exact h d M2 (hg.fr F2) ((F1.tr (Fr.app i j _ _)).tr F2) D2
theorem p15 {s0 s2 s3 s5 s6 s7 s8 s9 s10 s11 s12 s13 s14 s15 s16 s17 s18 s19 s20 : Option D} {M : Mem} {D0 : EndsD} {E : KE'} {f : Nat} (hD : Dk i j (f + 2) M) (ht : TpOk tp)
    (h : ∀ b M', GoodB i j M' tp b → Fr i j M M' → Dk i j f M' → D0.nx [s0, some (.obj i), s2, s3, some (vI tp), s5, s6, s7, s8, s9, s10, s11, s12, s13, s14, some b, s16, s17, s18, s19, s20] M') :
    P15 D0 E [s0, some (.obj i), s2, s3, some (vI tp), s5, s6, s7, s8, s9, s10, s11, s12, s13, s14, s15, s16, s17, s18, s19, s20] M := by
  have z1 : 1 ≤ sizeLine := by rw [sizeLine_eq]; omega
  have z2 : 2 ≤ sizeLine := by rw [sizeLine_eq]; omega
  have z6 : 10 ≤ sizeLine := by rw [sizeLine_eq]; omega
  simp [P15, z1, z2, z6]
  refine drawB (f := f + 1) hD (fun M1 F1 D1 => ?_) fun M1 F1 D1 => h _ _ (goodB_self ht) F1 (D1.le (by omega))
  refine p__law_pick_l (f := f) (ds := oddsB M1.length (M1.length + 1)) (D1.app _) (by simp [oddsB]) (by simp [oddsB]) (by simp [oddsB]) (out2 D1 (.lst []) (.lst [])).1 (out2 D1 (.lst []) (.lst [])).2 fun d M2 hd D2 F2 => ?_
  have hg : GoodB i j (M1 ++ [Cell.lst [.int 1], Cell.dK [], Cell.lst (oddsB M1.length (M1.length + 1))]) tp d := goodB_odds ht (D1.out).1 (D1.out).2 (by simp) (out1 D1 (.lst [])).1 (out1 D1 (.lst [])).2 (by simp) d hd
  exact h d M2 (hg.fr F2) ((F1.tr (Fr.app i j _ _)).tr F2) D2
theorem p14 {s0 s2 s4 s5 s6 s7 s9 s10 s11 s12 s13 s14 s15 s16 s17 s18 s19 s20 : Option D} {M : Mem} {D0 : EndsD} {E : KE'} {f o nl nd : Nat} (hD : Dk i j (f + 2) M) (hw : WsOk ws)
    (ho : M[o]? = some (.lst (oddsA nl nd))) (hoi : o ≠ i) (hoj : o ≠ j) (hl1 : nl ≠ i) (hl2 : nl ≠ j) (hl : M[nl]? = some (.lst (ws.map D.int))) (hd1 : nd ≠ i) (hd2 : nd ≠ j) (hd : M[nd]? = some (.dK []))
    (h : ∀ a M', GoodA i j M' ws a → Fr i j M M' → Dk i j f M' → D0.nx [s0, some (.obj i), s2, some (vI ws), s4, s5, s6, s7, some (.obj o), s9, s10, s11, s12, s13, some a, s15, s16, s17, s18, s19, s20] M') :
    P14 D0 E [s0, some (.obj i), s2, some (vI ws), s4, s5, s6, s7, some (.obj o), s9, s10, s11, s12, s13, s14, s15, s16, s17, s18, s19, s20] M := by
  simp [P14]
  refine drawB (f := f + 1) hD (fun M1 F1 D1 => ?_) fun M1 F1 D1 => h _ _ (goodA_self hw) F1 (D1.le (by omega))
  refine p__law_pick_l (f := f) (ds := oddsA nl nd) D1 (F1.at hoi hoj ho) (by simp [oddsA]) (by simp [oddsA]) hoi hoj fun d M2 hd' D2 F2 => ?_
  have hg : GoodA i j M1 ws d := goodA_odds hw hl1 hl2 (F1.at hl1 hl2 hl) hd1 hd2 (F1.at hd1 hd2 hd) d hd'
  exact h d M2 (hg.fr F2) (F1.tr F2) D2
theorem p8 {s0 s2 s4 s5 s6 s7 s8 s9 s10 s11 s12 s13 s14 s15 s16 s17 s18 s19 s20 : Option D} {M : Mem} {D0 : EndsD} {E : KE'} {f : Nat} (hD : Dk i j f M) (hw : WsOk ws)
    (h : ∀ o nl nd M', M'[o]? = some (.lst (oddsA nl nd)) → o ≠ i → o ≠ j → nl ≠ i → nl ≠ j → M'[nl]? = some (.lst (ws.map D.int)) → nd ≠ i → nd ≠ j → M'[nd]? = some (.dK []) → Dk i j f M' → D0.nx [s0, some (.obj i), s2, some (vI ws), s4, s5, s6, s7, some (.obj o), s9, s10, s11, s12, s13, s14, s15, s16, s17, s18, s19, s20] M') :
    P8 D0 E [s0, some (.obj i), s2, some (vI ws), s4, s5, s6, s7, s8, s9, s10, s11, s12, s13, s14, s15, s16, s17, s18, s19, s20] M := by
  have z1 : 1 ≤ sizeLine := by rw [sizeLine_eq]; omega
  have z2 : 2 ≤ sizeLine := by rw [sizeLine_eq]; omega
  have z6 : 12 ≤ sizeLine := by rw [sizeLine_eq]; omega
  simp [P8, z1, z2, z6]
  refine lstOfD_tup.mpr ?_
  have e : M ++ [Cell.lst (ws.map D.int)] ++ [Cell.dK [], Cell.lst (oddsA M.length (M.length + 1))] = M ++ [Cell.lst (ws.map D.int), Cell.dK [], Cell.lst (oddsA M.length (M.length + 1))] := by simp
  have := h (M.length + 2) M.length (M.length + 1) (M ++ [Cell.lst (ws.map D.int), Cell.dK [], Cell.lst (oddsA M.length (M.length + 1))]) (by simp) (out2 hD (.lst []) (.lst [])).1 (out2 hD (.lst []) (.lst [])).2 hD.out.1 hD.out.2 (by simp) (out1 hD (.lst [])).1 (out1 hD (.lst [])).2 (by simp) (hD.app _)
  rw [← e] at this
  simpa [oddsA] using this
theorem lwa2 {ns : List Int} {y2 y6 y8 y9 y10 y11 y12 y13 y14 y15 y16 y18 y19 y20 : Option D} {M : Mem} {D0 : EndsD} {E : KE'} {f : Nat} (hD : Dk i j (f + 6) M) (hw : WsOk ws) (ht : TpOk tp) (hu : u < 2 ^ 600)
    (h : ∀ M' y8 y9 y10 y11 y12 y13 y14 y15 y16 y20, Dk i j f M' → D0.nx [some (.scr ns), some (.obj i), y2, some (vI ws), some (vI tp), some (.int u), y6, some (dueV ws tp u), y8, y9, y10, y11, y12, y13, y14, y15, y16, some (.int turn), y18, y19, y20] M') :
    LWA2 C D0 E [some (.scr ns), some (.obj i), y2, some (vI ws), some (vI tp), some (.int u), y6, some (dueV ws tp u), y8, y9, y10, y11, y12, y13, y14, y15, y16, some (.int turn), y18, y19, y20] M := by
  have hu7 : u < 2 ^ 700 := Nat.lt_of_lt_of_le hu (Nat.pow_le_pow_right (by decide) (by decide))
  rw [lwa2_eq]
  refine p8 (f := f + 6) hD hw fun o nl nd M1 ho hoi hoj hl1 hl2 hl hd1 hd2 hd D1 => ?_
  refine p14 (f := f + 4) D1 hw ho hoi hoj hl1 hl2 hl hd1 hd2 hd fun a M2 ga F2 D2 => ?_
  refine p15 (f := f + 2) D2 ht fun b M3 gb F3 D3 => ?_
  refine p16 (f := f) D3 hu7 fun c M4 gc F4 D4 => ?_
  obtain ⟨ta, va, ea, fa⟩ := (ga.fr F3).fr F4
  obtain ⟨tb, vb, eb, fb⟩ := gb.fr F4
  obtain ⟨tc, vc, ec, fc⟩ := gc
  exact lwa3 D4 hw ht hu va vb vc ea eb ec fa fb fc fun M' y9 y10 y11 y12 y13 y20 D' => h M' _ _ _ _ _ _ _ _ _ _ D'
end
end Z13
set_option Elab.async false
set_option linter.all false
set_option maxRecDepth 100000
set_option maxHeartbeats 1000000
namespace Z13
open PySem PySem.Spec PyProof.Rows L2 GxR Gn Dl Wn
section
variable {C : Nat → Addr} {i j : Nat} {ws tp : List Int} {u turn : Nat}
theorem p_draw_good {M : Mem} {Q : KD} {E : KE'} (hn : ∀ w ∈ ws, 0 ≤ w) (hp : 0 < ws.sum) (ht : ∀ w ∈ tp, 0 ≤ w) (hq : ∀ G, Q (dueV ws tp u) (M ++ G)) : sp_draw C [vI ws, vI tp, .int u] M Q E := by
  have wa : wtB (vI ws) = true := by rw [wtB_vI hn]; simpa using hp
  have wb : tapB (vI tp) = true := tapB_vI ht
  have wc : okI (.int (u : Int)) = true := by simp [okI]
  refine p_draw_any (knI ws M) (knI tp M) ⟨"int", rfl⟩ (fun e => by rw [wa] at e; cases e) (fun _ e => by rw [wb] at e; cases e) (fun _ _ e => by rw [wc] at e; cases e) fun ws' tp' u' h1 h2 h3 _ _ _ _ G => ?_
  have e1 := vI_inj h1
  have e2 := vI_inj h2
  have e3 : u' = u := by injection h3 with h3; omega
  subst e1 e2 e3
  exact hq G
theorem due_ok (hw : WsOk ws) (hu : u < 2 ^ 600) : ∃ ds p, dueV ws tp u = .tup ds ∧ Pu (.tup ds) p ∧ Sz 1000 1 p := by
  refine ⟨_, _, rfl, Pu.tup (.cons (Pu.int _) (.cons (Pu.int _) .nil)), ?_⟩
  have r0 : 0 ≤ numAt tp u % ws.sum := Int.emod_nonneg _ (by have := hw.pos; omega)
  have r1 : numAt tp u % ws.sum < ws.sum := Int.emod_lt_of_pos _ hw.pos
  have hk := tkn_lt r0 r1
  have hl := hw.len
  have b1 : (((tkn ws (numAt tp u % ws.sum) : Nat) : Int)).natAbs < 2 ^ 700 := by
    rw [Int.natAbs_natCast]
    exact Nat.lt_of_lt_of_le (by omega : _ < 2 ^ 4) (Nat.pow_le_pow_right (by decide) (by decide))
  have b2 : (((u : Int) + 1)).natAbs < 2 ^ 700 := by
    have e : ((u : Int) + 1) = ((u + 1 : Nat) : Int) := rfl
    rw [e, Int.natAbs_natCast]
    have : (2 : Nat) ^ 600 + 1 ≤ 2 ^ 700 := by decide +kernel
    omega
  refine (Sz.tup (k := 213) (d := 0) (m := 2) (fun p hp => by
    simp at hp
    rcases hp with rfl | rfl
    · exact sz_big b1
    · exact sz_big b2) (by simp)).mono (by decide) (by decide)
theorem lwa1 {ns : List Int} {y2 y6 y8 y9 y10 y11 y12 y13 y14 y15 y16 y18 y19 y20 : Option D} {M : Mem} {D0 : EndsD} {E : KE'} {f : Nat} (hD : Dk i j (f + 6) M) (hw : WsOk ws) (ht : TpOk tp) (hu : u < 2 ^ 600)
    (h : ∀ M' y8 y9 y10 y11 y12 y13 y14 y15 y16 y20, Dk i j f M' → D0.nx [some (.scr ns), some (.obj i), y2, some (vI ws), some (vI tp), some (.int u), y6, some (dueV ws tp u), y8, y9, y10, y11, y12, y13, y14, y15, y16, some (.int turn), y18, y19, y20] M') :
    LWA1 C D0 E [some (.scr ns), some (.obj i), y2, some (vI ws), some (vI tp), some (.int u), y6, some (dueV ws tp u), y8, y9, y10, y11, y12, y13, y14, y15, y16, some (.int turn), y18, y19, y20] M := by
  obtain ⟨ds, p, ed, hp, hs⟩ := due_ok (tp := tp) hw hu
  have z2 : 2 ≤ sizeLine := by rw [sizeLine_eq]; omega
  simp [LWA1]
  refine p_draw_good hw.nn hw.pos ht.nn fun G1 => ?_
  refine ⟨rfl, p_draw_good hw.nn hw.pos ht.nn fun G2 => ⟨z2, ?_⟩⟩
  have hp2 : Pu (.tup [dueV ws tp u, dueV ws tp u]) (.tuple [p, p]) := by rw [ed]; exact Pu.tup (.cons hp (.cons hp .nil))
  have hs2 : Sz (2 * (1000 + 2) + 3) (1 + 1) (.tuple [p, p]) := Sz.tup (fun q hq => by simp at hq; subst hq; exact hs) (by simp)
  refine repr_tupL hp2 hs2 (by rw [sizeLine_eq]; omega) (by decide) ⟨z2, repr_tupL hp2 hs2 (by rw [sizeLine_eq]; omega) (by decide) ?_⟩
  refine eqA_str.mpr ?_
  refine .inl ⟨by simp, ?_⟩
  exact lwa2 ((hD.app G1).app G2) hw ht hu h
end
end Z13
set_option Elab.async false
set_option linter.all false
set_option maxRecDepth 100000
set_option maxHeartbeats 1000000
namespace Z13
open PySem PySem.Spec PyProof.Rows L2 GxR Gn Dl Wn
def P2 : TSd := (dSet 2 (dCall 2 sp__law_pick (dCons (dVar 1) (dCons (dLst (dCons (dC (.int 1)) (dCons (dOp powD (dC (.int 10)) (dC (.int 20))) (dNil)))) (dNil)))))
def P3 : TSd := (dSet 3 (dCB tupOfD (dCons (dLc (dWalk (dCall 3 sp__law_drawn_weights (dCons (dVar 1) (dCons (dOp addD (dC (.int 1)) (dCall 2 sp__law_draw (dCons (dVar 1) (dCons (dC (.int 8)) (dNil))))) (dCons (dCall 2 sp__law_pick (dCons (dVar 1) (dCons (dLst (dCons (dC (.int 9)) (dCons (dOp powD (dC (.int 10)) (dC (.int 8))) (dNil)))) (dNil)))) (dNil)))))) (dGN 18) (dYes) (dOp mulA (dVar 2) (dVar 18)) [18]) (dNil))))
def P4 : TSd := (dSet 4 (dCB tupOfD (dCons (dLc (dRange1 (dCons (dCall 2 sp__law_draw (dCons (dVar 1) (dCons (dC (.int 6)) (dNil)))) (dNil))) (dGN 19) (dYes) (dOp addD (dCall 2 sp__law_draw (dCons (dVar 1) (dCons (dCall 2 sp__law_pick (dCons (dVar 1) (dCons (dLst (dCons (dC (.int 3)) (dCons (dC (.int 40)) (dCons (dOp powD (dC (.int 10)) (dC (.int 7))) (dNil))))) (dNil)))) (dNil)))) (dCall 2 sp__law_pick (dCons (dVar 1) (dCons (dLst (dCons (dC (.int 0)) (dCons (dOp mulA (dVar 2) (dCall 2 sp__law_draw (dCons (dVar 1) (dCons (dOp powD (dC (.int 10)) (dC (.int 6))) (dNil))))) (dNil)))) (dNil))))) [19]) (dNil))))
def P5 : TSd := (dSet 5 (dCall 2 sp__law_pick (dCons (dVar 1) (dCons (dOp addD (dOp mulA (dLst (dCons (dCall 2 sp__law_draw (dCons (dVar 1) (dCons (dOp addD (dCB lenD (dCons (dVar 4) (dNil))) (dC (.int 3))) (dNil)))) (dNil))) (dC (.int 3))) (dLst (dCons (dOp powD (dC (.int 10)) (dC (.int 20))) (dNil)))) (dNil)))))
def P6 : TSd := (dSet 6 (dIf (dTest (dOp (cmpD true) (dVar 5) (dCB lenD (dCons (dVar 4) (dNil))))) (dOp modD (dCB intOfD (dCons (dOp ixA (dVar 4) (dVar 5)) (dNil))) (dCB sumHD (dCons (dVar 3) (dNil)))) (dC (.int 0))))
def P7 : TSd := (dSet 7 (dTup (dCons (dCall 2 sp__law_taken (dCons (dVar 3) (dCons (dVar 6) (dNil)))) (dCons (dOp addD (dVar 5) (dC (.int 1))) (dNil)))))
theorem lwa0_eq {C : Nat → Addr} : LWA0 C = dSeq P2 (dSeq P3 (dSeq P4 (dSeq P5 (dSeq P6 (dSeq P7 (LWA1 C)))))) := rfl
section
variable {C : Nat → Addr} {i j : Nat} {ws tp : List Int} {u turn : Nat}
theorem log_le {n : Nat} (h : n < 2 ^ 700) : n.log2 < 701 := by
  by_cases h0 : n = 0
  · subst h0; decide
  · exact (Nat.log2_lt h0).mpr (Nat.lt_of_lt_of_le h (Nat.pow_le_pow_right (by decide) (by decide)))
theorem cw {x y : Int} (h1 : x.natAbs < 2 ^ 700) (h2 : y.natAbs < 2 ^ 700) : CMulW x y := by
  have a := log_le h1
  have b := log_le h2
  show x.natAbs.log2 + y.natAbs.log2 < 1000000
  omega
theorem sum_mul (m : Int) : ∀ ws : List Int, (ws.map (m * ·)).sum = m * ws.sum
  | [] => by simp
  | w :: ws => by simp [sum_mul m ws, Int.mul_add]
theorem big30 : (10 : Nat) ^ 30 < 2 ^ 700 := by decide +kernel
theorem p2 {s0 s2 s3 s4 s5 s6 s7 s8 s9 s10 s11 s12 s13 s14 s15 s16 s17 s18 s19 s20 : Option D} {M : Mem} {D0 : EndsD} {E : KE'} {f : Nat} (hD : Dk i j (f + 1) M)
    (h : ∀ (m : Nat) M', 1 ≤ m → m ≤ 10 ^ 20 → Dk i j f M' → D0.nx [s0, some (.obj i), some (.int m), s3, s4, s5, s6, s7, s8, s9, s10, s11, s12, s13, s14, s15, s16, s17, s18, s19, s20] M') :
    P2 D0 E [s0, some (.obj i), s2, s3, s4, s5, s6, s7, s8, s9, s10, s11, s12, s13, s14, s15, s16, s17, s18, s19, s20] M := by
  simp [P2]
  refine ⟨by unfold CPow; decide, by rw [sizeLine_eq]; omega, ?_⟩
  refine p__law_pick_l (f := f) (ds := [D.int 1, D.int 100000000000000000000]) (hD.app _) (by simp) (by simp) (by simp) hD.out.1 hD.out.2 fun d M2 hd D2 F2 => ?_
  simp at hd
  rcases hd with rfl | rfl
  · exact h 1 M2 (by decide) (by decide) D2
  · exact h 100000000000000000000 M2 (by decide) (by decide) D2
theorem p3 {m : Nat} {s0 s3 s4 s5 s6 s7 s8 s9 s10 s11 s12 s13 s14 s15 s16 s17 s18 s19 s20 : Option D} {M : Mem} {D0 : EndsD} {E : KE'} {f : Nat} (hD : Dk i j (f + 40) M) (hm : 1 ≤ m) (hm2 : m ≤ 10 ^ 20)
    (h : ∀ ws M', WsOk ws → Dk i j f M' → D0.nx [s0, some (.obj i), some (.int m), some (vI ws), s4, s5, s6, s7, s8, s9, s10, s11, s12, s13, s14, s15, s16, s17, s18, s19, s20] M') :
    P3 D0 E [s0, some (.obj i), some (.int m), s3, s4, s5, s6, s7, s8, s9, s10, s11, s12, s13, s14, s15, s16, s17, s18, s19, s20] M := by
  simp [P3]
  refine p__law_draw (f := f + 39) hD (by decide) (by decide) fun r M1 r0 r1 D1 F1 => addD_int.mpr ⟨by unfold CPow; decide, by rw [sizeLine_eq]; omega, ?_⟩
  refine p__law_pick_l (f := f + 38) (ds := [D.int 9, D.int 100000000]) (D1.app _) (by simp) (by simp) (by simp) D1.out.1 D1.out.2 fun d M2 hd D2 F2 => ?_
  obtain ⟨most, rfl, hm3, hm4⟩ : ∃ most : Nat, d = .int most ∧ 1 ≤ most ∧ most ≤ 100000000 := by
    simp at hd
    rcases hd with rfl | rfl
    · exact ⟨9, rfl, by decide, by decide⟩
    · exact ⟨100000000, rfl, by decide, by decide⟩
  obtain ⟨w, ew, w1, w2⟩ : ∃ w : Nat, 1 + r = (w : Int) ∧ 1 ≤ w ∧ w ≤ 8 := ⟨(1 + r).toNat, by omega, by omega, by omega⟩
  rw [ew]
  refine p__law_drawn_weights (f := f) (D2.le (by omega)) (by omega) (by omega) hm3 hm4 fun ws0 M3 W D3 F3 => ?_
  refine seqD_tup.mpr ?_
  have hb : ∀ x ∈ ws0, x.natAbs < 2 ^ 700 := fun x hx => by
    have := W.bd x hx
    have : x.natAbs ≤ 100000000 := by omega
    exact Nat.lt_of_le_of_lt (Nat.le_trans this (by decide)) big30
  have hmb : ((m : Nat) : Int).natAbs < 2 ^ 700 := by
    rw [Int.natAbs_natCast]
    exact Nat.lt_of_le_of_lt (Nat.le_trans hm2 (by decide)) big30
  refine lcD_ex (fun x : Int => D.int x) (fun x => D.int ((m : Int) * x)) ws0 M3 (fun _ _ => trivial) (fun x hx M4 Q' e4 k => ?_) (by have := W.len; omega) fun M4 e4 hl => ?_
  · simp
    refine ⟨cw hmb (hb x hx), ?_⟩
    have := k []
    rwa [List.append_nil] at this
  · refine tupOfD_obj.mpr ⟨_, hl, ?_⟩
    have ev : D.tup (ws0.map fun x => D.int ((m : Int) * x)) = vI (ws0.map ((m : Int) * ·)) := by simp [vI]
    rw [ev]
    obtain ⟨G, rfl⟩ := e4
    refine h _ _ ⟨fun y hy => ?_, ?_, fun y hy => ?_, ?_⟩ (D3.app G)
    · obtain ⟨x, hx, rfl⟩ := List.mem_map.mp hy
      exact Int.mul_nonneg (by omega) (W.bd x hx).1
    · rw [sum_mul]
      exact Int.mul_pos (by omega) W.pos
    · obtain ⟨x, hx, rfl⟩ := List.mem_map.mp hy
      have hx1 : x.natAbs ≤ 100000000 := by have := W.bd x hx; omega
      show ((m : Int) * x).natAbs < 2 ^ 700
      rw [Int.natAbs_mul, Int.natAbs_natCast]
      refine Nat.lt_of_le_of_lt (Nat.mul_le_mul hm2 hx1) ?_
      exact Nat.lt_of_le_of_lt (by decide) big30
    · rw [List.length_map, W.len]; omega
theorem p4 {m : Nat} {s0 s3 s4 s5 s6 s7 s8 s9 s10 s11 s12 s13 s14 s15 s16 s17 s18 s19 s20 : Option D} {M : Mem} {D0 : EndsD} {E : KE'} {f : Nat} (hD : Dk i j (f + 30) M) (hm : 1 ≤ m) (hm2 : m ≤ 10 ^ 20)
    (h : ∀ tp M', TpOk tp → Dk i j f M' → D0.nx [s0, some (.obj i), some (.int m), s3, some (vI tp), s5, s6, s7, s8, s9, s10, s11, s12, s13, s14, s15, s16, s17, s18, s19, s20] M') :
    P4 D0 E [s0, some (.obj i), some (.int m), s3, s4, s5, s6, s7, s8, s9, s10, s11, s12, s13, s14, s15, s16, s17, s18, s19, s20] M := by
  have hmb : ((m : Nat) : Int).natAbs < 2 ^ 700 := by
    rw [Int.natAbs_natCast]
    exact Nat.lt_of_le_of_lt (Nat.le_trans hm2 (by decide)) big30
  simp [P4]
  refine p__law_draw (f := f + 29) hD (by decide) (by decide) fun r M1 r0 r1 D1 F1 => ⟨r, rfl, by omega, by omega, ?_⟩
  rw [rngD_map]
  refine lcD_drawn (i := i) (j := j) (c := 4) (f := f) (fun k : Nat => D.int (0 + (k : Int))) (fun x => ∃ t : Int, x = .int t ∧ (0 ≤ t ∧ t ≤ 10 ^ 29)) (List.range r.toNat) M1 (fun _ _ => trivial) (D1.le (by rw [List.length_range]; omega)) (by rw [List.length_range]; omega) (fun k hk g M2 Q' D2 F2 kk => ?_) fun ds M2 q1 q2 D2 F2 hl => ?_
  · simp
    refine ⟨by unfold CPow; decide, by rw [sizeLine_eq]; omega, ?_⟩
    refine p__law_pick_l (f := g + 3) (ds := [D.int 3, D.int 40, D.int 10000000]) (D2.app _) (by simp) (by simp) (by simp) D2.out.1 D2.out.2 fun d M3 hd D3 F3 => ?_
    obtain ⟨b, rfl, hb1, hb2⟩ : ∃ b : Int, d = .int b ∧ 0 < b ∧ b ≤ 10000000 := by
      simp at hd
      rcases hd with rfl | rfl | rfl
      · exact ⟨3, rfl, by decide, by decide⟩
      · exact ⟨40, rfl, by decide, by decide⟩
      · exact ⟨10000000, rfl, by decide, by decide⟩
    refine p__law_draw (f := g + 2) D3 hb1 (by omega) fun t1 M4 a0 a1 D4 F4 => ?_
    refine ⟨by unfold CPow; decide, ?_⟩
    refine p__law_draw (f := g + 1) D4 (by decide) (by decide) fun t2 M5 c0 c1 D5 F5 => ?_
    refine mulA_int.mpr ⟨cw hmb (Nat.lt_of_le_of_lt (by omega : t2.natAbs ≤ 10 ^ 7) (Nat.lt_of_le_of_lt (by decide) big30)), by rw [sizeLine_eq]; omega, ?_⟩
    refine p__law_pick_l (f := g) (ds := [D.int 0, D.int ((m : Int) * t2)]) (D5.app _) (by simp) (by simp) (by simp) D5.out.1 D5.out.2 fun d2 M6 hd2 D6 F6 => ?_
    have hmul : 0 ≤ (m : Int) * t2 ∧ (m : Int) * t2 ≤ 10 ^ 20 * 1000000 := ⟨Int.mul_nonneg (by omega) c0, Int.mul_le_mul (by omega) (by omega) c0 (by decide)⟩
    obtain ⟨v, rfl, v0, v1⟩ : ∃ v : Int, d2 = .int v ∧ 0 ≤ v ∧ v ≤ 10 ^ 20 * 1000000 := by
      simp at hd2
      rcases hd2 with rfl | rfl
      · exact ⟨0, rfl, by decide, by decide⟩
      · exact ⟨_, rfl, hmul.1, hmul.2⟩
    refine addD_int.mpr (kk _ M6 ⟨t1 + v, rfl, by omega, by omega⟩ D6 (((((Fr.app i j _ _).tr F3).tr F4).tr F5).tr ((Fr.app i j _ _).tr F6)))
  · obtain ⟨tp, rfl, ht⟩ := ints_ex q1
    refine tupOfD_obj.mpr ⟨_, hl, ?_⟩
    refine h tp M2 ⟨fun x hx => (ht x hx).1, fun x hx => ?_, ?_⟩ D2
    · have := ht x hx
      have e : x.natAbs ≤ 10 ^ 29 := by omega
      exact Nat.lt_of_le_of_lt (Nat.le_trans e (by decide)) big30
    · rw [List.length_map, List.length_range] at q2
      omega
end
end Z13
set_option Elab.async false
set_option linter.all false
set_option maxRecDepth 100000
set_option maxHeartbeats 1000000
namespace Z13
open PySem PySem.Spec PyProof.Rows L2 GxR Gn Dl Wn
section
variable {C : Nat → Addr} {i j : Nat} {ws tp : List Int} {u turn : Nat}
theorem p5 {s0 s2 s3 s5 s6 s7 s8 s9 s10 s11 s12 s13 s14 s15 s16 s17 s18 s19 s20 : Option D} {M : Mem} {D0 : EndsD} {E : KE'} {f : Nat} (hD : Dk i j (f + 2) M) (ht : TpOk tp)
    (h : ∀ (u : Nat) M', u < 2 ^ 600 → Dk i j f M' → D0.nx [s0, some (.obj i), s2, s3, some (vI tp), some (.int u), s6, s7, s8, s9, s10, s11, s12, s13, s14, s15, s16, s17, s18, s19, s20] M') :
    P5 D0 E [s0, some (.obj i), s2, s3, some (vI tp), s5, s6, s7, s8, s9, s10, s11, s12, s13, s14, s15, s16, s17, s18, s19, s20] M := by
  have hl := ht.len
  have z4 : 4 ≤ sizeLine := by rw [sizeLine_eq]; omega
  simp [P5]
  refine lenD_tup.mpr ?_
  rw [List.length_map]
  refine addD_int.mpr ?_
  refine p__law_draw (f := f + 1) hD (by omega) (by omega) fun r M1 r0 r1 D1 F1 => ⟨by omega, ?_⟩
  refine ⟨[.int r], by simp, by decide, by decide, by simpa using (by omega : 3 ≤ sizeLine), ?_⟩
  refine ⟨by unfold CPow; decide, by omega, ?_⟩
  refine addD_obj.mpr ⟨[.int r, .int r, .int r], [.int 100000000000000000000], by simp, by simp, by simpa using z4, ?_⟩
  have e : ∀ c1 c2 c3 c4 : Cell, M1 ++ [c1] ++ [c2] ++ [c3] ++ [c4] = M1 ++ [c1, c2, c3, c4] := fun _ _ _ _ => by simp
  rw [e]
  have o3 : M1.length + 3 ≠ i ∧ M1.length + 3 ≠ j := by
    have := (D1.app [Cell.lst [], Cell.lst [], Cell.lst []]).out
    rw [List.length_append] at this
    exact this
  have el : (M1 ++ [Cell.lst [D.int r]] ++ [Cell.lst (List.replicate (3 : Int).toNat [D.int r]).flatten] ++ [Cell.lst [D.int 100000000000000000000]]).length = M1.length + 3 := by simp
  rw [el]
  refine p__law_pick_l (f := f) (ds := [.int r, .int r, .int r, .int 100000000000000000000]) (D1.app _) (by simp) (by simp) (by simp) o3.1 o3.2 fun d M2 hd D2 F2 => ?_
  have big : (10 : Nat) ^ 20 < 2 ^ 600 := by decide +kernel
  simp at hd
  rcases hd with rfl | rfl
  · obtain ⟨u, rfl⟩ := Int.eq_ofNat_of_zero_le r0
    exact h u M2 (Nat.lt_trans (by omega : u < 10 ^ 20) big) D2
  · exact h 100000000000000000000 M2 (Nat.lt_of_le_of_lt (by decide) big) D2
theorem p6 {s0 s1 s2 s6 s7 s8 s9 s10 s11 s12 s13 s14 s15 s16 s17 s18 s19 s20 : Option D} {M : Mem} {D0 : EndsD} {E : KE'} (hw : WsOk ws)
    (h : D0.nx [s0, s1, s2, some (vI ws), some (vI tp), some (.int u), some (.int (numAt tp u % ws.sum)), s7, s8, s9, s10, s11, s12, s13, s14, s15, s16, s17, s18, s19, s20] M) :
    P6 D0 E [s0, s1, s2, some (vI ws), some (vI tp), some (.int u), s6, s7, s8, s9, s10, s11, s12, s13, s14, s15, s16, s17, s18, s19, s20] M := by
  have hp := hw.pos
  simp [P6]
  refine lenD_tup.mpr ?_
  rw [List.length_map]
  refine cmpD_int.mpr ?_
  by_cases hu : u < tp.length
  · refine .inr ⟨by simpa using hu, ?_⟩
    refine ixA_tup.mpr ⟨.int (numAt tp u), atI_nat (by rw [List.getElem?_map, List.getElem?_eq_getElem hu]; unfold numAt; simp [List.getD_eq_getElem?_getD, hu]), ?_⟩
    refine intOfD_int.mpr ?_
    refine sumHD_tup.mpr ⟨_, intsOf_map _, ?_⟩
    refine intD_int.mpr ⟨by omega, ?_⟩
    rw [Int.fmod_eq_emod_of_nonneg _ (by omega)]
    exact h
  · refine .inl ⟨by simpa using hu, ?_⟩
    have e : numAt tp u = 0 := by unfold numAt; simp [List.getD_eq_getElem?_getD, List.getElem?_eq_none (Nat.le_of_not_lt hu)]
    rw [e] at h
    simpa using h
theorem p7 {s0 s1 s2 s4 s7 s8 s9 s10 s11 s12 s13 s14 s15 s16 s17 s18 s19 s20 : Option D} {M : Mem} {D0 : EndsD} {E : KE'} (hw : WsOk ws)
    (h : D0.nx [s0, s1, s2, some (vI ws), s4, some (.int u), some (.int (numAt tp u % ws.sum)), some (dueV ws tp u), s8, s9, s10, s11, s12, s13, s14, s15, s16, s17, s18, s19, s20] M) :
    P7 D0 E [s0, s1, s2, some (vI ws), s4, some (.int u), some (.int (numAt tp u % ws.sum)), s7, s8, s9, s10, s11, s12, s13, s14, s15, s16, s17, s18, s19, s20] M := by
  have r0 : 0 ≤ numAt tp u % ws.sum := Int.emod_nonneg _ (by have := hw.pos; omega)
  have r1 : numAt tp u % ws.sum < ws.sum := Int.emod_lt_of_pos _ hw.pos
  simp [P7]
  refine p__law_taken r0 r1 ⟨by rw [sizeLine_eq]; omega, ?_⟩
  exact h
/-- one turn -/
theorem lwa0 {ns : List Int} {y2 y3 y4 y5 y6 y7 y8 y9 y10 y11 y12 y13 y14 y15 y16 y18 y19 y20 : Option D} {M : Mem} {D0 : EndsD} {E : KE'} {f : Nat} (hD : Dk i j (f + 100) M)
    (h : ∀ M' y2 y3 y4 y5 y6 y7 y8 y9 y10 y11 y12 y13 y14 y15 y16 y18 y19 y20, Dk i j f M' → D0.nx [some (.scr ns), some (.obj i), y2, y3, y4, y5, y6, y7, y8, y9, y10, y11, y12, y13, y14, y15, y16, some (.int turn), y18, y19, y20] M') :
    LWA0 C D0 E [some (.scr ns), some (.obj i), y2, y3, y4, y5, y6, y7, y8, y9, y10, y11, y12, y13, y14, y15, y16, some (.int turn), y18, y19, y20] M := by
  rw [lwa0_eq]
  refine p2 (f := f + 99) hD fun m M1 m1 m2 D1 => ?_
  refine p3 (f := f + 59) D1 m1 m2 fun ws M2 hw D2 => ?_
  refine p4 (f := f + 29) D2 m1 m2 fun tp M3 ht D3 => ?_
  refine p5 (f := f + 27) D3 ht fun u M4 hu D4 => ?_
  refine p6 hw ?_
  refine p7 hw ?_
  exact lwa1 (f := f) (D4.le (by omega)) hw ht hu fun M' y8 y9 y10 y11 y12 y13 y14 y15 y16 y20 D' => h M' _ _ _ _ _ _ _ _ _ _ _ _ _ _ _ _ _ _ D'
end
end Z13
set_option Elab.async false
set_option linter.all false
set_option maxRecDepth 100000
set_option maxHeartbeats 1000000
namespace Z13
open PySem PySem.Spec PyProof.Rows L2 GxR Gn Dl Wn
theorem p_dw {i j f wide most : Nat} {M : Mem} {Q : KD} {E : KE'} (h : Dk i j (f + 2 + 3 * wide) M) (hw : 0 < wide) (hw2 : wide ≤ 900) (hm : 1 ≤ most) (hm2 : most ≤ 100000000) (hq : ∀ ws M', WOk wide ws → (∀ x ∈ ws, x ≤ (most : Int) + 9) → Dk i j f M' → Fr i j M M' → Q (vI ws) M') : sp__law_drawn_weights [.obj i, .int wide, .int most] M Q E := by
  simp [sp__law_drawn_weights, r__law_drawn_weights, rngD_map]
  refine ⟨by omega, ?_⟩
  refine lcD_drawn (i := i) (j := j) (c := 3) (f := f + 2) (fun i : Nat => D.int (i : Int)) (fun x => ∃ t : Int, x = .int t ∧ (0 ≤ t ∧ t ≤ 100000000 ∧ t ≤ (most : Int) + 9)) (List.range wide) M (fun _ _ => trivial) (by simpa using h) (by simp; omega) (fun a ha g M1 Q' D2 F2 k => ?_) fun ds M2 p1 p2 D2 F2 e2 => ?_
  · simp
    refine p__law_draw (f := g + 2) D2 (by decide) (by decide) fun r1 M3 a0 a1 D3 F3 => ?_
    refine addD_int.mpr ?_
    refine p__law_draw (f := g + 1) D3 (by omega) (by omega) fun r2 M4 b0 b1 D4 F4 => ?_
    refine addD_int.mpr ?_
    refine ⟨z1k, ?_⟩
    have D5 : Dk i j (g + 1) (M4 ++ [.lst [.int 0, .int 1, .int (1 + r1), .int (1 + r2)]]) := D4.app _
    have hl5 : (M4 ++ [Cell.lst [.int 0, .int 1, .int (1 + r1), .int (1 + r2)]])[M4.length]? = some (.lst [.int 0, .int 1, .int (1 + r1), .int (1 + r2)]) := by simp
    refine p__law_pick_l (f := g) (n := M4.length) D5 hl5 (by simp) (by simp) D4.out.1 D4.out.2 fun d M5 hd D6 F6 => k d M5 ?_ D6 (((F3.tr F4).tr (Fr.app _ _ _ _)).tr F6)
    simp only [List.mem_cons, List.not_mem_nil, or_false] at hd
    rcases hd with rfl | rfl | rfl | rfl
    all_goals exact ⟨_, rfl, by omega⟩
  · obtain ⟨ns, rfl, hn⟩ := ints_ex p1
    simp at p2
    have nn : ∀ x ∈ ns, 0 ≤ x := fun x hx => (hn x hx).1
    have hs0 := sum_nn nn
    simp [e2, intsOf_map]
    by_cases hz : 0 < ns.sum
    · refine .inr ⟨hz, ?_⟩
      exact hq ns M2 ⟨p2, fun x hx => ⟨(hn x hx).1, (hn x hx).2.1⟩, hz⟩ (fun x hx => (hn x hx).2.2) (D2.le (by omega)) F2
    · refine .inl ⟨by omega, z1k, mulA_tup (by simp) (by omega) (by omega) (by simp) ?_⟩
      have en : ((wide : Int) - 1).toNat = wide - 1 := by omega
      rw [en]
      have er : (List.replicate (wide - 1) [D.int 0]).flatten = (List.replicate (wide - 1) 0).map D.int := by rw [List.flatten_replicate_singleton, List.map_replicate]
      rw [er]
      refine p__law_draw (f := f + 1) D2 (by decide) (by decide) fun r M3 a0 a1 D3 F3 => ?_
      refine addD_int.mpr ⟨z1k, addD_tup.mpr ⟨small_le (by simp; omega), ?_⟩⟩
      have e3 : (List.replicate (wide - 1) 0).map D.int ++ [D.int (1 + r)] = (List.replicate (wide - 1) 0 ++ [1 + r]).map D.int := by simp
      rw [e3]
      refine hq (List.replicate (wide - 1) 0 ++ [1 + r]) M3 ⟨by simp; omega, fun x hx => ?_, by rw [sum_rep]; omega⟩ (fun x hx => ?_) (D3.le (by omega)) (F2.tr F3)
      · rcases List.mem_append.mp hx with hx | hx
        · rw [List.eq_of_mem_replicate hx]; decide
        · rw [List.mem_singleton.mp hx]; omega
      · rcases List.mem_append.mp hx with hx | hx
        · rw [List.eq_of_mem_replicate hx]; omega
        · rw [List.mem_singleton.mp hx]; omega
def NRA0 (C : Nat → Addr) : TSd := (dSeq (dSet 3 (dCall 3 (sp_draw C) (dCons (dVar 1) (dCons (dTup (dCons (dC (.int 7)) (dCons (dOp addD (dVar 2) (dOp mulA (dCB sumHD (dCons (dVar 1) (dNil))) (dCall 2 sp__law_pick (dCons (dVar 0) (dCons (dLst (dCons (dC (.int 0)) (dCons (dC (.int 1)) (dCons (dOp powD (dC (.int 10)) (dC (.int 9))) (dNil))))) (dNil)))))) (dNil)))) (dCons (dC (.int 1)) (dNil)))))) (dIfS (dTest (dOp (eqA true) (dCB reprD (dCons (dVar 3) (dNil))) (dCB reprD (dCons (dTup (dCons (dCall 2 sp__law_taken (dCons (dVar 1) (dCons (dVar 2) (dNil)))) (dCons (dC (.int 2)) (dNil)))) (dNil))))) (dRet (dC (.bl false))) (dNext)))
theorem law_are_all_numbers_right_eq {C : Nat → Addr} : r__law_are_all_numbers_right C = (dSeq (dSet 1 (dCall 3 sp__law_drawn_weights (dCons (dVar 0) (dCons (dOp addD (dC (.int 1)) (dCall 2 sp__law_draw (dCons (dVar 0) (dCons (dC (.int 6)) (dNil))))) (dCons (dC (.int 9)) (dNil)))))) (dSeq (dFor (dRange1 (dCons (dCB sumHD (dCons (dVar 1) (dNil))) (dNil))) (dGN 2) (NRA0 C)) (dRet (dC (.bl true))))) := rfl
section
variable {C : Nat → Addr} {i j : Nat} {ws : List Int}
structure W9 (ws : List Int) : Prop where
  nn : ∀ w ∈ ws, 0 ≤ w
  bd : ∀ w ∈ ws, w ≤ 18
  len : ws.length ≤ 6
  pos : 0 < ws.sum
theorem sum_bd {B : Int} : ∀ {ws : List Int}, (∀ w ∈ ws, w ≤ B) → ws.sum ≤ B * ws.length
  | [], _ => by simp
  | w :: ws, h => by
    have h1 := h w List.mem_cons_self
    have h2 := sum_bd (ws := ws) fun x hx => h x (List.mem_cons_of_mem _ hx)
    rw [List.sum_cons, List.length_cons]
    have : B * ((ws.length + 1 : Nat) : Int) = B * ws.length + B := by rw [Int.natCast_add, Int.mul_add]; simp
    omega
theorem W9.sum (h : W9 ws) : ws.sum ≤ 108 := by
  have := sum_bd h.bd
  have := h.len
  omega
theorem W9.ok (h : W9 ws) : WsOk ws := ⟨h.nn, h.pos, fun w hw => by
  have h1 := h.nn w hw
  have h2 := h.bd w hw
  exact Nat.lt_of_le_of_lt (Nat.le_trans (by omega : w.natAbs ≤ 18) (by decide)) big30, by have := h.len; omega⟩
theorem nr1 {n : Nat} {y3 : Option D} {M : Mem} {D0 : EndsD} {E : KE'} {f : Nat} (hD : Dk i j (f + 1) M) (hw : W9 ws) (hn : (n : Int) < ws.sum)
    (h : ∀ M' y3, Dk i j f M' → D0.nx [some (.obj i), some (vI ws), some (.int n), y3] M') : NRA0 C D0 E [some (.obj i), some (vI ws), some (.int n), y3] M := by
  have hs := hw.sum
  have hp := hw.pos
  simp [NRA0]
  refine sumHD_tup.mpr ⟨_, intsOf_map _, ?_⟩
  refine ⟨by unfold CPow; decide, by rw [sizeLine_eq]; omega, ?_⟩
  refine p__law_pick_l (f := f) (ds := [.int 0, .int 1, .int 1000000000]) (hD.app _) (by simp) (by simp) (by simp) hD.out.1 hD.out.2 fun d M2 hd D2 F2 => ?_
  obtain ⟨c, rfl, c0, c1⟩ : ∃ c : Int, d = .int c ∧ 0 ≤ c ∧ c ≤ 1000000000 := by
    simp at hd
    rcases hd with rfl | rfl | rfl
    · exact ⟨0, rfl, by decide, by decide⟩
    · exact ⟨1, rfl, by decide, by decide⟩
    · exact ⟨1000000000, rfl, by decide, by decide⟩
  have hmul : 0 ≤ ws.sum * c := Int.mul_nonneg (by omega) c0
  refine mulA_int.mpr ⟨cw (Nat.lt_of_le_of_lt (Nat.le_trans (by omega : ws.sum.natAbs ≤ 108) (by decide)) big30) (Nat.lt_of_le_of_lt (Nat.le_trans (by omega : c.natAbs ≤ 1000000000) (by decide)) big30), ?_⟩
  refine addD_int.mpr ⟨by rw [sizeLine_eq]; omega, ?_⟩
  have ev : D.tup [D.int 7, D.int ((n : Int) + ws.sum * c)] = vI [7, (n : Int) + ws.sum * c] := rfl
  rw [ev]
  refine p_draw_good (u := 1) hw.nn hp (by simp; omega) fun G => ?_
  have en : numAt [7, (n : Int) + ws.sum * c] 1 % ws.sum = n := by
    show ((n : Int) + ws.sum * c) % ws.sum = n
    rw [Int.add_mul_emod_self_left]
    exact Int.emod_eq_of_lt (by omega) hn
  obtain ⟨ds, p, ed, hpu, hsz⟩ := due_ok (tp := [7, (n : Int) + ws.sum * c]) (u := 1) hw.ok (by decide +kernel)
  rw [ed]
  refine repr_tupL hpu hsz (by rw [sizeLine_eq]; omega) (by decide) ?_
  refine p__law_taken (by omega) hn ⟨by rw [sizeLine_eq]; omega, ?_⟩
  have e2 : D.tup [D.int (tkn ws (n : Int) : Nat), D.int 2] = .tup ds := by
    rw [← ed]
    unfold dueV
    rw [en]
    rfl
  rw [e2]
  refine repr_tupL hpu hsz (by rw [sizeLine_eq]; omega) (by decide) ?_
  refine eqA_str.mpr (.inl ⟨by simp, ?_⟩)
  exact h _ _ (D2.app G)
theorem nr_go {D0 : EndsD} {E : KE'} {f : Nat} (hw : W9 ws) : ∀ (l : List Nat) (y2 y3 : Option D) (M : Mem), (∀ n ∈ l, (n : Int) < ws.sum) → Dk i j (f + l.length) M → (∀ M' y2 y3, Dk i j f M' → D0.nx [some (.obj i), some (vI ws), y2, y3] M') →
    forD (dGN 2) (NRA0 C) (fun _ => True) D0 E (l.map fun k : Nat => D.int (k : Int)) [some (.obj i), some (vI ws), y2, y3] M
  | [], y2, y3, M, _, hD, h => ⟨trivial, h M y2 y3 hD⟩
  | n :: l, y2, y3, M, hl, hD, h => ⟨trivial, nr1 (f := f + l.length) hD hw (hl n List.mem_cons_self) fun M' y3' D' => nr_go hw l _ y3' M' (fun k hk => hl k (List.mem_cons_of_mem _ hk)) D' h⟩
theorem p_nr {M : Mem} {Q : KD} {E : KE'} {f : Nat} (hD : Dk i j (f + 200) M) (h : ∀ M', Dk i j f M' → Q (.bl true) M') : sp__law_are_all_numbers_right C [.obj i] M Q E := by
  simp only [sp__law_are_all_numbers_right]
  rw [law_are_all_numbers_right_eq]
  simp
  refine p__law_draw (f := f + 199) hD (by decide) (by decide) fun r M1 r0 r1 D1 F1 => addD_int.mpr ?_
  obtain ⟨w, ew, w1, w2⟩ : ∃ w : Nat, 1 + r = (w : Int) ∧ 1 ≤ w ∧ w ≤ 6 := ⟨(1 + r).toNat, by omega, by omega, by omega⟩
  rw [ew]
  refine p_dw (f := f + 120) (most := 9) (D1.le (by omega)) (by omega) (by omega) (by decide) (by decide) fun ws M2 W hb D2 F2 => ?_
  have hw : W9 ws := ⟨fun x hx => (W.bd x hx).1, fun x hx => by have := hb x hx; omega, by rw [W.len]; exact w2, W.pos⟩
  have hs := hw.sum
  refine sumHD_tup.mpr ⟨_, intsOf_map _, ?_⟩
  have hp := hw.pos
  refine ⟨ws.sum, rfl, by omega, by omega, ?_⟩
  rw [rngD_map]
  have er : (List.range ws.sum.toNat).map (fun k : Nat => D.int (0 + (k : Int))) = (List.range ws.sum.toNat).map (fun k : Nat => D.int (k : Int)) := by simp
  rw [er]
  exact nr_go (f := f) hw _ _ _ _ (fun n hn => by have := List.mem_range.mp hn; omega) (D2.le (by rw [List.length_range]; omega)) fun M' y2 y3 D' => h M' D'
end
end Z13
set_option Elab.async false
set_option linter.all false
set_option maxRecDepth 100000
set_option maxHeartbeats 1000000
namespace Z13
open PySem PySem.Spec PyProof.Rows L2 GxR Gn Dl Wn
section
variable {C : Nat → Addr} {i j : Nat}
theorem law_go {ns : List Int} {D0 : EndsD} {E : KE'} {f : Nat} : ∀ (l : List Nat) (y2 y3 y4 y5 y6 y7 y8 y9 y10 y11 y12 y13 y14 y15 y16 y17 y18 y19 y20 : Option D) (M : Mem), Dk i j (f + 100 * l.length) M →
    (∀ M' y2 y3 y4 y5 y6 y7 y8 y9 y10 y11 y12 y13 y14 y15 y16 y17 y18 y19 y20, Dk i j f M' → D0.nx [some (.scr ns), some (.obj i), y2, y3, y4, y5, y6, y7, y8, y9, y10, y11, y12, y13, y14, y15, y16, y17, y18, y19, y20] M') →
    forD (dGN 17) (LWA0 C) (fun _ => True) D0 E (l.map fun k : Nat => D.int (k : Int)) [some (.scr ns), some (.obj i), y2, y3, y4, y5, y6, y7, y8, y9, y10, y11, y12, y13, y14, y15, y16, y17, y18, y19, y20] M
  | [], y2, y3, y4, y5, y6, y7, y8, y9, y10, y11, y12, y13, y14, y15, y16, y17, y18, y19, y20, M, hD, h => ⟨trivial, h M _ _ _ _ _ _ _ _ _ _ _ _ _ _ _ _ _ _ _ hD⟩
  | n :: l, y2, y3, y4, y5, y6, y7, y8, y9, y10, y11, y12, y13, y14, y15, y16, y17, y18, y19, y20, M, hD, h =>
    ⟨trivial, lwa0 (turn := n) (f := f + 100 * l.length) (hD.le (by rw [List.length_cons]; omega)) fun M' z2 z3 z4 z5 z6 z7 z8 z9 z10 z11 z12 z13 z14 z15 z16 z18 z19 z20 D' => law_go l z2 z3 z4 z5 z6 z7 z8 z9 z10 z11 z12 z13 z14 z15 z16 _ z18 z19 z20 M' D' h⟩
end
theorem law_true (cs : Nat → Addr) (ns : List Int) (hl : ns.length ≤ 63) : sp_law cs [.scr ns] [] (fun d _ => d = .bl true) E00 := by
  simp only [sp_law]
  rw [law_eq]
  simp
  refine p__law_deck hl fun i j M1 D1 => ?_
  refine p_nr (f := 999800) D1 fun M2 D2 => ?_
  refine ⟨rfl, ?_⟩
  rw [rngD_map]
  have er : (List.range 6).map (fun k : Nat => D.int (0 + (k : Int))) = (List.range 6).map (fun k : Nat => D.int (k : Int)) := by simp
  rw [er]
  exact law_go (f := 0) _ _ _ _ _ _ _ _ _ _ _ _ _ _ _ _ _ _ _ _ _ (D2.le (by rw [List.length_range]; omega)) fun _ _ _ _ _ _ _ _ _ _ _ _ _ _ _ _ _ _ _ _ _ => rfl
end Z13
set_option Elab.async false
set_option linter.all false
set_option maxRecDepth 100000
set_option maxHeartbeats 4000000
namespace Z13
open PySem PySem.Spec PyProof.Rows L2 GxR Gn Dl
def tabNames : List Str := ["are_weights", "is_tape", "law"]
theorem all_mk (hl : ∀ (cs : Nat → Addr) (ns : List Int), ns.length ≤ 63 → sp_law cs [.scr ns] [] (fun d _ => d = .bl true) E00) {l : PySem.W.OpenLaw} {w : World} {K : PySem.W.Frag} {h : Heap} {mg : Str → Option Value} {fa f0 f7 f8 f9 f10 f12 f13 f17 f19 f20 f21 f22 f23 f24 f25 f26 f15_0 f15_1 f15_2 f3_0 f4_0 f5_0 C15 C2 C3 C4 C5 : Addr} (X : K.In h) (G : h.Ns mainGlobals mg) (hfa : mg "law" = some (.ref fa)) (own : ∀ x ∈ tabNames, ∀ f, mg x = some (.ref f) → LamX.OwnTab K f h)
    {od0 an0 od7 an7 od8 an8 od9 an9 od10 an10 od12 an12 od13 an13 od17 an17 od19 an19 od20 an20 od21 an21 od22 an22 od23 an23 od24 an24 od25 an25 od26 an26 od15_0 an15_0 od15_1 an15_1 od15_2 an15_2 od3_0 an3_0 od4_0 an4_0 od5_0 an5_0 : Option Addr} {sl0 sl7 sl8 sl9 sl10 sl12 sl13 sl17 sl19 sl20 sl21 sl22 sl23 sl24 sl25 sl26 sl15_0 sl15_1 sl15_2 sl3_0 sl4_0 sl5_0 : Array (Option Value)} {oc0 kV0 dc0 pm0 cd0 ct0 oc7 kV7 dc7 pm7 cd7 ct7 oc8 kV8 dc8 pm8 cd8 ct8 oc9 kV9 dc9 pm9 ct9 oc10 kV10 dc10 pm10 ct10 oc12 kV12 dc12 pm12 cd12 ct12 oc13 kV13 dc13 pm13 cd13 ct13 oc17 kV17 dc17 pm17 cd17 ct17 oc19 kV19 dc19 pm19 cd19 ct19 oc20 kV20 dc20 pm20 cd20 ct20 oc21 kV21 dc21 pm21 cd21 ct21 oc22 kV22 dc22 pm22 cd22 ct22 oc23 kV23 dc23 pm23 cd23 ct23 oc24 kV24 dc24 pm24 cd24 ct24 oc25 kV25 dc25 pm25 cd25 ct25 oc26 kV26 dc26 pm26 ct26 oc15_0 kV15_0 dc15_0 pm15_0 cd15_0 ct15_0 oc15_1 kV15_1 dc15_1 pm15_1 cd15_1 ct15_1 oc15_2 kV15_2 dc15_2 pm15_2 cd15_2 ct15_2 oc3_0 kV3_0 dc3_0 pm3_0 cd3_0 ct3_0 oc4_0 kV4_0 dc4_0 pm4_0 cd4_0 ct4_0 oc5_0 kV5_0 dc5_0 pm5_0 cd5_0 ct5_0 : Value}
    {c9 P9 c10 P10 c26 P26 : Addr} {e9 e10 e26 : Value} {dd9 dd10 dd26 : Option Addr} {us9 us10 us26 : Array Value} {sc9 sc10 sc26 : Array (Option Value)}
    (g0 : PySem.W.nsIn K mainGlobals "_wall" = some (some (.ref f0))) (l0 : K.lookup f0 = some ⟨oc0, od0, .func (PySem.W.fnOf "_wall" "_wall" (defArgs (top 0)) (defBody (top 0)) (defScope (top 0)) .none kV0 dc0 pm0 an0 cd0 ct0), sl0⟩) (q0 : PySem.W.codeIn K cd0 "_wall" = true) (k0 : PySem.W.keepIn K (.ref f0) = true)
    (g7 : PySem.W.nsIn K mainGlobals "is_integer" = some (some (.ref f7))) (l7 : K.lookup f7 = some ⟨oc7, od7, .func (PySem.W.fnOf "is_integer" "is_integer" (defArgs (top 7)) (defBody (top 7)) (defScope (top 7)) .none kV7 dc7 pm7 an7 cd7 ct7), sl7⟩) (q7 : PySem.W.codeIn K cd7 "is_integer" = true) (k7 : PySem.W.keepIn K (.ref f7) = true)
    (g8 : PySem.W.nsIn K mainGlobals "is_integer_from" = some (some (.ref f8))) (l8 : K.lookup f8 = some ⟨oc8, od8, .func (PySem.W.fnOf "is_integer_from" "is_integer_from" (defArgs (top 8)) (defBody (top 8)) (defScope (top 8)) .none kV8 dc8 pm8 an8 cd8 ct8), sl8⟩) (q8 : PySem.W.codeIn K cd8 "is_integer_from" = true) (k8 : PySem.W.keepIn K (.ref f8) = true)
    (g9 : PySem.W.nsIn K mainGlobals "are_weights" = some (some (.ref f9))) (l9 : K.lookup f9 = some ⟨oc9, od9, .func (PySem.W.fnOf "are_weights" "are_weights" (defArgs (top 9)) (defBody (top 9)) (defScope (top 9)) .none kV9 dc9 pm9 an9 (.ref c9) ct9), sl9⟩) (q9 : PySem.W.codeIn K (.ref c9) "are_weights" = true) (k9 : PySem.W.keepIn K (.ref f9) = true)
    (g10 : PySem.W.nsIn K mainGlobals "is_tape" = some (some (.ref f10))) (l10 : K.lookup f10 = some ⟨oc10, od10, .func (PySem.W.fnOf "is_tape" "is_tape" (defArgs (top 10)) (defBody (top 10)) (defScope (top 10)) .none kV10 dc10 pm10 an10 (.ref c10) ct10), sl10⟩) (q10 : PySem.W.codeIn K (.ref c10) "is_tape" = true) (k10 : PySem.W.keepIn K (.ref f10) = true)
    (g12 : PySem.W.nsIn K mainGlobals "need_number" = some (some (.ref f12))) (l12 : K.lookup f12 = some ⟨oc12, od12, .func (PySem.W.fnOf "need_number" "need_number" (defArgs (top 12)) (defBody (top 12)) (defScope (top 12)) .none kV12 dc12 pm12 an12 cd12 ct12), sl12⟩) (q12 : PySem.W.codeIn K cd12 "need_number" = true) (k12 : PySem.W.keepIn K (.ref f12) = true)
    (g13 : PySem.W.nsIn K mainGlobals "need_tape" = some (some (.ref f13))) (l13 : K.lookup f13 = some ⟨oc13, od13, .func (PySem.W.fnOf "need_tape" "need_tape" (defArgs (top 13)) (defBody (top 13)) (defScope (top 13)) .none kV13 dc13 pm13 an13 cd13 ct13), sl13⟩) (q13 : PySem.W.codeIn K cd13 "need_tape" = true) (k13 : PySem.W.keepIn K (.ref f13) = true)
    (g17 : PySem.W.nsIn K mainGlobals "draw" = some (some (.ref f17))) (l17 : K.lookup f17 = some ⟨oc17, od17, .func (PySem.W.fnOf "draw" "draw" (defArgs (top 17)) (defBody (top 17)) (defScope (top 17)) .none kV17 dc17 pm17 an17 cd17 ct17), sl17⟩) (q17 : PySem.W.codeIn K cd17 "draw" = true) (k17 : PySem.W.keepIn K (.ref f17) = true)
    (g19 : PySem.W.nsIn K mainGlobals "_law_deck" = some (some (.ref f19))) (l19 : K.lookup f19 = some ⟨oc19, od19, .func (PySem.W.fnOf "_law_deck" "_law_deck" (defArgs (top 19)) (defBody (top 19)) (defScope (top 19)) .none kV19 dc19 pm19 an19 cd19 ct19), sl19⟩) (q19 : PySem.W.codeIn K cd19 "_law_deck" = true) (k19 : PySem.W.keepIn K (.ref f19) = true)
    (g20 : PySem.W.nsIn K mainGlobals "_law_draw" = some (some (.ref f20))) (l20 : K.lookup f20 = some ⟨oc20, od20, .func (PySem.W.fnOf "_law_draw" "_law_draw" (defArgs (top 20)) (defBody (top 20)) (defScope (top 20)) .none kV20 dc20 pm20 an20 cd20 ct20), sl20⟩) (q20 : PySem.W.codeIn K cd20 "_law_draw" = true) (k20 : PySem.W.keepIn K (.ref f20) = true)
    (g21 : PySem.W.nsIn K mainGlobals "_law_pick" = some (some (.ref f21))) (l21 : K.lookup f21 = some ⟨oc21, od21, .func (PySem.W.fnOf "_law_pick" "_law_pick" (defArgs (top 21)) (defBody (top 21)) (defScope (top 21)) .none kV21 dc21 pm21 an21 cd21 ct21), sl21⟩) (q21 : PySem.W.codeIn K cd21 "_law_pick" = true) (k21 : PySem.W.keepIn K (.ref f21) = true)
    (g22 : PySem.W.nsIn K mainGlobals "_law_drawn_weights" = some (some (.ref f22))) (l22 : K.lookup f22 = some ⟨oc22, od22, .func (PySem.W.fnOf "_law_drawn_weights" "_law_drawn_weights" (defArgs (top 22)) (defBody (top 22)) (defScope (top 22)) .none kV22 dc22 pm22 an22 cd22 ct22), sl22⟩) (q22 : PySem.W.codeIn K cd22 "_law_drawn_weights" = true) (k22 : PySem.W.keepIn K (.ref f22) = true)
    (g23 : PySem.W.nsIn K mainGlobals "_law_taken" = some (some (.ref f23))) (l23 : K.lookup f23 = some ⟨oc23, od23, .func (PySem.W.fnOf "_law_taken" "_law_taken" (defArgs (top 23)) (defBody (top 23)) (defScope (top 23)) .none kV23 dc23 pm23 an23 cd23 ct23), sl23⟩) (q23 : PySem.W.codeIn K cd23 "_law_taken" = true) (k23 : PySem.W.keepIn K (.ref f23) = true)
    (g24 : PySem.W.nsIn K mainGlobals "_law_tried" = some (some (.ref f24))) (l24 : K.lookup f24 = some ⟨oc24, od24, .func (PySem.W.fnOf "_law_tried" "_law_tried" (defArgs (top 24)) (defBody (top 24)) (defScope (top 24)) .none kV24 dc24 pm24 an24 cd24 ct24), sl24⟩) (q24 : PySem.W.codeIn K cd24 "_law_tried" = true) (k24 : PySem.W.keepIn K (.ref f24) = true)
    (g25 : PySem.W.nsIn K mainGlobals "_law_are_all_numbers_right" = some (some (.ref f25))) (l25 : K.lookup f25 = some ⟨oc25, od25, .func (PySem.W.fnOf "_law_are_all_numbers_right" "_law_are_all_numbers_right" (defArgs (top 25)) (defBody (top 25)) (defScope (top 25)) .none kV25 dc25 pm25 an25 cd25 ct25), sl25⟩) (q25 : PySem.W.codeIn K cd25 "_law_are_all_numbers_right" = true) (k25 : PySem.W.keepIn K (.ref f25) = true)
    (g26 : PySem.W.nsIn K mainGlobals "law" = some (some (.ref f26))) (l26 : K.lookup f26 = some ⟨oc26, od26, .func (PySem.W.fnOf "law" "law" (defArgs (top 26)) (defBody (top 26)) (defScope (top 26)) .none kV26 dc26 pm26 an26 (.ref c26) ct26), sl26⟩) (q26 : PySem.W.codeIn K (.ref c26) "law" = true) (k26 : PySem.W.keepIn K (.ref f26) = true)
    (lc9 : K.lookup c9 = some ⟨e9, dd9, .fields us9, sc9⟩) (v9 : us9[11]? = some (.ref P9)) (n9 : K.lookup P9 = none) (h9 : PySem.W.codeHdIn K c9 P9 = true)
    (lc10 : K.lookup c10 = some ⟨e10, dd10, .fields us10, sc10⟩) (v10 : us10[11]? = some (.ref P10)) (n10 : K.lookup P10 = none) (h10 : PySem.W.codeHdIn K c10 P10 = true)
    (lc26 : K.lookup c26 = some ⟨e26, dd26, .fields us26, sc26⟩) (v26 : us26[11]? = some (.ref P26)) (n26 : K.lookup P26 = none) (h26 : PySem.W.codeHdIn K c26 P26 = true)
    (g15_0 : PySem.W.findIn K (.ref C15) "__init__" = some (some (.ref f15_0))) (i15_0 : PySem.W.isFn K (.ref f15_0) = true) (l15_0 : K.lookup f15_0 = some ⟨oc15_0, od15_0, .func (PySem.W.fnOf "__init__" "TapeReader.__init__" (defArgs (inClass (top 15) 0)) (defBody (inClass (top 15) 0)) (defScope (inClass (top 15) 0)) .none kV15_0 dc15_0 pm15_0 an15_0 cd15_0 ct15_0), sl15_0⟩) (q15_0 : PySem.W.codeIn K cd15_0 "TapeReader.__init__" = true) (k15_0 : PySem.W.keepIn K (.ref f15_0) = true)
    (g15_1 : PySem.W.findIn K (.ref C15) "below" = some (some (.ref f15_1))) (i15_1 : PySem.W.isFn K (.ref f15_1) = true) (l15_1 : K.lookup f15_1 = some ⟨oc15_1, od15_1, .func (PySem.W.fnOf "below" "TapeReader.below" (defArgs (inClass (top 15) 1)) (defBody (inClass (top 15) 1)) (defScope (inClass (top 15) 1)) .none kV15_1 dc15_1 pm15_1 an15_1 cd15_1 ct15_1), sl15_1⟩) (q15_1 : PySem.W.codeIn K cd15_1 "TapeReader.below" = true) (k15_1 : PySem.W.keepIn K (.ref f15_1) = true)
    (g15_2 : PySem.W.findIn K (.ref C15) "token_by" = some (some (.ref f15_2))) (i15_2 : PySem.W.isFn K (.ref f15_2) = true) (l15_2 : K.lookup f15_2 = some ⟨oc15_2, od15_2, .func (PySem.W.fnOf "token_by" "TapeReader.token_by" (defArgs (inClass (top 15) 2)) (defBody (inClass (top 15) 2)) (defScope (inClass (top 15) 2)) .none kV15_2 dc15_2 pm15_2 an15_2 cd15_2 ct15_2), sl15_2⟩) (q15_2 : PySem.W.codeIn K cd15_2 "TapeReader.token_by" = true) (k15_2 : PySem.W.keepIn K (.ref f15_2) = true)
    (l3_0 : K.lookup f3_0 = some ⟨oc3_0, od3_0, .func (PySem.W.fnOf "__init__" "BadNumber.__init__" (defArgs (inClass (top 3) 0)) (defBody (inClass (top 3) 0)) (defScope (inClass (top 3) 0)) .none kV3_0 dc3_0 pm3_0 an3_0 cd3_0 ct3_0), sl3_0⟩) (q3_0 : PySem.W.codeIn K cd3_0 "BadNumber.__init__" = true)
    (l4_0 : K.lookup f4_0 = some ⟨oc4_0, od4_0, .func (PySem.W.fnOf "__init__" "BadTape.__init__" (defArgs (inClass (top 4) 0)) (defBody (inClass (top 4) 0)) (defScope (inClass (top 4) 0)) .none kV4_0 dc4_0 pm4_0 an4_0 cd4_0 ct4_0), sl4_0⟩) (q4_0 : PySem.W.codeIn K cd4_0 "BadTape.__init__" = true)
    (l5_0 : K.lookup f5_0 = some ⟨oc5_0, od5_0, .func (PySem.W.fnOf "__init__" "BadWeights.__init__" (defArgs (inClass (top 5) 0)) (defBody (inClass (top 5) 0)) (defScope (inClass (top 5) 0)) .none kV5_0 dc5_0 pm5_0 an5_0 cd5_0 ct5_0), sl5_0⟩) (q5_0 : PySem.W.codeIn K cd5_0 "BadWeights.__init__" = true)
    (xn2 : PySem.W.nsIn K mainGlobals "DraftError" = some (some (.ref C2)))
    (xn3 : PySem.W.nsIn K mainGlobals "BadNumber" = some (some (.ref C3)))
    (xn4 : PySem.W.nsIn K mainGlobals "BadTape" = some (some (.ref C4)))
    (xn5 : PySem.W.nsIn K mainGlobals "BadWeights" = some (some (.ref C5)))
    (xe3 : TH.exOk K C3 f3_0 = true)
    (xe4 : TH.exOk K C4 f4_0 = true)
    (xe5 : TH.exOk K C5 f5_0 = true)
    (xk3_3 : PySem.W.kitOne K (.ref C3) (.ref C3) = some true)
    (xk4_3 : PySem.W.kitOne K (.ref C4) (.ref C3) = some false)
    (xk5_3 : PySem.W.kitOne K (.ref C5) (.ref C3) = some false)
    (xk3_4 : PySem.W.kitOne K (.ref C3) (.ref C4) = some false)
    (xk4_4 : PySem.W.kitOne K (.ref C4) (.ref C4) = some true)
    (xk5_4 : PySem.W.kitOne K (.ref C5) (.ref C4) = some false)
    (xk3_5 : PySem.W.kitOne K (.ref C3) (.ref C5) = some false)
    (xk4_5 : PySem.W.kitOne K (.ref C4) (.ref C5) = some false)
    (xk5_5 : PySem.W.kitOne K (.ref C5) (.ref C5) = some true)
    (xm3_2 : PySem.W.exmOne K (.ref C3) (.ref C2) = some true)
    (xm4_2 : PySem.W.exmOne K (.ref C4) (.ref C2) = some true)
    (xm5_2 : PySem.W.exmOne K (.ref C5) (.ref C2) = some true)
    (dis : P26 ≠ P9 ∧ P26 ≠ P10)
    (xg15 : PySem.W.nsIn K mainGlobals "TapeReader" = some (some (.ref C15))) (pg15 : PySem.W.plainGet K C15 Str.empty = true) (hd15 : PySem.W.hasDictIn K C15 = true) (po15 : PySem.W.plainOver K C15 = true) (sa15 : PySem.W.findIn K (.ref C15) "__setattr__" = some (some (.builtin "object.__setattr__"))) (mk15 : PySem.W.makesIn K C15 = true) (kc15 : PySem.W.keepIn K (.ref C15) = true)
    (na15_tape : PySem.W.findIn K (.ref C15) "tape" = some none)
    (na15_used : PySem.W.findIn K (.ref C15) "used" = some none)
    (z_all : PySem.W.nsIn K mainGlobals "all" = some none)
    (z_bool : PySem.W.nsIn K mainGlobals "bool" = some none)
    (z_enumerate : PySem.W.nsIn K mainGlobals "enumerate" = some none)
    (z_int : PySem.W.nsIn K mainGlobals "int" = some none)
    (z_isinstance : PySem.W.nsIn K mainGlobals "isinstance" = some none)
    (z_len : PySem.W.nsIn K mainGlobals "len" = some none)
    (z_list : PySem.W.nsIn K mainGlobals "list" = some none)
    (z_max : PySem.W.nsIn K mainGlobals "max" = some none)
    (z_range : PySem.W.nsIn K mainGlobals "range" = some none)
    (z_repr : PySem.W.nsIn K mainGlobals "repr" = some none)
    (z_sum : PySem.W.nsIn K mainGlobals "sum" = some none)
    (z_tuple : PySem.W.nsIn K mainGlobals "tuple" = some none) :
    ∃ Ts : Tbs, (∀ p ∈ Ts.all, h.get? p = some { cls := .none, data := .fields #[] } ∧ isCodeTable h p ∧ K.lookup p = none) ∧ RunD l.prog w K mg Ts fa := by
  have e := hfa.symm.trans (PySem.W.mg_of X G g26)
  cases e
  have F0 := fun_mk (K := K) (st := (top 0)) l0 q0 k0
  have F7 := fun_mk (K := K) (st := (top 7)) l7 q7 k7
  have F8 := fun_mk (K := K) (st := (top 8)) l8 q8 k8
  have F9 := fun_mk (K := K) (st := (top 9)) l9 q9 k9
  have F10 := fun_mk (K := K) (st := (top 10)) l10 q10 k10
  have F12 := fun_mk (K := K) (st := (top 12)) l12 q12 k12
  have F13 := fun_mk (K := K) (st := (top 13)) l13 q13 k13
  have F17 := fun_mk (K := K) (st := (top 17)) l17 q17 k17
  have F19 := fun_mk (K := K) (st := (top 19)) l19 q19 k19
  have F20 := fun_mk (K := K) (st := (top 20)) l20 q20 k20
  have F21 := fun_mk (K := K) (st := (top 21)) l21 q21 k21
  have F22 := fun_mk (K := K) (st := (top 22)) l22 q22 k22
  have F23 := fun_mk (K := K) (st := (top 23)) l23 q23 k23
  have F24 := fun_mk (K := K) (st := (top 24)) l24 q24 k24
  have F25 := fun_mk (K := K) (st := (top 25)) l25 q25 k25
  have F26 := fun_mk (K := K) (st := (top 26)) l26 q26 k26
  have F15_0 := fun_mk (K := K) (st := (inClass (top 15) 0)) l15_0 q15_0 k15_0
  have F15_1 := fun_mk (K := K) (st := (inClass (top 15) 1)) l15_1 q15_1 k15_1
  have F15_2 := fun_mk (K := K) (st := (inClass (top 15) 2)) l15_2 q15_2 k15_2
  have T9 : h.get? P9 = some { cls := .none, data := .fields #[] } := own "are_weights" (by unfold tabNames; simp) f9 (PySem.W.mg_of X G g9) c9 P9 _ _ _ _ _ _ l9 rfl rfl lc9 v9
  have T10 : h.get? P10 = some { cls := .none, data := .fields #[] } := own "is_tape" (by unfold tabNames; simp) f10 (PySem.W.mg_of X G g10) c10 P10 _ _ _ _ _ _ l10 rfl rfl lc10 v10
  have T26 : h.get? P26 = some { cls := .none, data := .fields #[] } := own "law" (by unfold tabNames; simp) fa (PySem.W.mg_of X G g26) c26 P26 _ _ _ _ _ _ l26 rfl rfl lc26 v26
  refine ⟨{ w := w, g := [P9, P10], l := [(P26, (("law" : Str) ++ ".<locals>.") ++ "<lambda>")], dis := by simpa using dis }, fun p hp => ?_, ?_⟩
  · simp only [Tbs.all, List.map_cons, List.map_nil, List.append_nil, List.cons_append, List.nil_append, List.mem_cons, List.not_mem_nil, or_false] at hp
    rcases hp with rfl | rfl | rfl
    · exact ⟨T9, ((PySem.W.codeHd_of_K X h9).tab T9).isCodeTable, n9⟩
    · exact ⟨T10, ((PySem.W.codeHd_of_K X h10).tab T10).isCodeTable, n10⟩
    · exact ⟨T26, ((PySem.W.codeHd_of_K X h26).tab T26).isCodeTable, n26⟩
  · intro base s H a ns kb nb bA e0 tk tl sq sh
    obtain ⟨W, eT, eA⟩ : ∃ W : Wd K mg base, W.Ts w = { w := w, g := [P9, P10], l := [(P26, (("law" : Str) ++ ".<locals>.") ++ "<lambda>")], dis := by simpa using dis } ∧ W.a26 = fa := ⟨{
      a0 := f0, d0 := _, D0 := ⟨F0, PySem.W.mg_of X G g0, F0.binds fun _ _ _ _ _ _ us hl => match us, hl with | [_], _ => rfl⟩,
      a7 := f7, d7 := _, D7 := ⟨F7, PySem.W.mg_of X G g7, F7.binds fun _ _ _ _ _ _ us hl => match us, hl with | [_], _ => rfl⟩,
      a8 := f8, d8 := _, D8 := ⟨F8, PySem.W.mg_of X G g8, F8.binds fun _ _ _ _ _ _ us hl => match us, hl with | [_, _], _ => rfl⟩,
      a9 := f9, d9 := _, D9 := ⟨F9, PySem.W.mg_of X G g9, F9.binds fun _ _ _ _ _ _ us hl => match us, hl with | [_], _ => rfl⟩,
      a10 := f10, d10 := _, D10 := ⟨F10, PySem.W.mg_of X G g10, F10.binds fun _ _ _ _ _ _ us hl => match us, hl with | [_], _ => rfl⟩,
      a12 := f12, d12 := _, D12 := ⟨F12, PySem.W.mg_of X G g12, F12.binds fun _ _ _ _ _ _ us hl => match us, hl with | [_, _], _ => rfl⟩,
      a13 := f13, d13 := _, D13 := ⟨F13, PySem.W.mg_of X G g13, F13.binds fun _ _ _ _ _ _ us hl => match us, hl with | [_], _ => rfl⟩,
      a17 := f17, d17 := _, D17 := ⟨F17, PySem.W.mg_of X G g17, F17.binds fun _ _ _ _ _ _ us hl => match us, hl with | [_, _, _], _ => rfl⟩,
      a19 := f19, d19 := _, D19 := ⟨F19, PySem.W.mg_of X G g19, F19.binds fun _ _ _ _ _ _ us hl => match us, hl with | [_], _ => rfl⟩,
      a20 := f20, d20 := _, D20 := ⟨F20, PySem.W.mg_of X G g20, F20.binds fun _ _ _ _ _ _ us hl => match us, hl with | [_, _], _ => rfl⟩,
      a21 := f21, d21 := _, D21 := ⟨F21, PySem.W.mg_of X G g21, F21.binds fun _ _ _ _ _ _ us hl => match us, hl with | [_, _], _ => rfl⟩,
      a22 := f22, d22 := _, D22 := ⟨F22, PySem.W.mg_of X G g22, F22.binds fun _ _ _ _ _ _ us hl => match us, hl with | [_, _, _], _ => rfl⟩,
      a23 := f23, d23 := _, D23 := ⟨F23, PySem.W.mg_of X G g23, F23.binds fun _ _ _ _ _ _ us hl => match us, hl with | [_, _], _ => rfl⟩,
      a24 := f24, d24 := _, D24 := ⟨F24, PySem.W.mg_of X G g24, F24.binds fun _ _ _ _ _ _ us hl => match us, hl with | [_], _ => rfl⟩,
      a25 := f25, d25 := _, D25 := ⟨F25, PySem.W.mg_of X G g25, F25.binds fun _ _ _ _ _ _ us hl => match us, hl with | [_], _ => rfl⟩,
      a26 := fa, d26 := _, D26 := ⟨F26, PySem.W.mg_of X G g26, F26.binds fun _ _ _ _ _ _ us hl => match us, hl with | [_], _ => rfl⟩,
      cs := fun | 15 => C15 | 2 => C2 | 3 => C3 | 4 => C4 | 5 => C5 | _ => C15,
      x2 := PySem.W.mg_of X G xn2,
      x3 := PySem.W.mg_of X G xn3,
      x4 := PySem.W.mg_of X G xn4,
      x5 := PySem.W.mg_of X G xn5,
      y3 := f3_0, e3 := have F := TH.exOk_of xe3; ⟨PySem.W.mg_of X G xn3, F.xi, F.xo, F.sa, F.ga, F.gg, F.no, F.iC, F.tI, F.kC, F.ex, F.tC, F.hd, ⟨_, _, _, _, _, _, _, _, _, _, _, _, _, _, _, _, l3_0, q3_0⟩⟩,
      y4 := f4_0, e4 := have F := TH.exOk_of xe4; ⟨PySem.W.mg_of X G xn4, F.xi, F.xo, F.sa, F.ga, F.gg, F.no, F.iC, F.tI, F.kC, F.ex, F.tC, F.hd, ⟨_, _, _, _, _, _, _, _, _, _, _, _, _, _, _, _, l4_0, q4_0⟩⟩,
      y5 := f5_0, e5 := have F := TH.exOk_of xe5; ⟨PySem.W.mg_of X G xn5, F.xi, F.xo, F.sa, F.ga, F.gg, F.no, F.iC, F.tI, F.kC, F.ex, F.tC, F.hd, ⟨_, _, _, _, _, _, _, _, _, _, _, _, _, _, _, _, l5_0, q5_0⟩⟩,
      eks := by
        intro j hj
        simp only [List.mem_cons, List.not_mem_nil, or_false] at hj
        rcases hj with rfl | rfl | rfl
        · exact have F := TH.exOk_of xe3; ⟨F.cl, F.ga, F.gg, F.ex, F.hd, F.ac, F.hn, F.ht, F.hm⟩
        · exact have F := TH.exOk_of xe4; ⟨F.cl, F.ga, F.gg, F.ex, F.hd, F.ac, F.hn, F.ht, F.hm⟩
        · exact have F := TH.exOk_of xe5; ⟨F.cl, F.ga, F.gg, F.ex, F.hd, F.ac, F.hn, F.ht, F.hm⟩,
      ens := by
        intro j hj
        simp only [List.mem_cons, List.not_mem_nil, or_false] at hj
        rcases hj with rfl | rfl | rfl
        · exact (TH.exOk_of xe3).no
        · exact (TH.exOk_of xe4).no
        · exact (TH.exOk_of xe5).no,
      xk3 := by
        intro j hj
        simp only [List.mem_cons, List.not_mem_nil, or_false] at hj
        rcases hj with rfl | rfl | rfl
        · exact xk3_3
        · exact xk4_3
        · exact xk5_3,
      xk4 := by
        intro j hj
        simp only [List.mem_cons, List.not_mem_nil, or_false] at hj
        rcases hj with rfl | rfl | rfl
        · exact xk3_4
        · exact xk4_4
        · exact xk5_4,
      xk5 := by
        intro j hj
        simp only [List.mem_cons, List.not_mem_nil, or_false] at hj
        rcases hj with rfl | rfl | rfl
        · exact xk3_5
        · exact xk4_5
        · exact xk5_5,
      xm2 := by
        intro j hj
        simp only [List.mem_cons, List.not_mem_nil, or_false] at hj
        rcases hj with rfl | rfl | rfl
        · exact xm3_2
        · exact xm4_2
        · exact xm5_2,
      dis := dis,
      a15_0 := f15_0, d15_0 := _, D15_0 := ⟨F15_0, F15_0.binds fun _ _ _ _ _ _ us hl => match us, hl with | [_, _, _], _ => rfl⟩,
      k15 := ⟨mk15, g15_0, i15_0, kc15⟩,
      a15_1 := f15_1, d15_1 := _, D15_1 := ⟨F15_1, F15_1.binds fun _ _ _ _ _ _ us hl => match us, hl with | [_, _], _ => rfl⟩,
      m15_1 := ⟨g15_1, i15_1, k15_1⟩,
      a15_2 := f15_2, d15_2 := _, D15_2 := ⟨F15_2, F15_2.binds fun _ _ _ _ _ _ us hl => match us, hl with | [_, _], _ => rfl⟩,
      m15_2 := ⟨g15_2, i15_2, k15_2⟩,
      cl15 := ⟨pg15, hd15, po15, sa15⟩, g15 := PySem.W.mg_of X G xg15,
      n15_tape := na15_tape,
      n15_used := na15_used,
      c9 := c9, P9 := P9, T9 := ⟨rfl, ⟨PySem.W.codeHd_of_K kb h9, (bA P9 (by simp [Tbs.all])).1, (bA P9 (by simp [Tbs.all])).2⟩⟩,
      c10 := c10, P10 := P10, T10 := ⟨rfl, ⟨PySem.W.codeHd_of_K kb h10, (bA P10 (by simp [Tbs.all])).1, (bA P10 (by simp [Tbs.all])).2⟩⟩,
      c26 := c26, P26 := P26, T26 := ⟨rfl, ⟨PySem.W.codeHd_of_K kb h26, (bA P26 (by simp [Tbs.all])).1, (bA P26 (by simp [Tbs.all])).2⟩⟩,
      m_all := PySem.W.mg_none_of X G z_all,
      m_bool := PySem.W.mg_none_of X G z_bool,
      m_enumerate := PySem.W.mg_none_of X G z_enumerate,
      m_int := PySem.W.mg_none_of X G z_int,
      m_isinstance := PySem.W.mg_none_of X G z_isinstance,
      m_len := PySem.W.mg_none_of X G z_len,
      m_list := PySem.W.mg_none_of X G z_list,
      m_max := PySem.W.mg_none_of X G z_max,
      m_range := PySem.W.mg_none_of X G z_range,
      m_repr := PySem.W.mg_none_of X G z_repr,
      m_sum := PySem.W.mg_none_of X G z_sum,
      m_tuple := PySem.W.mg_none_of X G z_tuple }, rfl, rfl⟩
    subst eA
    exact run_top (ok_law W) ⟨rfl, by decide, by decide⟩ W.D26.b e0 kb (by rw [eT]; exact tk) (by rw [eT]; exact tl) sq (hl _ ns sh)
end Z13
set_option Elab.async false
set_option linter.all false
set_option maxRecDepth 100000
set_option maxHeartbeats 4000000
namespace Dl
open PySem PySem.Spec PyProof.Rows L2 GxR Gn
/-- walk_at, the part of the heap told behind the top -/
theorem walk_atE {l : PySem.W.OpenLaw} {q : Program} {loose : List Str} {XP : (Str → Option Value) → Heap → Prop} {YP : World → Heap → Prop} {d : DefRec} {Fc : PySem.W.Frag → Prop} (names : List Str) (most : l.most = some 63) (plain : d.params.defaults = [])
    (recs : (names.all fun x => (recsOf q).any fun e => e.name == x) = true) (inK : ∀ (w : World) (h : Heap), YP w h → ∃ K : PySem.W.Frag, K.In h ∧ Fc K)
    (F : ∀ (w : World) (mg : Str → Option Value) (fa : Addr) (h : Heap) (K : PySem.W.Frag), K.In h → Fc K → h.Ns mainGlobals mg → mg d.name = some (.ref fa) → (∀ x ∈ names, ∀ f, mg x = some (.ref f) → LamX.OwnTab K f h) →
      ∃ Ts : Tbs, (∀ p ∈ Ts.all, h.get? p = some { cls := .none, data := .fields #[] } ∧ isCodeTable h p ∧ K.lookup p = none) ∧ RunD l.prog w K mg Ts fa) :
    PySem.W.WalkO q loose XP YP l.row.toRowW d [] (fun f vs => PySem.call f vs) := by
  apply Att.attach_callB most plain
  intro w s0 s1 mg mb fa o pm cd doc a vs ns G Y _ _ _ atFa script numbers short _ gens
  obtain ⟨K, kin, fc⟩ := inK w _ Y
  have own : ∀ x ∈ names, ∀ f, mg x = some (.ref f) → LamX.OwnTab K f s1.heap := by
    intro x hx f hf c p o1 fd e dd us sl k1 k2 k3 k4 k5
    obtain ⟨r, hr, same⟩ := List.any_eq_true.mp (List.all_eq_true.mp recs x hx)
    obtain ⟨f', o', fd', c', p', m1, m2, m3, m4, _, ⟨⟨oc, uc, y1, _, y3, y4⟩, tab⟩⟩ := G.T.tab r hr
    rw [beq_iff_eq.mp same, hf] at m1
    cases m1
    rw [kin _ _ k1] at m2
    cases m2
    rw [k2] at m3
    cases m3
    rw [k3] at m4
    cases m4
    rw [kin _ _ k4] at y1
    cases y1
    cases y3
    rw [k5] at y4
    cases y4
    exact tab
  obtain ⟨Ts, hT, R⟩ := F w mg fa _ K kin fc G.T.g atFa own
  exact end_at kin G.T.g G.T.b G.T.builtins G.T.nolimit gens (fun p m => (hT p m).1) (fun p m => (hT p m).2.2) (fun p m => (hT p m).2.1) G.T.bmain script numbers short R
end Dl
set_option Elab.async false
set_option maxRecDepth 100000
open PySem PySem.W PyProof.Rows
set_option maxRecDepth 100000 in
set_option maxHeartbeats 0 in
theorem PySem.Challenge.cw_draftward_k13_draws_by_weights_holds : PySem.Challenge.rw_draftward_k13_draws_by_weights.Holds := by
  w_on; o_law
  refine TH.head (D := Z13.hD) (keep := Z13.hKeep) (loose := Z13.hLoose) (d := HeadRun.topDef PySem.Challenge.pw_draftward_k13_draws_by_weights 26) PySem.W.Fast.te5206889699587591634 Z13.run0 Z13.runF (by assumption) ?hdef ?hp ?hk ?ok ⟨rfl, rfl, rfl, rfl, rfl, by decide +kernel⟩ ?hw ?hc
  case hdef => kernel_rfl
  case hp => kernel_rfl
  case hk => kernel_rfl
  case ok => decide +kernel
  case hw => w_witness2
  case hc =>
    refine Dl.walk_atE (l := PySem.Challenge.rw_draftward_k13_draws_by_weights) (Fc := fun K => TH.seenAll Z13.hD K = TH.goodAll Z13.hD PySem.Challenge.pw_draftward_k13_draws_by_weights) Z13.tabNames rfl (by kernel_rfl) (by decide +kernel) (fun w h Y => Y) ?F
    intro w mg fa h K KX e G hmg own
    have D0 := TH.def_at (st := (Z13.top 0)) e 0 rfl rfl
    obtain ⟨oc0, od0, kV0, dc0, pm0, an0, ct0, sl0, l0⟩ := D0.look
    have D7 := TH.def_at (st := (Z13.top 7)) e 1 rfl rfl
    obtain ⟨oc7, od7, kV7, dc7, pm7, an7, ct7, sl7, l7⟩ := D7.look
    have D8 := TH.def_at (st := (Z13.top 8)) e 2 rfl rfl
    obtain ⟨oc8, od8, kV8, dc8, pm8, an8, ct8, sl8, l8⟩ := D8.look
    have D9 := TH.def_at (st := (Z13.top 9)) e 3 rfl rfl
    obtain ⟨oc9, od9, kV9, dc9, pm9, an9, ct9, sl9, l9⟩ := D9.look
    have D10 := TH.def_at (st := (Z13.top 10)) e 4 rfl rfl
    obtain ⟨oc10, od10, kV10, dc10, pm10, an10, ct10, sl10, l10⟩ := D10.look
    have D12 := TH.def_at (st := (Z13.top 12)) e 5 rfl rfl
    obtain ⟨oc12, od12, kV12, dc12, pm12, an12, ct12, sl12, l12⟩ := D12.look
    have D13 := TH.def_at (st := (Z13.top 13)) e 6 rfl rfl
    obtain ⟨oc13, od13, kV13, dc13, pm13, an13, ct13, sl13, l13⟩ := D13.look
    have D17 := TH.def_at (st := (Z13.top 17)) e 7 rfl rfl
    obtain ⟨oc17, od17, kV17, dc17, pm17, an17, ct17, sl17, l17⟩ := D17.look
    have D19 := TH.def_at (st := (Z13.top 19)) e 8 rfl rfl
    obtain ⟨oc19, od19, kV19, dc19, pm19, an19, ct19, sl19, l19⟩ := D19.look
    have D20 := TH.def_at (st := (Z13.top 20)) e 9 rfl rfl
    obtain ⟨oc20, od20, kV20, dc20, pm20, an20, ct20, sl20, l20⟩ := D20.look
    have D21 := TH.def_at (st := (Z13.top 21)) e 10 rfl rfl
    obtain ⟨oc21, od21, kV21, dc21, pm21, an21, ct21, sl21, l21⟩ := D21.look
    have D22 := TH.def_at (st := (Z13.top 22)) e 11 rfl rfl
    obtain ⟨oc22, od22, kV22, dc22, pm22, an22, ct22, sl22, l22⟩ := D22.look
    have D23 := TH.def_at (st := (Z13.top 23)) e 12 rfl rfl
    obtain ⟨oc23, od23, kV23, dc23, pm23, an23, ct23, sl23, l23⟩ := D23.look
    have D24 := TH.def_at (st := (Z13.top 24)) e 13 rfl rfl
    obtain ⟨oc24, od24, kV24, dc24, pm24, an24, ct24, sl24, l24⟩ := D24.look
    have D25 := TH.def_at (st := (Z13.top 25)) e 14 rfl rfl
    obtain ⟨oc25, od25, kV25, dc25, pm25, an25, ct25, sl25, l25⟩ := D25.look
    have D26 := TH.def_at (st := (Z13.top 26)) e 15 rfl rfl
    obtain ⟨oc26, od26, kV26, dc26, pm26, an26, ct26, sl26, l26⟩ := D26.look
    obtain ⟨e9, dd9, us9, sc9, lc9, v9, n9, h9⟩ := TH.tab_at e 0 rfl
    obtain ⟨e10, dd10, us10, sc10, lc10, v10, n10, h10⟩ := TH.tab_at e 1 rfl
    obtain ⟨e26, dd26, us26, sc26, lc26, v26, n26, h26⟩ := TH.tab_at e 2 rfl
    have D15_0 := TH.def_at (st := (L2.inClass (Z13.top 15) 0)) e 16 rfl rfl
    obtain ⟨oc15_0, od15_0, kV15_0, dc15_0, pm15_0, an15_0, ct15_0, sl15_0, l15_0⟩ := D15_0.look
    have D15_1 := TH.def_at (st := (L2.inClass (Z13.top 15) 1)) e 17 rfl rfl
    obtain ⟨oc15_1, od15_1, kV15_1, dc15_1, pm15_1, an15_1, ct15_1, sl15_1, l15_1⟩ := D15_1.look
    have D15_2 := TH.def_at (st := (L2.inClass (Z13.top 15) 2)) e 18 rfl rfl
    obtain ⟨oc15_2, od15_2, kV15_2, dc15_2, pm15_2, an15_2, ct15_2, sl15_2, l15_2⟩ := D15_2.look
    have D3_0 := TH.def_at (st := (L2.inClass (Z13.top 3) 0)) e 19 rfl rfl
    obtain ⟨oc3_0, od3_0, kV3_0, dc3_0, pm3_0, an3_0, ct3_0, sl3_0, l3_0⟩ := D3_0.look
    have D4_0 := TH.def_at (st := (L2.inClass (Z13.top 4) 0)) e 20 rfl rfl
    obtain ⟨oc4_0, od4_0, kV4_0, dc4_0, pm4_0, an4_0, ct4_0, sl4_0, l4_0⟩ := D4_0.look
    have D5_0 := TH.def_at (st := (L2.inClass (Z13.top 5) 0)) e 21 rfl rfl
    obtain ⟨oc5_0, od5_0, kV5_0, dc5_0, pm5_0, an5_0, ct5_0, sl5_0, l5_0⟩ := D5_0.look
    obtain ⟨pg15, hd15, po15, mk15, kc15⟩ := TH.cls_at e 0 rfl
    exact Z13.all_mk Z13.law_true KX G hmg own (TH.ns_at e 0 rfl) l0 D0.code D0.keep (TH.ns_at e 1 rfl) l7 D7.code D7.keep (TH.ns_at e 2 rfl) l8 D8.code D8.keep (TH.ns_at e 3 rfl) l9 D9.code D9.keep (TH.ns_at e 4 rfl) l10 D10.code D10.keep (TH.ns_at e 5 rfl) l12 D12.code D12.keep (TH.ns_at e 6 rfl) l13 D13.code D13.keep (TH.ns_at e 7 rfl) l17 D17.code D17.keep (TH.ns_at e 8 rfl) l19 D19.code D19.keep (TH.ns_at e 9 rfl) l20 D20.code D20.keep (TH.ns_at e 10 rfl) l21 D21.code D21.keep (TH.ns_at e 11 rfl) l22 D22.code D22.keep (TH.ns_at e 12 rfl) l23 D23.code D23.keep (TH.ns_at e 13 rfl) l24 D24.code D24.keep (TH.ns_at e 14 rfl) l25 D25.code D25.keep (TH.ns_at e 15 rfl) l26 D26.code D26.keep lc9 v9 n9 h9 lc10 v10 n10 h10 lc26 v26 n26 h26 (TH.find_at e 0 rfl) D15_0.fn l15_0 D15_0.code D15_0.keep (TH.find_at e 1 rfl) D15_1.fn l15_1 D15_1.code D15_1.keep (TH.find_at e 2 rfl) D15_2.fn l15_2 D15_2.code D15_2.keep l3_0 D3_0.code l4_0 D4_0.code l5_0 D5_0.code (TH.ns_at e 16 rfl) (TH.ns_at e 17 rfl) (TH.ns_at e 18 rfl) (TH.ns_at e 19 rfl) (TH.chk_at e 0 rfl) (TH.chk_at e 1 rfl) (TH.chk_at e 2 rfl) (beq_iff_eq.mp (TH.chk_at e 3 rfl)) (beq_iff_eq.mp (TH.chk_at e 4 rfl)) (beq_iff_eq.mp (TH.chk_at e 5 rfl)) (beq_iff_eq.mp (TH.chk_at e 6 rfl)) (beq_iff_eq.mp (TH.chk_at e 7 rfl)) (beq_iff_eq.mp (TH.chk_at e 8 rfl)) (beq_iff_eq.mp (TH.chk_at e 9 rfl)) (beq_iff_eq.mp (TH.chk_at e 10 rfl)) (beq_iff_eq.mp (TH.chk_at e 11 rfl)) (beq_iff_eq.mp (TH.chk_at e 12 rfl)) (beq_iff_eq.mp (TH.chk_at e 13 rfl)) (beq_iff_eq.mp (TH.chk_at e 14 rfl)) (by decide) (TH.ns_at e 20 rfl) pg15 hd15 po15 (TH.find_at e 3 rfl) mk15 kc15 (TH.find_at e 4 rfl) (TH.find_at e 5 rfl) (TH.ns_at e 21 rfl) (TH.ns_at e 22 rfl) (TH.ns_at e 23 rfl) (TH.ns_at e 24 rfl) (TH.ns_at e 25 rfl) (TH.ns_at e 26 rfl) (TH.ns_at e 27 rfl) (TH.ns_at e 28 rfl) (TH.ns_at e 29 rfl) (TH.ns_at e 30 rfl) (TH.ns_at e 31 rfl) (TH.ns_at e 32 rfl)
