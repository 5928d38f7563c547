import PyProof.Rows.All
import Wide.All
import OpenK.AllK
import Wide.FinOn
import KE.OsRunLaw
import KE.KNestM
import HandS.Words
import KE.KExcInit
import KE.KIsAll
import PySem.Challenge.RW_draftward_k03_whole_training_by_own_coun
import HandS.ForMost
import HandS.Walk
import HandS.AnyAll
import HandS.EndTab
import HandS.Zip
import HandS.GenOver
import PyProof.GenCompD
import KE.KeyNested
import KE.SortData
import KE.KDictList
import PyProof.DictMoreH
import PyProof.Rows.TupTab
import HandS.Dict
import HandS.List
import HandS.Conv
import HandS.DictTup
import HandS.Deep
import HandS.Style
import HandS.Strs
import HandS.StrMore
import HandS.Wide
import HandS.NoneIn
import HandS.Flow
import HandS.IsInst
import HandS.TupAny
import KE.GoesMore
import KE.GoesEnum
import HandS.Star
import PyProof.ListStr
import PyProof.ReprRoads
import KE.GoesZip
import PyProof.MeetsSeq2
import KE.KStar
import HandS.SortKw
import HandS.SortInts
import HandS.Exc
import HandS.ExcInit
import HandS.CallSlots
import HandS.Lambda
import HandS.TupMul
import HandS.WordsExc
import PyProof.SumWalkG
import HandS.Replace
import HandS.EndOwn
import PyProof.StrLawsRepr
import PyProof.FitsInt
import HandS.NamedTupSort
import HandS.RaiseMore
import HandS.SortRule
import HandS.TryOnly
import PyProof.Rows.TupDisplay
import HandS.Gcd
import KE.KDictPairs
import HandS.ForExc
import HandS.ExcIs
import KE.KExcIs
import HandS.ExcField
import KE.KEqDict
import KE.KMathG
import HandS.SetFor
import HandS.Iter
import PyProof.SliceStr2
import PyProof.Rows.StrRev
import HandS.SetTxt0
import KE.DatumOrd
import KE.KDictWalk
import PyProof.StrOps2
import PyProof.Rows.ReprOcc
set_option Elab.async false
set_option linter.all false
set_option maxRecDepth 100000
namespace TH
open PySem PySem.W PySem.Calls PyProof.Rows HeadRun L2
/-- the objects at these places -/
def part (get : Addr → Option Obj) (as : List Addr) : Frag := as.filterMap fun a => (get a).map fun o => (a, o)
theorem part_in (h : Heap) : ∀ as : List Addr, (part h.get? as).In h
  | [], a, o, e => by cases e
  | b :: r, a, o, e => by
    have ih := part_in h r a o
    unfold part at e ih
    rw [List.filterMap_cons] at e
    cases hb : h.get? b with
    | none =>
      rw [hb] at e
      exact ih e
    | some x =>
      rw [hb] at e
      simp only [Option.map_some, List.lookup] at e
      split at e
      · rename_i q
        cases e
        rw [beq_iff_eq.mp q]
        exact hb
      · exact ih e
def topOf (p : Program) (i : Nat) : Stmt := p.main.body.getD i (.Pass ⟨0, 0, 0, 0⟩)
/-- a def of the text (sub: its place in a class's body), its object, its code -/
structure DD where
  name : Str
  qual : Str
  st : Nat
  sub : Option Nat
  f : Addr
  c : Addr
def DD.stmt (d : DD) (p : Program) : Stmt := match d.sub with
  | none => topOf p d.st
  | some j => inClass (topOf p d.st) j
def fnSeen (K : Frag) (a : Addr) : Option (Str × Str × Arguments × FuncBody × Scope × Addr × List (Str × Addr) × Value × Value × Addr) := match K.lookup a with
  | some ⟨_, _, .func fd, _⟩ => some (fd.name, fd.qualname, fd.params, fd.body, fd.scope, fd.globals, fd.closure, fd.defaults, fd.code, fd.builtins)
  | _ => none
def defSeen (K : Frag) (d : DD) := (fnSeen K d.f, codeIn K (.ref d.c) d.qual, keepIn K (.ref d.f), isFn K (.ref d.f))
def defGood (p : Program) (d : DD) : Option (Str × Str × Arguments × FuncBody × Scope × Addr × List (Str × Addr) × Value × Value × Addr) × Bool × Bool × Bool :=
  (some (d.name, d.qual, defArgs (d.stmt p), .stmts (defBody (d.stmt p)), defScope (d.stmt p), mainGlobals, [], .none, .ref d.c, builtinsNs), true, true, true)
structure FnFacts (K : Frag) (d : DD) (st : Stmt) : Prop where
  look : ∃ (oc : Value) (od : Option Addr) (kV dc pm : Value) (an : Option Addr) (ct : Value) (sl : Array (Option Value)),
    K.lookup d.f = some ⟨oc, od, .func (fnOf d.name d.qual (defArgs st) (defBody st) (defScope st) .none kV dc pm an (.ref d.c) ct), sl⟩
  code : codeIn K (.ref d.c) d.qual = true
  keep : keepIn K (.ref d.f) = true
  fn : isFn K (.ref d.f) = true
theorem fn_of {K : Frag} {p : Program} {d : DD} (e : defSeen K d = defGood p d) : FnFacts K d (d.stmt p) := by
  obtain ⟨e1, e2⟩ := Prod.mk.inj e
  obtain ⟨e2, e3⟩ := Prod.mk.inj e2
  obtain ⟨e3, e4⟩ := Prod.mk.inj e3
  refine ⟨?_, e2, e3, e4⟩
  unfold fnSeen at e1
  split at e1
  · rename_i oc od fd sl h
    obtain ⟨n, q, ar, b, sc, g, cl, df, kV, dc, pm, an, cd, ct, bl⟩ := fd
    simp only [Option.some.injEq, Prod.mk.injEq] at e1
    obtain ⟨rfl, rfl, rfl, rfl, rfl, rfl, rfl, rfl, rfl, rfl⟩ := e1
    exact ⟨oc, od, kV, dc, pm, an, ct, sl, h⟩
  · cases e1
/-- a class of errors over Exception, with its __init__ -/
def exOk (K : Frag) (C fI : Addr) : Bool :=
  excInitIn K C [.type "Exception", .type "BaseException", .type "object"] "Exception.__new__" && (excOver K C [.type "Exception", .type "BaseException", .type "object"] && (findIn K (.ref C) "__setattr__" == some (some (.builtin "object.__setattr__")) &&
  (findIn K (.ref C) "__getattribute__" == some (some (.builtin "BaseException.__getattribute__")) && (findIn K (.ref C) "__getattr__" == some none && (findIn K (.ref C) "thing" == some none && (findIn K (.ref C) "__init__" == some (some (.ref fI)) &&
  (typeIn K (.ref fI) == some (.type "function") && (keepIn K (.ref C) && (subIn K (.ref C) (.type "BaseException") == some true && (typeIn K (.ref C) == some (.type "type") && (hasDictIn K C && ((clsIn K C).isSome &&
  (findIn K (.ref C) "__class__" == some (some (.builtin "object.__class__")) && (specialIn K (.builtin "object.__class__") "__get__" == some (some (.builtin "getset_descriptor.__get__")) && (takesIn K (.builtin "object.__class__") == some true && mroIn K C (.type "object") == some true)))))))))))))))
structure ExF (K : Frag) (C fI : Addr) : Prop where
  xi : excInitIn K C [.type "Exception", .type "BaseException", .type "object"] "Exception.__new__" = true
  xo : excOver K C [.type "Exception", .type "BaseException", .type "object"] = true
  sa : findIn K (.ref C) "__setattr__" = some (some (.builtin "object.__setattr__"))
  ga : findIn K (.ref C) "__getattribute__" = some (some (.builtin "BaseException.__getattribute__"))
  gg : findIn K (.ref C) "__getattr__" = some none
  no : findIn K (.ref C) "thing" = some none
  iC : findIn K (.ref C) "__init__" = some (some (.ref fI))
  tI : typeIn K (.ref fI) = some (.type "function")
  kC : keepIn K (.ref C) = true
  ex : subIn K (.ref C) (.type "BaseException") = some true
  tC : typeIn K (.ref C) = some (.type "type")
  hd : hasDictIn K C = true
  cl : (clsIn K C).isSome = true
  ac : findIn K (.ref C) "__class__" = some (some (.builtin "object.__class__"))
  hn : specialIn K (.builtin "object.__class__") "__get__" = some (some (.builtin "getset_descriptor.__get__"))
  ht : takesIn K (.builtin "object.__class__") = some true
  hm : mroIn K C (.type "object") = some true
theorem exOk_of {K : Frag} {C fI : Addr} (h : exOk K C fI = true) : ExF K C fI := by
  unfold exOk at h
  simp only [Bool.and_eq_true, beq_iff_eq] at h
  obtain ⟨h1, h2, h3, h4, h5, h6, h7, h8, h9, h10, h11, h12, h13, h14, h15, h16, h17⟩ := h
  exact ⟨h1, h2, h3, h4, h5, h6, h7, h8, h9, h10, h11, h12, h13, h14, h15, h16, h17⟩
/-- what is looked up: names of the text and their values, defs, tables of codes, places of classes, the classes themselves -/
structure FD where
  as : List Addr
  ns : List (Str × Option Value)
  defs : List DD
  tabs : List (Addr × Addr)
  finds : List (Addr × Str × Option Value)
  cls : List Addr
  chk : List (Frag → Bool) := []
abbrev n1 (x : Str) (v : Option Value) : Str × Option Value := (x, v)
abbrev Seen := List (Option (Option Value)) × List (Option (Str × Str × Arguments × FuncBody × Scope × Addr × List (Str × Addr) × Value × Value × Addr) × Bool × Bool × Bool) × List (Bool × Bool) × List (Option (Option Value)) × List (Bool × Bool × Bool × Bool × Bool) × List Bool
def seenAll (D : FD) (K : Frag) : Seen :=
  (D.ns.map fun x => nsIn K mainGlobals x.1, D.defs.map (defSeen K), D.tabs.map fun x => (codeHdIn K x.1 x.2, (K.lookup x.2).isNone),
    D.finds.map fun x => findIn K (.ref x.1) x.2.1, D.cls.map fun C => (plainGet K C Str.empty, hasDictIn K C, plainOver K C, makesIn K C, keepIn K (.ref C)), D.chk.map fun f => f K)
def goodAll (D : FD) (p : Program) : Seen :=
  (D.ns.map fun x => some x.2, D.defs.map (defGood p), D.tabs.map fun _ => (true, true), D.finds.map fun x => some x.2.2, D.cls.map fun _ => (true, true, true, true, true), D.chk.map fun _ => true)
def hook (D : FD) (p : Program) : Hook where
  α := Seen
  obs := fun s => seenAll D (part s.heap.get? D.as)
  val := fun _ => goodAll D p
  says := fun _ h => ∃ K : Frag, K.In h ∧ seenAll D K = goodAll D p
  of := fun _ s e => ⟨_, part_in s.heap D.as, e⟩
  keeps := fun _ _ _ x k => x.elim fun K y => ⟨K, y.1.keeps k, y.2⟩
theorem nth {α β γ : Type} {f : α → β} {g : α → β} {l : List α} (e : l.map f = l.map g) (i : Nat) {x : α} (h : l[i]? = some x) : f x = g x := by
  have := congrArg (fun l => l[i]?) e
  simp only [List.getElem?_map, h, Option.map_some, Option.some.injEq] at this
  exact this
section
variable {D : FD} {K : Frag} {p : Program} (e : seenAll D K = goodAll D p)
include e
theorem ns_at (i : Nat) {x : Str} {v : Option Value} (h : D.ns[i]? = some (x, v)) : nsIn K mainGlobals x = some v := nth (γ := Unit) (Prod.mk.inj e).1 i h
theorem def_at (i : Nat) {d : DD} {st : Stmt} (h : D.defs[i]? = some d) (hs : d.stmt p = st) : FnFacts K d st := hs ▸ fn_of (nth (γ := Unit) (Prod.mk.inj (Prod.mk.inj e).2).1 i h)
theorem tab_at (i : Nat) {c P : Addr} (h : D.tabs[i]? = some (c, P)) : ∃ e dd us sc, K.lookup c = some ⟨e, dd, .fields us, sc⟩ ∧ us[11]? = some (.ref P) ∧ K.lookup P = none ∧ codeHdIn K c P = true := by
  have z := nth (γ := Unit) (Prod.mk.inj (Prod.mk.inj (Prod.mk.inj e).2).2).1 i h
  obtain ⟨z1, z2⟩ := Prod.mk.inj z
  have z0 := z1
  unfold codeHdIn at z1
  split at z1
  · rename_i vs _ hk
    simp only [Bool.and_eq_true] at z1
    obtain ⟨⟨⟨⟨⟨e1, _⟩, _⟩, _⟩, _⟩, _⟩ := z1
    split at e1
    · rename_i P' h11
      rw [beq_iff_eq.mp e1] at h11
      exact ⟨_, _, _, _, hk, h11, Option.isNone_iff_eq_none.mp z2, z0⟩
    · cases e1
  · cases z1
theorem chk_at (i : Nat) {f : Frag → Bool} (h : D.chk[i]? = some f) : f K = true := nth (γ := Unit) (Prod.mk.inj (Prod.mk.inj (Prod.mk.inj (Prod.mk.inj (Prod.mk.inj e).2).2).2).2).2 i h
end
/-- the heap's objects, each told -/
def frL {α : Type} : List Obj → (List Obj → α) → α
  | [], k => k []
  | o :: r, k => match o with
    | ⟨c, d, dt, sl⟩ => frL r fun r' => k (⟨c, d, dt, sl⟩ :: r')
theorem frL_eq {α : Type} : ∀ (l : List Obj) (k : List Obj → α), frL l k = k l
  | [], _ => rfl
  | ⟨_, _, _, _⟩ :: r, k => frL_eq r _
def told {α : Type} (s : SharedT) (k : Shared → α) : α := frL (s.tree.list s.n) fun l => k ⟨⟨⟨l⟩, s.life⟩, s.gens, s.drawn, s.toks, s.os⟩
theorem told_eq {α : Type} (s : SharedT) (k : Shared → α) : told s k = k s.abs := frL_eq _ _
/-- the looks behind the run -/
noncomputable def look (p q : Program) (loose : List Str) (x : Shared × SharedT) :=
  told x.2 fun s => (looksF p x.1.heap s, seenQ q loose (importedModules p.main.body) (fun s => xlAt q [] s && recOk [] s) s)
def RunE (keep : List Nat) (loose : List Str) (N : Nat) (p : Program) (w : World) : Prop :=
  (wholeF (fun p => stepQ (denQ tabQ) p w) fenceQ N p).map (look p (view p keep) loose) = some (true, openGood (view p keep) loose)
def RunF (D : FD) (N : Nat) (p : Program) (w : World) : Prop :=
  (wholeF (fun p => stepQ (denQ tabQ) p w) fenceQ N p).map (fun x => seenAll D (part (getT x.2) D.as)) = some (goodAll D p)
theorem map_both {α β γ : Type} {o : Option α} {f : α → β} {g : α → γ} {b : β} {c : γ} (x : o.map f = some b) (y : o.map g = some c) : o.map (fun a => (f a, g a)) = some (b, c) := by
  cases o with
  | none => cases x
  | some a =>
    cases x
    cases y
    rfl
theorem left_of {D : FD} {keep : List Nat} {loose : List Str} {N : Nat} {p : Program} (run : ∀ w, RunE keep loose N p w) (runF : ∀ w, RunF D N p w) :
    LeftO p (view p keep) loose (fun s => xlAt (view p keep) [] s && recOk [] s) (hook D p).obs (hook D p).val N true :=
  left_imp fun w => by
    have z := run w
    have z2 := runF w
    unfold RunE at z
    unfold RunF at z2
    have eo : look p (view p keep) loose = fun x => (looksF p x.1.heap x.2.abs, seenQ (view p keep) loose (importedModules p.main.body) (fun s => xlAt (view p keep) [] s && recOk [] s) x.2.abs) := by
      funext x
      unfold look
      rw [told_eq]
    have eo2 : (fun x : Shared × SharedT => seenAll D (part (getT x.2) D.as)) = fun x => (hook D p).obs x.2.abs := by
      funext x
      have : getT x.2 = x.2.abs.heap.get? := funext fun a => getT_eq x.2 a
      rw [this]
      rfl
    rw [eo] at z
    rw [eo2] at z2
    have y := map_both z z2
    rw [wholeQ_eq]
    simp only [seenQ_eq]
    cases e : wholeF (fun p => stepQ (denQ tabQ) p w) fenceQ N p with
    | none =>
      rw [e] at y
      cases y
    | some x =>
      rw [e] at y
      obtain ⟨y1, y2⟩ := Prod.mk.inj (Option.some.inj y)
      obtain ⟨y3, y4⟩ := Prod.mk.inj y1
      exact congrArg some (Prod.ext y3 (Prod.ext y4 y2))
/-- the head -/
theorem head {l : OpenLaw} {tp : Program} {D : FD} {keep : List Nat} {loose : List Str} {N : Nat} {d : DefRec} (te : l.prog = tp) (run : ∀ w, RunE keep loose N tp w) (runF : ∀ w, RunF D N tp w) (k1 : l.row.wellSaid = true)
    (hdef : defOf (view l.prog keep) l.name = some (d, [])) (hp : l.prog.theDef l.name = some (d.params, d.body, d.scope)) (hk : kwWritten? d.params.kwonlyargs d.params.kw_defaults = some [])
    (ok : (chainsOk (view l.prog keep) && opensWell l.prog && (frees l.row.toRowW && l.row.within.isEmpty)) = true) (hb : l.prog.bare) (hw : l.row.toRowW.promised)
    (call : WalkO (view l.prog keep) loose (XL (view l.prog keep) []) (hook D l.prog).says l.row.toRowW d [] fun f vs => PySem.call f vs) : l.row.Holds := by
  have run' : ∀ w, RunE keep loose N l.prog w := by rw [te]; exact run
  have runF' : ∀ w, RunF D N l.prog w := by rw [te]; exact runF
  exact holds_open (r := l.row) (q := view l.prog keep) (loose := loose) (XP := XL (view l.prog keep) []) (YP := (hook D l.prog).says) (d := d) (kwd := []) (left_of run' runF') (hook D l.prog).of (hook D l.prog).keeps
    (fun s z => xl_of s (Bool.and_eq_true_iff.mp z).1) XL.keeps hdef hp hk (fun s z => recFacts_of (Bool.and_eq_true_iff.mp z).2) (by simp [OpenLaw.row]) k1 ok hb hw call
end TH
set_option Elab.async false
set_option linter.all false
set_option maxRecDepth 100000
set_option maxHeartbeats 0
lay_quick PySem.Challenge.rw_draftward_k03_whole_training_by_own_coun
namespace Z03
open PySem PySem.W PyProof.Rows
def hD : TH.FD where
  as := [3, 2, 23, 24, 40, 41, 43, 44, 59, 60, 62, 63, 78, 79, 81, 82, 97, 98, 100, 101, 116, 117, 119, 120, 128, 129, 135, 136, 142, 143, 149, 150, 156, 157, 163, 164, 170, 171, 177, 178, 184, 185, 191, 192, 196, 197, 201, 202, 208, 209, 215, 216, 220, 221, 227, 228, 234, 235, 241, 242, 248, 249, 255, 256, 262, 263, 269, 270, 276, 277, 281, 282, 288, 289, 295, 296, 302, 303, 309, 310, 316, 317, 323, 324, 330, 331, 335, 336, 340, 341, 345, 346]
  ns := [TH.n1 "is_integer" (some (.ref 129)),
    TH.n1 "is_integer_from" (some (.ref 136)),
    TH.n1 "is_number_below" (some (.ref 143)),
    TH.n1 "is_token" (some (.ref 150)),
    TH.n1 "are_tokens" (some (.ref 157)),
    TH.n1 "are_small_letters" (some (.ref 164)),
    TH.n1 "is_tuple_of" (some (.ref 171)),
    TH.n1 "is_vocabulary" (some (.ref 178)),
    TH.n1 "size" (some (.ref 185)),
    TH.n1 "to_tokens" (some (.ref 192)),
    TH.n1 "to_text" (some (.ref 197)),
    TH.n1 "trained" (some (.ref 202)),
    TH.n1 "pieces_of" (some (.ref 209)),
    TH.n1 "tokens_of" (some (.ref 216)),
    TH.n1 "next_merge" (some (.ref 221)),
    TH.n1 "_need_vocabulary" (some (.ref 228)),
    TH.n1 "_need_text" (some (.ref 235)),
    TH.n1 "_are_letters" (some (.ref 242)),
    TH.n1 "_are_merges" (some (.ref 249)),
    TH.n1 "_is_merge" (some (.ref 256)),
    TH.n1 "_are_texts" (some (.ref 263)),
    TH.n1 "_size_of" (some (.ref 270)),
    TH.n1 "_pieces" (some (.ref 277)),
    TH.n1 "_letter_tokens" (some (.ref 282)),
    TH.n1 "_merged" (some (.ref 289)),
    TH.n1 "_law_deck" (some (.ref 296)),
    TH.n1 "_law_draw" (some (.ref 303)),
    TH.n1 "_law_pick" (some (.ref 310)),
    TH.n1 "_law_letters" (some (.ref 317)),
    TH.n1 "_law_drawn_text" (some (.ref 324)),
    TH.n1 "_law_merged" (some (.ref 331)),
    TH.n1 "_law_tokens" (some (.ref 336)),
    TH.n1 "_law_trained" (some (.ref 341)),
    TH.n1 "law" (some (.ref 346)),
    TH.n1 "BadVocabulary" (some (.ref 44)),
    TH.n1 "BadNumber" (some (.ref 63)),
    TH.n1 "BadTokens" (some (.ref 82)),
    TH.n1 "BadText" (some (.ref 101)),
    TH.n1 "BadTexts" (some (.ref 120)),
    TH.n1 "all" (none),
    TH.n1 "bool" (none),
    TH.n1 "enumerate" (none),
    TH.n1 "int" (none),
    TH.n1 "isinstance" (none),
    TH.n1 "len" (none),
    TH.n1 "list" (none),
    TH.n1 "max" (none),
    TH.n1 "min" (none),
    TH.n1 "range" (none),
    TH.n1 "repr" (none),
    TH.n1 "set" (none),
    TH.n1 "sorted" (none),
    TH.n1 "str" (none),
    TH.n1 "tuple" (none),
    TH.n1 "zip" (none),
    TH.n1 "MOST_LETTERS" (some (.int (6) 393)),
    TH.n1 "MOST_MERGES" (some (.int (10) 395))]
  defs := [TH.DD.mk "is_integer" "is_integer" 8 none 129 128,
    TH.DD.mk "is_integer_from" "is_integer_from" 9 none 136 135,
    TH.DD.mk "is_number_below" "is_number_below" 10 none 143 142,
    TH.DD.mk "is_token" "is_token" 11 none 150 149,
    TH.DD.mk "are_tokens" "are_tokens" 12 none 157 156,
    TH.DD.mk "are_small_letters" "are_small_letters" 13 none 164 163,
    TH.DD.mk "is_tuple_of" "is_tuple_of" 14 none 171 170,
    TH.DD.mk "is_vocabulary" "is_vocabulary" 18 none 178 177,
    TH.DD.mk "size" "size" 19 none 185 184,
    TH.DD.mk "to_tokens" "to_tokens" 20 none 192 191,
    TH.DD.mk "to_text" "to_text" 21 none 197 196,
    TH.DD.mk "trained" "trained" 22 none 202 201,
    TH.DD.mk "pieces_of" "pieces_of" 23 none 209 208,
    TH.DD.mk "tokens_of" "tokens_of" 24 none 216 215,
    TH.DD.mk "next_merge" "next_merge" 25 none 221 220,
    TH.DD.mk "_need_vocabulary" "_need_vocabulary" 26 none 228 227,
    TH.DD.mk "_need_text" "_need_text" 27 none 235 234,
    TH.DD.mk "_are_letters" "_are_letters" 28 none 242 241,
    TH.DD.mk "_are_merges" "_are_merges" 29 none 249 248,
    TH.DD.mk "_is_merge" "_is_merge" 30 none 256 255,
    TH.DD.mk "_are_texts" "_are_texts" 31 none 263 262,
    TH.DD.mk "_size_of" "_size_of" 32 none 270 269,
    TH.DD.mk "_pieces" "_pieces" 33 none 277 276,
    TH.DD.mk "_letter_tokens" "_letter_tokens" 34 none 282 281,
    TH.DD.mk "_merged" "_merged" 35 none 289 288,
    TH.DD.mk "_law_deck" "_law_deck" 37 none 296 295,
    TH.DD.mk "_law_draw" "_law_draw" 38 none 303 302,
    TH.DD.mk "_law_pick" "_law_pick" 39 none 310 309,
    TH.DD.mk "_law_letters" "_law_letters" 40 none 317 316,
    TH.DD.mk "_law_drawn_text" "_law_drawn_text" 41 none 324 323,
    TH.DD.mk "_law_merged" "_law_merged" 42 none 331 330,
    TH.DD.mk "_law_tokens" "_law_tokens" 43 none 336 335,
    TH.DD.mk "_law_trained" "_law_trained" 44 none 341 340,
    TH.DD.mk "law" "law" 45 none 346 345,
    TH.DD.mk "__init__" "BadVocabulary.__init__" 2 (some 0) 41 40,
    TH.DD.mk "__init__" "BadNumber.__init__" 3 (some 0) 60 59,
    TH.DD.mk "__init__" "BadTokens.__init__" 4 (some 0) 79 78,
    TH.DD.mk "__init__" "BadText.__init__" 5 (some 0) 98 97,
    TH.DD.mk "__init__" "BadTexts.__init__" 6 (some 0) 117 116]
  tabs := [(156, 152), (163, 159), (234, 230), (255, 251), (262, 258)]
  finds := []
  cls := []
  chk := [fun K => TH.exOk K 44 41,
    fun K => TH.exOk K 63 60,
    fun K => TH.exOk K 82 79,
    fun K => TH.exOk K 101 98,
    fun K => TH.exOk K 120 117]
def hKeep : List Nat := [12, 13, 27, 30, 31, 45]
def hLoose : List Str := [("DraftError" : Str), ("BadVocabulary" : Str), ("BadNumber" : Str), ("BadTokens" : Str), ("BadText" : Str), ("BadTexts" : Str), ("is_integer" : Str), ("is_integer_from" : Str), ("is_number_below" : Str), ("is_token" : Str), ("is_tuple_of" : Str), ("MOST_LETTERS" : Str), ("MOST_MERGES" : Str), ("is_vocabulary" : Str), ("size" : Str), ("to_tokens" : Str), ("to_text" : Str), ("trained" : Str), ("pieces_of" : Str), ("tokens_of" : Str), ("next_merge" : Str), ("_need_vocabulary" : Str), ("_are_letters" : Str), ("_are_merges" : Str), ("_size_of" : Str), ("_pieces" : Str), ("_letter_tokens" : Str), ("_merged" : Str), ("_law_deck" : Str), ("_law_draw" : Str), ("_law_pick" : Str), ("_law_letters" : Str), ("_law_drawn_text" : Str), ("_law_merged" : Str), ("_law_tokens" : Str), ("_law_trained" : Str)]
theorem run0 (w : World) : TH.RunE hKeep hLoose 6000 PySem.W.Fast.tw2970791787987477860 w := by
  unfold TH.RunE
  kernel_rfl
theorem runF (w : World) : TH.RunF hD 6000 PySem.W.Fast.tw2970791787987477860 w := by
  unfold TH.RunF
  kernel_rfl
end Z03
set_option Elab.async false
set_option linter.all false
set_option maxRecDepth 100000
set_option maxHeartbeats 4000000
namespace Gn
open PySem PySem.Spec PyProof.Rows L2 GxR
/-- the context of a generator expression's frame, that starts at s -/
abbrev gcx (X : Cx) (A' : Around) (s : Shared) (H : Hp) (cenv : Env) (scope : Scope) (fp : List Addr) : Cx :=
  { X with A := A', s_0 := s, H_0 := H, env := cenv, outer := X.stack, stack := cenv :: X.stack, ex := fp, fn := fun x => scope.names.lookup x == some .cell, pn := [], xe := fun _ _ => False }
section
variable {X : Cx} {pins : List (Addr × Obj)} {σ : L2.St} {H : Hp} {s : Shared}
/-- all objects kept, generators as they like -/
theorem inv_same {s' : Shared} (I : Inv X pins σ H s) (k : ∀ b o, s.heap.get? b = some o → s'.heap.get? b = some o) (ho : s'.os = s.os) (hg : AllBare s'.gens) : Inv X pins σ H s' :=
  I.call' (ch := []) ho (Un.kept k) (I.hok.kept k) hg fun b hb => absurd hb (by simp)
theorem gen_start {scope : Scope} {own : List (Str × Nat)} {fp : List Addr} {code : Value} {A' : Around} {h' : Heap} {t' : Nat} {g' : Array GenState} {m : Str → Option Value}
    (I : Inv X pins σ H s) (ok : BlkOk X.N X.env.scope scope own) (hcell : ∀ y ∈ scope.names, y.2 ≠ .cell) (hN : X.N.Nodup) (hfp : ∀ b ∈ fp, FpOk X pins H b ∧ b < s.heap.objs.size)
    (hd : A'.handled = none) (hfr : A'.frames = some (genEnv scope (cloFrom X.env.cells scope.names []) s.heap.objs.size code builtinsNs X.env :: X.stack))
    (kp : ∀ b o, s.heap.get? b = some o → h'.get? b = some o) (hn : h'.Ns s.heap.objs.size m) (hg : AllBare g') :
    Inv (gcx X A' s H (genEnv scope (cloFrom X.env.cells scope.names []) s.heap.objs.size code builtinsNs X.env) scope fp) [] (wipe σ (own.map (·.2))) H { s with heap := h', toks := t', gens := g' } := by
  have hfree : ∀ y ∈ scope.names, y.2 = .free → ∃ c, X.env.cells.lookup y.1 = some c := fun y hy e => by
    rcases ok.free y hy e with k | k
    · exact I.ok.has _ (.inl k)
    · exact I.ok.has _ (.inr k)
  generalize hcenv : genEnv scope (cloFrom X.env.cells scope.names []) s.heap.objs.size code builtinsNs X.env = cenv at hfr ⊢
  have hL : cenv.locals = s.heap.objs.size := by rw [← hcenv]; rfl
  have hcl : cenv.cells = cloFrom X.env.cells scope.names [] := by rw [← hcenv]; rfl
  have hsc : cenv.scope = scope := by rw [← hcenv]; rfl
  have cm : ∀ {y c}, cenv.cells.lookup y = some c → X.env.cells.lookup y = some c ∧ c < s.heap.objs.size := fun {y c} e => by
    rw [hcl] at e
    rcases cloFrom_mem (PySem.mem_of_lookup e) with hm | ⟨h1, rfl⟩
    · cases hm
    · obtain ⟨c, hc⟩ := hfree _ h1 rfl
      rw [hc]
      obtain ⟨w, z⟩ := I.cell _ _ hc
      exact ⟨rfl, z.lt⟩
  have look : ∀ {y}, scope.names.lookup y = some .free → ∃ c, cenv.cells.lookup y = some c ∧ X.env.cells.lookup y = some c := fun {y} hl => by
    have hy : (y, NameKind.free) ∈ scope.names := PySem.mem_of_lookup hl
    obtain ⟨c', e'⟩ := mem_lookup (cloFrom_has (cells := X.env.cells) (acc := []) hy)
    rw [← hcl] at e'
    exact ⟨c', e', (cm e').1⟩
  have ncell : ∀ {y}, ¬ cenv.kindOf y = some .cell := fun {y} hy => by
    unfold Env.kindOf at hy
    rw [hsc] at hy
    exact hcell _ (PySem.mem_of_lookup hy) rfl
  have okB : (gcx X A' s H cenv scope fp).Ok := by
    refine ⟨I.ok.mod, by show cenv.scope.kind = _; rw [hsc]; exact ok.kind, by show cenv.globals = _; rw [← hcenv]; exact I.ok.glob, by show cenv.builtins = _; rw [← hcenv]; rfl, by show s.heap.objs.size ≤ cenv.locals; rw [hL]; exact Nat.le_refl _,
      fun y z c e1 e2 => I.ok.inj y z c (cm e1).1 (cm e2).1, fun y hy => ?_, fun y c z e => ?_, fun _ => hd, hfr, .inr ⟨rfl, by show cenv.frame = some cenv.locals; rw [← hcenv]; rfl⟩, fun b hb => ⟨?_, fun y c e z => ?_⟩, I.bs, Nat.le_trans I.ok.bsz I.sz, fun b o e hb => ?_, fun b hb z => ?_, I.stack, I.stkFree⟩
    · rcases hy with hy | hy
      · exact absurd hy ncell
      · have hy : cenv.scope.names.lookup y = some .free := hy
        rw [hsc] at hy
        obtain ⟨c, h1, _⟩ := look hy
        exact ⟨c, h1⟩
    · have z : (scope.names.lookup y == some NameKind.cell) = true := z
      have z : scope.names.lookup y = some .cell := by simpa using z
      exact absurd rfl (hcell _ (PySem.mem_of_lookup z))
    · show b ≠ cenv.locals
      rw [hL]; exact Nat.ne_of_lt (hfp b hb).2
    · exact (hfp b hb).1.2.2.2.2.1 y c (cm e).1 z
    · rcases (hfp b hb).1.2.2.2.1 with z | z
      · exact I.ok.noex b o e z
      · exact absurd (Nat.lt_of_lt_of_le (Heap.lt_size e) (Nat.le_trans I.ok.bsz z)) (Nat.lt_irrefl _)
    · rcases List.mem_cons.mp (I.stkSub b z) with z | z
      · exact (hfp b hb).1.2.1 z
      · exact (hfp b hb).1.2.2.1 z
  refine ⟨okB, rfl, hg, Un.kept kp, ⟨m, ?_, fun i y av e1 e2 e3 => ?_⟩, fun y c e => ?_, ?_, fun y c e => ?_, fun p hp => ?_, I.hok.kept kp, by rw [wipe_length]; exact I.len⟩
  · show Heap.Ns _ cenv.locals _
    rw [hL]
    exact hn
  · obtain ⟨e2, hne⟩ := wipe_some e2
    have hfr : scope.names.lookup y = some .free := by
      have no : ∀ k, scope.names.lookup y = some k → ¬ (k = .local ∨ k = .cell) := fun k e hh => by
        rcases ok.own _ (PySem.mem_of_lookup e) hh with e' | e'
        · obtain ⟨p, hp, hpy⟩ := List.mem_map.mp e'
          have e3 := ok.ix p hp
          have : p.1 = y := hpy
          rw [this] at e3
          exact hne (List.mem_map.mpr ⟨p, hp, nodup_ix hN e3 e1⟩)
        · exact e' (List.mem_of_getElem? e1)
      have e3 : Vis cenv.scope y := e3
      rw [hsc] at e3
      rcases e3 with e3 | e3 | e3
      · exact absurd (.inl rfl) (no _ e3)
      · exact absurd (.inr rfl) (no _ e3)
      · exact e3
    obtain ⟨m, hn, hl⟩ := I.loc
    have hvis : Vis X.env.scope y := (ok.free _ (PySem.mem_of_lookup hfr) rfl).elim (fun k => .inr (.inl k)) (fun k => .inr (.inr k))
    obtain ⟨w, r, q⟩ := hl i y av e1 e2 hvis
    refine ⟨w, r, .inr ⟨.inr (by show cenv.scope.names.lookup y = _; rw [hsc]; exact hfr), ?_⟩⟩
    obtain ⟨c, h1, h2⟩ := look hfr
    rcases q with ⟨k, _⟩ | ⟨_, c', e', z⟩
    · have k : X.env.scope.names.lookup y = some .local := k
      rcases ok.free _ (PySem.mem_of_lookup hfr) rfl with k' | k' <;> rw [show X.env.scope.names.lookup y = _ from k'] at k <;> cases k
    · rw [h2] at e'; cases e'
      exact ⟨c, h1, z.keeps kp⟩
  · obtain ⟨w, z⟩ := I.cell y c (cm e).1
    exact ⟨w, z.keeps kp⟩
  · show H cenv.locals = none
    rw [hL]; exact I.hok.fresh (Nat.le_refl _)
  · exact I.freeC y c (cm e).1
  · exact absurd (show p ∈ ([] : List (Addr × Obj)) ++ [] from hp) (by simp)
end
end Gn
set_option Elab.async false
set_option linter.all false
set_option maxRecDepth 100000
set_option maxHeartbeats 4000000
namespace Gn
open PySem PySem.Spec PyProof.Rows L2 GxR
section
variable {elt tg iter : Expr} {scope : Scope} {pos : Pos} {it acc : Value} {cenv : Env}
theorem over_gloop (A : Around) : A.over (.compLoop (.GeneratorExp elt [⟨tg, iter, [], 0⟩] scope pos) 0 it acc cenv) [] = A.deeper cenv := by
  first
    | rfl
    | (obtain ⟨hd, d, fr, gs, u⟩ := A; simp [Around.over, Around.deeper, marksOver, frameCount, unitsOf, envsOf, guardsOf, pushEnvs, pushGuards, Code.envs, Code.env?, Code.isFrame, Code.guards, Code.isGuard, Code.weight, Code.frames, Code.isCreation, Code.isCaller, Code.cUnits])
end
/-- one turn as it is told: W by the turn and a measure -/
def AllStep (J : It) (g : TG) (te : TE) (σ : L2.St) (vs : List Nat) (W : Nat → Nat → Hp → Prop) (Q : VK) : Prop := ∀ i m H, W i m H →
  (J.stop i H ∧ Q (.bl true) H) ∨ (J.go i H ∧ ∀ x H', J.yld i H x H' → g x (wipe σ vs) H' fun σ2 H2 => wipe σ2 vs = wipe σ vs ∧ te σ2 H2 fun y H3 =>
    ∃ b, y = .bl b ∧ if b = true then ∃ m', m' < m ∧ W (i + 1) m' H3 else Q (.bl false) H3)
/-- what the generator's end is worth -/
def genR (X : Cx) (pins : List (Addr × Obj)) (σ : L2.St) (a : Addr) (o : Obj) (g : Nat) (Q : VK) : Shared → Prop := fun s1 =>
  ∃ H', Inv X pins σ H' s1 ∧ s1.heap.get? a = some o ∧ g < s1.gens.size ∧ Q (.bl true) H'
/-- a value given out -/
def genY (X : Cx) (pins : List (Addr × Obj)) (σ : L2.St) (a : Addr) (o : Obj) (g : Nat) (Q : VK) : Protocol := fun _ _ v s kap =>
  ∃ b H', v = .bool b ∧ Inv X pins σ H' s ∧ s.heap.get? a = some o ∧ g < s.gens.size ∧
    if b = true then ∀ s'' : Shared, (∀ b o, s.heap.get? b = some o → s''.heap.get? b = some o) → s''.os = s.os → AllBare s''.gens → g < s''.gens.size → kap (.send .none) s'' else Q (.bl false) H'
section
variable {elt tg iter : Expr} {scope : Scope} {pos : Pos} {it : Addr} {cenv : Env}
theorem sbw {M : Model} {A : Around} {R : GenEnd} {Y : Protocol} {n : Nat} {s₀ : Shared} {s : Shared} {α β : Type} {m : Sem α} {K : α → Sem β} {K' : β → Sem Fin} {H' : Value → Sem Fin} {gd lv}
    (h : wpAny M (A.deeper cenv) m (fun a s' => Seg M A R Y n s₀ (.compLoop (.GeneratorExp elt [⟨tg, iter, [], 0⟩] scope pos) 0 (.ref it) .none cenv) ((K a).wrap K' H' gd lv) [] s') (fun _ _ => False) s) :
    Seg M A R Y n s₀ (.compLoop (.GeneratorExp elt [⟨tg, iter, [], 0⟩] scope pos) 0 (.ref it) .none cenv) ((m >>= K).wrap K' H' gd lv) [] s :=
  seg_bind_wrap (by rw [over_gloop]; exact wpAny_mono h (fun _ _ z => z) fun _ _ z => False.elim z)
theorem sw {M : Model} {A : Around} {R : GenEnd} {Y : Protocol} {n : Nat} {s₀ : Shared} {s : Shared} {α : Type} {m : Sem α} {K' : α → Sem Fin} {H' : Value → Sem Fin} {gd lv}
    (h : wpAny M (A.deeper cenv) m (fun a s' => Seg M A R Y n s₀ (.compLoop (.GeneratorExp elt [⟨tg, iter, [], 0⟩] scope pos) 0 (.ref it) .none cenv) (K' a) [] s') (fun _ _ => False) s) :
    Seg M A R Y n s₀ (.compLoop (.GeneratorExp elt [⟨tg, iter, [], 0⟩] scope pos) 0 (.ref it) .none cenv) (m.wrap K' H' gd lv) [] s :=
  seg_wrap (by rw [over_gloop]; exact wpAny_mono h (fun _ _ z => z) fun _ _ z => False.elim z)
/-- the number of generators never falls -/
theorem gsz {α : Type} {M : Model} {A : Around} {s : Shared} {t : Sem α} {Q : α → Shared → Prop} {g : Nat} (hn : g < s.gens.size) (h : wpAny M A t (fun a s' => g < s'.gens.size → Q a s') (fun _ _ => False) s) : wpAny M A t Q (fun _ _ => False) s :=
  GenW.wpAny_gsz (n := g + 1) hn (wpAny_mono h (fun _ _ z => z) fun _ _ z => False.elim z)
end
section
variable {X : Cx} {pins : List (Addr × Obj)} {σ : L2.St}
theorem seg_loop {elt tg iter : Expr} {scope : Scope} {pos : Pos} {own : List (Str × Nat)} {it : Addr} {fp : List Addr} {tn : Nat → Heap → Prop} {J : It} {gt : TG} {te : TE} {W : Nat → Nat → Hp → Prop} {Q : VK} {s4 : Shared} {H4 : Hp} {cenv : Env} {a : Addr} {o : Obj} {g : Nat} {A1 : Around}
    (I4 : Inv X pins σ H4 s4) (f4 : ∀ b ∈ fp, FpOk X pins H4 b) (hab : ∀ b ∈ fp, a ≠ b) (hc : X.calm = true) (hco : cenv.scope.isCoroutine = false) (T : Turn X.prog X.w X.K tg J fp it tn)
    (pg : PG (gcx X (A1.deeper cenv) s4 H4 cenv scope fp) tg gt) (pe : PE (gcx X (A1.deeper cenv) s4 H4 cenv scope fp) elt te) (turn : AllStep J gt te σ (own.map (·.2)) W Q) :
    ∀ (n i m : Nat) (s₀ s : Shared) (H : Hp), m ≤ n → Inv (gcx X (A1.deeper cenv) s4 H4 cenv scope fp) [(a, o)] (wipe σ (own.map (·.2))) H s → tn i s.heap → (∀ b ∈ fp, H b = none) → W i m H → g < s.gens.size →
      Seg (model X.prog X.w) A1 (fun _ _ r s1 => r = .ok .next ∧ genR X pins σ a o g Q s1) (genY X pins σ a o g Q) (n + 1) s₀
        (.compLoop (.GeneratorExp elt [⟨tg, iter, [], 0⟩] scope pos) 0 (.ref it) .none cenv)
        ((model X.prog X.w).den (.compLoop (.GeneratorExp elt [⟨tg, iter, [], 0⟩] scope pos) 0 (.ref it) .none cenv)) [] s := by
  have stat : ∀ {σ' : L2.St} {H' : Hp} {s' : Shared}, Inv (gcx X (A1.deeper cenv) s4 H4 cenv scope fp) [(a, o)] σ' H' s' → (∀ b ∈ fp, H' b = none) → (∀ b ∈ fp, a ≠ b) → ∀ b ∈ fp, FpOk (gcx X (A1.deeper cenv) s4 H4 cenv scope fp) [(a, o)] H' b := fun {σ' H' s'} I' hn ha b hb =>
    ⟨hn b hb, (I'.ok.exf b hb).1, I'.ok.exfs b hb, .inl hb, fun x c e => (I'.ok.exf b hb).2 x c e, fun p hp => by
      have : p = (a, o) := by simpa using hp
      rw [this]; exact ha b hb⟩
  have back : ∀ {σ' : L2.St} {H' : Hp} {s' : Shared} {pl : List (Addr × Obj)}, Inv (gcx X (A1.deeper cenv) s4 H4 cenv scope fp) pl σ' H' s' → Inv X pins σ H' s' := fun {σ' H' s' pl} I6 =>
    I4.call' (ch := fp) I6.os I6.base I6.hok I6.bare fun b hb => ⟨(f4 b hb).2.2.2.1, (f4 b hb).2.1, (f4 b hb).2.2.2.2.1, (f4 b hb).2.2.2.2.2⟩
  intro n
  induction n with
  | zero => ?_
  | succ n ih => ?_
  all_goals
    intro i m s₀ s H hm I st nf w hg
    show Seg _ A1 _ _ _ s₀ _ ((compTurn (.GeneratorExp elt [⟨tg, iter, [], 0⟩] scope pos) 0 (.ref it) .none cenv).onRaise (leaving cenv)) [] s
    rw [compTurn_gen, Sem.onRaise_eq_wrap]
    refine sbw (wpAny_standAt ?_)
    rcases turn i m H w with ⟨stop, qq⟩ | ⟨go, step⟩
    · refine sbw (gsz hg (thnF (T.done (gcx X (A1.deeper cenv) s4 H4 cenv scope fp) rfl rfl rfl hc i _ s _ H (fun _ _ => False) I (stat I nf hab) st stop) fun r s6 ⟨hr, I6⟩ hg6 => ?_))
      subst hr
      exact seg_end (.ok .next) ⟨rfl, H, back I6, (I6.pin (a, o) (by simp)).1, hg6, qq⟩
    · refine sbw (gsz hg (thnF (T.item (gcx X (A1.deeper cenv) s4 H4 cenv scope fp) rfl rfl rfl hc i _ s _ H (fun _ _ => False) I (stat I nf hab) st go) fun r s6 ⟨u, hr, h6⟩ hg6 => ?_))
      subst hr
      refine sbw (gsz hg6 (thnF h6 fun _ s7 ⟨x, H7, I7, r7, y7, st7, n7⟩ hg7 => ?_))
      have I7' := I7.pinned (stat I7 n7 hab) (T.obj _ _ st7)
      refine sbw (gsz hg7 (thnF (pg.run _ s7 _ H7 x u _ I7' r7 (step x H7 y7)) fun _ s8 ⟨σ8, H8, I8, hw8, q8⟩ hg8 => ?_))
      refine sbw (gsz hg8 (thnF ((pts_nil (X := gcx X (A1.deeper cenv) s4 H4 cenv scope fp)).run _ s8 σ8 H8 (fun b H => b = true ∧ H = H8) I8 ⟨rfl, rfl⟩) fun b s9 ⟨H9, I9, hb, hH9⟩ hg9 => ?_))
      subst hb hH9
      simp only [if_true]
      have hy : ∀ v, yieldOut cenv v = yieldValue v := fun v => by simp only [yieldOut, hco, Bool.false_eq_true, if_false]
      simp only [hy]
      rw [Sem.bind_eq_wrap', Sem.bind_eq_wrap', Sem.wrap_wrap, Sem.wrap_wrap]
      refine sw (gsz hg9 (thnF (pe.run _ s9 σ8 H9 _ I9 q8) fun z s10 ⟨yv, H10, I10, r10, b, hyv, nx⟩ hg10 => ?_))
      subst hyv
      have r10 : z = .bool b := r10
      subst r10
      have pA : s10.heap.get? a = some o := (I10.pin (a, o) (by simp)).1
      have pin' : ∀ b ∈ fp, ∀ o, s7.heap.get? b = some o → s10.heap.get? b = some o ∧ H10 b = none := fun b hb o e =>
        let z := I10.pin (b, o) (List.mem_append_right _ (List.mem_append_right _ (mem_pinsAt hb e)))
        ⟨z.1, z.2.1⟩
      have hl : (wipe σ (own.map (·.2))).length = σ8.length := by rw [← hw8, wipe_length]
      have I11 : Inv (gcx X (A1.deeper cenv) s4 H4 cenv scope fp) [(a, o)] (wipe σ (own.map (·.2))) H10 s10 := (I10.unpinned (pins := [(a, o)])).weak hl fun j v e => by
        rw [← hw8] at e
        exact (wipe_some e).1
      refine seg_at (seg_yield rfl rfl rfl ⟨b, H10, rfl, back I10, pA, hg10, ?_⟩)
      cases b with
      | false =>
        simp only [Bool.false_eq_true, if_false] at nx ⊢
        exact nx
      | true =>
        simp only [if_true] at nx ⊢
        obtain ⟨m', hm', w'⟩ := nx
        intro s'' hk ho hb hg''
        first
          | exact absurd (Nat.lt_of_lt_of_le hm' hm) (Nat.not_lt_zero _)
          | exact seg_again rfl (ih (i + 1) m' s'' s'' H10 (by omega) (inv_same I11 hk ho hb) (T.keep _ _ _ st7 fun b hb o e => hk b o (pin' b hb o e).1) (fun b hb => by
              obtain ⟨o, e, _⟩ := T.obj _ _ st7 b hb
              exact (pin' b hb o e).2) w' hg'')
end
end Gn
set_option Elab.async false
set_option linter.all false
set_option maxRecDepth 100000
set_option maxHeartbeats 4000000
namespace Gn
open PySem PySem.Spec PyProof.Rows L2 GxR
theorem setGen_at {s : Shared} {g : Nat} {x : GenState} (h : g < s.gens.size) : (s.setGen g x).gens[g]? = some x := by
  simp [Shared.setGen, h]
theorem setB (s : Shared) (g : Nat) (x : GenState) (hb : AllBare s.gens) (hx : x.bare = true) : AllBare (s.setGen g x).gens := by
  intro y hy
  obtain ⟨i, hi, rfl⟩ := Array.mem_iff_getElem.mp hy
  by_cases e : i = g
  · subst e
    have hi' : i < s.gens.size := by rw [GenW.setGen_size] at hi; exact hi
    have h1 := setGen_at (x := x) hi'
    rw [Array.getElem?_eq_getElem hi] at h1
    rw [Option.some.inj h1]
    exact hx
  · have h1 := (GenOnly.setGen s g x).2 i e
    rw [Array.getElem?_eq_getElem hi] at h1
    obtain ⟨hi', e'⟩ := Array.getElem?_eq_some_iff.mp h1.symm
    exact e' ▸ hb _ (Array.getElem_mem hi')
section
variable {X : Cx} {pins : List (Addr × Obj)} {σ : L2.St}
/-- all's loop over the generator -/
theorem all_loop {a : Addr} {o : Obj} {g : Nat} {Q : VK} {Rr : Result → Shared → Prop} (hc : X.calm = true) (hroom : X.A.depth < recursionLimit) (hgen : ∀ h : Heap, h.get? a = some o → h.IsGen a g)
    (hR : ∀ b s' H', Inv X pins σ H' s' → Q (.bl b) H' → Rr (.ok (.ret (.bool b))) s') :
    ∀ (n : Nat) (s : Shared) (H : Hp) (gs : GenState), Inv X pins σ H s → s.heap.get? a = some o → s.gens[g]? = some gs →
      (∀ s'' : Shared, (∀ b o, s.heap.get? b = some o → s''.heap.get? b = some o) → s''.os = s.os → AllBare s''.gens → g < s''.gens.size →
        gs.Goes (model X.prog X.w) X.A.in1.in1 (fun _ _ r s1 => r = .ok .next ∧ genR X pins σ a o g Q s1) (genY X pins σ a o g Q) n (.send .none) s'') →
      codeAny (model X.prog X.w) X.A (.builtin "all.loop" ⟨[.ref a], []⟩) Rr s := by
  intro n
  induction n with
  | zero => ?_
  | succ n ih => ?_
  all_goals
    intro s H gs I ha hgs hgo
    have hg : g < s.gens.size := by
      rcases Nat.lt_or_ge g s.gens.size with h' | h'
      · exact h'
      · rw [Array.getElem?_eq_none h'] at hgs; cases hgs
    have hh : X.A.in1.handled = none := I.ok.hd hc
    refine codeAny_builtin F.entry_all_loop ?_
    rw [Around.under_plainId F.plain_all_loop _]
    show wpAny _ X.A.in1 (pyNext (.ref a) >>= _) _ _ s
    refine wpAny_bind (wpAny_pyNext_genexpQ (A := X.A.in1) (P := fun _ _ s1 => genR X pins σ a o g Q s1) (Y := genY X pins σ a o g Q) hh I.nolimit hroom (hgen _ ha) hgs
      (hgo _ (fun _ _ e => e) rfl (setB _ _ _ I.bare rfl) (by rw [GenW.setGen_size]; exact hg)) (fun v s1 gs' hb hv => ?_) (fun s1 hp h' hk => ?_))
    · obtain ⟨b, H', rfl, I1, ha1, hg1, hk⟩ := hv
      have I2 : Inv X pins σ H' (s1.setGen g gs') := inv_same I1 (fun _ _ e => e) rfl (setB _ _ _ I1.bare hb)
      refine wpAny_bind (wpAny_holding (wpAny_truthy_bool ?_))
      refine wpAny_bind (wpAny_letGo ?_)
      cases b with
      | false =>
        simp only [Bool.false_eq_true, if_false] at hk ⊢
        refine wpAny_bind (wpAny_rule (wpAny_pure ?_))
        exact hR false _ H' I2 hk
      | true =>
        simp only [if_true] at hk ⊢
        first
          | exact (hk s1 (fun _ _ e => e) rfl I1.bare hg1).elim
          | exact wpAny_pure ⟨plainId_quiet F.plain_all_loop _, ih _ H' gs' I2 ha1 (setGen_at hg1) fun s'' k1 k2 k3 k4 => hk s'' k1 k2 k3 k4⟩
    · obtain ⟨H', I1, ha1, hg1, q⟩ := hp
      refine wpAny_bind (wpAny_rule (wpAny_pure ?_))
      exact hR true _ H' (inv_same I1 hk rfl (setB _ _ _ I1.bare rfl)) q
/-- all(elt for tg in iter): J what is walked, W by the turn and a measure -/
def tAllP (wi : TI) (gt : TG) (te : TE) (vs : List Nat) (P : Addr) : TE := fun σ H Q => wi σ H fun J H1 => TabG H1 P ∧ ∀ H2, Tabbed P H1 H2 → ∃ W : Nat → Nat → Hp → Prop, (∃ m, W 0 m H2) ∧ AllStep J gt te σ vs W Q
theorem boot_allP : bootBuiltins "all" = some (.builtin "all") := by decide +kernel
theorem gen_make {c P : Addr} {elt tg iter : Expr} {gpos : Pos} {scope : Scope} {own : List (Str × Nat)} {wi : TI} {gt : TG} {te : TE} {k : Nat} {H : Hp} {s : Shared} {Q : VK} {Q' : Value → Shared → Prop}
    (hc : X.calm = true) (hr : Room (k + 1) X.A) (TB : TabB X.base X.mg c P) (hcode : X.env.code = .ref c) (hN : X.N.Nodup) (ok : BlkOk X.N X.env.scope scope own) (hco : scope.isCoroutine = false) (hcell : ∀ y ∈ scope.names, y.2 ≠ .cell)
    (h0 : scope.names.lookup (".0" : Str) = some NameKind.local) (hi : PI X tg iter wi) (hs : ∀ v, genFold iter X.env v = pure v)
    (pg : ∀ (A' : Around) (s : Shared) (H : Hp) (C : Addr) (cl : List (Str × Addr)) (cd : Value) (fp : List Addr), PG (gcx X A' s H (genEnv scope cl C cd builtinsNs X.env) scope fp) tg gt)
    (pe : ∀ (A' : Around) (s : Shared) (H : Hp) (C : Addr) (cl : List (Str × Addr)) (cd : Value) (fp : List Addr), Room k A' → A'.guards = X.A.guards → PE (gcx X A' s H (genEnv scope cl C cd builtinsNs X.env) scope fp) elt te)
    (I : Inv X pins σ H s) (h : tAllP wi gt te (own.map (·.2)) P σ H Q)
    (hQ : ∀ a o g n s5 H5 gs, (∀ h : Heap, h.get? a = some o → h.IsGen a g) → Inv X pins σ H5 s5 → s5.heap.get? a = some o → s5.gens[g]? = some gs →
      (∀ s'' : Shared, (∀ b o, s5.heap.get? b = some o → s''.heap.get? b = some o) → s''.os = s5.os → AllBare s''.gens → g < s''.gens.size →
        gs.Goes (model X.prog X.w) X.A.in1.in1 (fun _ _ r s1 => r = .ok .next ∧ genR X pins σ a o g Q s1) (genY X pins σ a o g Q) n (.send .none) s'') → Q' (.ref a) s5) :
    wpAny (model X.prog X.w) X.A (eval (.GeneratorExp elt [⟨tg, iter, [], 0⟩] scope gpos) X.env) Q' X.xe s := by
  have hfree : ∀ y ∈ scope.names, y.2 = .free → ∃ c, X.env.cells.lookup y.1 = some c := fun y hy e => by
    rcases ok.free y hy e with k | k
    · exact I.ok.has _ (.inl k)
    · exact I.ok.has _ (.inr k)
  refine wpAny_GeneratorExp_make hco (closure_ok hfree) hcell h0 ok.kind (by have := hr.dp; omega) ?_ hs
  refine thn (hi.run pins s σ H _ I h) fun xv s1 hx => thn hx fun itv s2 h2 => ?_
  obtain ⟨it, fp, tn, J, H2, e, I2, T, st2, f2, ⟨ps, hP, ht⟩, q⟩ := h2
  subst e
  refine ⟨I2.nolimit, ?_⟩
  have hPs : s2.heap.get? P = some { cls := .none, data := .fields ps } := I2.hok P _ hP
  have hPlt := Heap.lt_size hPs
  have cd : PySem.W.CodeHd s2.heap c P := TB.code.keeps fun b u e => I2.bk b u e
  have nfP : ∀ b ∈ fp, b ≠ P := fun b hb z => by
    have := (f2 b hb).1
    rw [z, hP] at this
    cases this
  have cont : ∀ (code : Value) (h3 : Heap) (tk : Nat) (ps' : Array Value), Heap.ExtBut P s2.heap h3 → s2.heap.objs.size ≤ h3.objs.size →
      h3.get? P = some { cls := .none, data := .fields ps' } → (∃ more, ps' = ps ++ more) → TriplesOk ps'.toList →
      wpAny (model X.prog X.w) X.A (builtinsFor X.env.globals X.env.builtins) (fun bi s₄ =>
        ∀ h', h'.Ns s₄.heap.objs.size (fun y => if y = ".0" then some (.ref it) else none) → Heap.SameBut s₄.heap.objs.size (s₄.heap.push { cls := .type "frame", data := .dict #[] }) h' →
          Q' (.ref h'.objs.size) { s₄ with
            gens := s₄.gens.push (.fresh (.compStart (.GeneratorExp elt [⟨tg, iter, [], 0⟩] scope gpos) 0 (.ref it) .none (genEnv scope (cloFrom X.env.cells scope.names []) s₄.heap.objs.size code bi X.env))),
            toks := s₄.toks + 1 + 1 + 1,
            heap := h'.push { cls := .type "generator", data := .fields #[.int s₄.gens.size 0, .str "<genexpr>" (s₄.toks + 1), .str (X.env.qual ++ "<genexpr>") (s₄.toks + 1 + 1)] } }) X.xe { s2 with heap := h3, toks := tk } := by
    intro code h3 tk ps' hx hsz hP3 hmore ht3
    obtain ⟨more, em⟩ := hmore
    obtain ⟨bm, ob, e1, e2, e3, e4, e5, e6, e7, e8⟩ := TB.bm
    have keep3 : ∀ b u, b ≠ P → s2.heap.get? b = some u → h3.get? b = some u := fun b u hb e => hx b u hb e
    have I3 : Inv X pins σ (upd H2 P (.tbl (ps ++ more))) { s2 with heap := h3, toks := tk } := inv_tab (g' := s2.gens) (d' := s2.drawn) (t' := tk) I2 hP keep3 (by rw [← em]; exact hP3) I2.bare
    have tbd : Tabbed P H2 (upd H2 P (.tbl (ps ++ more))) := ⟨⟨_, upd_same, by rw [← em]; exact ht3⟩, fun b hb => upd_ne hb⟩
    refine wpAny_builtinsFor (m := X.mg) (by rw [I2.ok.glob]; exact (I2.mod.glob.keeps I2.bk).extBut hx TB.gP) e1 e2 (keep3 _ _ e4 (I2.bk _ _ e5)) e6 e7 e8 ?_
    intro h' hn' hs'
    generalize hs4 : ({ s2 with heap := h3, toks := tk } : Shared) = s4 at I3 hn' hs' ⊢
    have h4 : s4.heap = h3 := by rw [← hs4]
    have hsz' : h'.objs.size = s4.heap.objs.size + 1 := by rw [hs'.1, Heap.size_push]
    have keep' : ∀ b o, s4.heap.get? b = some o → h'.get? b = some o := fun b o e => hs'.extBut b o (Nat.ne_of_lt (Heap.lt_size e)) (Heap.get?_push_of_some _ e)
    generalize ho : ({ cls := .type "generator", data := .fields #[.int s4.gens.size 0, .str "<genexpr>" (s4.toks + 1), .str (X.env.qual ++ "<genexpr>") (s4.toks + 1 + 1)] } : Obj) = o
    have keep₅ : ∀ b u, s4.heap.get? b = some u → (h'.push o).get? b = some u := fun b u e => Heap.get?_push_of_some _ (keep' b u e)
    have f4 : ∀ b ∈ fp, FpOk X pins (upd H2 P (.tbl (ps ++ more))) b := fun b hb => ⟨by rw [upd_ne (nfP b hb)]; exact (f2 b hb).1, (f2 b hb).2⟩
    have st4 : tn 0 s4.heap := T.keep _ _ _ st2 fun b hb u e => by rw [h4]; exact keep3 b u (nfP b hb) e
    have lt4 : ∀ b ∈ fp, b < s4.heap.objs.size := fun b hb => by
      obtain ⟨u, e, _⟩ := T.obj _ _ st4 b hb
      exact Heap.lt_size e
    obtain ⟨W, ⟨m0, w0⟩, turn⟩ := q _ tbd
    generalize hH4 : upd H2 P (.tbl (ps ++ more)) = H4 at I3 f4 w0
    generalize hce : genEnv scope (cloFrom X.env.cells scope.names []) s4.heap.objs.size code builtinsNs X.env = ce
    have geta : (h'.push o).get? h'.objs.size = some o := Heap.get?_push_size _ (by rw [← ho]; rfl)
    have hbare : AllBare (s4.gens.push (GenState.fresh (.compStart (.GeneratorExp elt [⟨tg, iter, [], 0⟩] scope gpos) 0 (.ref it) .none ce))) := I3.bare.push rfl
    have Afr : (X.A.in1.in1.deeper ce).frames = some (ce :: X.stack) := by
      show X.A.frames.map (ce :: ·) = _
      rw [I.ok.frames]
      rfl
    refine hQ h'.objs.size o s4.gens.size (m0 + 1) _ H4 _ (fun h e => by rw [← ho] at e; exact ⟨_, _, _, e, rfl, rfl, rfl⟩) (inv_same (s' := { s4 with gens := _, toks := _, heap := h'.push o }) I3 keep₅ rfl hbare) geta (Array.getElem?_push_size ..) fun s'' hk hos hab'' hg'' => ?_
    refine ⟨rfl, ?_⟩
    -- the frame at its first waking
    have Ig : Inv (gcx X (X.A.in1.in1.deeper ce) s4 H4 ce scope fp) [] (wipe σ (own.map (·.2))) H4 s'' := by
      have z := gen_start (A' := X.A.in1.in1.deeper ce) (h' := h'.push o) (t' := s4.toks) (g' := s4.gens) (m := _) (code := code) I3 ok hcell hN (fun b hb => ⟨f4 b hb, lt4 b hb⟩) (I.ok.hd hc) (by rw [hce]; exact Afr) keep₅ (hn'.push _) I3.bare
      rw [hce] at z
      exact inv_same z hk hos hab''
    have Ia : Inv (gcx X (X.A.in1.in1.deeper ce) s4 H4 ce scope fp) [(h'.objs.size, o)] (wipe σ (own.map (·.2))) H4 s'' := by
      refine Ig.pins_of fun p hp => ?_
      have : p = (h'.objs.size, o) := by simpa using hp
      subst this
      refine ⟨hk _ _ geta, I3.hok.fresh (by rw [hsz']; exact Nat.le_succ _), ?_, ?_, ?_⟩
      · show h'.objs.size ≠ ce.locals
        rw [← hce, hsz']
        exact Nat.succ_ne_self _
      · intro z
        exact absurd (Nat.lt_of_lt_of_le (show h'.objs.size < s4.heap.objs.size from by
          rcases List.mem_cons.mp (I3.stkSub _ z) with z | z
          · have z' : h'.objs.size = X.env.locals := z
            rw [z']; exact I3.lt
          · obtain ⟨_, u, hu, _⟩ := I3.ok.funs.mem z
            exact Nat.lt_of_lt_of_le (Heap.lt_size hu) I3.sz) (by rw [hsz']; exact Nat.le_succ _)) (Nat.lt_irrefl _)
      · intro v
        rw [← ho]
        intro z
        cases z
    have loop := seg_loop (elt := elt) (iter := iter) (pos := gpos) (it := it) (a := h'.objs.size) (o := o) (g := s4.gens.size) (A1 := X.A.in1.in1) (cenv := ce) I3 f4 (fun b hb z => by
        have h1 := lt4 b hb
        have h2 : h'.objs.size = b := z
        rw [← h2, hsz'] at h1
        exact absurd h1 (Nat.not_lt.mpr (Nat.le_succ _))) hc (by rw [← hce]; exact hco) T (by rw [← hce]; exact pg ..) (by rw [← hce]; exact pe _ _ _ _ _ _ _ ⟨I.ok.hd hc, by have := hr.dp; show X.A.depth + 1 + 3 * k + 5 < _; omega, by have := hr.un; show X.A.units + 1 + 1 + 3 + 16 * k + 200 < _; omega⟩ rfl) turn m0 0 m0 s'' s'' H4 (Nat.le_refl _) Ia (T.keep _ _ _ st4 fun b _ u e => hk b u (keep₅ b u e)) (fun b hb => (f4 b hb).1) w0 hg''
    show Seg _ X.A.in1.in1 _ _ _ s'' _ ((compStart (.GeneratorExp elt [⟨tg, iter, [], 0⟩] scope gpos) 0 (.ref it) .none ce).onRaise (leaving ce)) [] s''
    unfold compStart
    rw [Sem.onRaise_eq_wrap]
    show Seg _ X.A.in1.in1 _ _ _ s'' _ ((ask >>= _).wrap _ _ _ _) [] s''
    refine seg_bind_wrap (wpAny_askSetting ?_)
    split
    · exact seg_again rfl loop
    · exact seg_bind_wrap (wpAny_rule (seg_bind_wrap (wpAny_standAt (seg_bind_wrap (T.self _ 0 s'' _ _ (T.keep _ _ _ st4 fun b _ u e => hk b u (keep₅ b u e)) (seg_again rfl loop))))))
  cases hf : codeAmong gpos ps.toList with
  | none =>
    refine wpAny_genexprCodeX hcode (cd.code hPs ht) (cd.tab hPs) hf fun c' h' tk hx hge hlt hco' _ htab' _ => ?_
    obtain ⟨o1, vs, f1, tf, fl, tg', inF, tx, tt, op, _, _, _, _, _, _, _, _, _, htr, _⟩ := hco'
    exact cont _ h' tk _ hx (Nat.le_trans hge (Nat.le_of_lt hlt)) htab'.2 ⟨_, rfl⟩ htr
  | some cv =>
    refine wpAny_genexprCode_hit hcode (cd.code hPs ht) hf ?_
    exact cont cv s2.heap s2.toks ps (Heap.ExtBut.refl _ _) (Nat.le_refl _) hPs ⟨#[], by simp⟩ ht
theorem pe_allP {c P : Addr} {elt tg iter : Expr} {p pos gpos : Pos} {scope : Scope} {own : List (Str × Nat)} {wi : TI} {gt : TG} {te : TE} {k : Nat}
    (hc : X.calm = true) (hr : Room (k + 1) X.A) (hg : Gl X "all") (hm : X.mg "all" = none) (TB : TabB X.base X.mg c P) (hcode : X.env.code = .ref c) (hN : X.N.Nodup) (ok : BlkOk X.N X.env.scope scope own) (hco : scope.isCoroutine = false)
    (hcell : ∀ y ∈ scope.names, y.2 ≠ .cell) (h0 : scope.names.lookup (".0" : Str) = some NameKind.local) (hi : PI X tg iter wi)
    (pg : ∀ (A' : Around) (s : Shared) (H : Hp) (C : Addr) (cl : List (Str × Addr)) (cd : Value) (fp : List Addr), PG (gcx X A' s H (genEnv scope cl C cd builtinsNs X.env) scope fp) tg gt)
    (pe : ∀ (A' : Around) (s : Shared) (H : Hp) (C : Addr) (cl : List (Str × Addr)) (cd : Value) (fp : List Addr), Room k A' → A'.guards = X.A.guards → PE (gcx X A' s H (genEnv scope cl C cd builtinsNs X.env) scope fp) elt te)
    (hs : ∀ v, genFold iter X.env v = pure v := by intro _; rfl)
    (he : starEach [.GeneratorExp elt [⟨tg, iter, [], 0⟩] scope gpos] X.env = (false, eval (.GeneratorExp elt [⟨tg, iter, [], 0⟩] scope gpos) X.env) :: starEach [] X.env := by rfl) :
    PE X (.Call (.Name "all" p) [.GeneratorExp elt [⟨tg, iter, [], 0⟩] scope gpos] [] pos) (tAllP wi gt te (own.map (·.2)) P) := by
  refine ⟨fun pins s σ H Q I h => ?_⟩
  refine wpAny_Call_Name_kw (ld_blt I hg hm boot_allP (callWith_builtin1 ?_ he (by rfl)))
  rw [he]
  show wpAny _ _ (spliced ((false, eval (.GeneratorExp elt [⟨tg, iter, [], 0⟩] scope gpos) X.env) :: backTo pos (starEach [] X.env))) _ _ s
  refine Calls.spliced_cons (gen_make (Q := Q) hc hr TB hcode hN ok hco hcell h0 hi hs pg pe I h fun a o g n s5 H5 gs hgen I5 ha hgs hgo => ?_)
  refine Calls.spliced_nil ?_
  refine call_function_tree F.kind_all F.plain_all F.entry_all (F.args_all1 _) ?_
  unfold Builtin.«all»
  refine wpAny_bind (m := oneArg "all" _) (wpAny_pure ?_)
  refine wpAny_bind (wpAny_pyIter_gen (hgen _ ha) ?_)
  exact wpAny_pure ⟨plainId_quiet F.plain_all_loop _, all_loop (X := X) (pins := pins) (σ := σ) (Q := Q) hc (by have := hr.dp; omega) hgen (fun b s' H' J q => ⟨.bl b, H', J, rfl, q⟩) n s5 H5 gs I5 ha hgs hgo⟩
end
end Gn
set_option Elab.async false
set_option linter.all false
set_option maxRecDepth 100000
set_option maxHeartbeats 4000000
namespace Nk
open PySem PySem.Spec PyProof.Rows L2 GxR
/-- key, where its tuple stands, value -/
abbrev Ent := NestedKey × Addr × V
abbrev EntH := NestedKey × Addr × Value
abbrev KN : List Ent → List EntH → Prop := Paired fun p q => p.1 = q.1 ∧ p.2.1 = q.2.1 ∧ RelV p.2.2 q.2.2
def entOf (w : World) (x : EntH) : DictEntry := ⟨x.1.hash w, .ref x.2.1, x.2.2⟩
def Phi (w : World) (a : Addr) (ws : List Ent) (h : Heap) : Prop := ∃ xs : List EntH, KN ws xs ∧ ∃ o es ep, h.get? a = some o ∧ o.ExactDict ∧ o.data = .dict es ep ∧ es.toList = xs.map (entOf w) ∧ (xs.map (·.1)).Nodup
/-- the dict with the entries ws, at b -/
def DNo (w : World) (b : Addr) (ws : List Ent) : HO := .ext fun h => ws.length ≤ sizeLine ∧ (b == sysModules) = false ∧ Phi w b ws h
/-- it is no code object -/
theorem dno_ne_code {w : World} {b c : Addr} {ws : List Ent} {q : Str} (e : DNo w b ws = LamX.CodeO c q) : False := by
  have e2 : (fun h : Heap => ws.length ≤ sizeLine ∧ (b == sysModules) = false ∧ Phi w b ws h) = fun h => ∃ (oc : Obj) (vs : Array Value) (t : Tok), h.get? c = some oc ∧ oc.data = .fields vs ∧ vs[1]? = some (.str q t) := by
    unfold DNo LamX.CodeO at e
    exact HO.ext.inj e
  obtain ⟨o, ho⟩ : ∃ o : Obj, o = { cls := .none, data := .fields #[.none, .str q 0] } := ⟨_, rfl⟩
  have hget : ∀ (x : Addr) (u : Obj), (Heap.mk (Array.replicate (c + 1) o) {}).get? x = some u → u = o := fun x u hx => by
    obtain ⟨h1, h2⟩ := Heap.get?_some_iff.mp hx
    have h3 := Array.getElem?_eq_some_iff.mp h1
    obtain ⟨h4, h5⟩ := h3
    rw [← h5]
    simp
  have hc : (Heap.mk (Array.replicate (c + 1) o) {}).get? c = some o := by
    refine Heap.get?_some_iff.mpr ⟨by simp, ?_⟩
    rw [ho]
    rfl
  have p : ∃ (oc : Obj) (vs : Array Value) (t : Tok), (Heap.mk (Array.replicate (c + 1) o) {}).get? c = some oc ∧ oc.data = .fields vs ∧ vs[1]? = some (.str q t) := ⟨o, #[.none, .str q 0], 0, hc, by rw [ho], by simp⟩
  rw [← show _ = (∃ (oc : Obj) (vs : Array Value) (t : Tok), (Heap.mk (Array.replicate (c + 1) o) {}).get? c = some oc ∧ oc.data = .fields vs ∧ vs[1]? = some (.str q t)) from congrFun e2 _] at p
  obtain ⟨_, _, xs, k, o2, es, ep, e3, hx, hd, _⟩ := p
  have := hget _ _ e3
  rw [this, ho] at hd
  cases hd
mutual
/-- the value is the key -/
inductive NIs (H : Hp) : NestedKey → V → Prop
  | none : NIs H .none .non
  | num (i : Int) : NIs H (.num i) (.int i)
  | text (x : Str) : NIs H (.text x) (.str x)
  | tup {b : Addr} {xs : List V} {ks : List NestedKey} : H b = some (.tup xs) → NIss H ks xs → NIs H (.tup ks) (.ref b)
inductive NIss (H : Hp) : List NestedKey → List V → Prop
  | nil : NIss H [] []
  | cons {k : NestedKey} {ks : List NestedKey} {v : V} {vs : List V} : NIs H k v → NIss H ks vs → NIss H (k :: ks) (v :: vs)
end
mutual
theorem NIs.grw {H H' : Hp} (g : ∀ b xs, H b = some (.tup xs) → H' b = some (.tup xs)) : ∀ (k : NestedKey) (v : V), NIs H k v → NIs H' k v
  | .none, _, h => by cases h; exact .none
  | .num i, _, h => by cases h; exact .num i
  | .text x, _, h => by cases h; exact .text x
  | .tup ks, _, h => by
    cases h with
    | tup h1 h2 => exact .tup (g _ _ h1) (NIss.grw g ks _ h2)
theorem NIss.grw {H H' : Hp} (g : ∀ b xs, H b = some (.tup xs) → H' b = some (.tup xs)) : ∀ (ks : List NestedKey) (vs : List V), NIss H ks vs → NIss H' ks vs
  | [], _, h => by cases h; exact .nil
  | k :: ks, _, h => by
    cases h with
    | cons h1 h2 => exact .cons (NIs.grw g k _ h1) (NIss.grw g ks _ h2)
end
section
variable {P : Program} {w : World} {H : Hp} {h : Heap}
mutual
theorem NIs.heap (ok : HOk P w H h) : ∀ (k : NestedKey) (v : V) (u : Value), NIs H k v → RelV v u → NestedIs h k u
  | .none, _, u, x, r => by
    cases x
    obtain rfl : u = Value.none := r
    exact .none
  | .num i, _, u, x, r => by
    cases x
    obtain ⟨t, rfl⟩ := (show ∃ t, u = Value.int i t from r)
    exact .int i t
  | .text y, _, u, x, r => by
    cases x
    obtain ⟨t, rfl⟩ := (show ∃ t, u = Value.str y t from r)
    exact .text y t
  | .tup ks, _, u, x, r => by
    cases x with
    | @tup b xs _ h1 h2 =>
      obtain rfl : u = Value.ref b := r
      obtain ⟨_, its, rv, o, e1, e2, n, e3⟩ := (show ObjOk P w H h b (.tup xs) from ok b _ h1)
      exact .tup e1 e2 e3 (by simpa using NIss.heap ok ks xs its h2 rv)
theorem NIss.heap (ok : HOk P w H h) : ∀ (ks : List NestedKey) (vs : List V) (us : List Value), NIss H ks vs → Vals vs us → NestedAll h ks us
  | [], _, us, x, r => by
    cases x
    cases r
    exact .nil
  | k :: ks, _, us, x, r => by
    cases x with
    | cons h1 h2 =>
      cases r with
      | cons r1 r2 => exact .cons (NIs.heap ok k _ _ h1 r1) (NIss.heap ok ks _ _ h2 r2)
end
end
section
variable {P : Program} {w : World} {H : Hp} {h : Heap}
mutual
theorem NIs.reads (ok : HOk P w H h) : ∀ (k : NestedKey) (v : V) (u : Value), NIs H k v → RelV v u → Reads h u k.data []
  | .none, _, u, x, r => by
    cases x
    obtain rfl : u = Value.none := r
    exact .none
  | .num i, _, u, x, r => by
    cases x
    obtain ⟨t, rfl⟩ := (show ∃ t, u = Value.int i t from r)
    exact .int i t
  | .text y, _, u, x, r => by
    cases x
    obtain ⟨t, rfl⟩ := (show ∃ t, u = Value.str y t from r)
    exact .str y t
  | .tup ks, _, u, x, r => by
    cases x with
    | @tup b xs _ h1 h2 =>
      obtain rfl : u = Value.ref b := r
      obtain ⟨_, its, rv, o, e1, e2, n, e3⟩ := (show ObjOk P w H h b (.tup xs) from ok b _ h1)
      exact .tuple e1 e2 e3 (by simpa using NIss.reads ok ks xs its h2 rv)
theorem NIss.reads (ok : HOk P w H h) : ∀ (ks : List NestedKey) (vs : List V) (us : List Value), NIss H ks vs → Vals vs us → ReadsAll h us (NestedKey.datas ks) []
  | [], _, us, x, r => by
    cases x
    cases r
    exact .nil
  | k :: ks, _, us, x, r => by
    cases x with
    | cons h1 h2 =>
      cases r with
      | cons r1 r2 => exact ReadsAll.cons (as := []) (bs := []) (NIs.reads ok k _ _ h1 r1) (NIss.reads ok ks _ _ h2 r2)
end
end
def valE (ws : List Ent) (k : NestedKey) : Option V := (ws.find? fun p => decide (p.1 = k)).map (·.2.2)
def putE (ws : List Ent) (k : NestedKey) (b : Addr) (v : V) : List Ent := if (valE ws k).isSome then ws.map (fun p => if p.1 = k then (p.1, p.2.1, v) else p) else ws ++ [(k, b, v)]
theorem KN.val {ws : List Ent} {xs : List EntH} (r : KN ws xs) (k : NestedKey) : RelO (valE ws k) ((atKey xs k).map (·.2)) := by
  induction r with
  | nil => exact True.intro
  | @cons p q ps qs h t ih =>
    obtain ⟨h1, _, h2⟩ := h
    by_cases e : p.1 = k
    · have e' : q.1 = k := h1.symm.trans e
      simp only [valE, atKey, List.find?_cons, e, e', decide_true, Option.map_some]
      exact h2
    · have e' : ¬ q.1 = k := fun z => e (h1.trans z)
      simp only [valE, atKey, List.find?_cons, e, e', decide_false]
      exact ih
theorem KN.put {ws : List Ent} {xs : List EntH} (r : KN ws xs) (k : NestedKey) {b : Addr} {v : V} {u : Value} (rv : RelV v u) : KN (putE ws k b v) (storedH xs k b u) := by
  have e : (valE ws k).isSome = (atKey xs k).isSome := by
    rw [(r.val k).isSome_eq, Option.isSome_map]
  unfold putE storedH
  rw [e]
  split
  · rename_i hs
    clear e hs
    induction r with
    | nil => exact .nil
    | @cons p q ps qs h t ih =>
      rw [List.map_cons, List.map_cons]
      refine .cons ?_ ih
      obtain ⟨h1, h2, h3⟩ := h
      unfold putAt
      by_cases z : p.1 = k
      · rw [if_pos z, if_pos (h1.symm.trans z)]; exact ⟨h1, h2, rv⟩
      · rw [if_neg z, if_neg (fun y => z (h1.trans y))]; exact ⟨h1, h2, h3⟩
  · exact Paired.snoc r ⟨rfl, rfl, rv⟩
/-- each entry's tuple is its key -/
def KeysOk (H : Hp) (ws : List Ent) : Prop := ∀ p ∈ ws, NIs H p.1 (.ref p.2.1) ∧ p.1.depth ≤ 8
theorem KN.mem {ws : List Ent} {xs : List EntH} (r : KN ws xs) : ∀ q ∈ xs, ∃ p ∈ ws, p.1 = q.1 ∧ p.2.1 = q.2.1 := by
  induction r with
  | nil => intro q hq; cases hq
  | @cons p q ps qs h t ih =>
    intro x hx
    rcases List.mem_cons.mp hx with rfl | hx
    · exact ⟨p, by simp, h.1, h.2.1⟩
    · obtain ⟨p', hp, r⟩ := ih x hx
      exact ⟨p', List.mem_cons_of_mem _ hp, r⟩
section
end
end Nk
set_option Elab.async false
set_option linter.all false
set_option maxRecDepth 100000
set_option maxHeartbeats 4000000
namespace Zn
open PySem PySem.Spec PyProof.Rows L2 GxR
section
end
end Zn
set_option Elab.async false
set_option linter.all false
set_option maxRecDepth 100000
set_option maxHeartbeats 4000000
namespace Zn
open PySem PySem.Spec PyProof.Rows L2 GxR
/-- what of the module every state of a body holds -/
structure Gnd (X : Cx) (h : Heap) : Prop where
  kin : X.K.In h
  glob : h.Ns mainGlobals X.mg
  blt : ∃ mb, h.Ns builtinsNs mb ∧ ∀ x : Str, x ≠ "__name__" → mb x = bootBuiltins x
  nl : h.NoLimit
theorem Gnd.keeps {X : Cx} {h h' : Heap} (g : Gnd X h) (k : ∀ b o, h.get? b = some o → h'.get? b = some o) : Gnd X h' :=
  ⟨g.kin.keeps k, g.glob.keeps k, let ⟨mb, a, b⟩ := g.blt; ⟨mb, a.keeps k, b⟩, g.nl.keeps k⟩
def QE (X : Cx) (A : Around) (env : Env) (h0 : Heap) (e : Expr) (R : Value → Prop) : Prop :=
  ∀ (s : Shared) (E : Value → Shared → Prop), (∀ b o, h0.get? b = some o → s.heap.get? b = some o) → wpAny (model X.prog X.w) A (eval e env) (fun z s3 => R z ∧ Keeps s s3) E s
section
variable {X : Cx} {A : Around} {env : Env} {h0 : Heap} {e a b : Expr} {R : Value → Prop} {pos p : Pos} {x : Str}
theorem QE.mono {R' : Value → Prop} (h : QE X A env h0 e R) (i : ∀ z, R z → R' z) : QE X A env h0 e R' := fun s E k => thn (h s E k) fun z s3 q => ⟨i z q.1, q.2⟩
end
end Zn
set_option Elab.async false
set_option linter.all false
set_option maxRecDepth 100000
set_option maxHeartbeats 4000000
namespace Zn
open PySem PySem.Spec PyProof.Rows L2 GxR
section
variable {X : Cx}
theorem vals_one {x : V} {us : List Value} (r : Vals [x] us) : ∃ u, us = [u] ∧ RelV x u := by
  cases r with
  | cons a b =>
    cases b
    exact ⟨_, rfl, a⟩
/-- repr(x), where nothing else is being told (the guards around are none) -/
def rRepr (K : PySem.W.Frag) : List V → Hp → VK → Prop := fun xs H Q => ∃ x d, xs = [x] ∧ Dp K H x d ∧ PyData.showable d = true ∧ d.hasDict = false ∧ d.depth ≤ 60 ∧ d.shown.length ≤ sizeLine ∧ ((∃ a, x = .ref a) ∨ ∃ z, x = .str z) ∧ Q (.str d.shown) H
theorem cr_repr (hg : X.A.guards = some []) (hu : X.A.units + 64 < cLine) : CallR X (.builtin "repr") (rRepr X.K) := by
  intro pins s σ H xs us Q I r h
  obtain ⟨x, d, rfl, hd, hs, hn, hdp, hz, hx, q⟩ := h
  obtain ⟨u, rfl, ru⟩ := vals_one r
  rcases hx with ⟨a, rfl⟩ | ⟨z, rfl⟩
  · obtain ⟨as, rd⟩ := Dp.reads I d _ u hd ru
    cases ru
    exact repr_of_reads' rd hs (fun e => by rw [hn] at e; cases e) hg (by omega) (fun _ _ e => e) (fun h' u tk hk => ⟨.str d.shown, H, I.kept (t' := tk) hk, ⟨_, rfl⟩, q⟩) hz
  · obtain ⟨t, rfl⟩ := ru
    cases hd
    simp only [PyData.shown] at hz q
    exact PySem.P.repr_of_str ⟨.str _, H, I.tok _, ⟨_, rfl⟩, q⟩ hz
/-- the signs of a text, each a text -/
def signs (z : Str) : List V := z.cps.toList.map fun c => V.str ⟨#[c]⟩
theorem signs_length (z : Str) : (signs z).length = z.cps.size := by
  unfold signs
  rw [List.length_map, Array.length_toList]
theorem vals_signs {z : Str} {acc : Array Value} (h : ItemsOf (SignAt z) acc z.cps.size) : Vals (signs z) acc.toList := by
  obtain ⟨hs, hi⟩ := h
  have key : ∀ (l : List Nat) (us : List Value), l.length = us.length → (∀ (j : Nat) (c : Nat), l[j]? = some c → ∃ u, us[j]? = some (.str ⟨#[c]⟩ u)) → Vals (l.map fun c => V.str ⟨#[c]⟩) us := by
    intro l
    induction l with
    | nil =>
      intro us e _
      cases us with
      | nil => exact .nil
      | cons _ _ => cases e
    | cons c r ih =>
      intro us e g
      cases us with
      | nil => cases e
      | cons u us =>
        obtain ⟨t, ht⟩ := g 0 c rfl
        have ht' : u = .str ⟨#[c]⟩ t := by simpa using ht
        refine .cons ⟨t, ht'⟩ (ih us (by simpa using e) fun j c' hj => ?_)
        obtain ⟨t2, e2⟩ := g (j + 1) c' (by simpa using hj)
        exact ⟨t2, by simpa using e2⟩
  refine key z.cps.toList acc.toList (by simp [hs]) fun j c hj => ?_
  have hj' : z.cps[j]? = some c := by rw [← hj]; simp
  have hlt : j < acc.size := by
    rw [hs]
    exact (Array.getElem?_eq_some_iff.mp hj').1
  obtain ⟨c2, u, e1, e2⟩ := hi j acc[j] (by simp [hlt])
  rw [hj'] at e1
  cases e1
  exact ⟨u, by simp [hlt, e2]⟩
/-- list(text) -/
def rListS : List V → Hp → VK → Prop := fun xs H Q => ∃ z : Str, xs = [.str z] ∧ z.cps.size ≤ sizeLine ∧ ∀ l, H l = none → Q (.ref l) (upd H l (.lst (signs z)))
theorem cr_listS (hc : X.A.handled = none) : CallR X (.type "list") rListS := by
  intro pins s σ H xs us Q I r h
  obtain ⟨z, rfl, hz, q⟩ := h
  obtain ⟨u, rfl, t, rfl⟩ := vals_one r
  refine call_list_str hc z t (fun h' tk acc' c' hk hS hacc => ?_) hz
  have hf : H s.heap.objs.size = none := I.hok.fresh (Nat.le_refl _)
  have new : ObjOk X.prog X.w (upd H s.heap.objs.size (.lst (signs z))) h' s.heap.objs.size (.lst (signs z)) := ⟨by rw [signs_length]; exact hz, acc'.toList, c', vals_signs hacc, by simpa using hS⟩
  exact ⟨.ref _, _, I.laid (t' := tk) hk (Nat.le_refl _) new, rfl, q _ hf⟩
/-- *text in a display -/
def tStarS (te : TE) (t : TA) : TA := fun σ H Q => te σ H fun x H1 => ∃ z : Str, x = .str z ∧ z.cps.size ≤ sizeLine ∧ t σ H1 fun ys H2 => Q (signs z ++ ys) H2
theorem sh_all (s s' : Shared) (h1 : s'.gens = s.gens) (h2 : s'.drawn = s.drawn) (h3 : s'.os = s.os) : ({ s with heap := s'.heap, toks := s'.toks } : Shared) = s' := by
  cases s'
  cases h1
  cases h2
  cases h3
  rfl
theorem pa_starS {e : Expr} {es : List Expr} {te : TE} {t : TA} {p : Pos} (hc : X.A.handled = none) (he : PE X e te) (hr : PA X es t) (hs : starEach (.Starred e p :: es) X.env = (true, eval e X.env) :: starEach es X.env := by rfl) : PA X (.Starred e p :: es) (tStarS te t) := by
  refine ⟨fun pos pins s σ H Q I h => ?_⟩
  refine PySem.W.items_star (thn (he.run pins s σ H _ I h) fun v s1 hv => ?_) hs
  obtain ⟨y, H1, I1, ry, z, rfl, hz, q⟩ := hv
  obtain ⟨tk, rfl⟩ := ry
  have main : wpAny (model X.prog X.w) X.A (collect (.str z tk)) (fun us s2 => wpAny (model X.prog X.w) X.A (spliced (backTo pos (starEach es X.env))) (fun ws s3 => AP X pins σ Q (us ++ ws) s3) X.xe s2) X.xe s1 := by
    refine wpAny_collect_str hc z tk (fun s' acc hk hg hd ho hacc => ?_) hz
    have J : Inv X pins σ H1 s' := by
      have := I1.kept (h' := s'.heap) (t' := s'.toks) hk
      rw [sh_all s1 s' hg hd ho] at this
      exact this
    exact thn (hr.run pos pins s' σ H1 _ J q) fun ws s3 hw => by
      obtain ⟨vs, H3, I3, r3, q3⟩ := hw
      exact ⟨signs z ++ vs, H3, I3, (vals_signs hacc).append r3, q3⟩
  unfold PySem.W.StarOf notIterableAtAll
  exact wpAny_bind (wpAny_specialOf (typeIs_str s1 z tk) PySem.F.slot_str_iter.lookup (wpAny_pure ⟨rfl, main⟩))
/-- x in t, t a tuple of data -/
def rInT (K : PySem.W.Frag) : R2 := fun x y H Q => ∃ d ds, Dp K H x d ∧ Dp K H y (.tuple ds) ∧ SeqAt.shaped d = true ∧ SeqAt.shaped (.tuple ds) = true ∧ Q (.bl (ds.any fun z => PyData.eqv z d)) H
theorem op_inT (hu : X.A.units + 65 < cLine) : OpR X (compareOp .In) (rInT X.K) := by
  intro pins s σ H x y v u Q I rx ry h
  obtain ⟨d, ds, hd, he, sd, se, q⟩ := h
  obtain ⟨as, r1⟩ := Dp.reads I d x v hd rx
  obtain ⟨bs, r2⟩ := Dp.reads I (.tuple ds) y u he ry
  exact SeqAt.in_tuple_reads r2 r1 (SeqAt.canLay_of_shaped se) (SeqAt.canLay_of_shaped sd) (room_in_shaped sd hu) ⟨.bl _, H, I, rfl, q⟩
end
set_option maxHeartbeats 1000000 in
theorem meets_enumT {v : Value} {o : Obj} {G : Heap → Prop} (B : Begins v o G) :
    Meets (Builtin.«enumerate.__new__» ⟨[.type "enumerate", v], []⟩) (fun _ R s => G s.heap ∧
      R (.ok (.ret (.ref (s.heap.push o).objs.size))) { s with heap := (s.heap.push o).push { cls := .type "enumerate", data := .fields #[.none, .bool false, .ref s.heap.objs.size, rawInt 0, .none, .none] } }) :=
  .of_wp fun prog w A R s h => by
    obtain ⟨hp, g, d, tk, os⟩ := s
    obtain ⟨h1, h⟩ := h
    have hsub := sub_enumerate
    have q1 : ∀ {A' : Around} {E : Value → Shared → Prop} {Q : Value → Shared → Prop}, Q (.ref hp.objs.size) ⟨hp.push o, g, d, tk, os⟩ → wpAny (model prog w) A' (pyIter v) Q E ⟨hp, g, d, tk, os⟩ :=
      fun q => B.iter prog w _ _ ⟨hp, g, d, tk, os⟩ _ h1 q
    wp_walk using q1
    refine wpAny_stack_any fun st => wpAny_pure ?_
    split
    · rename_i c _ _ _ _ _
      cases (c == Value.type "enumerate")
      · wp_walk using q1
        exact ⟨_, rfl, h⟩
      · wp_walk using q1
        exact ⟨_, rfl, h⟩
    · wp_walk using q1
      exact ⟨_, rfl, h⟩
section
variable {prog : Program} {w : World} {A : Around} {E : Value → Shared → Prop} {s : Shared}
theorem call_enumB {v : Value} {o : Obj} {G : Heap → Prop} {Q : Value → Shared → Prop} (B : Begins v o G) (h1 : G s.heap)
    (h : ∀ h', IsEnum h' (s.heap.objs.size + 1) s.heap.objs.size 0 .none → h'.get? s.heap.objs.size = some o → h'.objs.size = s.heap.objs.size + 2 →
      (∀ b o, s.heap.get? b = some o → h'.get? b = some o) → Q (.ref (s.heap.objs.size + 1)) { s with heap := h' }) : wpAny (model prog w) A (call (.type "enumerate") [v]) Q E s := by
  refine callType_new F.called_enumerate (by decide) (F.typeCall_enumerate_1 _) (F.newCall_enumerate_1 _) (fun obj => F.args_object_init_2 obj _) F.entry_enumerate_new (meets_enumT B) ⟨h1, ?_⟩
  have hz : (s.heap.push o).objs.size = s.heap.objs.size + 1 := Heap.size_push ..
  show _ ∧ _
  rw [hz]
  have he : IsEnum ((s.heap.push o).push { cls := .type "enumerate", data := .fields #[.none, .bool false, .ref s.heap.objs.size, rawInt 0, .none, .none] }) (s.heap.objs.size + 1) s.heap.objs.size 0 .none := by
    have q := Heap.get?_push_size (s.heap.push o) (o := { cls := .type "enumerate", data := .fields #[.none, .bool false, .ref s.heap.objs.size, rawInt 0, .none, .none] }) rfl
    rw [hz] at q
    exact q
  exact ⟨⟨_, he, rfl⟩, h _ he (Heap.get?_push_of_some _ (Heap.get?_push_size _ B.free)) (by rw [Heap.size_push, hz]) fun b o x => Heap.get?_push_of_some _ (Heap.get?_push_of_some _ x)⟩
end
theorem next_enum_endT {prog : Program} {w : World} {A : Around} {E : Value → Shared → Prop} {s : Shared} {e it t : Addr} {i : Nat} {c : Int} {items : Array Value} {old : Value} {Q : Option Value → Shared → Prop} (hh : A.handled = none)
    (he : IsEnum s.heap e it c old) (hit : s.heap.IsTupleIter it t i) (ht : s.heap.IsTuple t items) (hx : items[i]? = none) (hQ : ∀ h', Heap.ExtBut it s.heap h' → Q none { s with heap := h' }) : wpAny (model prog w) A (pyNext (.ref e)) Q E s := by
  have hT : s.TypeIs (.ref e) "enumerate" := ⟨_, he, rfl⟩
  unfold pyNext
  refine wpAny_bind (wpAny_attempt (wpAny_callSpecial?_slot (name := Str.ofString "__next__") hT F.slot_enumerate_next (wpAny_call_entry F.slot_enumerate_next hT F.entry_enumerate_next ?_ (F.args_enumerate_next_1 _))))
  show wpAny _ _ (field (.ref e) 2 >>= _) _ _ _
  refine wpAny_bind (wpAny_field he rfl (x := .ref it) rfl (wpAny_bind (wpAny_nextOf_tuple_end hh hit ht hx fun h' x he' hx' => ?_)))
  obtain ⟨o, ho, hc⟩ := hx'
  exact wpAny_bind (wpAny_isInstance (T := "StopIteration") (b := true) ⟨o, ho, hc⟩ isSubtype_stop (wpAny_pure (hQ _ he')))
/-- the tuple at a, each item in a new pair with its place -/
def ItT (K : PySem.W.Frag) (a : Addr) : It :=
  ⟨fun i H => ∃ (xs : List V) (x : V), SqT K H a xs ∧ xs[i]? = some x, fun i H v H' => ∃ T x, v = .ref T ∧ H T = none ∧ H' = upd H T (.tup [.int (i : Nat), x]) ∧ ∀ xs, SqT K H a xs → xs[i]? = some x, fun i H => ∃ xs : List V, SqT K H a xs ∧ xs.length ≤ i⟩
theorem turn_enumT {P : Program} {w : World} {K : PySem.W.Frag} {elts : List Expr} {kk : Nat} {tpos : Pos} (a e it : Addr) (hae : a ≠ e) (hai : a ≠ it) :
    Turn P w K (.Tuple elts kk tpos) (ItT K a) [e, it] e (fun i h => (∃ old, IsEnum h e it ((i : Nat) : Int) old) ∧ h.IsTupleIter it a i ∧ e ≠ it) where
  mem := by simp
  obj := fun i h st b hb => by
    obtain ⟨⟨old, he⟩, ⟨o, ho, hc, hd⟩, _⟩ := st
    have e' : b = e ∨ b = it := by simpa using hb
    rcases e' with z | z
    · rw [z]; exact ⟨_, he, fun v q => nomatch q⟩
    · rw [z]; exact ⟨o, ho, fun v q => by rw [hd] at q; cases q⟩
  keep := fun i h h' st k => by
    obtain ⟨⟨old, he⟩, hi, hne⟩ := st
    exact ⟨⟨old, k e (by simp) _ he⟩, hi.at fun o q => k it (by simp) o q, hne⟩
  item := by
    intro X hP hw hK hc i pins s σ H E I hf st hg
    subst hP hw hK
    obtain ⟨⟨old, he⟩, hit, hne⟩ := st
    obtain ⟨xs, x, hq, hx⟩ := hg
    obtain ⟨its, rv, p, hz⟩ := I.tuple hq
    obtain ⟨u, hu, ru⟩ := rv.get hx
    have hel := Heap.lt_size he
    have hil : it < s.heap.objs.size := by obtain ⟨_, q, _⟩ := hit; exact Heap.lt_size q
    have hu' : its.toArray[i]? = some u := by simpa using hu
    have hlt : i < its.toArray.size := (Array.getElem?_eq_some_iff.mp hu').1
    have hpt : s.heap.IsTuple a its.toArray := p
    have D := Draws.tuple (prog := X.prog) (w := X.w) (A := X.A.in1) (I.ok.hd hc) it a hai its.toArray
    refine wpAny_pyNext_enum_itemD D he ⟨hit, hpt⟩ hlt hne (by simp [hne, hae.symm]) fun x' h' tk hx' ho hst hT hsz hk => ?_
    rw [hu'] at hx'
    cases hx'
    refine ⟨_, rfl, wpAny_letOwnedTupleGo_enum (s := { s with heap := h', toks := tk + 1 }) ho fun h'' he' sb => ?_⟩
    have hT2 : h''.get? s.heap.objs.size = some { cls := .type "tuple", data := .seq #[.int i tk, u] } := (sb.2 _ (Nat.ne_of_gt hel)).trans hT
    have I1 : Inv X pins σ (upd H s.heap.objs.size (.tup [.int (i : Nat), x])) { s with heap := h'', toks := tk + 1 } :=
      I.turnedNew (ch := [e, it]) (fun b ob hb q => (sb.2 b (fun z => hb (by simp [z]))).trans (hk b ob (fun z => hb (by simp [z])) (fun z => hb (by simp [z])) q)) hf (Nat.le_refl _)
        ⟨by show 2 ≤ sizeLine; decide, [.int i tk, u], .cons ⟨_, rfl⟩ (.cons ru .nil), ⟨_, hT2, rfl, _, rfl⟩⟩
    refine ⟨.ref s.heap.objs.size, _, I1, rfl, ⟨_, x, rfl, I.hok.fresh (Nat.le_refl _), rfl, fun ys hy => by rw [I.tuple_inj hy hq]; exact hx⟩, ⟨⟨u, ?_⟩, hst.1.at fun o q => (sb.2 it (Ne.symm hne)).trans q, hne⟩, fun b hb => ?_⟩
    · have e1 : ((i + 1 : Nat) : Int) = (i : Int) + 1 := by omega
      rw [e1]
      exact he'
    · have hb' : b < s.heap.objs.size := by
        have e' : b = e ∨ b = it := by simpa using hb
        rcases e' with z | z
        · rw [z]; exact hel
        · rw [z]; exact hil
      rw [upd_ne (Nat.ne_of_lt hb')]
      exact (hf b hb).1
  done := by
    intro X hP hw hK hc i pins s σ H E I hf st hg
    subst hP hw hK
    obtain ⟨⟨old, he⟩, hit, hne⟩ := st
    obtain ⟨xs, hq, hx⟩ := hg
    obtain ⟨its, rv, p, hz⟩ := I.tuple hq
    obtain ⟨f0, f1, f2, f3, f4, f5⟩ := hf it (by simp)
    have hl := rv.length
    have hpt : s.heap.IsTuple a its.toArray := p
    have hx0 : its.toArray[i]? = none := Array.getElem?_eq_none_iff.mpr (by simp only [List.size_toArray]; omega)
    exact next_enum_endT (I.ok.hd hc) he hit hpt hx0 fun h' sb => ⟨rfl, I.turned (t' := s.toks) (fun b o hb q => sb b o hb q) f0 f1 f3 f4 f5⟩
  self := fun A i s Q E st h => let ⟨⟨_, he⟩, _⟩ := st; wpAny_pyIter_enum he h
def iEnumT (K : PySem.W.Frag) (ta : TA) : TI := fun σ H R => ta σ H fun vs H1 => ∃ a xs, vs = [.ref a] ∧ SqT K H1 a xs ∧ R (ItT K a) H1
theorem pi_enumT {X : Cx} {e : Expr} {ta : TA} {p pos tpos : Pos} {elts : List Expr} {kk : Nat} (hg : Gl X "enumerate") (hm : X.mg "enumerate" = none) (ha : PA X [e] ta) (hs : starEach [e] X.env = [(false, eval e X.env)] := by rfl) :
    PI X (.Tuple elts kk tpos) (.Call (.Name "enumerate" p) [e] [] pos) (iEnumT X.K ta) := by
  refine ⟨fun pins s σ H R I h => ?_⟩
  refine Call_ (ld_blt I hg hm boot_enumerate (callWith_type1 (thn (ha.run pos pins s σ H _ I h) fun us s1 hv => ?_) hs rfl))
  obtain ⟨vs, H1, I1, r1, a, xs, rfl, hq, q⟩ := hv
  obtain ⟨u, rfl, ru⟩ := vals_one r1
  cases ru
  obtain ⟨its, rv, p', hz⟩ := I1.tuple hq
  have hpt : s1.heap.IsTuple a its.toArray := p'
  have hlt : a < s1.heap.objs.size := p'.lt
  refine call_enumB (begins_tuple a its.toArray) hpt fun h' he hit hsz hk => wpAny_pyIter_enum he ?_
  have I2 : Inv X pins σ H1 { s1 with heap := h' } := I1.kept (t' := s1.toks) hk
  refine ⟨s1.heap.objs.size + 1, [s1.heap.objs.size + 1, s1.heap.objs.size], _, _, H1, rfl, I2, turn_enumT a (s1.heap.objs.size + 1) s1.heap.objs.size (Nat.ne_of_lt (Nat.lt_succ_of_lt hlt)) (Nat.ne_of_lt hlt), ⟨⟨.none, he⟩, ⟨_, hit, rfl, rfl⟩, Nat.succ_ne_self _⟩, fun b hb => ?_, q⟩
  have hle : s1.heap.objs.size ≤ b := by
    rcases (by simpa using hb : b = s1.heap.objs.size + 1 ∨ b = s1.heap.objs.size) with z | z
    · rw [z]; exact Nat.le_succ _
    · rw [z]; exact Nat.le_refl _
  exact I1.fpOk hle (I1.hok.fresh hle)
end Zn
set_option Elab.async false
set_option linter.all false
set_option maxRecDepth 100000
set_option maxHeartbeats 4000000
namespace Zn
open PySem PySem.Spec PyProof.Rows L2 GxR
/-- how many different ones are among the first i -/
def dcnt (xs : List Str) : Nat → Nat
  | 0 => 0
  | i + 1 => if (xs.take i).any (· == xs.getD i Str.empty) then dcnt xs i else dcnt xs i + 1
theorem dcnt_le (xs : List Str) : ∀ i, dcnt xs i ≤ i
  | 0 => Nat.le_refl _
  | i + 1 => by
    have h := dcnt_le xs i
    unfold dcnt
    split <;> omega
section
variable {prog : Program} {w : World} {A : Around} {R : Result → Shared → Prop} {I : Addr} {fp wr : List Addr} {G : Array GenState → Array GenState → Prop} {n : Nat} {P : Nat → Value → Prop} {St : Nat → Shared → Prop}
/-- the set at S holds the first i -/
abbrev Holds (prog : Program) (w : World) (h : Heap) (S : Addr) (xs : List Str) (i : Nat) : Prop := h.SetOf (PySem.strKind prog w) S (fun k => (xs.take i).any (· == k)) (dcnt xs i)
theorem holds_at {h h' : Heap} {S : Addr} {xs : List Str} {i : Nat} (x : Holds prog w h S xs i) (k : ∀ o, h.get? S = some o → h'.get? S = some o) : Holds prog w h' S xs i := by
  obtain ⟨o, es, ep, t, ho, rest⟩ := x
  exact ⟨o, es, ep, t, k o ho, rest⟩
theorem setLoop (W : WalksS prog w A.in1 I fp wr G n P St) (S : Addr) (nS : S ∉ fp) (xs : List Str) (hlen : xs.length = n) (hroom : n + 1 < scanBound)
    (val : ∀ i v, P i v → ∃ t, v = .str (xs.getD i Str.empty) t) :
    ∀ (k i : Nat) (s : Shared), n - i = k → i ≤ n → St i s → Holds prog w s.heap S xs i → (∀ s', Moved (S :: wr) G s s' → Holds prog w s'.heap S xs n → R (.ok (.ret .none)) s') →
      codeAny (model prog w) A (.builtin "set.update.loop" ⟨[.ref S, .ref I], []⟩) R s := by
  have nSw : S ∉ wr := fun h => nS (W.sub _ h)
  have up : ∀ b ∈ wr, b ∈ S :: wr := fun b hb => List.mem_cons_of_mem _ hb
  intro k
  induction k with
  | zero =>
    intro i s hk hi hst hS hR
    have hin : i = n := by omega
    subst hin
    refine codeAny_builtin PyProof.Rows.F.entry_set_update_loop ?_
    rw [Around.under_plainId PyProof.Rows.F.plain_set_update_loop _]
    show wpAny _ A.in1 (pyNext (.ref I) >>= _) _ _ s
    exact wpAny_bind (W.done s _ _ hst fun s' hm => wpAny_pure (hR s' (hm.mono up) (holds_at hS fun o e => hm.heap S o nSw e)))
  | succ k ih =>
    intro i s hk hi hst hS hR
    have hlt : i < n := by omega
    refine codeAny_builtin PyProof.Rows.F.entry_set_update_loop ?_
    rw [Around.under_plainId PyProof.Rows.F.plain_set_update_loop _]
    show wpAny _ A.in1 (pyNext (.ref I) >>= _) _ _ s
    refine wpAny_bind (W.item i s _ _ hlt hst fun v s' hP hst' hm => ?_)
    obtain ⟨t, rfl⟩ := val i v hP
    have hS' := holds_at hS fun o e => hm.heap S o nSw e
    show wpAny _ A.in1 (holding [Value.str (xs.getD i Str.empty) t] (setAdd S (.str (xs.getD i Str.empty) t)) >>= _) _ _ s'
    refine wpAny_bind (wpAny_holding ?_)
    unfold setAdd
    refine wpAny_holding (wpAny_bind ((PySem.strKind prog w).pyHash (k := xs.getD i Str.empty) (strKind_is _ _ _ _) ?_))
    have hle := dcnt_le xs i
    refine wpAny_setAddHashed_of (knd := PySem.strKind prog w) (s := { s' with toks := s'.toks + 1 }) (strKind_is _ _ _ _) rfl hS' (by omega) fun h' sb hS2 => ?_
    have hSi : Holds prog w h' S xs (i + 1) := by
      have e1 : xs.take (i + 1) = xs.take i ++ [xs.getD i Str.empty] := by
        rw [List.take_add_one, List.getD_eq_getElem?_getD, List.getElem?_eq_getElem (show i < xs.length by omega)]
        rfl
      refine SetOf_congr hS2 (fun k' => ?_) (by rfl)
      show ((xs.take i).any (· == k') || decide (k' = xs.getD i Str.empty)) = (xs.take (i + 1)).any (· == k')
      rw [e1, List.any_append]
      congr 1
      by_cases e : k' = xs.getD i Str.empty
      · subst e
        simp
      · have hb : (xs.getD i Str.empty == k') = false := by simpa [beq_iff_eq] using (fun h' : xs.getD i Str.empty = k' => e h'.symm)
        rw [decide_eq_false e, List.any_cons, hb]
        rfl
    refine wpAny_pure ⟨plainId_quiet PyProof.Rows.F.plain_set_update_loop _, ih (i + 1) _ (by omega) hlt (W.frame _ s' _ _ hst' (Nat.le_succ _) fun b hb o e => ?_) hSi fun s'' hm'' hS'' => ?_⟩
    · exact (sb.2 b (fun h : b = S => nS (by rw [← h]; exact hb))).trans e
    · exact hR s'' (Moved.trans W.gtrans ((hm.mono up).then_heap (Nat.le_succ _) fun b o hb e => (sb.2 b (fun h : b = S => hb (by rw [h]; exact List.mem_cons_self))).trans e) hm'') hS''
end
section
variable {prog : Program} {w : World} {A : Around} {E : Value → Shared → Prop} {s : Shared}
set_option maxHeartbeats 6400000 in
/-- set(v), where v is walked and gives the texts xs -/
theorem call_setW {v : Value} {T : String} {fp : List Addr} {Q : Value → Shared → Prop} {xs : List Str} (hh : A.handled = none) (hT : ∀ s' : Shared, (∀ b o, s.heap.get? b = some o → s'.heap.get? b = some o) → s'.TypeIs v T)
    (u1 : isSubtype (.type T) (.type "set") = pure false) (u2 : isSubtype (.type T) (.type "frozenset") = pure false) (u3 : (Value.type T == Value.type "dict") = false) (hroom : xs.length + 1 < scanBound) (hfp : ∀ b ∈ fp, b < s.heap.objs.size)
    (itr : ∀ (A' : Around) (E' : Value → Shared → Prop) (Q' : Value → Shared → Prop) (s' : Shared), (∀ b o, s.heap.get? b = some o → s'.heap.get? b = some o) → s.heap.objs.size < s'.heap.objs.size →
      (∀ (o : Obj) (St : Nat → Heap → Prop) (Pf : Nat → Value → Prop), (∀ A'' : Around, A''.handled = none → Walks prog w A'' s'.heap.objs.size (s'.heap.objs.size :: fp) [s'.heap.objs.size] xs.length Pf St) → St 0 (s'.heap.push o) →
        (∀ i y, Pf i y → ∃ t, y = .str (xs.getD i Str.empty) t) → Q' (.ref s'.heap.objs.size) { s' with heap := s'.heap.push o }) → wpAny (model prog w) A' (pyIter v) Q' E' s')
    (h : ∀ (h' : Heap) (tk : Nat), Holds prog w h' s.heap.objs.size xs xs.length → (∀ b o, b < s.heap.objs.size → s.heap.get? b = some o → h'.get? b = some o) → Q (.ref s.heap.objs.size) { s with heap := h', toks := tk }) :
    wpAny (model prog w) A (call (.type "set") [v]) Q E s := by
  obtain ⟨c, tl, hmro⟩ := PySem.F.called_set.mro
  have k0 := PySem.F.called_set.made
  have k1 := PySem.F.called_set.sub
  refine wpAny_call (codeAny_of_tree ?_)
  show wpAny _ _ (callAny (.type "set") _) _ _ _
  refine wpAny_pure ⟨Code.quiet_builtin _ (by decide +kernel), codeAny_builtin PySem.F.entry_type_call ?_⟩
  rw [Around.under_plain (weight_type_call_type "set" [v] []) rfl]
  have k2 := PySem.F.called_set.notType
  have k3 := PySem.F.called_set.canCreate
  have k4 := PySem.F.typeCall_set_1 v
  repeat (any_goals (first | assumption | wp_step))
  refine codeAny_mono (code_set_new_1 v (E := E) (Q₁ := fun obj s₁ => ∃ led : Bool, obj = .ref s.heap.objs.size ∧ s₁ = { s with heap := s.heap.push { cls := .type "set", dict := none, data := .set #[] 0 (.fresh 0 0 led) } }) fun led => ⟨led, rfl, rfl⟩) fun r s₁ hr => ?_
  cases r with
  | error e => exact hr
  | ok fl =>
    cases fl with
    | next => exact hr.elim
    | brk => exact hr.elim
    | cont => exact hr.elim
    | ret obj =>
      obtain ⟨led, rfl, rfl⟩ := hr
      have hS : (s.heap.push { cls := .type "set", dict := none, data := .set #[] 0 (.fresh 0 0 led) }).get? s.heap.objs.size = some { cls := .type "set", dict := none, data := .set #[] 0 (.fresh 0 0 led) } := Heap.get?_push_size _ rfl
      have hTS : Shared.TypeIs { s with heap := s.heap.push { cls := .type "set", dict := none, data := .set #[] 0 (.fresh 0 0 led) } } (.ref s.heap.objs.size) "set" := ⟨_, hS, rfl⟩
      have k5 := PySem.F.called_set.init.lookup
      have k6 := PySem.F.called_set.init.bind (.ref s.heap.objs.size)
      repeat (any_goals (first | assumption | wp_step))
      have kp : ∀ b o, s.heap.get? b = some o → (s.heap.push { cls := .type "set", dict := none, data := .set #[] 0 (.fresh 0 0 led) }).get? b = some o := fun b o e => Heap.get?_push_of_some _ e
      have sz1 : (s.heap.push { cls := .type "set", dict := none, data := .set #[] 0 (.fresh 0 0 led) }).objs.size = s.heap.objs.size + 1 := Heap.size_push ..
      refine codeAny_mono (codeAny_call_builtin (R := wants (fun r s₂ => r = .none ∧ ∃ h' tk, s₂ = { s with heap := h', toks := tk } ∧ Holds prog w h' s.heap.objs.size xs xs.length ∧
          (∀ b o, b < s.heap.objs.size → s.heap.get? b = some o → h'.get? b = some o)) E) PySem.F.called_set.init.plain PySem.F.entry_set_init (check_set_init_1 hTS ?_)) fun r₂ s₂ hr₂ => ?_
      · have hTv := hT { s with heap := s.heap.push { cls := .type "set", dict := none, data := .set #[] 0 (.fresh 0 0 led) } } kp
        unfold Builtin.«set.__init__» noKeywords
        generalize hUF : Builtin.Frozenset.updateFrom = UF
        wp_walk
        subst hUF
        unfold Builtin.Frozenset.updateFrom Builtin.Frozenset.isAnySet
        generalize hPI : pyIter = PI
        wp_walk
        subst hPI
        refine itr _ _ _ _ kp (by show s.heap.objs.size < (s.heap.push _).objs.size; rw [sz1]; exact Nat.lt_succ_self _) fun o St Pf W hst hval => ?_
        refine wpAny_bind (wpAny_runValue ?_)
        have nSf : s.heap.objs.size ∉ ((s.heap.push { cls := .type "set", dict := none, data := .set #[] 0 (.fresh 0 0 led) }).objs.size :: fp) := by
          intro hm
          rcases List.mem_cons.mp hm with z | z
          · rw [sz1] at z
            exact absurd z (Nat.ne_of_lt (Nat.lt_succ_self _))
          · exact Nat.lt_irrefl _ (hfp _ z)
        refine setLoop (W A.in1.in1.in1 (by simp [hh])).toS s.heap.objs.size nSf xs rfl hroom hval (xs.length - 0) 0 _ (by omega) (Nat.zero_le _) hst ?_ fun s' hm hS' => ?_
        · have hget : ((s.heap.push { cls := .type "set", dict := none, data := .set #[] 0 (.fresh 0 0 led) }).push o).get? s.heap.objs.size = some { cls := .type "set", dict := none, data := .set #[] 0 (.fresh 0 0 led) } := Heap.get?_push_of_some _ hS
          exact PyProof.Rows.SetOf_congr ((PyProof.Rows.setObjOf_fresh (knd := PySem.strKind prog w) led).setOf hget (by unfold scanBound; omega)) (fun _ => rfl) rfl
        · obtain ⟨h', g', d', tk', os'⟩ := s'
          obtain rfl : g' = s.gens := hm.gens
          obtain rfl : d' = s.drawn := hm.drawn
          obtain rfl : os' = s.os := hm.os
          refine wpAny_pure ?_
          show wpAny _ _ (ret Value.none) _ _ _
          refine wpAny_pure ⟨rfl, h', tk', rfl, hS', fun b o2 hb e => hm.heap b o2 (fun hc => ?_) (Heap.get?_push_of_some _ (kp b o2 e))⟩
          rcases List.mem_cons.mp hc with z | z
          · exact Nat.ne_of_lt hb z
          · rw [List.mem_singleton.mp z, sz1] at hb
            exact absurd hb (by omega)
      · cases r₂ with
        | error e => exact hr₂
        | ok fl₂ =>
          cases fl₂ with
          | next => exact hr₂.elim
          | brk => exact hr₂.elim
          | cont => exact hr₂.elim
          | ret r =>
            obtain ⟨rfl, h', tk, rfl, hS', hk'⟩ := hr₂
            repeat (any_goals (first | assumption | wp_step))
            exact h _ _ hS' hk'
end
end Zn
set_option Elab.async false
set_option linter.all false
set_option maxRecDepth 100000
set_option maxHeartbeats 4000000
namespace Zn
open PySem PySem.Spec PyProof.Rows L2 GxR
/-- the signs of a text, each a text of one -/
def sgn (z : Str) : List Str := z.cps.toList.map fun c => ⟨#[c]⟩
theorem sgn_length (z : Str) : (sgn z).length = z.cps.size := by
  unfold sgn
  rw [List.length_map, Array.length_toList]
section
variable {X : Cx}
theorem boot_set' : bootBuiltins "set" = some (.type "set") := by decide +kernel
/-- len(set(x)) of a text, or of a list of texts -/
def tLenSetT (K : PySem.W.Frag) (ta : TE) : TE := fun σ H Q => ta σ H fun x H1 => ∃ ws : List Str, ((∃ z, x = .str z ∧ ws = sgn z) ∨ ∃ l, x = .ref l ∧ SqL K H1 l (ws.map V.str)) ∧ ws.length ≤ 4000 ∧ Q (.int (dcnt ws ws.length : Nat)) H1
theorem pe_lenSetT {a : Expr} {ta : TE} {p p2 q pos : Pos} (hc : X.calm = true) (hg : Gl X "len") (hm : X.mg "len" = none) (hg2 : Gl X "set") (hm2 : X.mg "set" = none) (ha : PE X a ta)
    (na : starEach [a] X.env = (false, eval a X.env) :: starEach [] X.env := by rfl) : PE X (.Call (.Name "len" p) [.Call (.Name "set" p2) [a] [] q] [] pos) (tLenSetT X.K ta) := by
  refine ⟨fun pins s σ H Q I h => ?_⟩
  refine Call_ (ld_blt I hg hm boot_len (callWith_builtin1 (args_cons ?_ rfl) rfl rfl))
  refine Call_ (ld_blt I hg2 hm2 boot_set' (callWith_type1 (args_cons (thn (ha.run pins s σ H _ I h) fun v s1 hv => args_nil ?_) na) na rfl))
  obtain ⟨x, H1, I1, r1, ws, hx, hl, q1⟩ := hv
  have fin : ∀ (h' : Heap) (tk : Nat), Holds X.prog X.w h' s1.heap.objs.size ws ws.length → (∀ b o, b < s1.heap.objs.size → s1.heap.get? b = some o → h'.get? b = some o) →
      wpAny (model X.prog X.w) X.A (spliced (backTo pos (starEach [] X.env))) (fun vs s₂ => wpAny (model X.prog X.w) X.A (call (.builtin "len") (Value.ref s1.heap.objs.size :: vs)) (EP X pins σ Q) X.xe s₂) X.xe { s1 with heap := h', toks := tk } := by
    intro h' tk hS hk
    obtain ⟨o, es, ep, t, ho, hex, hd, _, _, _, hf, hn⟩ := hS
    have hdl := dcnt_le ws ws.length
    have I2 : Inv X pins σ H1 { s1 with heap := h', toks := tk } := I1.kept fun b o e => hk b o (Heap.lt_size e) e
    exact args_nil (call_len_set ho hex hd hf (by rw [hn]; omega) ⟨.int _, H1, I2.tok _, ⟨_, by rw [hn]⟩, q1⟩)
  have room : ws.length + 1 < scanBound := by unfold scanBound; omega
  rcases hx with ⟨z, rfl, rfl⟩ | ⟨l, rfl, hq⟩
  · obtain ⟨t, rfl⟩ := r1
    refine call_setW (T := "str") (fp := []) (xs := sgn z) (I1.ok.hd hc) (fun s' _ => typeIs_str s' z t) F.sub_str_set F.sub_str_frozenset (by decide) room (fun b hb => by cases hb) (fun A' E' Q' s' hk hlt g => ?_) fin
    refine wpAny_pyIter_str fun o St W hst => g o St _ (fun A'' hA => by rw [sgn_length]; exact W A'' hA) hst fun i y hy => ?_
    obtain ⟨c, u, hc', rfl⟩ := hy
    refine ⟨u, ?_⟩
    have : (sgn z).getD i Str.empty = ⟨#[c]⟩ := by
      unfold sgn
      have h2 : z.cps.toList[i]? = some c := by rw [Array.getElem?_toList]; exact hc'
      rw [List.getD_eq_getElem?_getD, List.getElem?_map, h2]
      rfl
    rw [this]
  · cases r1
    obtain ⟨its, r, pl, hz⟩ := I1.list hq
    have hi := strsAre_of r
    have hlen : its.length = ws.length := by rw [← r.length, List.length_map]
    have hlt : l < s1.heap.objs.size := pl.lt
    have hil : s1.heap.IsList l its.toArray := pl.isList
    refine call_setW (T := "list") (fp := [l]) (xs := ws) (I1.ok.hd hc) (fun s' hk => (hil.at fun o e => hk l o e).typeIs) F.sub_list_set F.sub_list_frozenset (by decide) room (fun b hb => by rw [List.mem_singleton.mp hb]; exact hlt) (fun A' E' Q' s' hk hlt2 g => ?_) fin
    have hl2 : s'.heap.IsList l its.toArray := hil.at fun o e => hk l o e
    have hne : l ≠ s'.heap.objs.size := Nat.ne_of_lt (Nat.lt_trans hlt hlt2)
    refine wpAny_pyIter_list hl2 ?_
    refine g _ (fun i h => h.IsListIter s'.heap.objs.size l i ∧ h.IsList l its.toArray) (fun i v => its.toArray[i]? = some v) (fun A'' hA => ?_) ⟨⟨_, Heap.get?_push_size _ rfl, rfl, rfl⟩, hl2.push _⟩ fun i y hy => SS.strs_at hi i y (by simpa using hy)
    have W := Walks.list (prog := X.prog) (w := X.w) hA s'.heap.objs.size l hne its.toArray
    have e : its.toArray.size = ws.length := by rw [List.size_toArray]; exact hlen
    rw [e] at W
    exact W
end
end Zn
set_option Elab.async false
set_option linter.all false
set_option maxRecDepth 100000
set_option maxHeartbeats 4000000
namespace Zn
open PySem PySem.Spec PyProof.Rows L2 GxR
section
end
end Zn
set_option Elab.async false
set_option linter.all false
set_option maxRecDepth 100000
set_option maxHeartbeats 4000000
namespace Zn
open PySem PySem.Spec PyProof.Rows L2 GxR
section
end
section
end
end Zn
set_option Elab.async false
set_option linter.all false
set_option maxRecDepth 100000
set_option maxHeartbeats 4000000
namespace Zn
open PySem PySem.Spec PyProof.Rows L2 GxR
/-- so many cells, one after the other -/
def refs (b n : Nat) : List Value := (List.range' b n).map Value.ref
/-- amid a turn: the iterators below ki have turned, the own tuple is filled below ka -/
structure ZMid (hp h' : Heap) (b : Nat) (as : List Addr) (us : List Value) (i ki ka : Nat) (zo : Obj) : Prop where
  sz : h'.objs.size = hp.objs.size
  it : ∀ (j : Nat) (a : Addr), as[j]? = some a → h'.IsTupleIter (b + j) a (if j < ki then i + 1 else i)
  zO : h'.get? (b + as.length + 2) = some zo
  ti : h'.get? (b + as.length) = some { cls := .type "tuple", data := .seq (refs b as.length).toArray }
  own : ∃ arr : Array Value, arr.size = as.length ∧ h'.get? (b + as.length + 1) = some { cls := .type "tuple", data := .seq arr } ∧ ∀ j, j < ka → arr[j]? = us[j]?
  kp : ∀ c o, (c < b ∨ b + as.length + 2 < c) → hp.get? c = some o → h'.get? c = some o
section
variable {prog : Program} {w : World} {A : Around} {E : Value → Shared → Prop} {s : Shared} {b i : Nat} {as : List Addr} {us : List Value}
theorem ZMid.tuple {hp h1 : Heap} {ki ka : Nat} {zo : Obj} {a : Addr} {its : Array Value} (m : ZMid hp h1 b as us i ki ka zo) (hlt : a < b) (h : hp.IsTuple a its) : h1.IsTuple a its := h.at fun o e => m.kp a o (.inl hlt) e
end
end Zn
set_option Elab.async false
set_option linter.all false
set_option maxRecDepth 100000
set_option maxHeartbeats 4000000
namespace Zn
open PySem PySem.Spec PyProof.Rows L2 GxR
section
end
end Zn
set_option Elab.async false
set_option linter.all false
set_option maxRecDepth 100000
set_option maxHeartbeats 4000000
namespace Zn
open PySem PySem.Spec PyProof.Rows L2 GxR
end Zn
set_option Elab.async false
set_option linter.all false
set_option maxRecDepth 100000
set_option maxHeartbeats 4000000
namespace Zn
open PySem PySem.Spec PyProof.Rows L2 GxR SrtO
section
end
end Zn
set_option Elab.async false
set_option linter.all false
set_option maxRecDepth 100000
set_option maxHeartbeats 4000000
namespace Zn
open PySem PySem.Spec PyProof.Rows L2 GxR SrtO
section
end
end Zn
set_option Elab.async false
set_option linter.all false
set_option maxRecDepth 100000
set_option maxHeartbeats 4000000
namespace Nk
open PySem PySem.Spec PyProof.Rows L2 GxR
section
end
section
end
end Nk
set_option Elab.async false
set_option linter.all false
set_option maxRecDepth 100000
set_option maxHeartbeats 4000000
namespace Dl
open PySem PySem.Spec PyProof.Rows L2 GxR Gn
inductive D where
  | non | bl (b : Bool) | int (i : Int) | str (x : Str) | tup (ds : List D) | obj (i : Nat) | adr (a : Addr) | ty (n : String) | scr (ns : List Int) | lam (f c : Addr) (q : Str) (mk : List Bool) (ds : List D) (σ : L2.St) | exc (a dx : Addr) (d : D)
/-- what changes: lists, dicts, objects -/
inductive Cell where
  | lst (ds : List D)
  | dK (kvs : List (Key × D))
  | dT (kvs : List (List Key × D))
  | ins (C : Addr) (fs : List (Str × D))
  | dN (kvs : List (NestedKey × D))
  | lkd (kvs : List (Key × D))
  | lkt (kvs : List (List Key × D))
abbrev Mem := List Cell
abbrev Rho := Nat → Option Addr
/-- a list that stays as it is -/
def FrL (K : PySem.W.Frag) (H : Hp) (a : Addr) (xs : List V) : Prop := (∃ o, H a = some (.frz o (.lst xs))) ∨
  ∃ (o : Obj) (its : Array Value) (n : Nat), K.lookup a = some o ∧ o.cls = .type "list" ∧ o.dict = none ∧ o.data = .seq its n ∧ its.size ≤ sizeLine ∧ Vals xs its.toList
theorem FrL.sq {K : PySem.W.Frag} {H : Hp} {a : Addr} {xs : List V} (h : FrL K H a xs) : SqL K H a xs := h.elim (fun h => .inl (.inr h)) .inr
/-- slots that hold these values at least -/
structure FitSt (mk : List Bool) (vs : List V) (σ : L2.St) : Prop where
  len : mk.length = σ.length
  at_ : ∀ (j : Nat) (v : V), mk[j]? = some true → vs[j]? = some v → σ[j]? = some (some v)
mutual
inductive Sh (K : PySem.W.Frag) (ρ : Rho) (H : Hp) : D → V → Prop
  | non : Sh K ρ H .non .non
  | bl (b : Bool) : Sh K ρ H (.bl b) (.bl b)
  | int (i : Int) : Sh K ρ H (.int i) (.int i)
  | str (x : Str) : Sh K ρ H (.str x) (.str x)
  | tup {a : Addr} {xs : List V} {ds : List D} : H a = some (.tup xs) → Shs K ρ H ds xs → Sh K ρ H (.tup ds) (.ref a)
  | obj {i : Nat} {a : Addr} : ρ i = some a → Sh K ρ H (.obj i) (.ref a)
  | adr (a : Addr) : Sh K ρ H (.adr a) (.ref a)
  | ty (n : String) : Sh K ρ H (.ty n) (.ty n)
  | scr {a : Addr} {ns : List Int} : FrL K H a (ns.map V.int) → Sh K ρ H (.scr ns) (.ref a)
  | lam {f c : Addr} {q : Str} {mk : List Bool} {ds : List D} {σ : L2.St} {vs : List V} : H c = some (LamX.CodeO c q) → Shs K ρ H ds vs → FitSt mk vs σ → Sh K ρ H (.lam f c q mk ds σ) (.ref f)
  | exc {a dx : Addr} {d : D} {v : V} : H dx = some (.xd [(("thing" : Str), v)]) → Sh K ρ H d v → Sh K ρ H (.exc a dx d) (.ref a)
inductive Shs (K : PySem.W.Frag) (ρ : Rho) (H : Hp) : List D → List V → Prop
  | nil : Shs K ρ H [] []
  | cons {d : D} {ds : List D} {v : V} {vs : List V} : Sh K ρ H d v → Shs K ρ H ds vs → Shs K ρ H (d :: ds) (v :: vs)
end
/-- what stays -/
structure Grw (ρ : Rho) (H : Hp) (ρ' : Rho) (H' : Hp) : Prop where
  r : ∀ i a, ρ i = some a → ρ' i = some a
  t : ∀ b xs, H b = some (.tup xs) → H' b = some (.tup xs)
  z : ∀ b o u, H b = some (.frz o u) → H' b = some (.frz o u)
  x : ∀ b fs, H b = some (.xd fs) → H' b = some (.xd fs)
  c : ∀ b p q, H b = some (LamX.CodeO p q) → H' b = some (LamX.CodeO p q)
theorem Grw.refl (ρ : Rho) (H : Hp) : Grw ρ H ρ H := ⟨fun _ _ e => e, fun _ _ e => e, fun _ _ _ e => e, fun _ _ e => e, fun _ _ _ e => e⟩
theorem Grw.tr {ρ ρ1 ρ2 : Rho} {H H1 H2 : Hp} (a : Grw ρ H ρ1 H1) (b : Grw ρ1 H1 ρ2 H2) : Grw ρ H ρ2 H2 :=
  ⟨fun i x e => b.r i x (a.r i x e), fun c xs e => b.t c xs (a.t c xs e), fun c o u e => b.z c o u (a.z c o u e), fun c fs e => b.x c fs (a.x c fs e), fun c p q e => b.c c p q (a.c c p q e)⟩
instance {K : PySem.W.Frag} {H : Hp} {a : Addr} {xs : List V} : Coe (H a = some (.tup xs)) (SqT K H a xs) := ⟨SqT.of⟩
theorem SqT.grw {K : PySem.W.Frag} {ρ ρ' : Rho} {H H' : Hp} {a : Addr} {xs : List V} (g : Grw ρ H ρ' H') (h : SqT K H a xs) : SqT K H' a xs := by
  rcases h with (h | ⟨o, h⟩) | h
  · exact .inl (.inl (g.t a xs h))
  · exact .inl (.inr ⟨o, g.z a o _ h⟩)
  · exact .inr h
mutual
theorem Sh.grw {K : PySem.W.Frag} {ρ ρ' : Rho} {H H' : Hp} (g : Grw ρ H ρ' H') : ∀ (d : D) (v : V), Sh K ρ H d v → Sh K ρ' H' d v
  | .non, _, h => by cases h; exact .non
  | .bl b, _, h => by cases h; exact .bl b
  | .int i, _, h => by cases h; exact .int i
  | .str x, _, h => by cases h; exact .str x
  | .tup ds, _, h => by
    cases h with
    | tup h1 h2 => exact .tup (g.t _ _ h1) (Shs.grw g ds _ h2)
  | .obj i, _, h => by
    cases h with
    | obj e => exact .obj (g.r _ _ e)
  | .adr a, _, h => by cases h; exact .adr a
  | .ty n, _, h => by cases h; exact .ty n
  | .scr ns, _, h => by
    cases h with
    | scr e => exact .scr (e.elim (fun ⟨o, e⟩ => .inl ⟨o, g.z _ _ _ e⟩) .inr)
  | .lam f c q mk ds σ, _, h => by
    cases h with
    | lam e h2 h3 => exact .lam (g.c _ _ _ e) (Shs.grw g ds _ h2) h3
  | .exc a dx d, _, h => by
    cases h with
    | exc e h2 => exact .exc (g.x _ _ e) (Sh.grw g d _ h2)
theorem Shs.grw {K : PySem.W.Frag} {ρ ρ' : Rho} {H H' : Hp} (g : Grw ρ H ρ' H') : ∀ (ds : List D) (vs : List V), Shs K ρ H ds vs → Shs K ρ' H' ds vs
  | [], _, h => by cases h; exact .nil
  | d :: ds, _, h => by
    cases h with
    | cons h1 h2 => exact .cons (Sh.grw g d _ h1) (Shs.grw g ds _ h2)
end
mutual
theorem Sh.keepL {K : PySem.W.Frag} {ρ : Rho} {H H' : Hp} (gt : ∀ b xs, H b = some (.tup xs) → H' b = some (.tup xs)) (gz : ∀ b o xs, H b = some (.frz o (.lst xs)) → H' b = some (.frz o (.lst xs))) (gx : ∀ b fs, H b = some (.xd fs) → H' b = some (.xd fs)) (gc : ∀ b p q, H b = some (LamX.CodeO p q) → H' b = some (LamX.CodeO p q)) : ∀ (d : D) (v : V), Sh K ρ H d v → Sh K ρ H' d v
  | .non, _, h => by cases h; exact .non
  | .bl b, _, h => by cases h; exact .bl b
  | .int i, _, h => by cases h; exact .int i
  | .str x, _, h => by cases h; exact .str x
  | .tup ds, _, h => by
    cases h with
    | tup h1 h2 => exact .tup (gt _ _ h1) (Shs.keepL gt gz gx gc ds _ h2)
  | .obj i, _, h => by
    cases h with
    | obj e => exact .obj e
  | .adr a, _, h => by cases h; exact .adr a
  | .ty n, _, h => by cases h; exact .ty n
  | .scr ns, _, h => by
    cases h with
    | scr e => exact .scr (e.elim (fun ⟨o, e⟩ => .inl ⟨o, gz _ _ _ e⟩) .inr)
  | .lam f c q mk ds σ, _, h => by
    cases h with
    | lam e h2 h3 => exact .lam (gc _ _ _ e) (Shs.keepL gt gz gx gc ds _ h2) h3
  | .exc a dx d, _, h => by
    cases h with
    | exc e h2 => exact .exc (gx _ _ e) (Sh.keepL gt gz gx gc d _ h2)
theorem Shs.keepL {K : PySem.W.Frag} {ρ : Rho} {H H' : Hp} (gt : ∀ b xs, H b = some (.tup xs) → H' b = some (.tup xs)) (gz : ∀ b o xs, H b = some (.frz o (.lst xs)) → H' b = some (.frz o (.lst xs))) (gx : ∀ b fs, H b = some (.xd fs) → H' b = some (.xd fs)) (gc : ∀ b p q, H b = some (LamX.CodeO p q) → H' b = some (LamX.CodeO p q)) : ∀ (ds : List D) (vs : List V), Shs K ρ H ds vs → Shs K ρ H' ds vs
  | [], _, h => by cases h; exact .nil
  | d :: ds, _, h => by
    cases h with
    | cons h1 h2 => exact .cons (Sh.keepL gt gz gx gc d _ h1) (Shs.keepL gt gz gx gc ds _ h2)
end
section
variable {K : PySem.W.Frag} {ρ ρ' : Rho} {H H' : Hp}
theorem Shs.length : ∀ {ds : List D} {vs : List V}, Shs K ρ H ds vs → ds.length = vs.length
  | [], _, h => by cases h; rfl
  | d :: ds, _, h => by
    cases h with
    | cons h1 h2 => simp [Shs.length h2]
theorem Shs.get : ∀ {ds : List D} {vs : List V} {i : Nat} {v : V}, Shs K ρ H ds vs → vs[i]? = some v → ∃ d, ds[i]? = some d ∧ Sh K ρ H d v
  | [], _, _, _, h, e => by cases h; simp at e
  | d :: ds, _, 0, v, h, e => by
    cases h with
    | cons h1 h2 => simp at e; subst e; exact ⟨d, rfl, h1⟩
  | d :: ds, _, i + 1, v, h, e => by
    cases h with
    | cons h1 h2 =>
      obtain ⟨d', e1, h3⟩ := Shs.get (i := i) (v := v) h2 (by simpa using e)
      exact ⟨d', by simpa using e1, h3⟩
theorem Shs.getD : ∀ {ds : List D} {vs : List V} {i : Nat} {d : D}, Shs K ρ H ds vs → ds[i]? = some d → ∃ v, vs[i]? = some v ∧ Sh K ρ H d v
  | [], _, _, _, h, e => by simp at e
  | d :: ds, _, 0, d', h, e => by
    cases h with
    | cons h1 h2 => simp at e; subst e; exact ⟨_, rfl, h1⟩
  | d :: ds, _, i + 1, d', h, e => by
    cases h with
    | cons h1 h2 =>
      obtain ⟨v, e1, h3⟩ := Shs.getD (i := i) (d := d') h2 (by simpa using e)
      exact ⟨v, by simpa using e1, h3⟩
theorem Shs.append : ∀ {ds es : List D} {vs ws : List V}, Shs K ρ H ds vs → Shs K ρ H es ws → Shs K ρ H (ds ++ es) (vs ++ ws)
  | [], _, _, _, h, h' => by cases h; exact h'
  | d :: ds, _, _, _, h, h' => by
    cases h with
    | cons h1 h2 => exact .cons h1 (Shs.append h2 h')
theorem Shs.take : ∀ {ds : List D} {vs : List V} (n : Nat), Shs K ρ H ds vs → Shs K ρ H (ds.take n) (vs.take n)
  | _, _, 0, _ => by simp; exact .nil
  | [], _, n + 1, h => by cases h; exact .nil
  | d :: ds, _, n + 1, h => by
    cases h with
    | cons h1 h2 => exact .cons h1 (Shs.take n h2)
theorem Shs.drop : ∀ {ds : List D} {vs : List V} (n : Nat), Shs K ρ H ds vs → Shs K ρ H (ds.drop n) (vs.drop n)
  | _, _, 0, h => by simpa using h
  | [], _, n + 1, h => by cases h; exact .nil
  | d :: ds, _, n + 1, h => by
    cases h with
    | cons h1 h2 => exact Shs.drop n h2
theorem Shs.set : ∀ {ds : List D} {vs : List V} (n : Nat) {d : D} {v : V}, Shs K ρ H ds vs → Sh K ρ H d v → Shs K ρ H (ds.set n d) (vs.set n v)
  | [], _, n, _, _, h, _ => by cases h; exact .nil
  | d :: ds, _, 0, _, _, h, h' => by
    cases h with
    | cons h1 h2 => exact .cons h' h2
  | d :: ds, _, n + 1, _, _, h, h' => by
    cases h with
    | cons h1 h2 => exact .cons h1 (Shs.set n h2 h')
theorem Shs.eraseIdx : ∀ {ds : List D} {vs : List V} (n : Nat), Shs K ρ H ds vs → Shs K ρ H (ds.eraseIdx n) (vs.eraseIdx n)
  | [], _, n, h => by cases h; exact .nil
  | d :: ds, _, 0, h => by
    cases h with
    | cons h1 h2 => exact h2
  | d :: ds, _, n + 1, h => by
    cases h with
    | cons h1 h2 => exact .cons h1 (Shs.eraseIdx n h2)
theorem Shs.reverse {ds : List D} {vs : List V} (h : Shs K ρ H ds vs) : Shs K ρ H ds.reverse vs.reverse := by
  induction ds generalizing vs with
  | nil => cases h; exact .nil
  | cons d ds ih =>
    cases h with
    | cons h1 h2 =>
      rw [List.reverse_cons, List.reverse_cons]
      exact (ih h2).append (.cons h1 .nil)
end
/-- named attributes, keyed items -/
inductive Shp (K : PySem.W.Frag) (ρ : Rho) (H : Hp) {κ : Type} : List (κ × D) → List (κ × V) → Prop
  | nil : Shp K ρ H [] []
  | cons {k : κ} {d : D} {ds : List (κ × D)} {v : V} {vs : List (κ × V)} : Sh K ρ H d v → Shp K ρ H ds vs → Shp K ρ H ((k, d) :: ds) ((k, v) :: vs)
theorem Shp.grw {K : PySem.W.Frag} {ρ ρ' : Rho} {H H' : Hp} (g : Grw ρ H ρ' H') {κ : Type} {ds : List (κ × D)} {vs : List (κ × V)} (h : Shp K ρ H ds vs) : Shp K ρ' H' ds vs := by
  induction h with
  | nil => exact .nil
  | cons h1 _ ih => exact .cons (Sh.grw g _ _ h1) ih
def CSh (K : PySem.W.Frag) (w : World) (ρ : Rho) (H : Hp) : Cell → HO → Prop
  | .lst ds, o => ∃ vs, o = .lst vs ∧ Shs K ρ H ds vs
  | .dK kvs, o => ∃ vs, o = .dK vs ∧ Shp K ρ H kvs vs
  | .dT kvs, o => ∃ vs, o = .dT vs ∧ Shp K ρ H kvs vs
  | .ins C fs, o => ∃ dx vs, o = .ins C dx vs ∧ Shp K ρ H fs vs
  | .dN kvs, o => ∃ b ws, o = Nk.DNo w b ws ∧ Paired (fun (p : NestedKey × D) (q : Nk.Ent) => p.1 = q.1 ∧ Nk.NIs H q.1 (.ref q.2.1) ∧ q.1.depth ≤ 8 ∧ Sh K ρ H p.2 q.2.2) kvs ws
  | .lkd kvs, o => ∃ od vs, o = .frz od (.dK vs) ∧ Shp K ρ H kvs vs
  | .lkt kvs, o => ∃ od vs, o = .frz od (.dT vs) ∧ Shp K ρ H kvs vs
theorem CSh.grw {K : PySem.W.Frag} {w : World} {ρ ρ' : Rho} {H H' : Hp} (g : Grw ρ H ρ' H') {c : Cell} {o : HO} (h : CSh K w ρ H c o) : CSh K w ρ' H' c o := by
  cases c with
  | lst ds => obtain ⟨vs, e, h⟩ := h; exact ⟨vs, e, Shs.grw g _ _ h⟩
  | dK kvs => obtain ⟨vs, e, h⟩ := h; exact ⟨vs, e, h.grw g⟩
  | dT kvs => obtain ⟨vs, e, h⟩ := h; exact ⟨vs, e, h.grw g⟩
  | ins C fs => obtain ⟨dx, vs, e, h⟩ := h; exact ⟨dx, vs, e, h.grw g⟩
  | dN kvs => obtain ⟨b, ws, e, h⟩ := h; exact ⟨b, ws, e, Paired.mapP h fun p q z => ⟨z.1, Nk.NIs.grw g.t _ _ z.2.1, z.2.2.1, Sh.grw g _ _ z.2.2.2⟩⟩
  | lkd kvs => obtain ⟨od, vs, e, h⟩ := h; exact ⟨od, vs, e, h.grw g⟩
  | lkt kvs => obtain ⟨od, vs, e, h⟩ := h; exact ⟨od, vs, e, h.grw g⟩
/-- the tables of code objects that may grow: those of generator expressions; those of lambdas, each with the name that its code objects bear -/
structure Tbs where
  w : World
  g : List Addr
  l : List (Addr × Str) := []
  dis : ∀ p ∈ l, p.1 ∉ g := by simp
def Tbs.all (T : Tbs) : List Addr := T.g ++ T.l.map (·.1)
theorem Tbs.of_g {T : Tbs} {p : Addr} (h : p ∈ T.g) : p ∈ T.all := List.mem_append_left _ h
theorem Tbs.of_l {T : Tbs} {p : Addr × Str} (h : p ∈ T.l) : p.1 ∈ T.all := List.mem_append_right _ (List.mem_map.mpr ⟨p, h, rfl⟩)
/-- the heap shows the memory -/
structure Rl (K : PySem.W.Frag) (Ts : Tbs) (ρ : Rho) (M : Mem) (H : Hp) : Prop where
  inj : ∀ i j a, ρ i = some a → ρ j = some a → i = j
  dom : ∀ i a, ρ i = some a → i < M.length
  cell : ∀ (i : Nat) (c : Cell), M[i]? = some c → ∃ a o, ρ i = some a ∧ H a = some o ∧ CSh K Ts.w ρ H c o
  tab : ∀ P ∈ Ts.g, TabG H P
  lam : ∀ p ∈ Ts.l, LamX.TabS H p.1 p.2
def cellHO : HO → Prop
  | .lst _ => True
  | .dK _ => True
  | .dT _ => True
  | .ins _ _ _ => True
  | .ext φ => ∃ w b ws, HO.ext φ = Nk.DNo w b ws
  | .frz _ (.dK _) => True
  | .frz _ (.dT _) => True
  | _ => False
theorem tabS_keep {H H' : Hp} {P : Addr} {q : Str} (t : LamX.TabS H P q) (k : ∀ b o, H b = some o → ¬ cellHO o → H' b = some o) : LamX.TabS H' P q := by
  obtain ⟨ps, h1, h2, h3⟩ := t
  refine ⟨ps, k _ _ h1 (fun z => z), h2, fun pos cv hc => ?_⟩
  obtain ⟨c, e1, e2⟩ := h3 pos cv hc
  exact ⟨c, e1, k _ _ e2 (fun z => by
    obtain ⟨w, b, ws, e⟩ := (show ∃ w b ws, LamX.CodeO c q = Nk.DNo w b ws from z)
    exact Nk.dno_ne_code e.symm)⟩
theorem CSh.is {K : PySem.W.Frag} {w : World} {ρ : Rho} {H : Hp} {c : Cell} {o : HO} (h : CSh K w ρ H c o) : cellHO o := by
  cases c with
  | lst ds => obtain ⟨vs, rfl, h⟩ := h; trivial
  | dK kvs => obtain ⟨vs, rfl, h⟩ := h; trivial
  | dT kvs => obtain ⟨vs, rfl, h⟩ := h; trivial
  | ins C fs => obtain ⟨dx, vs, rfl, h⟩ := h; trivial
  | dN kvs => obtain ⟨b, ws, rfl, h⟩ := h; exact ⟨w, b, ws, rfl⟩
  | lkd kvs => obtain ⟨od, vs, rfl, h⟩ := h; trivial
  | lkt kvs => obtain ⟨od, vs, rfl, h⟩ := h; trivial
section
variable {K : PySem.W.Frag} {Ts : Tbs} {ρ ρ' : Rho} {M M' : Mem} {H H' : Hp}
/-- a new object at a free place -/
theorem grw_new {p : Addr} {o : HO} (hp : H p = none) : Grw ρ H ρ (upd H p o) :=
  ⟨fun _ _ e => e, fun b xs e => by rw [upd_ne (ne_of_none e hp)]; exact e, fun b u xs e => by rw [upd_ne (ne_of_none e hp)]; exact e, fun b fs e => by rw [upd_ne (ne_of_none e hp)]; exact e, fun b p q e => by rw [upd_ne (ne_of_none e hp)]; exact e⟩
theorem Rl.new (R : Rl K Ts ρ M H) {p : Addr} {o : HO} (hp : H p = none) : Rl K Ts ρ M (upd H p o) := by
  refine ⟨R.inj, R.dom, fun i c e => ?_, fun P hP => ?_, fun p hp' => (R.lam p hp').ext fun b o e => by rw [upd_ne (ne_of_none e hp)]; exact e⟩
  · obtain ⟨a, u, e1, e2, e3⟩ := R.cell i c e
    exact ⟨a, u, e1, by rw [upd_ne (ne_of_none e2 hp)]; exact e2, e3.grw (grw_new hp)⟩
  · obtain ⟨ps, e, h⟩ := R.tab P hP
    exact ⟨ps, by rw [upd_ne (ne_of_none e hp)]; exact e, h⟩
def ext (ρ : Rho) (n : Nat) (p : Addr) : Rho := fun i => if i = n then some p else ρ i
theorem Rl.fresh (R : Rl K Ts ρ M H) : ρ M.length = none := by
  cases e : ρ M.length with
  | none => rfl
  | some a => exact absurd (R.dom _ _ e) (Nat.lt_irrefl _)
theorem grw_ext (R : Rl K Ts ρ M H) {p : Addr} {o : HO} (hp : H p = none) : Grw ρ H (ext ρ M.length p) (upd H p o) :=
  ⟨fun i a e => by
    unfold ext
    rw [if_neg (fun z => by rw [z, R.fresh] at e; cases e)]
    exact e, (grw_new (ρ := ρ) hp).t, (grw_new (ρ := ρ) hp).z, (grw_new (ρ := ρ) hp).x, (grw_new (ρ := ρ) hp).c⟩
theorem Rl.cellNew (R : Rl K Ts ρ M H) {p : Addr} {o : HO} {c : Cell} (hp : H p = none) (hc : CSh K Ts.w ρ H c o) : Rl K Ts (ext ρ M.length p) (M ++ [c]) (upd H p o) := by
  have ne : ∀ i a, ρ i = some a → a ≠ p := fun i a e z => by
    have hi := R.dom i a e
    obtain ⟨b, u, e1, e2, _⟩ := R.cell i _ (List.getElem?_eq_getElem hi)
    rw [e] at e1
    cases e1
    rw [z, hp] at e2
    cases e2
  have g := grw_ext R (o := o) hp
  refine ⟨fun i j a e1 e2 => ?_, fun i a e => ?_, fun i c' e => ?_, fun P hP => (R.new hp).tab P hP, fun P hP => (R.new hp).lam P hP⟩
  · unfold ext at e1 e2
    split at e1 <;> split at e2
    · rename_i h1 h2; rw [h1, h2]
    · cases e1; exact absurd rfl (ne _ _ e2)
    · cases e2; exact absurd rfl (ne _ _ e1)
    · exact R.inj i j a e1 e2
  · unfold ext at e
    rw [List.length_append]
    split at e
    · rename_i h; rw [h]; exact Nat.lt_succ_self _
    · exact Nat.lt_succ_of_lt (R.dom i a e)
  · by_cases hi : i < M.length
    · rw [List.getElem?_append_left hi] at e
      obtain ⟨a, u, e1, e2, e3⟩ := R.cell i c' e
      exact ⟨a, u, g.r i a e1, by rw [upd_ne (ne i a e1)]; exact e2, e3.grw g⟩
    · have : i = M.length := by
        have := (List.getElem?_eq_some_iff.mp e).1
        rw [List.length_append] at this
        simp at this
        omega
      subst this
      rw [List.getElem?_append_right (Nat.le_refl _), Nat.sub_self] at e
      cases e
      exact ⟨p, o, by unfold ext; rw [if_pos rfl], upd_same, hc.grw g⟩
/-- a cell changed -/
theorem grw_set (R : Rl K Ts ρ M H) {i : Nat} {a : Addr} {c : Cell} {o : HO} (e : M[i]? = some c) (ea : ρ i = some a) (hk : ∀ kvs, c ≠ .lkd kvs := by intro _ z; cases z) (hk2 : ∀ kvs, c ≠ .lkt kvs := by intro _ z; cases z) : Grw ρ H ρ (upd H a o) := by
  obtain ⟨b, u, e1, e2, e3⟩ := R.cell i c e
  rw [ea] at e1
  cases e1
  have q := e3.is
  have qf : ∀ w' xs', u ≠ .frz w' xs' := fun w' xs' z => by
    subst z
    cases c with
    | lkd kvs => exact hk kvs rfl
    | lkt kvs => exact hk2 kvs rfl
    | lst ds => obtain ⟨vs, h, _⟩ := e3; cases h
    | dK ds => obtain ⟨vs, h, _⟩ := e3; cases h
    | dT ds => obtain ⟨vs, h, _⟩ := e3; cases h
    | ins C fs => obtain ⟨dx, vs, h, _⟩ := e3; cases h
    | dN ds => obtain ⟨b', ws, h, _⟩ := e3; cases h
  refine ⟨fun _ _ e => e, fun b xs e => ?_, fun b w xs e => ?_, fun b fs e => ?_, fun b p r e => ?_⟩
  · rw [upd_ne (fun z => by rw [z, e2] at e; cases e; exact q)]; exact e
  · rw [upd_ne (fun z => by rw [z, e2] at e; cases e; exact qf _ _ rfl)]; exact e
  · rw [upd_ne (fun z => by rw [z, e2] at e; cases e; exact q)]; exact e
  · rw [upd_ne (fun z => by
      rw [z, e2] at e
      have eu := Option.some.inj e
      rw [eu] at q
      obtain ⟨w, b, ws, e'⟩ := (show ∃ w b ws, LamX.CodeO p r = Nk.DNo w b ws from q)
      exact Nk.dno_ne_code e'.symm)]; exact e
theorem Rl.cellSet (R : Rl K Ts ρ M H) {i : Nat} {a : Addr} {c c' : Cell} {o : HO} (e : M[i]? = some c) (ea : ρ i = some a) (hc : CSh K Ts.w ρ H c' o) (hk : ∀ kvs, c ≠ .lkd kvs := by intro _ z; cases z) (hk2 : ∀ kvs, c ≠ .lkt kvs := by intro _ z; cases z) : Rl K Ts ρ (M.set i c') (upd H a o) := by
  obtain ⟨b, u, e1, e2, e3⟩ := R.cell i c e
  have eb : b = a := by rw [ea] at e1; exact (Option.some.inj e1).symm
  subst eb
  have q := e3.is
  have g := grw_set R (o := o) e ea hk hk2
  refine ⟨R.inj, fun j x h => by rw [List.length_set]; exact R.dom j x h, fun j c2 h => ?_, fun P hP => ?_, fun p hp => tabS_keep (R.lam p hp) fun d u' hd hn => by rw [upd_ne (fun z => by rw [z, e2] at hd; cases hd; exact hn q)]; exact hd⟩
  · by_cases hj : i = j
    · subst hj
      have hl := (List.getElem?_eq_some_iff.mp e).1
      rw [List.getElem?_set_self hl] at h
      cases h
      exact ⟨b, o, ea, upd_same, hc.grw g⟩
    · rw [List.getElem?_set_ne hj] at h
      obtain ⟨a', u', h1, h2, h3⟩ := R.cell j c2 h
      exact ⟨a', u', h1, by rw [upd_ne (fun z => hj (R.inj _ _ _ ea (by rw [← z]; exact h1)))]; exact h2, h3.grw g⟩
  · obtain ⟨ps, h, ht⟩ := R.tab P hP
    exact ⟨ps, by rw [upd_ne (fun z => by rw [z, e2] at h; cases h; exact q)]; exact h, ht⟩
/-- the same of a dict whose keys are tuples -/
theorem grw_trans_lockT {a : Addr} {od : Obj} {vs : List (List Key × V)} {ρ2 : Rho} {H2 : Hp} (e : H a = some (.dT vs)) (g : Grw ρ (upd H a (.frz od (.dT vs))) ρ2 H2) (vs2 : List (List Key × V)) : Grw ρ H ρ2 (upd H2 a (.dT vs2)) := by
  refine ⟨g.r, fun b xs eb => ?_, fun b w xs eb => ?_, fun b xs eb => ?_, fun b p q eb => ?_⟩
  · have nb : b ≠ a := fun z => by rw [z, e] at eb; cases eb
    rw [upd_ne nb]
    exact g.t _ _ (by rw [upd_ne nb]; exact eb)
  · have nb : b ≠ a := fun z => by rw [z, e] at eb; cases eb
    rw [upd_ne nb]
    exact g.z _ _ _ (by rw [upd_ne nb]; exact eb)
  · have nb : b ≠ a := fun z => by rw [z, e] at eb; cases eb
    rw [upd_ne nb]
    exact g.x _ _ (by rw [upd_ne nb]; exact eb)
  · have nb : b ≠ a := fun z => by rw [z, e] at eb; unfold LamX.CodeO at eb; cases eb
    rw [upd_ne nb]
    exact g.c _ _ _ (by rw [upd_ne nb]; exact eb)
theorem grw_lockT {a : Addr} {od : Obj} {vs : List (List Key × V)} (e : H a = some (.dT vs)) : Grw ρ H ρ (upd H a (.frz od (.dT vs))) := by
  refine ⟨fun _ _ z => z, fun b xs eb => ?_, fun b w xs eb => ?_, fun b xs eb => ?_, fun b p q eb => ?_⟩
  · rw [upd_ne (fun z => by rw [z, e] at eb; cases eb)]; exact eb
  · rw [upd_ne (fun z => by rw [z, e] at eb; cases eb)]; exact eb
  · rw [upd_ne (fun z => by rw [z, e] at eb; cases eb)]; exact eb
  · rw [upd_ne (fun z => by rw [z, e] at eb; unfold LamX.CodeO at eb; cases eb)]; exact eb
theorem Rl.lockT (R : Rl K Ts ρ M H) {i : Nat} {a : Addr} {kvs : List (List Key × D)} {vs : List (List Key × V)} {od : Obj} (e : M[i]? = some (.dT kvs)) (ea : ρ i = some a) (eh : H a = some (.dT vs)) (hs : Shp K ρ H kvs vs) : Rl K Ts ρ (M.set i (.lkt kvs)) (upd H a (.frz od (.dT vs))) :=
  R.cellSet e ea (c' := .lkt kvs) ⟨od, vs, rfl, hs⟩
theorem Rl.unlockT (R : Rl K Ts ρ M H) {i : Nat} {a : Addr} {kvs : List (List Key × D)} {vs : List (List Key × V)} {od : Obj} (e : M[i]? = some (.lkt kvs)) (ea : ρ i = some a) (eh : H a = some (.frz od (.dT vs))) : Rl K Ts ρ (M.set i (.dT kvs)) (upd H a (.dT vs)) := by
  have up : ∀ b o, H b = some o → b ≠ a → (upd H a (.dT vs)) b = some o := fun b o eb nb => by rw [upd_ne nb]; exact eb
  have tp : ∀ b xs, H b = some (.tup xs) → (upd H a (.dT vs)) b = some (.tup xs) := fun b xs eb => up b _ eb fun z => by rw [z, eh] at eb; cases eb
  have fz : ∀ b o xs, H b = some (.frz o (.lst xs)) → (upd H a (.dT vs)) b = some (.frz o (.lst xs)) := fun b o xs eb => up b _ eb fun z => by rw [z, eh] at eb; cases eb
  have xp : ∀ b fs, H b = some (.xd fs) → (upd H a (.dT vs)) b = some (.xd fs) := fun b xs eb => up b _ eb fun z => by rw [z, eh] at eb; cases eb
  have cp : ∀ b p q, H b = some (LamX.CodeO p q) → (upd H a (.dT vs)) b = some (LamX.CodeO p q) := fun b p q eb => up b _ eb fun z => by rw [z, eh] at eb; unfold LamX.CodeO at eb; cases eb
  have sh : ∀ d v, Sh K ρ H d v → Sh K ρ (upd H a (.dT vs)) d v := Sh.keepL tp fz xp cp
  have shs : ∀ ds vs', Shs K ρ H ds vs' → Shs K ρ (upd H a (.dT vs)) ds vs' := Shs.keepL tp fz xp cp
  have shp : ∀ {κ : Type} (ds : List (κ × D)) (ws : List (κ × V)), Shp K ρ H ds ws → Shp K ρ (upd H a (.dT vs)) ds ws := fun ds ws h => by
    induction h with
    | nil => exact .nil
    | cons h1 _ ih => exact .cons (sh _ _ h1) ih
  obtain ⟨b0, u0, c1, c2, od', vs', c3, c4⟩ := R.cell i _ e
  rw [ea] at c1
  cases c1
  rw [eh] at c2
  cases c2
  cases c3
  refine ⟨R.inj, fun j x h => by rw [List.length_set]; exact R.dom j x h, fun j c2 h => ?_, fun P hP => ?_, fun p hp => tabS_keep (R.lam p hp) fun d u' hd hn => up _ _ hd fun z => by rw [z, eh] at hd; cases hd; exact hn trivial⟩
  · by_cases hj : i = j
    · subst hj
      have hl := (List.getElem?_eq_some_iff.mp e).1
      rw [List.getElem?_set_self hl] at h
      cases h
      exact ⟨a, _, ea, upd_same, vs, rfl, shp _ _ c4⟩
    · rw [List.getElem?_set_ne hj] at h
      obtain ⟨a', u', h1, h2, h3⟩ := R.cell j c2 h
      have na : a' ≠ a := fun z => hj (R.inj _ _ _ ea (by rw [← z]; exact h1))
      refine ⟨a', u', h1, up _ _ h2 na, ?_⟩
      cases c2 with
      | lst ds => obtain ⟨vs', e', h'⟩ := h3; exact ⟨vs', e', shs _ _ h'⟩
      | dK kvs => obtain ⟨vs', e', h'⟩ := h3; exact ⟨vs', e', shp _ _ h'⟩
      | dT kvs => obtain ⟨vs', e', h'⟩ := h3; exact ⟨vs', e', shp _ _ h'⟩
      | ins C fs => obtain ⟨dx, vs', e', h'⟩ := h3; exact ⟨dx, vs', e', shp _ _ h'⟩
      | dN kvs => obtain ⟨b, ws, e', h'⟩ := h3; exact ⟨b, ws, e', Paired.mapP h' fun p q z => ⟨z.1, Nk.NIs.grw tp _ _ z.2.1, z.2.2.1, sh _ _ z.2.2.2⟩⟩
      | lkd kvs => obtain ⟨od, vs', e', h'⟩ := h3; exact ⟨od, vs', e', shp _ _ h'⟩
      | lkt kvs => obtain ⟨od, vs', e', h'⟩ := h3; exact ⟨od, vs', e', shp _ _ h'⟩
  · obtain ⟨ps, h, ht⟩ := R.tab P hP
    exact ⟨ps, up _ _ h (fun z => by rw [z, eh] at h; cases h), ht⟩
end
/-- slots -/
abbrev Sl := List (Option D)
structure Sls (K : PySem.W.Frag) (ρ : Rho) (H : Hp) (S : Sl) (σ : L2.St) : Prop where
  len : S.length = σ.length
  at_ : ∀ (j : Nat) (d : D), S[j]? = some (some d) → ∃ v, σ[j]? = some (some v) ∧ Sh K ρ H d v
theorem Sls.grw {K : PySem.W.Frag} {ρ ρ' : Rho} {H H' : Hp} {S : Sl} {σ : L2.St} (g : Grw ρ H ρ' H') (h : Sls K ρ H S σ) : Sls K ρ' H' S σ :=
  ⟨h.len, fun j d e => let ⟨v, e1, e2⟩ := h.at_ j d e; ⟨v, e1, Sh.grw g _ _ e2⟩⟩
theorem Sls.set {K : PySem.W.Frag} {ρ : Rho} {H : Hp} {S : Sl} {σ : L2.St} (h : Sls K ρ H S σ) {d : D} {v : V} (i : Nat) (hv : Sh K ρ H d v) : Sls K ρ H (S.set i (some d)) (σ.set i (some v)) := by
  refine ⟨by rw [List.length_set, List.length_set]; exact h.len, fun j d' e => ?_⟩
  by_cases hj : i = j
  · subst hj
    have hl : i < S.length := by
      have := (List.getElem?_eq_some_iff.mp e).1
      rwa [List.length_set] at this
    rw [List.getElem?_set_self hl] at e
    cases e
    exact ⟨v, by rw [List.getElem?_set_self (by rw [← h.len]; exact hl)], hv⟩
  · rw [List.getElem?_set_ne hj] at e
    rw [List.getElem?_set_ne hj]
    exact h.at_ j d' e
abbrev KD := D → Mem → Prop
/-- what is wanted of what is raised: the class, its thing -/
abbrev KE' := Addr → D → Mem → Prop
abbrev TEd := Sl → Mem → KD → KE' → Prop
structure EndsD where
  nx : Sl → Mem → Prop
  rt : KD
  bk : Sl → Mem → Prop := fun _ _ => False
  ct : Sl → Mem → Prop := fun _ _ => False
abbrev TSd := EndsD → KE' → Sl → Mem → Prop
abbrev TAd := Sl → Mem → (List D → Mem → Prop) → KE' → Prop
/-- what is raised, from data to the layer -/
def XOk (K : PySem.W.Frag) (Ts : Tbs) (ρ : Rho) (H : Hp) (Ed : KE') (E : XK) : Prop :=
  ∀ C d M', Ed C d M' → ∀ ρ' H' dx v, Grw ρ H ρ' H' → Rl K Ts ρ' M' H' → H' dx = some (.xd [("thing", v)]) → Sh K ρ' H' d v → E (.ref C) (some dx) H'
theorem XOk.grw {K : PySem.W.Frag} {Ts : Tbs} {ρ ρ' : Rho} {H H' : Hp} {Ed : KE'} {E : XK} (g : Grw ρ H ρ' H') (h : XOk K Ts ρ H Ed E) : XOk K Ts ρ' H' Ed E :=
  fun C d M' e ρ2 H2 dx v g2 R hx hs => h C d M' e ρ2 H2 dx v (g.tr g2) R hx hs
def KOk (K : PySem.W.Frag) (Ts : Tbs) (ρ : Rho) (H : Hp) (Qd : KD) (Q : VK) : Prop :=
  ∀ d M', Qd d M' → ∀ ρ' H' v, Grw ρ H ρ' H' → Rl K Ts ρ' M' H' → Sh K ρ' H' d v → Q v H'
theorem KOk.grw {K : PySem.W.Frag} {Ts : Tbs} {ρ ρ' : Rho} {H H' : Hp} {Qd : KD} {Q : VK} (g : Grw ρ H ρ' H') (h : KOk K Ts ρ H Qd Q) : KOk K Ts ρ' H' Qd Q :=
  fun d M' e ρ2 H2 v g2 R hs => h d M' e ρ2 H2 v (g.tr g2) R hs
def rdE (K : PySem.W.Frag) (Ts : Tbs) (E : XK) (t : TEd) : TE := fun σ H Q => ∃ ρ S M Qd Ed, Rl K Ts ρ M H ∧ Sls K ρ H S σ ∧ t S M Qd Ed ∧ KOk K Ts ρ H Qd Q ∧ XOk K Ts ρ H Ed E
def rdA (K : PySem.W.Frag) (Ts : Tbs) (E : XK) (t : TAd) : TA := fun σ H Q => ∃ ρ S M Qd Ed, Rl K Ts ρ M H ∧ Sls K ρ H S σ ∧ t S M Qd Ed ∧ (∀ ds M', Qd ds M' → ∀ ρ' H' vs, Grw ρ H ρ' H' → Rl K Ts ρ' M' H' → Shs K ρ' H' ds vs → Q vs H') ∧ XOk K Ts ρ H Ed E
/-- a test -/
abbrev TTd := Sl → Mem → (Bool → Mem → Prop) → KE' → Prop
def rdT (K : PySem.W.Frag) (Ts : Tbs) (E : XK) (t : TTd) : TT := fun σ H Q => ∃ ρ S M Qd Ed, Rl K Ts ρ M H ∧ Sls K ρ H S σ ∧ t S M Qd Ed ∧ (∀ b M', Qd b M' → ∀ ρ' H', Grw ρ H ρ' H' → Rl K Ts ρ' M' H' → Q b H') ∧ XOk K Ts ρ H Ed E
def SOk (K : PySem.W.Frag) (Ts : Tbs) (ρ : Rho) (H : Hp) (Qd : Sl → Mem → Prop) (Q : L2.St → Hp → Prop) : Prop :=
  ∀ S' M', Qd S' M' → ∀ ρ' H' σ', Grw ρ H ρ' H' → Rl K Ts ρ' M' H' → Sls K ρ' H' S' σ' → Q σ' H'
theorem SOk.grw {K : PySem.W.Frag} {Ts : Tbs} {ρ ρ' : Rho} {H H' : Hp} {Qd : Sl → Mem → Prop} {Q : L2.St → Hp → Prop} (g : Grw ρ H ρ' H') (h : SOk K Ts ρ H Qd Q) : SOk K Ts ρ' H' Qd Q :=
  fun d M' e ρ2 H2 v g2 R hs => h d M' e ρ2 H2 v (g.tr g2) R hs
def rdS (K : PySem.W.Frag) (Ts : Tbs) (E : XK) (t : TSd) : TS := fun D' σ H => ∃ ρ S M Dd Ed, Rl K Ts ρ M H ∧ Sls K ρ H S σ ∧ t Dd Ed S M ∧ SOk K Ts ρ H Dd.nx D'.nx ∧ KOk K Ts ρ H Dd.rt D'.rt ∧ SOk K Ts ρ H Dd.bk D'.bk ∧ SOk K Ts ρ H Dd.ct D'.ct ∧ XOk K Ts ρ H Ed E
/-- a reading may be asked more of -/
theorem peLe {X : Cx} {e : Expr} {t t' : TE} (h : PE X e t) (i : ∀ σ H Q, t' σ H Q → t σ H Q) : PE X e t' := ⟨fun pins s σ H Q I q => h.run pins s σ H Q I (i σ H Q q)⟩
theorem ptLe {X : Cx} {e : Expr} {t t' : TT} (h : PT X e t) (i : ∀ σ H Q, t' σ H Q → t σ H Q) : PT X e t' := ⟨fun pins s σ H Q I q => h.run pins s σ H Q I (i σ H Q q)⟩
theorem paLe {X : Cx} {e : List Expr} {t t' : TA} (h : PA X e t) (i : ∀ σ H Q, t' σ H Q → t σ H Q) : PA X e t' := ⟨fun p pins s σ H Q I q => h.run p pins s σ H Q I (i σ H Q q)⟩
theorem psLe {X : Cx} {e : Stmt} {t t' : TS} (h : PS X e t) (i : ∀ D σ H, t' D σ H → t D σ H) : PS X e t' := ⟨fun pins s σ H D I q => h.run pins s σ H D I (i D σ H q)⟩
theorem pssLe {X : Cx} {e : List Stmt} {t t' : TS} (h : PSs X e t) (i : ∀ D σ H, t' D σ H → t D σ H) : PSs X e t' := ⟨fun pins s σ H D I q => h.run pins s σ H D I (i D σ H q)⟩
abbrev QE (X : Cx) (Ts : Tbs) (E : XK) (e : Expr) (t : TEd) : Prop := PE X e (rdE X.K Ts E t)
abbrev QA (X : Cx) (Ts : Tbs) (E : XK) (es : List Expr) (t : TAd) : Prop := PA X es (rdA X.K Ts E t)
abbrev QT (X : Cx) (Ts : Tbs) (E : XK) (e : Expr) (t : TTd) : Prop := PT X e (rdT X.K Ts E t)
abbrev QS (X : Cx) (Ts : Tbs) (E : XK) (s : Stmt) (t : TSd) : Prop := PS X s (rdS X.K Ts E t)
abbrev QSs (X : Cx) (Ts : Tbs) (E : XK) (s : List Stmt) (t : TSd) : Prop := PSs X s (rdS X.K Ts E t)
end Dl
set_option Elab.async false
set_option linter.all false
set_option maxRecDepth 100000
set_option maxHeartbeats 4000000
namespace Dl
open PySem PySem.Spec PyProof.Rows L2 GxR Gn
section
variable {K : PySem.W.Frag} {Ts : Tbs} {ρ : Rho} {M : Mem} {H : Hp}
theorem Rl.lst (R : Rl K Ts ρ M H) {i : Nat} {ds : List D} (e : M[i]? = some (.lst ds)) : ∃ a vs, ρ i = some a ∧ H a = some (.lst vs) ∧ Shs K ρ H ds vs := by
  obtain ⟨a, o, e1, e2, vs, rfl, h⟩ := R.cell i _ e
  exact ⟨a, vs, e1, e2, h⟩
theorem Rl.dict (R : Rl K Ts ρ M H) {i : Nat} {ds : List (Key × D)} (e : M[i]? = some (.dK ds)) : ∃ a vs, ρ i = some a ∧ H a = some (.dK vs) ∧ Shp K ρ H ds vs := by
  obtain ⟨a, o, e1, e2, vs, rfl, h⟩ := R.cell i _ e
  exact ⟨a, vs, e1, e2, h⟩
theorem newTup (R : Rl K Ts ρ M H) {ds : List D} {vs : List V} (h : Shs K ρ H ds vs) {Qd : KD} {Q : VK} (k : KOk K Ts ρ H Qd Q) (q : Qd (.tup ds) M) {p : Addr} (hp : H p = none) : Q (.ref p) (upd H p (.tup vs)) :=
  k _ _ q ρ _ _ (grw_new hp) (R.new hp) (.tup upd_same (Shs.grw (grw_new hp) _ _ h))
theorem newLst (R : Rl K Ts ρ M H) {ds : List D} {vs : List V} (h : Shs K ρ H ds vs) {Qd : KD} {Q : VK} (k : KOk K Ts ρ H Qd Q) (q : Qd (.obj M.length) (M ++ [.lst ds])) {p : Addr} (hp : H p = none) : Q (.ref p) (upd H p (.lst vs)) :=
  k _ _ q _ _ _ (grw_ext R hp) (R.cellNew hp ⟨vs, rfl, h⟩) (.obj (by unfold ext; rw [if_pos rfl]))
/-- a cell changed, a value told -/
theorem setCell (R : Rl K Ts ρ M H) {i : Nat} {a : Addr} {c c' : Cell} {o : HO} (e : M[i]? = some c) (ea : ρ i = some a) (hc : CSh K Ts.w ρ H c' o) {Qd : KD} {Q : VK} (k : KOk K Ts ρ H Qd Q) {d : D} {v : V} (hd : Sh K ρ H d v) (q : Qd d (M.set i c')) (hk : ∀ kvs, c ≠ .lkd kvs := by intro _ z; cases z) (hk2 : ∀ kvs, c ≠ .lkt kvs := by intro _ z; cases z) : Q v (upd H a o) :=
  k _ _ q ρ _ _ (grw_set R e ea hk hk2) (R.cellSet e ea hc hk hk2) (Sh.grw (grw_set R e ea hk hk2) _ _ hd)
theorem KOk.same (k : KOk K Ts ρ H Qd Q) (R : Rl K Ts ρ M H) {d : D} {v : V} (q : Qd d M) (h : Sh K ρ H d v) : Q v H := k _ _ q ρ H v (Grw.refl ρ H) R h
end
section
variable {X : Cx} {Ts : Tbs} {E : XK} {pos : Pos}
@[simp] def dVar (i : Nat) : TEd := fun S M Q _ => ∃ d, S[i]? = some (some d) ∧ Q d M
theorem qv (i : Nat) {x : Str} {pos : Pos} (hN : X.N[i]? = some x := by rfl) (hv : Vis X.env.scope x := by first | exact Or.inl rfl | exact Or.inr (Or.inl rfl) | exact Or.inr (Or.inr rfl)) (hd : (x == ("__debug__" : Str)) = false := by decide) (hcd : (x == ("__classdict__" : Str)) = false := by decide) :
    QE X Ts E (.Name x pos) (dVar i) := peLe (pe_var hN hv hd hcd) fun σ H Q h => by
  obtain ⟨ρ, S, M, Qd, Ed, R, sl, ⟨d, e, q⟩, k, x⟩ := h
  obtain ⟨v, e1, hs⟩ := sl.at_ i d e
  exact ⟨v, e1, k.same R q hs⟩
@[simp] def dC (d : D) : TEd := fun _ M Q _ => Q d M
theorem rdC {t : TE} {d : D} {v : V} (ht : t = tC v) (hs : ∀ ρ H, Sh X.K ρ H d v) : ∀ σ H Q, rdE X.K Ts E (dC d) σ H Q → t σ H Q := fun σ H Q h => by
  obtain ⟨ρ, S, M, Qd, Ed, R, sl, q, k, x⟩ := h
  rw [ht]
  exact k.same R q (hs ρ H)
theorem qe_int {i : Int} {j : Nat} : QE X Ts E (.Constant (.int i) j pos) (dC (.int i)) := peLe pe_int (rdC rfl fun _ _ => .int i)
theorem qe_bl {i : Bool} {j : Nat} : QE X Ts E (.Constant (.bool i) j pos) (dC (.bl i)) := peLe pe_bl (rdC rfl fun _ _ => .bl i)
theorem qe_non {j : Nat} : QE X Ts E (.Constant .none j pos) (dC .non) := peLe pe_non (rdC rfl fun _ _ => .non)
theorem qe_str {i : Str} {j : Nat} : QE X Ts E (.Constant (.str i) j pos) (dC (.str i)) := peLe pe_str (rdC rfl fun _ _ => .str i)
theorem qe_glob {x : Str} {u : Value} {d : D} {v : V} (hg : Gl X x) (hm : X.mg x = some u) (r : RelV v u) (hs : ∀ ρ H, Sh X.K ρ H d v) (hd : (x == ("__debug__" : Str)) = false := by decide) : QE X Ts E (.Name x pos) (dC d) := peLe (pe_glob hg hm r hd) (rdC rfl hs)
theorem qe_bltn {x : Str} {n : String} (hg : Gl X x) (hm : X.mg x = none) (hv : bootBuiltins x = some (.type n)) (hn : x ≠ "__name__" := by decide) (hd : (x == ("__debug__" : Str)) = false := by decide) : QE X Ts E (.Name x pos) (dC (.ty n)) :=
  peLe (pe_bltn (v := .ty n) hg hm hv rfl hn hd) (rdC rfl fun _ _ => .ty n)
def OpD (X : Cx) (Ts : Tbs) (r : R2) (rd : D → D → Mem → KD → Prop) : Prop :=
  ∀ ρ M H x y v u Q Qd, Rl X.K Ts ρ M H → Sh X.K ρ H x v → Sh X.K ρ H y u → rd x y M Qd → KOk X.K Ts ρ H Qd Q → r v u H Q
@[simp] def dOp (rd : D → D → Mem → KD → Prop) (ta tb : TEd) : TEd := fun S M Q E => ta S M (fun x M1 => tb S M1 (fun y M2 => rd x y M2 Q) E) E
theorem opRead {r : R2} {rd : D → D → Mem → KD → Prop} (ho : OpD X Ts r rd) {ta tb : TEd} {σ : L2.St} {H : Hp} {Q : VK} (h : rdE X.K Ts E (dOp rd ta tb) σ H Q) : tOp r (rdE X.K Ts E ta) (rdE X.K Ts E tb) σ H Q := by
  obtain ⟨ρ, S, M, Qd, Ed, R, sl, h, k, x⟩ := h
  refine ⟨ρ, S, M, _, Ed, R, sl, h, fun d M1 h1 ρ1 H1 v g1 R1 s1 => ?_, x⟩
  exact ⟨ρ1, S, M1, _, Ed, R1, sl.grw g1, h1, fun e M2 h2 ρ2 H2 u g2 R2 s2 => ho ρ2 M2 H2 d e v u Q Qd R2 (Sh.grw g2 _ _ s1) s2 h2 (k.grw (g1.tr g2)), x.grw g1⟩
variable {a b c : Expr} {ta tb tc : TEd}
theorem qe_op {op : Operator} {r : R2} {rd : D → D → Mem → KD → Prop} (ho : OpR X (binaryOp op) r) (hd : OpD X Ts r rd) (ha : QE X Ts E a ta) (hb : QE X Ts E b tb) : QE X Ts E (.BinOp a op b pos) (dOp rd ta tb) := peLe (pe_op ho ha hb) fun _ _ _ => opRead hd
theorem qe_cmp {op : CmpOp} {r : R2} {rd : D → D → Mem → KD → Prop} (ho : OpR X (compareOp op) r) (hd : OpD X Ts r rd) (ha : QE X Ts E a ta) (hb : QE X Ts E b tb) (hm : behindInMarks op b = false) : QE X Ts E (.Compare a [op] [b] pos) (dOp rd ta tb) := peLe (pe_cmpR ho ha hb hm) fun _ _ _ => opRead hd
theorem qe_ix {r : R2} {rd : D → D → Mem → KD → Prop} (ho : IxR X r) (hd : OpD X Ts r rd) (ha : QE X Ts E a ta) (hb : QE X Ts E b tb) (hs : PlainIx b := by intro _ _; rfl) : QE X Ts E (.Subscript a b pos) (dOp rd ta tb) := peLe (pe_ix ho ha hb hs) fun _ _ _ => opRead hd
def addD : D → D → Mem → KD → Prop
  | .int i, .int j, M, Q => Q (.int (i + j)) M
  | .str i, .str j, M, Q => i.length + j.length ≤ sizeLine ∧ Q (.str (i ++ j)) M
  | .tup xs, .tup ys, M, Q => xs.length + ys.length ≤ sizeLine ∧ Q (.tup (xs ++ ys)) M
  | .obj i, .obj j, M, Q => ∃ xs ys, M[i]? = some (.lst xs) ∧ M[j]? = some (.lst ys) ∧ xs.length + ys.length ≤ sizeLine ∧ Q (.obj M.length) (M ++ [.lst (xs ++ ys)])
  | _, _, _, _ => False
def rAddH (K : PySem.W.Frag) : R2 := fun x y H Q => (∃ i j, x = .int i ∧ y = .int j ∧ Q (.int (i + j)) H) ∨ (∃ i j, x = .str i ∧ y = .str j ∧ i.length + j.length ≤ sizeLine ∧ Q (.str (i ++ j)) H) ∨ rCatA K x y H Q ∨ rCat x y H Q
theorem op_addH : OpR X (binaryOp .Add) (rAddH X.K) := op_add.or (op_add_str.or (op_catA.or op_cat))
theorem shs_nil {K : PySem.W.Frag} {ρ : Rho} {H : Hp} {ds : List D} {vs : List V} (h : Shs K ρ H ds vs) : vs = [] ↔ ds = [] := by
  have := h.length
  constructor <;> intro e <;> subst e <;> simp at this
  · exact this
  · exact List.eq_nil_of_length_eq_zero this.symm
theorem od_add : OpD X Ts (rAddH X.K) addD := fun ρ M H x y v u Q Qd R sx sy h k => by
  cases sx with
  | int i => cases sy with
    | int j => exact .inl ⟨i, j, rfl, rfl, k.same R h (.int _)⟩
    | _ => exact h.elim
  | str i => cases sy with
    | str j => exact .inr (.inl ⟨i, j, rfl, rfl, h.1, k.same R h.2 (.str _)⟩)
    | _ => exact h.elim
  | @tup a xs ds ha hs => cases sy with
    | @tup b ys es hb ht =>
      have q : Qd (.tup (ds ++ es)) M := h.2
      refine .inr (.inr (.inl ⟨a, b, xs, ys, rfl, rfl, ha, hb, by rw [← hs.length, ← ht.length]; exact h.1, fun e => ?_, fun _ e => ?_, fun _ _ p hp => newTup R (hs.append ht) k q hp⟩))
      · obtain rfl := (shs_nil hs).mp e
        exact k.same R q (.tup hb ht)
      · obtain rfl := (shs_nil ht).mp e
        rw [List.append_nil] at q
        exact k.same R q (.tup ha hs)
    | _ => exact h.elim
  | @obj i a ea => cases sy with
    | @obj j b eb =>
      obtain ⟨xs, ys, e1, e2, hz, q⟩ := h
      obtain ⟨a', vs, r1, h1, s1⟩ := R.lst e1
      obtain ⟨b', ws, r2, h2, s2⟩ := R.lst e2
      rw [ea] at r1; cases r1
      rw [eb] at r2; cases r2
      exact .inr (.inr (.inr ⟨a, b, vs, ws, rfl, rfl, h1, h2, by rw [← s1.length, ← s2.length]; exact hz, fun p hp => newLst R (s1.append s2) k q hp⟩))
    | _ => exact h.elim
  | _ => cases sy <;> exact h.elim
/-- two ints -/
def intD (C : Int → Int → Prop) (g : Int → Int → D) : D → D → Mem → KD → Prop
  | .int i, .int j, M, Q => C i j ∧ Q (g i j) M
  | _, _, _, _ => False
theorem od_int {C : Int → Int → Prop} {g : Int → Int → D} {g' : Int → Int → V} (hg : ∀ i j ρ H, Sh X.K ρ H (g i j) (g' i j)) : OpD X Ts (rI C g') (intD C g) := fun ρ M H x y v u Q Qd R sx sy h k => by
  cases sx with
  | int i => cases sy with
    | int j => exact ⟨i, j, rfl, rfl, h.1, k.same R h.2 (hg i j ρ H)⟩
    | _ => exact h.elim
  | _ => cases sy <;> exact h.elim
theorem op_rI0 {f : Value → Value → Sem Value} {g : Int → Int → V} (h : OpR X f (rI0 g)) : OpR X f (rI (fun _ _ => True) g) := fun pins s σ H x y v u Q I rx ry q => h pins s σ H x y v u Q I rx ry (let ⟨i, j, a, b, _, q⟩ := q; ⟨i, j, a, b, q⟩)
@[simp] def subD := intD (fun _ _ => True) fun i j => .int (i - j)
theorem od_sub : OpD X Ts (rI (fun _ _ => True) fun i j => V.int (i - j)) subD := od_int fun _ _ _ _ => .int _
@[simp] def ltD := intD (fun _ _ => True) fun i j => .bl (decide (i < j))
@[simp] def leD := intD (fun _ _ => True) fun i j => .bl (decide (i ≤ j))
@[simp] def gtD := intD (fun _ _ => True) fun i j => .bl (decide (j < i))
@[simp] def geD := intD (fun _ _ => True) fun i j => .bl (decide (j ≤ i))
@[simp] def fdivD := intD CDivN fun i j => .int (i.fdiv j)
@[simp] def modD := intD (fun _ j => j ≠ 0) fun i j => .int (i.fmod j)
@[simp] def powD := intD CPow fun i j => .int (i ^ j.toNat)
theorem qe_sub (ha : QE X Ts E a ta) (hb : QE X Ts E b tb) : QE X Ts E (.BinOp a .Sub b pos) (dOp subD ta tb) := qe_op (op_rI0 op_sub) od_sub ha hb
theorem qe_add (ha : QE X Ts E a ta) (hb : QE X Ts E b tb) : QE X Ts E (.BinOp a .Add b pos) (dOp addD ta tb) := qe_op op_addH od_add ha hb
theorem qe_mod (ha : QE X Ts E a ta) (hb : QE X Ts E b tb) : QE X Ts E (.BinOp a .Mod b pos) (dOp modD ta tb) := qe_op op_modN (od_int fun _ _ _ _ => .int _) ha hb
theorem qe_pow (ha : QE X Ts E a ta) (hb : QE X Ts E b tb) : QE X Ts E (.BinOp a .Pow b pos) (dOp powD ta tb) := qe_op op_pow (od_int fun _ _ _ _ => .int _) ha hb
/-- * -/
def mulD : D → D → Mem → KD → Prop
  | .int i, .int j, M, Q => CMulW i j ∧ Q (.int (i * j)) M
  | .obj i, .int k, M, Q => ∃ xs, M[i]? = some (.lst xs) ∧ -(2 ^ 63) ≤ k ∧ k < 2 ^ 63 ∧ xs.length * k.toNat ≤ sizeLine ∧ Q (.obj M.length) (M ++ [.lst (List.replicate k.toNat xs).flatten])
  | .tup xs, .int k, M, Q => xs ≠ [] ∧ 2 ≤ k ∧ k ≤ 1000 ∧ xs.length ≤ 1000 ∧ Q (.tup (List.replicate k.toNat xs).flatten) M
  | _, _, _, _ => False
end
end Dl
set_option Elab.async false
set_option linter.all false
set_option maxRecDepth 100000
set_option maxHeartbeats 4000000
namespace Dl
open PySem PySem.Spec PyProof.Rows L2 GxR Gn
section
variable {X : Cx} {Ts : Tbs} {E : XK} {pos : Pos} {a b c : Expr} {ta tb tc : TEd}
theorem Shs.flat {K : PySem.W.Frag} {ρ : Rho} {H : Hp} {ds : List D} {vs : List V} (h : Shs K ρ H ds vs) : ∀ k : Nat, Shs K ρ H (List.replicate k ds).flatten (List.replicate k vs).flatten
  | 0 => .nil
  | k + 1 => by
    simp only [List.replicate_succ, List.flatten_cons]
    exact h.append (Shs.flat h k)
def rMulH (K : PySem.W.Frag) : R2 := fun x y H Q => rI CMulW (fun i j => .int (i * j)) x y H Q ∨ rRep x y H Q ∨ rRepT K x y H Q
theorem op_mulH : OpR X (binaryOp .Mult) (rMulH X.K) := op_mulW.or (op_rep.or op_repT)
theorem od_mul : OpD X Ts (rMulH X.K) mulD := fun ρ M H x y v u Q Qd R sx sy h k => by
  cases sx with
  | int i => cases sy with
    | int j => exact .inl ⟨i, j, rfl, rfl, h.1, k.same R h.2 (.int _)⟩
    | _ => exact h.elim
  | @tup a xs ds ha hs => cases sy with
    | int j =>
      obtain ⟨h1, h2, h3, h4, q⟩ := h
      exact .inr (.inr ⟨a, j, xs, rfl, rfl, ha, fun e => h1 ((shs_nil hs).mp e), h2, h3, by rw [← hs.length]; exact h4, fun p hp => newTup R (hs.flat _) k q hp⟩)
    | _ => exact h.elim
  | @obj i a ea => cases sy with
    | int j =>
      obtain ⟨xs, e1, h1, h2, hz, q⟩ := h
      obtain ⟨a', vs, r1, g1, s1⟩ := R.lst e1
      rw [ea] at r1; cases r1
      exact .inr (.inl ⟨a, j, vs, rfl, rfl, g1, h1, h2, by rw [← s1.length]; exact hz, fun p hp => newLst R (s1.flat _) k q hp⟩)
    | _ => exact h.elim
  | _ => cases sy <;> exact h.elim
mutual
def pyM (M : Mem) : Nat → D → Option PyData
  | _, .non => some .none
  | _, .bl b => some (.bool b)
  | _, .int i => some (.int i)
  | _, .str x => some (.str x)
  | n, .tup ds => (pyMs M n ds).map .tuple
  | 0, .obj _ => none
  | n + 1, .obj i => match M[i]? with
    | some (.lst ds) => (pyMs M n ds).map .list
    | _ => none
  | _, .adr _ => none
  | _, .ty _ => none
  | _, .scr _ => none
  | _, .lam _ _ _ _ _ _ => none
  | _, .exc _ _ _ => none
termination_by n d => (n, sizeOf d)
def pyMs (M : Mem) : Nat → List D → Option (List PyData)
  | _, [] => some []
  | n, d :: ds => match pyM M n d, pyMs M n ds with
    | some p, some ps => some (p :: ps)
    | _, _ => none
termination_by n ds => (n, sizeOf ds)
end
mutual
theorem pyM_dp {K : PySem.W.Frag} {Ts : Tbs} {ρ : Rho} {M : Mem} {H : Hp} (R : Rl K Ts ρ M H) : ∀ (n : Nat) (d : D) (p : PyData) (v : V), pyM M n d = some p → Sh K ρ H d v → Dp K H v p
  | n, .non, p, v, e, h => by
    rw [pyM] at e; cases e; cases h; exact .non
  | n, .bl b, p, v, e, h => by
    rw [pyM] at e; cases e; cases h; exact .bl b
  | n, .int i, p, v, e, h => by
    rw [pyM] at e; cases e; cases h; exact .int i
  | n, .str x, p, v, e, h => by
    rw [pyM] at e; cases e; cases h; exact .str x
  | n, .tup ds, p, v, e, h => by
    rw [pyM] at e
    cases e1 : pyMs M n ds with
    | none => rw [e1] at e; cases e
    | some ps =>
      rw [e1] at e; cases e
      cases h with
      | tup h1 h2 => exact .tup h1 (pyMs_dp R n ds ps _ e1 h2)
  | 0, .obj i, p, v, e, h => by rw [pyM] at e; cases e
  | n + 1, .obj i, p, v, e, h => by
    rw [pyM] at e
    cases em : M[i]? with
    | none => rw [em] at e; cases e
    | some c =>
      rw [em] at e
      cases c with
      | lst ds =>
        simp only at e
        cases e1 : pyMs M n ds with
        | none => rw [e1] at e; cases e
        | some ps =>
          rw [e1] at e; cases e
          obtain ⟨a, vs, r1, g1, s1⟩ := R.lst em
          cases h with
          | obj ea =>
            rw [ea] at r1; cases r1
            exact .lst (SqL.of g1) (pyMs_dp R n ds ps _ e1 s1)
      | dK kvs => cases e
      | dT kvs => cases e
      | ins C fs => cases e
      | dN kvs => cases e
      | lkd kvs => cases e
      | lkt kvs => cases e
  | n, .adr a, p, v, e, h => by rw [pyM] at e; cases e
  | n, .ty a, p, v, e, h => by rw [pyM] at e; cases e
  | n, .scr a, p, v, e, h => by rw [pyM] at e; cases e
  | n, .lam _ _ _ _ _ _, p, v, e, h => by rw [pyM] at e; cases e
  | n, .exc _ _ _, p, v, e, h => by rw [pyM] at e; cases e
termination_by n d => (n, sizeOf d)
theorem pyMs_dp {K : PySem.W.Frag} {Ts : Tbs} {ρ : Rho} {M : Mem} {H : Hp} (R : Rl K Ts ρ M H) : ∀ (n : Nat) (ds : List D) (ps : List PyData) (vs : List V), pyMs M n ds = some ps → Shs K ρ H ds vs → DpAll K H vs ps
  | n, [], ps, vs, e, h => by
    rw [pyMs] at e; cases e; cases h; exact .nil
  | n, d :: ds, ps, vs, e, h => by
    rw [pyMs] at e
    cases e1 : pyM M n d with
    | none => rw [e1] at e; cases e
    | some p =>
      cases e2 : pyMs M n ds with
      | none => rw [e1, e2] at e; cases e
      | some qs =>
        rw [e1, e2] at e; cases e
        cases h with
        | cons h1 h2 => exact .cons (pyM_dp R n d p _ e1 h1) (pyMs_dp R n ds qs _ e2 h2)
termination_by n ds => (n, sizeOf ds)
end
/-- == of data -/
def eqD (neg : Bool) (x y : D) (M : Mem) (Q : KD) : Prop := ∃ n p q, pyM M n x = some p ∧ pyM M n y = some q ∧ SeqAt.shaped p = true ∧ SeqAt.shaped q = true ∧ Q (.bl (if neg then !PyData.eqv p q else PyData.eqv p q)) M
theorem od_eq : OpD X Ts (rEqD X.K) (eqD false) := fun ρ M H x y v u Q Qd R sx sy ⟨n, p, q, e1, e2, h1, h2, h⟩ k => ⟨p, q, pyM_dp R n x p v e1 sx, pyM_dp R n y q u e2 sy, h1, h2, k.same R h (.bl _)⟩
theorem od_ne : OpD X Ts (rNeD X.K) (eqD true) := fun ρ M H x y v u Q Qd R sx sy ⟨n, p, q, e1, e2, h1, h2, h⟩ k => ⟨p, q, pyM_dp R n x p v e1 sx, pyM_dp R n y q u e2 sy, h1, h2, k.same R h (.bl _)⟩
theorem Shs.atI {K : PySem.W.Frag} {ρ : Rho} {H : Hp} {ds : List D} {vs : List V} (h : Shs K ρ H ds vs) {i : Int} {d : D} (e : atI ds i = some d) : ∃ v, L2.atI vs i = some v ∧ Sh K ρ H d v := by
  unfold L2.atI at e ⊢
  rw [← h.length]
  cases q : ixN ds.length i with
  | none => rw [q] at e; cases e
  | some j =>
    rw [q] at e
    exact h.getD e
def ixD : D → D → Mem → KD → Prop
  | .obj i, .int k, M, Q => ∃ ds v, M[i]? = some (.lst ds) ∧ atI ds k = some v ∧ Q v M
  | .tup ds, .int k, M, Q => ∃ v, atI ds k = some v ∧ Q v M
  | .str z, .int k, M, Q => ∃ c, z.length ≤ sizeLine ∧ atI z.cps.toList k = some c ∧ Q (.str ⟨#[c]⟩) M
  | _, _, _, _ => False
theorem od_ix : OpD X Ts (rIx X.K) ixD := fun ρ M H x y v u Q Qd R sx sy h k => by
  cases sx with
  | str z => cases sy with
    | int j =>
      obtain ⟨c, h1, h2, q⟩ := h
      exact .inr (.inr ⟨z, j, c, rfl, rfl, h1, h2, k.same R q (.str _)⟩)
    | _ => exact h.elim
  | @tup a xs ds ha hs => cases sy with
    | int j =>
      obtain ⟨d, e, q⟩ := h
      obtain ⟨v, e2, s2⟩ := hs.atI e
      exact .inr (.inl ⟨a, xs, j, v, rfl, rfl, ha, e2, k.same R q s2⟩)
    | _ => exact h.elim
  | @obj i a ea => cases sy with
    | int j =>
      obtain ⟨ds, d, e1, e, q⟩ := h
      obtain ⟨a', vs, r1, g1, s1⟩ := R.lst e1
      rw [ea] at r1; cases r1
      obtain ⟨v, e2, s2⟩ := s1.atI e
      exact .inl ⟨a, vs, j, v, rfl, rfl, SqL.of g1, e2, k.same R q s2⟩
    | _ => exact h.elim
  | _ => cases sy <;> exact h.elim
abbrev TOd := Sl → Mem → (Option Int → Mem → Prop) → KE' → Prop
def rdO (K : PySem.W.Frag) (Ts : Tbs) (E : XK) (t : TOd) : TO := fun σ H Q => ∃ ρ S M Qd Ed, Rl K Ts ρ M H ∧ Sls K ρ H S σ ∧ t S M Qd Ed ∧ (∀ o M', Qd o M' → ∀ ρ' H', Grw ρ H ρ' H' → Rl K Ts ρ' M' H' → Q o H') ∧ XOk K Ts ρ H Ed E
abbrev QO (X : Cx) (Ts : Tbs) (E : XK) (e : Option Expr) (t : TOd) : Prop := PO X e (rdO X.K Ts E t)
theorem poLe {X : Cx} {e : Option Expr} {t t' : TO} (h : PO X e t) (i : ∀ σ H Q, t' σ H Q → t σ H Q) : PO X e t' := ⟨fun pins s σ H Q I q => h.run pins s σ H Q I (i σ H Q q)⟩
@[simp] def dNo : TOd := fun _ M Q _ => Q none M
@[simp] def dPart (t : TEd) : TOd := fun S M Q E => t S M (fun d M' => ∃ i, d = .int i ∧ Q (some i) M') E
theorem qo_none : QO X Ts E none dNo := poLe po_none fun σ H Q ⟨ρ, S, M, Qd, Ed, R, sl, q, k, x⟩ => k _ _ q ρ H (Grw.refl _ _) R
theorem qo_some (h : QE X Ts E a ta) : QO X Ts E (some a) (dPart ta) := poLe (po_some h) fun σ H Q ⟨ρ, S, M, Qd, Ed, R, sl, q, k, x⟩ =>
  ⟨ρ, S, M, _, Ed, R, sl, q, fun d M1 ⟨i, e, q1⟩ ρ1 H1 v g1 R1 s1 => by
    subst e
    cases s1
    exact ⟨i, rfl, k _ _ q1 ρ1 H1 g1 R1⟩, x⟩
def cutL {α : Type} (xs : List α) (lo hi : Option Int) : List α := (xs.drop (HT.sIx xs.length 0 lo)).take (HT.sIx xs.length xs.length hi - HT.sIx xs.length 0 lo)
theorem Shs.cut {K : PySem.W.Frag} {ρ : Rho} {H : Hp} {ds : List D} {vs : List V} (h : Shs K ρ H ds vs) (lo hi : Option Int) : Shs K ρ H (cutL ds lo hi) (cutV vs lo hi) := by
  unfold cutL cutV
  rw [h.length]
  exact (h.drop _).take _
def slD : D → Option Int → Option Int → Mem → KD → Prop
  | .tup ds, lo, hi, M, Q => Q (.tup (cutL ds lo hi)) M
  | .obj i, lo, hi, M, Q => ∃ ds, M[i]? = some (.lst ds) ∧ Q (.obj M.length) (M ++ [.lst (cutL ds lo hi)])
  | .str z, lo, hi, M, Q => z.length ≤ sizeLine ∧ Q (.str (cutS z lo hi)) M
  | .scr ns, lo, hi, M, Q => Q (.obj M.length) (M ++ [.lst (cutL (ns.map D.int) lo hi)])
  | _, _, _, _, _ => False
theorem shs_ints {K : PySem.W.Frag} {ρ : Rho} {H : Hp} : ∀ ns : List Int, Shs K ρ H (ns.map D.int) (ns.map V.int)
  | [] => .nil
  | n :: ns => .cons (.int n) (shs_ints ns)
def rSlH (K : PySem.W.Frag) : V → Option Int → Option Int → Hp → VK → Prop := fun x lo hi H Q => rSlA K x lo hi H Q ∨ rSlL K x lo hi H Q ∨ rSlS x lo hi H Q
theorem sl_H : SlR X (rSlH X.K) := sl_tupA.or (sl_list.or sl_str)
theorem cut_whole {α : Type} {xs : List α} {lo hi : Option Int} (h : HT.sIx xs.length 0 lo = 0 ∧ HT.sIx xs.length xs.length hi = xs.length) : cutL xs lo hi = xs := by
  unfold cutL
  rw [h.1, h.2]
  simp
theorem sl_read {x : D} {v : V} {lo hi : Option Int} {ρ : Rho} {M : Mem} {H : Hp} {Q : VK} {Qd : KD} (R : Rl X.K Ts ρ M H) (sx : Sh X.K ρ H x v) (h : slD x lo hi M Qd) (k : KOk X.K Ts ρ H Qd Q) : rSlH X.K v lo hi H Q := by
  cases sx with
  | str z => exact .inr (.inr ⟨z, rfl, h.1, k.same R h.2 (.str _)⟩)
  | @tup a xs ds ha hs =>
    have q : Qd (.tup (cutL ds lo hi)) M := h
    refine .inl ⟨a, xs, rfl, ha, fun e => ?_, fun _ p hp => newTup R (hs.cut lo hi) k q hp⟩
    rw [← hs.length] at e
    rw [cut_whole e] at q
    exact k.same R q (.tup ha hs)
  | @obj i a ea =>
    obtain ⟨ds, e1, q⟩ := h
    obtain ⟨a', vs, r1, g1, s1⟩ := R.lst e1
    rw [ea] at r1; cases r1
    exact .inr (.inl ⟨a, vs, rfl, SqL.of g1, fun p hp => newLst R (s1.cut lo hi) k q hp⟩)
  | @scr a ns e => exact .inr (.inl ⟨a, _, rfl, e.sq, fun p hp => newLst R ((shs_ints ns).cut lo hi) k h hp⟩)
  | _ => exact h.elim
@[simp] def dSl (ta : TEd) (tl th : TOd) : TEd := fun S M Q E => ta S M (fun x M1 => tl S M1 (fun lo M2 => th S M2 (fun hi M3 => slD x lo hi M3 Q) E) E) E
theorem qe_slice {lo hi : Option Expr} {tl th : TOd} {p2 : Pos} (ha : QE X Ts E a ta) (hl : QO X Ts E lo tl) (hu : QO X Ts E hi th) : QE X Ts E (.Subscript a (.Slice lo hi none p2) pos) (dSl ta tl th) := peLe (pe_slice sl_H ha hl hu) fun σ H Q ⟨ρ, S, M, Qd, Ed, R, sl, q, k, x⟩ =>
  ⟨ρ, S, M, _, Ed, R, sl, q, fun d M1 q1 ρ1 H1 v g1 R1 s1 => ⟨ρ1, S, M1, _, Ed, R1, sl.grw g1, q1, fun lo M2 q2 ρ2 H2 g2 R2 => ⟨ρ2, S, M2, _, Ed, R2, (sl.grw g1).grw g2, q2, fun hi M3 q3 ρ3 H3 g3 R3 =>
    sl_read R3 (Sh.grw g3 _ _ (Sh.grw g2 _ _ s1)) q3 (k.grw ((g1.tr g2).tr g3)), (x.grw g1).grw g2⟩, x.grw g1⟩, x⟩
@[simp] def dNil : TAd := fun _ M Q _ => Q [] M
@[simp] def dCons (t : TEd) (r : TAd) : TAd := fun S M Q E => t S M (fun d M1 => r S M1 (fun ds M2 => Q (d :: ds) M2) E) E
theorem qa_nil : QA X Ts E [] dNil := paLe pa_nil fun σ H Q ⟨ρ, S, M, Qd, Ed, R, sl, q, k, x⟩ => k _ _ q ρ H [] (Grw.refl _ _) R .nil
theorem qa_cons {es : List Expr} {tr : TAd} (ha : QE X Ts E a ta) (hr : QA X Ts E es tr) (hs : starEach (a :: es) X.env = (false, eval a X.env) :: starEach es X.env := by rfl) : QA X Ts E (a :: es) (dCons ta tr) := paLe (pa_cons ha hr hs) fun σ H Q ⟨ρ, S, M, Qd, Ed, R, sl, q, k, x⟩ =>
  ⟨ρ, S, M, _, Ed, R, sl, q, fun d M1 q1 ρ1 H1 v g1 R1 s1 => ⟨ρ1, S, M1, _, Ed, R1, sl.grw g1, q1, fun ds M2 q2 ρ2 H2 vs g2 R2 s2 => k _ _ q2 ρ2 H2 _ (g1.tr g2) R2 (.cons (Sh.grw g2 _ _ s1) s2), x.grw g1⟩, x⟩
@[simp] def dTup (t : TAd) : TEd := fun S M Q E => t S M (fun ds M1 => ds.length ≤ sizeLine ∧ Q (.tup ds) M1) E
@[simp] def dLst (t : TAd) : TEd := fun S M Q E => t S M (fun ds M1 => ds.length ≤ sizeLine ∧ Q (.obj M1.length) (M1 ++ [.lst ds])) E
theorem qe_tup {es : List Expr} {t : TAd} {x1} (h : QA X Ts E es t) : QE X Ts E (.Tuple es x1 pos) (dTup t) := peLe (pe_tup h) fun σ H Q ⟨ρ, S, M, Qd, Ed, R, sl, q, k, x⟩ =>
  ⟨ρ, S, M, _, Ed, R, sl, q, fun ds M1 ⟨hz, q1⟩ ρ1 H1 vs g1 R1 s1 => ⟨by rw [← s1.length]; exact hz, fun p hp => newTup R1 s1 (k.grw g1) q1 hp⟩, x⟩
theorem qe_lst {es : List Expr} {t : TAd} (h : QA X Ts E es t) : QE X Ts E (.List es pos) (dLst t) := peLe (pe_lst h) fun σ H Q ⟨ρ, S, M, Qd, Ed, R, sl, q, k, x⟩ =>
  ⟨ρ, S, M, _, Ed, R, sl, q, fun ds M1 ⟨hz, q1⟩ ρ1 H1 vs g1 R1 s1 => ⟨by rw [← s1.length]; exact hz, fun p hp => newLst R1 s1 (k.grw g1) q1 hp⟩, x⟩
/-- what a thing is worth as a test -/
def truD : D → Mem → Option Bool
  | .non, _ => some false
  | .bl b, _ => some b
  | .int i, _ => some (decide (i ≠ 0))
  | .tup ds, _ => some (!ds.isEmpty)
  | .obj i, M => match M[i]? with
    | some (.lst ds) => some (!ds.isEmpty)
    | _ => none
  | _, _ => none
/-- a test that gives a bool -/
@[simp] def dTest (t : TEd) : TTd := fun S M Q E => t S M (fun d M' => ∃ b, d = .bl b ∧ Q b M') E
theorem testRead {t : TEd} {σ : L2.St} {H : Hp} {Q : Bool → Hp → Prop} (h : rdT X.K Ts E (dTest t) σ H Q) : rdE X.K Ts E t σ H (fun x H' => ∃ k, x = .bl k ∧ Q k H') := by
  obtain ⟨ρ, S, M, Qd, Ed, R, sl, q, k, x⟩ := h
  exact ⟨ρ, S, M, _, Ed, R, sl, q, fun d M1 ⟨b, e, q1⟩ ρ1 H1 v g1 R1 s1 => by
    subst e
    cases s1
    exact ⟨b, rfl, k _ _ q1 ρ1 H1 g1 R1⟩, x⟩
theorem qt_val {t : TEd} (h : QE X Ts E a t) (he : ∀ whole, isTrue a X.env whole = (do let v ← whole; standAt a.pos; holding [v] (truthy v)) := by intro _; rfl) : QT X Ts E a (dTest t) := ptLe (pt_val h he) fun σ H Q h => testRead h
theorem qt_cmp {op : CmpOp} {r : R2} {rd : D → D → Mem → KD → Prop} (ho : OpR X (compareOp op) r) (hd : OpD X Ts r rd) (ha : QE X Ts E a ta) (hb : QE X Ts E b tb) (hm : behindInMarks op b = false) : QT X Ts E (.Compare a [op] [b] pos) (dTest (dOp rd ta tb)) := ptLe (pt_cmpR ho ha hb hm) fun σ H Q h => opRead hd (testRead h)
@[simp] def dNotT (t : TTd) : TTd := fun S M Q E => t S M (fun b M' => Q (!b) M') E
theorem qt_not {t : TTd} (ha : QT X Ts E a t) : QT X Ts E (.UnaryOp .Not a pos) (dNotT t) := ptLe (pt_not ha) fun σ H Q ⟨ρ, S, M, Qd, Ed, R, sl, q, k, x⟩ => ⟨ρ, S, M, _, Ed, R, sl, q, fun b M1 q1 ρ1 H1 g1 R1 => k _ _ q1 ρ1 H1 g1 R1, x⟩
end
end Dl
set_option Elab.async false
set_option linter.all false
set_option maxRecDepth 100000
set_option maxHeartbeats 4000000
namespace Dl
open PySem PySem.Spec PyProof.Rows L2 GxR Gn
section
variable {X : Cx} {Ts : Tbs} {E : XK} {pos : Pos} {a b c : Expr} {ta tb tc : TEd}
@[simp] def dAnd (ta tb : TEd) : TEd := fun S M Q E => ta S M (fun d M1 => ∃ k, d = .bl k ∧ if k = true then tb S M1 Q E else Q (.bl false) M1) E
@[simp] def dOr (ta tb : TEd) : TEd := fun S M Q E => ta S M (fun d M1 => ∃ k, d = .bl k ∧ if k = true then Q (.bl true) M1 else tb S M1 Q E) E
theorem qe_one {op} (h : QE X Ts E a ta) : QE X Ts E (.BoolOp op [a] pos) ta := pe_one h
theorem qe_and {rest : List Expr} (ha : QE X Ts E a ta) (hb : QE X Ts E (.BoolOp .And (b :: rest) pos) tb) : QE X Ts E (.BoolOp .And (a :: b :: rest) pos) (dAnd ta tb) := peLe (pe_and ha hb) fun σ H Q ⟨ρ, S, M, Qd, Ed, R, sl, q, k, x⟩ =>
  ⟨ρ, S, M, _, Ed, R, sl, q, fun d M1 ⟨t, e, q1⟩ ρ1 H1 v g1 R1 s1 => by
    subst e
    cases s1
    refine ⟨t, rfl, ?_⟩
    cases t with
    | true => exact ⟨ρ1, S, M1, Qd, Ed, R1, sl.grw g1, q1, k.grw g1, x.grw g1⟩
    | false => exact k _ _ q1 ρ1 H1 _ g1 R1 (.bl false), x⟩
@[simp] def dNot (ta : TEd) : TEd := fun S M Q E => ta S M (fun d M1 => ∃ k, d = .bl k ∧ Q (.bl (!k)) M1) E
theorem qe_not (ha : QE X Ts E a ta) : QE X Ts E (.UnaryOp .Not a pos) (dNot ta) := peLe (pe_not ha) fun σ H Q ⟨ρ, S, M, Qd, Ed, R, sl, q, k, x⟩ =>
  ⟨ρ, S, M, _, Ed, R, sl, q, fun d M1 ⟨t, e, q1⟩ ρ1 H1 v g1 R1 s1 => by
    subst e
    cases s1
    exact ⟨t, rfl, k _ _ q1 ρ1 H1 _ g1 R1 (.bl _)⟩, x⟩
@[simp] def dIf (tt : TTd) (ta tb : TEd) : TEd := fun S M Q E => tt S M (fun k M1 => if k = true then ta S M1 Q E else tb S M1 Q E) E
theorem qe_if {tt : TTd} (hc : QT X Ts E c tt) (ha : QE X Ts E a ta) (hb : QE X Ts E b tb) : QE X Ts E (.IfExp c a b pos) (dIf tt ta tb) := peLe (pe_ifExp hc ha hb) fun σ H Q ⟨ρ, S, M, Qd, Ed, R, sl, q, k, x⟩ =>
  ⟨ρ, S, M, _, Ed, R, sl, q, fun t M1 q1 ρ1 H1 g1 R1 => by
    cases t with
    | true => exact ⟨ρ1, S, M1, Qd, Ed, R1, sl.grw g1, q1, k.grw g1, x.grw g1⟩
    | false => exact ⟨ρ1, S, M1, Qd, Ed, R1, sl.grw g1, q1, k.grw g1, x.grw g1⟩, x⟩
/-- tests of and, or -/
structure QW (X : Cx) (Ts : Tbs) (E : XK) (e : Expr) (t : TTd) : Prop where
  pw : PW X e (rdT X.K Ts E t)
theorem QW.t {e : Expr} {t : TTd} (h : QW X Ts E e t) : QT X Ts E e t := h.pw.pt
theorem pwLe {e : Expr} {t t' : TT} (h : PW X e t) (i : ∀ σ H Q, t' σ H Q → t σ H Q) : PW X e t' := ⟨fun w pins s σ H Q I q => h.run w pins s σ H Q I (i σ H Q q)⟩
@[simp] def dAndT (ta tb : TTd) : TTd := fun S M Q E => ta S M (fun k M1 => if k = true then tb S M1 Q E else Q false M1) E
@[simp] def dOrT (ta tb : TTd) : TTd := fun S M Q E => ta S M (fun k M1 => if k = true then Q true M1 else tb S M1 Q E) E
theorem qw_and1 {t : TTd} (h : QT X Ts E a t) : QW X Ts E (.BoolOp .And [a] pos) t := ⟨pw_and1 h⟩
theorem qw_or1 {t : TTd} (h : QT X Ts E a t) : QW X Ts E (.BoolOp .Or [a] pos) t := ⟨pw_or1 h⟩
theorem qw_and {rest : List Expr} {t u : TTd} (ha : QT X Ts E a t) (hb : QW X Ts E (.BoolOp .And (b :: rest) pos) u) : QW X Ts E (.BoolOp .And (a :: b :: rest) pos) (dAndT t u) := ⟨pwLe (pw_and ha hb.pw) fun σ H Q ⟨ρ, S, M, Qd, Ed, R, sl, q, k, x⟩ =>
  ⟨ρ, S, M, _, Ed, R, sl, q, fun t M1 q1 ρ1 H1 g1 R1 => by
    cases t with
    | true => exact ⟨ρ1, S, M1, Qd, Ed, R1, sl.grw g1, q1, fun b M2 q2 ρ2 H2 g2 R2 => k b M2 q2 ρ2 H2 (g1.tr g2) R2, x.grw g1⟩
    | false => exact k _ _ q1 ρ1 H1 g1 R1, x⟩⟩
theorem qw_or {rest : List Expr} {t u : TTd} (ha : QT X Ts E a t) (hb : QW X Ts E (.BoolOp .Or (b :: rest) pos) u) : QW X Ts E (.BoolOp .Or (a :: b :: rest) pos) (dOrT t u) := ⟨pwLe (pw_or ha hb.pw) fun σ H Q ⟨ρ, S, M, Qd, Ed, R, sl, q, k, x⟩ =>
  ⟨ρ, S, M, _, Ed, R, sl, q, fun t M1 q1 ρ1 H1 g1 R1 => by
    cases t with
    | false => exact ⟨ρ1, S, M1, Qd, Ed, R1, sl.grw g1, q1, fun b M2 q2 ρ2 H2 g2 R2 => k b M2 q2 ρ2 H2 (g1.tr g2) R2, x.grw g1⟩
    | true => exact k _ _ q1 ρ1 H1 g1 R1, x⟩⟩
@[simp] def dTru (t : TEd) : TTd := fun S M Q E => t S M (fun d M' => ∃ b, truD d M' = some b ∧ Q b M') E
@[simp] def dChain (rd rd' : D → D → Mem → KD → Prop) (ta tb tc : TEd) : TEd := fun S M Q E => ta S M (fun x M1 => tb S M1 (fun y M2 => rd x y M2 fun z M3 => ∃ k, z = .bl k ∧ if k = true then tc S M3 (fun w M4 => rd' y w M4 Q) E else Q (.bl false) M3) E) E
theorem chainRead {r r' : R2} {rd rd' : D → D → Mem → KD → Prop} (ho : OpD X Ts r rd) (ho' : OpD X Ts r' rd') {σ : L2.St} {H : Hp} {Q : VK} (h : rdE X.K Ts E (dChain rd rd' ta tb tc) σ H Q) : tChain r r' (rdE X.K Ts E ta) (rdE X.K Ts E tb) (rdE X.K Ts E tc) σ H Q := by
  obtain ⟨ρ, S, M, Qd, Ed, R, sl, h, k, x⟩ := h
  refine ⟨ρ, S, M, _, Ed, R, sl, h, fun d M1 h1 ρ1 H1 v g1 R1 s1 => ?_, x⟩
  refine ⟨ρ1, S, M1, _, Ed, R1, sl.grw g1, h1, fun e M2 h2 ρ2 H2 u g2 R2 s2 => ?_, x.grw g1⟩
  refine ho ρ2 M2 H2 d e v u _ _ R2 (Sh.grw g2 _ _ s1) s2 h2 fun z M3 ⟨t, ez, q3⟩ ρ3 H3 zv g3 R3 s3 => ?_
  subst ez
  cases s3
  refine ⟨t, rfl, ?_⟩
  cases t with
  | false => exact k _ _ q3 ρ3 H3 _ ((g1.tr g2).tr g3) R3 (.bl false)
  | true => exact ⟨ρ3, S, M3, _, Ed, R3, ((sl.grw g1).grw g2).grw g3, q3, fun w M4 q4 ρ4 H4 wv g4 R4 s4 => ho' ρ4 M4 H4 e w u wv Q Qd R4 (Sh.grw g4 _ _ (Sh.grw g3 _ _ s2)) s4 q4 (k.grw (((g1.tr g2).tr g3).tr g4)), ((x.grw g1).grw g2).grw g3⟩
theorem qe_chain {op op' : CmpOp} {r r' : R2} {rd rd' : D → D → Mem → KD → Prop} (ho : OpR X (compareOp op) r) (ho' : OpR X (compareOp op') r') (hd : OpD X Ts r rd) (hd' : OpD X Ts r' rd') (ha : QE X Ts E a ta) (hb : QE X Ts E b tb) (hc : QE X Ts E c tc)
    (hm : lastMarks [op, op'] [b, c] = false := by with_unfolding_all rfl) : QE X Ts E (.Compare a [op, op'] [b, c] pos) (dChain rd rd' ta tb tc) := peLe (pe_chain ho ho' ha hb hc hm) fun _ _ _ => chainRead hd hd'
theorem qt_chain {op op' : CmpOp} {r r' : R2} {rd rd' : D → D → Mem → KD → Prop} (ho : OpR X (compareOp op) r) (ho' : OpR X (compareOp op') r') (hd : OpD X Ts r rd) (hd' : OpD X Ts r' rd') (ha : QE X Ts E a ta) (hb : QE X Ts E b tb) (hc : QE X Ts E c tc)
    (hm : lastMarks [op, op'] [b, c] = false := by with_unfolding_all rfl) : QT X Ts E (.Compare a [op, op'] [b, c] pos) (dTest (dChain rd rd' ta tb tc)) := ptLe (pt_chain ho ho' ha hb hc hm) fun σ H Q h => chainRead hd hd' (testRead h)
theorem Shp.lookup {K : PySem.W.Frag} {ρ : Rho} {H : Hp} {fs : List (Str × D)} {vs : List (Str × V)} (h : Shp K ρ H fs vs) {f : Str} {d : D} (e : fs.lookup f = some d) : ∃ v, vs.lookup f = some v ∧ Sh K ρ H d v := by
  induction h with
  | nil => cases e
  | @cons k d' ds v vs h1 _ ih =>
    rw [List.lookup_cons] at e ⊢
    split at e
    · cases e
      exact ⟨v, rfl, h1⟩
    · exact ih e
def putD (f : Str) (d : D) : List (Str × D) → List (Str × D)
  | [] => [(f, d)]
  | (g, e) :: fs => if g = f then (g, d) :: fs else (g, e) :: putD f d fs
end
end Dl
set_option Elab.async false
set_option linter.all false
set_option maxRecDepth 100000
set_option maxHeartbeats 4000000
namespace Dl
open PySem PySem.Spec PyProof.Rows L2 GxR Gn
theorem Shp.put {K : PySem.W.Frag} {ρ : Rho} {H : Hp} {fs : List (Str × D)} {vs : List (Str × V)} (h : Shp K ρ H fs vs) {f : Str} {d : D} {v : V} (s : Sh K ρ H d v) : Shp K ρ H (putD f d fs) (putF f v vs) := by
  induction h with
  | nil => exact .cons s .nil
  | @cons k d' ds v' vs h1 h2 ih =>
    unfold putD putF
    split
    · exact .cons s h2
    · exact .cons h1 ih
theorem Shp.length {K : PySem.W.Frag} {ρ : Rho} {H : Hp} {κ : Type} {fs : List (κ × D)} {vs : List (κ × V)} (h : Shp K ρ H fs vs) : fs.length = vs.length := by
  induction h with
  | nil => rfl
  | cons _ _ ih => simp [ih]
section
variable {X : Cx} {Ts : Tbs} {E : XK} {pos : Pos} {a b c : Expr} {ta tb tc : TEd}
@[simp] def dNext : TSd := fun D _ S M => D.nx S M
@[simp] def dSeq (t u : TSd) : TSd := fun D E S M => t { D with nx := u D E } E S M
theorem qss_nil : QSs X Ts E [] dNext := pssLe pss_nil fun D σ H ⟨ρ, S, M, Dd, Ed, R, sl, q, k, kr, kb, kc, x⟩ => k _ _ q ρ H σ (Grw.refl _ _) R sl
variable {st : Stmt} {rest : List Stmt} {t u : TSd}
theorem qss_cons (h1 : QS X Ts E st t) (h2 : QSs X Ts E rest u) : QSs X Ts E (st :: rest) (dSeq t u) := pssLe (pss_cons h1 h2) fun D σ H ⟨ρ, S, M, Dd, Ed, R, sl, q, k, kr, kb, kc, x⟩ =>
  ⟨ρ, S, M, { Dd with nx := u Dd Ed }, Ed, R, sl, q, fun S1 M1 q1 ρ1 H1 σ1 g1 R1 sl1 => ⟨ρ1, S1, M1, Dd, Ed, R1, sl1, q1, k.grw g1, kr.grw g1, kb.grw g1, kc.grw g1, x.grw g1⟩, kr, kb, kc, x⟩
theorem qss_one (h1 : QS X Ts E st t) : QSs X Ts E [st] t := pss_one h1
@[simp] def dBreak : TSd := fun D _ S M => D.bk S M
@[simp] def dCont : TSd := fun D _ S M => D.ct S M
theorem qs_break : QS X Ts E (.Break pos) dBreak := psLe ps_break fun D σ H ⟨ρ, S, M, Dd, Ed, R, sl, q, k, kr, kb, kc, x⟩ => kb _ _ q ρ H σ (Grw.refl _ _) R sl
@[simp] def dRet (t : TEd) : TSd := fun D E S M => t S M D.rt E
theorem qs_ret (h : QE X Ts E a ta) : QS X Ts E (.Return (some a) pos) (dRet ta) := psLe (ps_ret h) fun D σ H ⟨ρ, S, M, Dd, Ed, R, sl, q, k, kr, kb, kc, x⟩ => ⟨ρ, S, M, _, Ed, R, sl, q, kr, x⟩
@[simp] def dRetN : TSd := fun D _ _ M => D.rt .non M
@[simp] def dDrop (t : TEd) : TSd := fun D E S M => t S M (fun _ M1 => D.nx S M1) E
theorem qs_expr (h : QE X Ts E a ta) (hs : swapsWith a none pos.line X.env = pure false := by rfl) : QS X Ts E (.Expr a pos) (dDrop ta) := psLe (ps_expr h hs) fun D σ H ⟨ρ, S, M, Dd, Ed, R, sl, q, k, kr, kb, kc, x⟩ =>
  ⟨ρ, S, M, _, Ed, R, sl, q, fun d M1 q1 ρ1 H1 v g1 R1 s1 => k _ _ q1 ρ1 H1 σ g1 R1 (sl.grw g1), x⟩
@[simp] def dIfS (c : TTd) (t u : TSd) : TSd := fun D E S M => c S M (fun b M1 => if b = true then t D E S M1 else u D E S M1) E
theorem qs_if {A B : List Stmt} {tt : TTd} (hc : QT X Ts E c tt) (ha : QSs X Ts E A t) (hb : QSs X Ts E B u) : QS X Ts E (.If c A B pos) (dIfS tt t u) := psLe (ps_if hc ha hb) fun D σ H ⟨ρ, S, M, Dd, Ed, R, sl, q, k, kr, kb, kc, x⟩ =>
  ⟨ρ, S, M, _, Ed, R, sl, q, fun b M1 q1 ρ1 H1 g1 R1 => by
    cases b with
    | true => exact ⟨ρ1, S, M1, Dd, Ed, R1, sl.grw g1, q1, k.grw g1, kr.grw g1, kb.grw g1, kc.grw g1, x.grw g1⟩
    | false => exact ⟨ρ1, S, M1, Dd, Ed, R1, sl.grw g1, q1, k.grw g1, kr.grw g1, kb.grw g1, kc.grw g1, x.grw g1⟩, x⟩
abbrev TGd := D → Sl → Mem → (Sl → Mem → Prop) → Prop
abbrev TGsd := List D → Sl → Mem → (Sl → Mem → Prop) → Prop
def rdG (K : PySem.W.Frag) (Ts : Tbs) (t : TGd) : TG := fun v σ H Q => ∃ ρ S M Qd d, Rl K Ts ρ M H ∧ Sls K ρ H S σ ∧ Sh K ρ H d v ∧ t d S M Qd ∧ SOk K Ts ρ H Qd Q
def rdGs (K : PySem.W.Frag) (Ts : Tbs) (t : TGsd) : TGs := fun vs σ H Q => ∃ ρ S M Qd ds, Rl K Ts ρ M H ∧ Sls K ρ H S σ ∧ Shs K ρ H ds vs ∧ t ds S M Qd ∧ SOk K Ts ρ H Qd Q
abbrev QG (X : Cx) (Ts : Tbs) (e : Expr) (t : TGd) : Prop := PG X e (rdG X.K Ts t)
abbrev QGs (X : Cx) (Ts : Tbs) (es : List Expr) (t : TGsd) : Prop := PGs X es (rdGs X.K Ts t)
theorem pgLe {e : Expr} {t t' : TG} (h : PG X e t) (i : ∀ v σ H Q, t' v σ H Q → t v σ H Q) : PG X e t' := ⟨fun pins s σ H v u Q I r q => h.run pins s σ H v u Q I r (i v σ H Q q)⟩
theorem pgsLe {e : List Expr} {t t' : TGs} (h : PGs X e t) (i : ∀ v σ H Q, t' v σ H Q → t v σ H Q) : PGs X e t' := ⟨fun pins s σ H v u Q I r q => h.run pins s σ H v u Q I r (i v σ H Q q)⟩
@[simp] def dGN (i : Nat) : TGd := fun d S M Q => Q (S.set i (some d)) M
theorem qg_name {i : Nat} {x : Str} (hN : X.N.Nodup) (hi : X.N[i]? = some x) (hx : Loc X.env.scope x) (hf : X.fn x = true ∨ X.env.scope.names.lookup x = some .local := by first | exact .inl rfl | exact .inr rfl | assumption) : QG X Ts (.Name x pos) (dGN i) := pgLe (pg_name hN hi hx hf) fun v σ H Q ⟨ρ, S, M, Qd, d, R, sl, s, q, k⟩ =>
  k _ _ q ρ H _ (Grw.refl _ _) R (sl.set i s)
def dGNil : TGsd := fun ds S M Q => ds = [] ∧ Q S M
def dGCons (t : TGd) (u : TGsd) : TGsd := fun ds S M Q => ∃ d r, ds = d :: r ∧ t d S M fun S' M' => u r S' M' Q
theorem qgs_nil : QGs X Ts [] dGNil := pgsLe pgs_nil fun vs σ H Q ⟨ρ, S, M, Qd, ds, R, sl, s, ⟨e, q⟩, k⟩ => by
  subst e
  cases s
  exact ⟨rfl, k _ _ q ρ H _ (Grw.refl _ _) R sl⟩
theorem qgs_cons {es : List Expr} {t : TGd} {u : TGsd} (h1 : QG X Ts a t) (h2 : QGs X Ts es u) (hs : (assignEach (a :: es) X.env).map (·.2) = assign a X.env :: (assignEach es X.env).map (·.2) := by rfl) : QGs X Ts (a :: es) (dGCons t u) := pgsLe (pgs_cons h1 h2 hs) fun vs σ H Q ⟨ρ, S, M, Qd, ds, R, sl, s, ⟨d, r, e, q⟩, k⟩ => by
  subst e
  cases s with
  | @cons _ _ v vs' s1 s2 =>
    exact ⟨v, vs', rfl, ρ, S, M, _, d, R, sl, s1, q, fun S1 M1 q1 ρ1 H1 σ1 g1 R1 sl1 => ⟨ρ1, S1, M1, Qd, r, R1, sl1, Shs.grw g1 _ _ s2, q1, k.grw g1⟩⟩
@[simp] theorem dGNil_nil {S : Sl} {M : Mem} {Q : Sl → Mem → Prop} : dGNil [] S M Q ↔ Q S M := ⟨fun h => h.2, fun h => ⟨rfl, h⟩⟩
@[simp] theorem dGCons_cons {t : TGd} {u : TGsd} {d : D} {r : List D} {S : Sl} {M : Mem} {Q : Sl → Mem → Prop} : dGCons t u (d :: r) S M Q ↔ t d S M fun S' M' => u r S' M' Q :=
  ⟨fun ⟨_, _, e, h⟩ => by cases e; exact h, fun h => ⟨_, _, rfl, h⟩⟩
def dGTup (n : Nat) (t : TGsd) : TGd := fun d S M Q => ∃ ds, d = .tup ds ∧ ds.length = n ∧ t ds S M Q
@[simp] theorem dGTup_tup {n : Nat} {t : TGsd} {ds : List D} {S : Sl} {M : Mem} {Q : Sl → Mem → Prop} : dGTup n t (.tup ds) S M Q ↔ ds.length = n ∧ t ds S M Q :=
  ⟨fun ⟨_, e, h⟩ => by cases e; exact h, fun h => ⟨_, rfl, h⟩⟩
theorem qg_tup {es : List Expr} {k : Nat} {t : TGsd} {n : Nat} (hc : X.calm = true) (h : QGs X Ts es t) (hl : es.length = n := by rfl) (pg : PG X (.Tuple es k pos) (gTup X.K n (rdGs X.K Ts t))) : QG X Ts (.Tuple es k pos) (dGTup n t) := pgLe pg fun v σ H Q ⟨ρ, S, M, Qd, d, R, sl, s, ⟨ds, e, hn, q⟩, kk⟩ => by
  subst e
  cases s with
  | @tup a xs _ ha hs => exact ⟨a, xs, rfl, ha, by rw [← hs.length]; exact hn, ρ, S, M, Qd, ds, R, sl, hs, q, kk⟩
/-- x = e -/
@[simp] def dAsg (te : TEd) (g : TGd) : TSd := fun D E S M => te S M (fun d M1 => g d S M1 D.nx) E
theorem qs_asg {tg : Expr} {g : TGd} (he : QE X Ts E a ta) (hg : QG X Ts tg g) (hs : swapsWithSole [tg] a pos.line X.env = pure false := by rfl) (hw : swappedStores [tg] a X.env = pure none := by rfl) (h1 : (assignEach [tg] X.env).map (·.2) = [assign tg X.env] := by rfl) : QS X Ts E (.Assign [tg] a pos) (dAsg ta g) := psLe (ps_asg he hg hs hw h1) fun D σ H ⟨ρ, S, M, Dd, Ed, R, sl, q, k, kr, kb, kc, x⟩ =>
  ⟨ρ, S, M, _, Ed, R, sl, q, fun d M1 q1 ρ1 H1 v g1 R1 s1 => ⟨ρ1, S, M1, Dd.nx, d, R1, sl.grw g1, s1, q1, k.grw g1⟩, x⟩
@[simp] def dSet (i : Nat) (te : TEd) : TSd := fun D E S M => te S M (fun d M1 => D.nx (S.set i (some d)) M1) E
theorem qs_set {i : Nat} {x : Str} {pos' : Pos} (hN : X.N.Nodup) (hi : X.N[i]? = some x) (hx : Loc X.env.scope x) (he : QE X Ts E a ta) (hs : swapsWith a (some (.Name x pos')) pos.line X.env = pure false := by rfl) (hf : X.fn x = true ∨ X.env.scope.names.lookup x = some .local := by first | exact .inl rfl | exact .inr rfl | assumption) :
    QS X Ts E (.Assign [.Name x pos'] a pos) (dSet i ta) := psLe (ps_set hN hi hx he hs hf) fun D σ H ⟨ρ, S, M, Dd, Ed, R, sl, q, k, kr, kb, kc, x⟩ =>
  ⟨ρ, S, M, _, Ed, R, sl, q, fun d M1 q1 ρ1 H1 v g1 R1 s1 => k _ _ q1 ρ1 H1 _ g1 R1 ((sl.grw g1).set i s1), x⟩
def dWhile (c : TTd) (tb : TSd) : TSd := fun D E S M => ∃ W : Nat → Sl → Mem → Prop, (∃ m, W m S M) ∧ ∀ m S M, W m S M →
  c S M (fun b M1 => if b = true then tb { D with nx := fun S' M' => ∃ m', m' < m ∧ W m' S' M', ct := fun S' M' => ∃ m', m' < m ∧ W m' S' M', bk := D.nx } E S M1 else D.nx S M1) E
theorem qs_while {body : List Stmt} {tt : TTd} (hp : PassesOwn (model X.prog X.w) X.A X.env X.xe) (hc : QT X Ts E c tt) (hb : QSs X Ts E body t) : QS X Ts E (.While c body [] pos) (dWhile tt t) := psLe (ps_while hp hc hb) fun D σ H ⟨ρ, S, M, Dd, Ed, R, sl, ⟨W, ⟨m0, w0⟩, step⟩, k, kr, kb, kc, x⟩ => by
  refine ⟨fun m σ' H' => ∃ ρ' S' M', Grw ρ H ρ' H' ∧ Rl X.K Ts ρ' M' H' ∧ Sls X.K ρ' H' S' σ' ∧ W m S' M', ⟨m0, ρ, S, M, Grw.refl _ _, R, sl, w0⟩, ?_⟩
  rintro m σ1 H1 ⟨ρ1, S1, M1, g1, R1, sl1, w1⟩
  refine ⟨ρ1, S1, M1, _, Ed, R1, sl1, step m S1 M1 w1, fun b M2 q2 ρ2 H2 g2 R2 => ?_, x.grw g1⟩
  cases b with
  | false => exact k _ _ q2 ρ2 H2 σ1 (g1.tr g2) R2 (sl1.grw g2)
  | true =>
    refine ⟨fun σ' H' => ∃ m', m' < m ∧ ∃ ρ' S' M', Grw ρ H ρ' H' ∧ Rl X.K Ts ρ' M' H' ∧ Sls X.K ρ' H' S' σ' ∧ W m' S' M', fun σ' H' h => h, ?_⟩
    have kk : SOk X.K Ts ρ2 H2 (fun S' M' => ∃ m', m' < m ∧ W m' S' M') (fun σ' H' => ∃ m', m' < m ∧ ∃ ρ' S' M', Grw ρ H ρ' H' ∧ Rl X.K Ts ρ' M' H' ∧ Sls X.K ρ' H' S' σ' ∧ W m' S' M') :=
      fun S3 M3 ⟨m', hm, w3⟩ ρ3 H3 σ3 g3 R3 sl3 => ⟨m', hm, ρ3, S3, M3, (g1.tr g2).tr g3, R3, sl3, w3⟩
    exact ⟨ρ2, S1, M2, _, Ed, R2, sl1.grw g2, q2, kk, kr.grw (g1.tr g2), k.grw (g1.tr g2), kk, x.grw (g1.tr g2)⟩
/-- what is walked shows the things ds, as long as the memory is as alive says -/
def Feeds (K : PySem.W.Frag) (Ts : Tbs) (ρ : Rho) (H : Hp) (J : It) (ds : List D) (alive : Mem → Prop) : Prop :=
  ∀ ρ1 M1 H1, Grw ρ H ρ1 H1 → Rl K Ts ρ1 M1 H1 → alive M1 → ∀ i, (ds[i]? = none → J.stop i H1) ∧ ∀ d, ds[i]? = some d → J.go i H1 ∧ ∀ x H2, J.yld i H1 x H2 → ∃ ρ2, Grw ρ1 H1 ρ2 H2 ∧ Rl K Ts ρ2 M1 H2 ∧ Sh K ρ2 H2 d x
theorem Feeds.grw {K : PySem.W.Frag} {ρ ρ' : Rho} {H H' : Hp} {J : It} {ds : List D} {alive : Mem → Prop} (g : Grw ρ H ρ' H') (h : Feeds K Ts ρ H J ds alive) : Feeds K Ts ρ' H' J ds alive := fun ρ1 M1 H1 g1 => h ρ1 M1 H1 (g.tr g1)
abbrev TId := Sl → Mem → (List D → (Mem → Prop) → Mem → Prop) → KE' → Prop
def rdI (K : PySem.W.Frag) (Ts : Tbs) (E : XK) (t : TId) : TI := fun σ H Rr => ∃ ρ S M Qd Ed, Rl K Ts ρ M H ∧ Sls K ρ H S σ ∧ t S M Qd Ed ∧ (∀ ds alive M', Qd ds alive M' → ∀ ρ' H' J, Grw ρ H ρ' H' → Rl K Ts ρ' M' H' → Feeds K Ts ρ' H' J ds alive → Rr J H') ∧ XOk K Ts ρ H Ed E
abbrev QI (X : Cx) (Ts : Tbs) (E : XK) (tg iter : Expr) (t : TId) : Prop := PI X tg iter (rdI X.K Ts E t)
theorem piLe {tg iter : Expr} {t t' : TI} (h : PI X tg iter t) (i : ∀ σ H R, t' σ H R → t σ H R) : PI X tg iter t' := ⟨fun pins s σ H R I q => h.run pins s σ H R I (i σ H R q)⟩
def forD (g : TGd) (tb : TSd) (alive : Mem → Prop) (D : EndsD) (E : KE') : List Dl.D → Sl → Mem → Prop
  | [], S, M => alive M ∧ D.nx S M
  | d :: ds, S, M => alive M ∧ g d S M fun S1 M1 => tb { D with nx := forD g tb alive D E ds, ct := forD g tb alive D E ds, bk := D.nx } E S1 M1
@[simp] def dFor (ti : TId) (g : TGd) (tb : TSd) : TSd := fun D E S M => ti S M (fun ds alive M1 => forD g tb alive D E ds S M1) E
theorem forD_alive {g : TGd} {tb : TSd} {alive : Mem → Prop} {D : EndsD} {E : KE'} : ∀ {ds : List Dl.D} {S : Sl} {M : Mem}, forD g tb alive D E ds S M → alive M
  | [], _, _, h => h.1
  | _ :: _, _, _, h => h.1
theorem drop_none {α : Type} {ds : List α} {i : Nat} (h : ds[i]? = none) : ds.drop i = [] := List.drop_of_length_le (List.getElem?_eq_none_iff.mp h)
theorem drop_some {α : Type} {ds : List α} {i : Nat} {d : α} (h : ds[i]? = some d) : ds.drop i = d :: ds.drop (i + 1) := by
  obtain ⟨hl, e⟩ := List.getElem?_eq_some_iff.mp h
  rw [List.drop_eq_getElem_cons hl, e]
theorem qs_for {tg iter : Expr} {body : List Stmt} {ti : TId} {g : TGd} (hp : PassesOwn (model X.prog X.w) X.A X.env X.xe) (hc : X.calm = true) (hi : QI X Ts E tg iter ti) (hg : QG X Ts tg g) (hb : QSs X Ts E body t)
    (hs : ∀ x, foldedSetIterable iter X.env x = pure x := by intro _; rfl) : QS X Ts E (.For tg iter body [] pos) (dFor ti g t) := psLe (ps_for hp hc hi hg hb hs) fun D σ H ⟨ρ, S, M, Dd, Ed, R, sl, q, k, kr, kb, kc, x⟩ => by
  refine ⟨ρ, S, M, _, Ed, R, sl, q, fun ds alive M1 q1 ρ1 H1 J g1 R1 fd => ?_, x⟩
  refine ⟨fun i m σ' H' => ∃ ρ' S' M', Grw ρ1 H1 ρ' H' ∧ Rl X.K Ts ρ' M' H' ∧ Sls X.K ρ' H' S' σ' ∧ m = ds.length - i ∧ forD g t alive Dd Ed (ds.drop i) S' M', ⟨ds.length, ρ1, S, M1, Grw.refl _ _, R1, sl.grw g1, rfl, q1⟩, ?_⟩
  rintro i m σ2 H2 ⟨ρ2, S2, M2, g2, R2, sl2, hm, f2⟩
  obtain ⟨fn, fs⟩ := fd ρ2 M2 H2 g2 R2 (forD_alive f2) i
  cases hd : ds[i]? with
  | none =>
    rw [drop_none hd] at f2
    exact .inl ⟨fn hd, k _ _ f2.2 ρ2 H2 σ2 (g1.tr g2) R2 sl2⟩
  | some d =>
    obtain ⟨go, yl⟩ := fs d hd
    rw [drop_some hd] at f2
    have hl : i < ds.length := (List.getElem?_eq_some_iff.mp hd).1
    refine .inr ⟨go, fun σ' H' => ∃ ρ' S' M', Grw ρ1 H1 ρ' H' ∧ Rl X.K Ts ρ' M' H' ∧ Sls X.K ρ' H' S' σ' ∧ forD g t alive Dd Ed (ds.drop (i + 1)) S' M', fun σ' H' ⟨ρ', S', M', h1, h2, h3, h4⟩ => ⟨ds.length - (i + 1), by omega, ρ', S', M', h1, h2, h3, rfl, h4⟩, fun y H3 hy => ?_⟩
    obtain ⟨ρ3, g3, R3, s3⟩ := yl y H3 hy
    refine ⟨ρ3, S2, M2, _, d, R3, sl2.grw g3, s3, f2.2, fun S4 M4 q4 ρ4 H4 σ4 g4 R4 sl4 => ?_⟩
    have kk : SOk X.K Ts ρ4 H4 (forD g t alive Dd Ed (ds.drop (i + 1))) (fun σ' H' => ∃ ρ' S' M', Grw ρ1 H1 ρ' H' ∧ Rl X.K Ts ρ' M' H' ∧ Sls X.K ρ' H' S' σ' ∧ forD g t alive Dd Ed (ds.drop (i + 1)) S' M') :=
      fun S5 M5 q5 ρ5 H5 σ5 g5 R5 sl5 => ⟨ρ5, S5, M5, ((g2.tr g3).tr g4).tr g5, R5, sl5, q5⟩
    exact ⟨ρ4, S4, M4, _, Ed, R4, sl4, q4, kk, kr.grw (((g1.tr g2).tr g3).tr g4), k.grw (((g1.tr g2).tr g3).tr g4), kk, x.grw (((g1.tr g2).tr g3).tr g4)⟩
end
end Dl
set_option Elab.async false
set_option linter.all false
set_option maxRecDepth 100000
set_option maxHeartbeats 4000000
namespace Dl
open PySem PySem.Spec PyProof.Rows L2 GxR Gn
/-- a list, a tuple, a text -/
def iAny (K : PySem.W.Frag) (tl : TE) : TI := fun σ H R => tl σ H fun x H1 => (∃ a, x = .ref a ∧ (∃ xs, SqL K H1 a xs) ∧ R (Itl K a) H1) ∨ (∃ a, x = .ref a ∧ (∃ xs, SqT K H1 a xs) ∧ R (Itt K a) H1) ∨ ∃ z, x = .str z ∧ R (Its z) H1
theorem pi_any {X : Cx} {tg l : Expr} {tl : TE} (hl : PE X l tl) : PI X tg l (iAny X.K tl) := by
  refine ⟨fun pins s σ H R I h => ?_⟩
  refine thn (hl.run pins s σ H _ I h) fun v s1 ⟨x, H1, I1, r1, q1⟩ => ?_
  rcases q1 with ⟨a, e, ⟨xs, hq⟩, q⟩ | ⟨a, e, ⟨xs, hq⟩, q⟩ | ⟨z, e, q⟩
  · subst e
    cases r1
    obtain ⟨its, rv, p, hz⟩ := I1.list hq
    refine wpAny_pyIter_list p.isList ?_
    refine ⟨s1.heap.objs.size, [s1.heap.objs.size], _, _, H1, rfl, I1.kept (t' := s1.toks) fun b o e => Heap.get?_push_of_some _ e, turn_list a _, ⟨_, Heap.get?_push_size _ rfl, rfl, rfl⟩, fun b hb => ?_, q⟩
    have e : b = s1.heap.objs.size := by simpa using hb
    subst e
    exact I1.fpOk (Nat.le_refl _) (I1.hok.fresh (Nat.le_refl _))
  · subst e
    cases r1
    obtain ⟨its, rv, p, hz⟩ := I1.tuple hq
    refine wpAny_pyIter_tuple (show s1.heap.IsTuple a its.toArray from p) ?_
    refine ⟨s1.heap.objs.size, [s1.heap.objs.size], _, _, H1, rfl, I1.kept (t' := s1.toks) fun b o e => Heap.get?_push_of_some _ e, turn_tuple a _, ⟨_, Heap.get?_push_size _ rfl, rfl, rfl⟩, fun b hb => ?_, q⟩
    have e : b = s1.heap.objs.size := by simpa using hb
    subst e
    exact I1.fpOk (Nat.le_refl _) (I1.hok.fresh (Nat.le_refl _))
  · subst e
    obtain ⟨t, rfl⟩ := r1
    cases ha : z.cps.all (· < 128)
    · exact wpAny_pyIter_wide ha (pi_one (tk := s1.toks) I1 _ (turn_str _ z t "str_iterator" (.inr rfl)) ⟨_, Heap.get?_push_size _ rfl, rfl, rfl⟩ q)
    · exact wpAny_pyIter_ascii ha (pi_one (tk := s1.toks) I1 _ (turn_str _ z t "str_ascii_iterator" (.inl rfl)) ⟨_, Heap.get?_push_size _ rfl, rfl, rfl⟩ q)
/-- a text's signs -/
def sgD (z : Str) : List D := z.cps.toList.map fun c => .str ⟨#[c]⟩
section
variable {K : PySem.W.Frag} {Ts : Tbs} {ρ : Rho} {M : Mem} {H : Hp}
theorem feeds_lst {i : Nat} {a : Addr} {ds : List D} (ea : ρ i = some a) : Feeds K Ts ρ H (Itl K a) ds (fun M => M[i]? = some (.lst ds)) := fun ρ1 M1 H1 g1 R1 al n => by
  obtain ⟨a', vs, r1, h1, s1⟩ := R1.lst al
  rw [g1.r i a ea] at r1
  cases r1
  refine ⟨fun e => ⟨vs, SqL.of h1, by rw [← s1.length]; exact List.getElem?_eq_none_iff.mp e⟩, fun d e => ?_⟩
  obtain ⟨v, e1, s2⟩ := s1.getD e
  refine ⟨⟨vs, v, SqL.of h1, e1⟩, fun x H2 ⟨hH, hx⟩ => ?_⟩
  subst hH
  have := hx vs (SqL.of h1)
  rw [e1] at this
  cases this
  exact ⟨ρ1, Grw.refl _ _, R1, s2⟩
theorem feeds_tup {a : Addr} {ds : List D} {vs : List V} (ha : SqT K H a vs) (hs : Shs K ρ H ds vs) : Feeds K Ts ρ H (Itt K a) ds (fun _ => True) := fun ρ1 M1 H1 g1 R1 _ n => by
  have ha := SqT.grw g1 ha
  have hs := Shs.grw g1 _ _ hs
  refine ⟨fun e => ⟨vs, ha, by rw [← hs.length]; exact List.getElem?_eq_none_iff.mp e⟩, fun d e => ?_⟩
  obtain ⟨v, e1, s2⟩ := hs.getD e
  refine ⟨⟨vs, v, ha, e1⟩, fun x H2 ⟨hH, hx⟩ => ?_⟩
  subst hH
  have := hx vs ha
  rw [e1] at this
  cases this
  exact ⟨ρ1, Grw.refl _ _, R1, s2⟩
theorem feeds_str (z : Str) : Feeds K Ts ρ H (Its z) (sgD z) (fun _ => True) := fun ρ1 M1 H1 g1 R1 _ n => by
  unfold sgD
  refine ⟨fun e => ?_, fun d e => ?_⟩
  · rw [List.getElem?_map, Option.map_eq_none_iff] at e
    have := List.getElem?_eq_none_iff.mp e
    show z.cps.size ≤ n
    simpa using this
  · rw [List.getElem?_map, Option.map_eq_some_iff] at e
    obtain ⟨c, e1, rfl⟩ := e
    have e2 : z.cps[n]? = some c := by simpa using e1
    refine ⟨(Array.getElem?_eq_some_iff.mp e2).1, fun x H2 ⟨hH, c', h1, h2⟩ => ?_⟩
    subst hH h2
    rw [e2] at h1
    cases h1
    exact ⟨ρ1, Grw.refl _ _, R1, .str _⟩
def rngD (lo : Int) (n : Nat) : List D := (List.range n).map fun i => .int (lo + (i : Nat))
theorem feeds_range (lo : Int) (n : Nat) : Feeds K Ts ρ H (Itr lo n) (rngD lo n) (fun _ => True) := fun ρ1 M1 H1 g1 R1 _ i => by
  unfold rngD
  refine ⟨fun e => ?_, fun d e => ?_⟩
  · rw [List.getElem?_map, Option.map_eq_none_iff] at e
    have := List.getElem?_eq_none_iff.mp e
    show n ≤ i
    simpa using this
  · rw [List.getElem?_map, Option.map_eq_some_iff] at e
    obtain ⟨c, e1, rfl⟩ := e
    obtain ⟨hl, e2⟩ := List.getElem?_eq_some_iff.mp e1
    rw [List.getElem_range] at e2
    subst e2
    rw [List.length_range] at hl
    refine ⟨hl, fun x H2 ⟨hH, hx⟩ => ?_⟩
    subst hH hx
    exact ⟨ρ1, Grw.refl _ _, R1, .int _⟩
/-- pairs with their places -/
def enumD (ds : List D) : List D := ds.zipIdx.map fun p => .tup [.int (p.2 : Nat), p.1]
theorem enumD_at {ds : List D} {i : Nat} {d : D} (h : (enumD ds)[i]? = some d) : ∃ e, ds[i]? = some e ∧ d = .tup [.int (i : Nat), e] := by
  unfold enumD at h
  rw [List.getElem?_map, Option.map_eq_some_iff] at h
  obtain ⟨⟨e, k⟩, h1, rfl⟩ := h
  rw [List.getElem?_zipIdx, Option.map_eq_some_iff] at h1
  obtain ⟨e', h2, h3⟩ := h1
  cases h3
  exact ⟨e, h2, by simp⟩
theorem enumD_none {ds : List D} {i : Nat} (h : (enumD ds)[i]? = none) : ds.length ≤ i := by
  have := List.getElem?_eq_none_iff.mp h
  simpa [enumD] using this
theorem newPair {ρ1 : Rho} {M1 : Mem} {H1 : Hp} (R1 : Rl K Ts ρ1 M1 H1) {T : Addr} (hT : H1 T = none) {d e : D} {x y : V} (s1 : Sh K ρ1 H1 d x) (s2 : Sh K ρ1 H1 e y) :
    ∃ ρ2, Grw ρ1 H1 ρ2 (upd H1 T (.tup [x, y])) ∧ Rl K Ts ρ2 M1 (upd H1 T (.tup [x, y])) ∧ Sh K ρ2 (upd H1 T (.tup [x, y])) (.tup [d, e]) (.ref T) :=
  ⟨ρ1, grw_new hT, R1.new hT, .tup upd_same (.cons (Sh.grw (grw_new hT) _ _ s1) (.cons (Sh.grw (grw_new hT) _ _ s2) .nil))⟩
theorem feeds_enumT {a : Addr} {ds : List D} {vs : List V} (ha : SqT K H a vs) (hs : Shs K ρ H ds vs) : Feeds K Ts ρ H (Zn.ItT K a) (enumD ds) (fun _ => True) := fun ρ1 M1 H1 g1 R1 _ n => by
  have ha := SqT.grw g1 ha
  have hs := Shs.grw g1 _ _ hs
  refine ⟨fun e => ⟨vs, ha, by rw [← hs.length]; exact enumD_none e⟩, fun d e => ?_⟩
  obtain ⟨d', e0, rfl⟩ := enumD_at e
  obtain ⟨v, e1, s2⟩ := hs.getD e0
  refine ⟨⟨vs, v, ha, e1⟩, fun x H2 ⟨T, y, hx, hT, hH, hy⟩ => ?_⟩
  subst hH hx
  have := hy vs ha
  rw [e1] at this
  cases this
  exact newPair R1 hT (.int _) s2
theorem feeds_enumL {i : Nat} {a : Addr} {ds : List D} (ea : ρ i = some a) : Feeds K Ts ρ H (Ite K a) (enumD ds) (fun M => M[i]? = some (.lst ds)) := fun ρ1 M1 H1 g1 R1 al n => by
  obtain ⟨a', vs, r1, h1, s1⟩ := R1.lst al
  rw [g1.r i a ea] at r1
  cases r1
  refine ⟨fun e => ⟨vs, SqL.of h1, by rw [← s1.length]; exact enumD_none e⟩, fun d e => ?_⟩
  obtain ⟨d', e0, rfl⟩ := enumD_at e
  obtain ⟨v, e1, s2⟩ := s1.getD e0
  refine ⟨⟨vs, v, SqL.of h1, e1⟩, fun x H2 ⟨T, y, hx, hT, hH, hy⟩ => ?_⟩
  subst hH hx
  have := hy vs (SqL.of h1)
  rw [e1] at this
  cases this
  exact newPair R1 hT (.int _) s2
/-- pairs of two -/
def zipD (ds es : List D) : List D := List.zipWith (fun d e => .tup [d, e]) ds es
theorem zipD_at {ds es : List D} {i : Nat} {d : D} (h : (zipD ds es)[i]? = some d) : ∃ x y, ds[i]? = some x ∧ es[i]? = some y ∧ d = .tup [x, y] := by
  unfold zipD at h
  rw [List.getElem?_zipWith] at h
  split at h
  · cases h
    exact ⟨_, _, by assumption, by assumption, rfl⟩
  · cases h
theorem zipD_none {ds es : List D} {i : Nat} (h : (zipD ds es)[i]? = none) : ds.length ≤ i ∨ es.length ≤ i := by
  have := List.getElem?_eq_none_iff.mp h
  simp [zipD] at this
  omega
theorem feeds_zipT {a b : Addr} {ds es : List D} {vs ws : List V} (ha : SqT K H a vs) (hs : Shs K ρ H ds vs) (hb : SqT K H b ws) (ht : Shs K ρ H es ws) : Feeds K Ts ρ H (RZ.ItzT K a b) (zipD ds es) (fun _ => True) := fun ρ1 M1 H1 g1 R1 _ n => by
  have ha := SqT.grw g1 ha
  have hs := Shs.grw g1 _ _ hs
  have hb := SqT.grw g1 hb
  have ht := Shs.grw g1 _ _ ht
  refine ⟨fun e => ⟨vs, ws, ha, hb, by rw [← hs.length, ← ht.length]; exact zipD_none e⟩, fun d e => ?_⟩
  obtain ⟨x1, y1, e1, e2, rfl⟩ := zipD_at e
  obtain ⟨v, e3, s3⟩ := hs.getD e1
  obtain ⟨w, e4, s4⟩ := ht.getD e2
  refine ⟨⟨vs, ws, v, w, ha, hb, e3, e4⟩, fun x H2 ⟨T, y, z, hx, hT, hH, hy, hz⟩ => ?_⟩
  subst hH hx
  have q1 := hy vs ha
  rw [e3] at q1
  cases q1
  have q2 := hz ws hb
  rw [e4] at q2
  cases q2
  exact newPair R1 hT s3 s4
theorem feeds_zipL {i j : Nat} {a b : Addr} {ds es : List D} (ea : ρ i = some a) (eb : ρ j = some b) : Feeds K Ts ρ H (Itz K a b) (zipD ds es) (fun M => M[i]? = some (.lst ds) ∧ M[j]? = some (.lst es)) := fun ρ1 M1 H1 g1 R1 al n => by
  obtain ⟨a', vs, r1, h1, hs⟩ := R1.lst al.1
  obtain ⟨b', ws, r2, h2, ht⟩ := R1.lst al.2
  rw [g1.r i a ea] at r1
  cases r1
  rw [g1.r j b eb] at r2
  cases r2
  refine ⟨fun e => ⟨vs, ws, SqL.of h1, SqL.of h2, by rw [← hs.length, ← ht.length]; exact zipD_none e⟩, fun d e => ?_⟩
  obtain ⟨x1, y1, e1, e2, rfl⟩ := zipD_at e
  obtain ⟨v, e3, s3⟩ := hs.getD e1
  obtain ⟨w, e4, s4⟩ := ht.getD e2
  refine ⟨⟨vs, ws, v, w, SqL.of h1, SqL.of h2, e3, e4⟩, fun x H2 ⟨T, y, z, hx, hT, hH, hy, hz⟩ => ?_⟩
  subst hH hx
  have q1 := hy vs (SqL.of h1)
  rw [e3] at q1
  cases q1
  have q2 := hz ws (SqL.of h2)
  rw [e4] at q2
  cases q2
  exact newPair R1 hT s3 s4
end
section
variable {X : Cx} {Ts : Tbs} {E : XK} {pos p : Pos} {a b c tg : Expr} {ta tb tc : TEd}
/-- the things of a list, a tuple, a text -/
def seqD : D → Mem → (List D → (Mem → Prop) → Mem → Prop) → Prop
  | .tup ds, M, Q => Q ds (fun _ => True) M
  | .obj i, M, Q => ∃ ds, M[i]? = some (.lst ds) ∧ Q ds (fun M => M[i]? = some (.lst ds)) M
  | .str z, M, Q => Q (sgD z) (fun _ => True) M
  | _, _, _ => False
@[simp] def dWalk (t : TEd) : TId := fun S M Q E => t S M (fun d M1 => seqD d M1 Q) E
theorem qi_any (h : QE X Ts E a ta) : QI X Ts E tg a (dWalk ta) := piLe (pi_any h) fun σ H Rr ⟨ρ, S, M, Qd, Ed, R, sl, q, k, x⟩ => ⟨ρ, S, M, _, Ed, R, sl, q, fun d M1 q1 ρ1 H1 v g1 R1 s1 => by
  cases s1 with
  | str z => exact .inr (.inr ⟨z, rfl, k _ _ _ q1 ρ1 H1 _ g1 R1 (feeds_str z)⟩)
  | @tup a xs ds ha hs => exact .inr (.inl ⟨a, rfl, ⟨xs, ha⟩, k _ _ _ q1 ρ1 H1 _ g1 R1 (feeds_tup ha hs)⟩)
  | @obj i a ea =>
    obtain ⟨ds, em, q2⟩ := q1
    obtain ⟨a', vs, r1, h1, s1⟩ := R1.lst em
    rw [ea] at r1
    cases r1
    exact .inl ⟨a, rfl, ⟨vs, SqL.of h1⟩, k _ _ _ q2 ρ1 H1 _ g1 R1 (feeds_lst ea)⟩
  | _ => exact q1.elim, x⟩
@[simp] def dRange1 (t : TAd) : TId := fun S M Q E => t S M (fun ds M1 => ∃ j : Int, ds = [.int j] ∧ -(2 ^ 62) ≤ j ∧ j < 2 ^ 62 ∧ Q (rngD 0 j.toNat) (fun _ => True) M1) E
@[simp] def dRange2 (t : TAd) : TId := fun S M Q E => t S M (fun ds M1 => ∃ i j : Int, ds = [.int i, .int j] ∧ (-(2 ^ 62) ≤ i ∧ i < 2 ^ 62 ∧ -(2 ^ 62) ≤ j ∧ j < 2 ^ 62) ∧ Q (rngD i (j - i).toNat) (fun _ => True) M1) E
theorem qi_range1 {t : TAd} (hg : Gl X "range") (hm : X.mg "range" = none) (h : QA X Ts E [a] t) (hs : starEach [a] X.env = [(false, eval a X.env)] := by rfl) : QI X Ts E tg (.Call (.Name "range" p) [a] [] pos) (dRange1 t) := piLe (pi_range1 hg hm h hs) fun σ H Rr ⟨ρ, S, M, Qd, Ed, R, sl, q, k, x⟩ => ⟨ρ, S, M, _, Ed, R, sl, q, fun ds M1 ⟨j, e, h1, h2, q1⟩ ρ1 H1 vs g1 R1 s1 => by
  subst e
  cases s1 with
  | cons s1 s2 =>
    cases s1; cases s2
    exact ⟨j, rfl, h1, h2, k _ _ _ q1 ρ1 H1 _ g1 R1 (feeds_range 0 _)⟩, x⟩
variable {elts : List Expr} {kk : Nat} {tpos : Pos}
@[simp] def dEnumT (t : TAd) : TId := fun S M Q E => t S M (fun ds M1 => ∃ es, ds = [.tup es] ∧ Q (enumD es) (fun _ => True) M1) E
@[simp] def dEnumL (t : TAd) : TId := fun S M Q E => t S M (fun ds M1 => ∃ i es, ds = [.obj i] ∧ M1[i]? = some (.lst es) ∧ Q (enumD es) (fun M => M[i]? = some (.lst es)) M1) E
theorem qi_enumT {t : TAd} (hg : Gl X "enumerate") (hm : X.mg "enumerate" = none) (h : QA X Ts E [a] t) (hs : starEach [a] X.env = [(false, eval a X.env)] := by rfl) : QI X Ts E (.Tuple elts kk tpos) (.Call (.Name "enumerate" p) [a] [] pos) (dEnumT t) := piLe (Zn.pi_enumT hg hm h hs) fun σ H Rr ⟨ρ, S, M, Qd, Ed, R, sl, q, k, x⟩ => ⟨ρ, S, M, _, Ed, R, sl, q, fun ds M1 ⟨es, e, q1⟩ ρ1 H1 vs g1 R1 s1 => by
  subst e
  cases s1 with
  | cons s1 s2 =>
    cases s2
    cases s1 with
    | tup ha hs => exact ⟨_, _, rfl, SqT.of ha, k _ _ _ q1 ρ1 H1 _ g1 R1 (feeds_enumT ha hs)⟩, x⟩
theorem qi_enumL {t : TAd} (hg : Gl X "enumerate") (hm : X.mg "enumerate" = none) (h : QA X Ts E [a] t) (hs : starEach [a] X.env = [(false, eval a X.env)] := by rfl) : QI X Ts E (.Tuple elts kk tpos) (.Call (.Name "enumerate" p) [a] [] pos) (dEnumL t) := piLe (pi_enum hg hm h hs) fun σ H Rr ⟨ρ, S, M, Qd, Ed, R, sl, q, k, x⟩ => ⟨ρ, S, M, _, Ed, R, sl, q, fun ds M1 ⟨i, es, e, em, q1⟩ ρ1 H1 vs g1 R1 s1 => by
  subst e
  cases s1 with
  | cons s1 s2 =>
    cases s2
    cases s1 with
    | obj ea =>
      obtain ⟨a', vs, r1, h1, s1⟩ := R1.lst em
      rw [ea] at r1
      cases r1
      exact ⟨_, vs, rfl, SqL.of h1, k _ _ _ q1 ρ1 H1 _ g1 R1 (feeds_enumL ea)⟩, x⟩
def zipRd (ds : List D) (M1 : Mem) (Q : List D → (Mem → Prop) → Mem → Prop) : Prop := (∃ xs ys, ds = [.tup xs, .tup ys] ∧ Q (zipD xs ys) (fun _ => True) M1) ∨ ∃ i j xs ys, ds = [.obj i, .obj j] ∧ M1[i]? = some (.lst xs) ∧ M1[j]? = some (.lst ys) ∧ Q (zipD xs ys) (fun M => M[i]? = some (.lst xs) ∧ M[j]? = some (.lst ys)) M1
@[simp] theorem zipRd_tup {xs ys : List D} {M : Mem} {Q : List D → (Mem → Prop) → Mem → Prop} : zipRd [.tup xs, .tup ys] M Q ↔ Q (zipD xs ys) (fun _ => True) M := by
  constructor
  · rintro (⟨_, _, e, h⟩ | ⟨_, _, _, _, e, _⟩)
    · cases e; exact h
    · cases e
  · exact fun h => .inl ⟨_, _, rfl, h⟩
@[simp] theorem zipRd_obj {i j : Nat} {M : Mem} {Q : List D → (Mem → Prop) → Mem → Prop} : zipRd [.obj i, .obj j] M Q ↔ ∃ xs ys, M[i]? = some (.lst xs) ∧ M[j]? = some (.lst ys) ∧ Q (zipD xs ys) (fun M => M[i]? = some (.lst xs) ∧ M[j]? = some (.lst ys)) M := by
  constructor
  · rintro (⟨_, _, e, h⟩ | ⟨_, _, _, _, e, h⟩)
    · cases e
    · cases e; exact ⟨_, _, h⟩
  · rintro ⟨xs, ys, h⟩
    exact .inr ⟨_, _, xs, ys, rfl, h⟩
@[simp] def dZip (t : TAd) : TId := fun S M Q E => t S M (fun ds M1 => zipRd ds M1 Q) E
theorem qi_zip {t : TAd} (hg : Gl X "zip") (hm : X.mg "zip" = none) (h : QA X Ts E [a, b] t) (hs : starEach [a, b] X.env = (false, eval a X.env) :: starEach [b] X.env := by rfl) (hpl : (backTo pos (starEach [b] X.env)).any (·.1) = false := by rfl) : QI X Ts E (.Tuple elts kk tpos) (.Call (.Name "zip" p) [a, b] [] pos) (dZip t) := piLe (RZ.pi_zipA hg hm h hs hpl) fun σ H Rr ⟨ρ, S, M, Qd, Ed, R, sl, q, k, x⟩ => ⟨ρ, S, M, _, Ed, R, sl, q, fun ds M1 q1 ρ1 H1 vs g1 R1 s1 => by
  rcases q1 with ⟨xs, ys, e, q1⟩ | ⟨i, j, xs, ys, e, e1, e2, q1⟩
  · subst e
    cases s1 with
    | cons s1 s2 =>
      cases s2 with
      | cons s2 s3 =>
        cases s3
        cases s1 with
        | tup ha hs =>
          cases s2 with
          | tup hb ht => exact ⟨_, _, _, _, rfl, .inr ⟨SqT.of ha, SqT.of hb, k _ _ _ q1 ρ1 H1 _ g1 R1 (feeds_zipT ha hs hb ht)⟩⟩
  · subst e
    cases s1 with
    | cons s1 s2 =>
      cases s2 with
      | cons s2 s3 =>
        cases s3
        cases s1 with
        | obj ea =>
          cases s2 with
          | obj eb =>
            obtain ⟨a', vs, r1, h1, t1⟩ := R1.lst e1
            rw [ea] at r1
            cases r1
            obtain ⟨b', ws, r2, h2, t2⟩ := R1.lst e2
            rw [eb] at r2
            cases r2
            exact ⟨_, _, vs, ws, rfl, .inl ⟨SqL.of h1, SqL.of h2, k _ _ _ q1 ρ1 H1 _ g1 R1 (feeds_zipL ea eb)⟩⟩, x⟩
end
end Dl
set_option Elab.async false
set_option linter.all false
set_option maxRecDepth 100000
set_option maxHeartbeats 4000000
namespace Dl
open PySem PySem.Spec PyProof.Rows L2 GxR Gn
theorem wipe_get (σ : L2.St) (i : Nat) : ∀ vs : List Nat, (wipe σ vs)[i]? = if i ∈ vs then σ[i]?.map (fun _ => none) else σ[i]?
  | [] => by simp [wipe]
  | v :: vs => by
    unfold wipe
    by_cases h : v = i
    · subst h
      by_cases hl : v < (wipe σ vs).length
      · rw [List.getElem?_set_self hl, if_pos (by simp)]
        rw [wipe_length] at hl
        rw [List.getElem?_eq_getElem hl]
        rfl
      · rw [List.getElem?_eq_none (by rw [List.length_set]; omega), if_pos (by simp)]
        rw [wipe_length] at hl
        rw [List.getElem?_eq_none (by omega)]
        rfl
    · rw [List.getElem?_set_ne h, wipe_get σ i vs]
      have : i ≠ v := fun e => h e.symm
      simp [this]
theorem wipe_eq {σ τ : L2.St} {vs : List Nat} (h : ∀ i, i ∉ vs → σ[i]? = τ[i]?) (hl : σ.length = τ.length) : wipe σ vs = wipe τ vs := by
  apply List.ext_getElem?
  intro i
  rw [wipe_get, wipe_get]
  split
  · rename_i hi
    by_cases h1 : i < σ.length
    · rw [List.getElem?_eq_getElem h1, List.getElem?_eq_getElem (hl ▸ h1)]
      rfl
    · rw [List.getElem?_eq_none (Nat.le_of_not_lt h1), List.getElem?_eq_none (hl ▸ Nat.le_of_not_lt h1)]
  · rename_i hi
    exact h i hi
theorem wipe_wipe (σ : L2.St) (vs : List Nat) : wipe (wipe σ vs) vs = wipe σ vs := wipe_eq (fun i hi => by rw [wipe_get, if_neg hi]) (wipe_length _ _)
theorem wipe_set {σ : L2.St} {vs : List Nat} {i : Nat} (hi : i ∈ vs) (x : Option V) : wipe (σ.set i x) vs = wipe σ vs := wipe_eq (fun j hj => by rw [List.getElem?_set_ne (fun e => hj (by rw [← e]; exact hi))]) (by simp)
@[simp] def wipeD (S : Sl) : List Nat → Sl
  | [] => S
  | v :: vs => (wipeD S vs).set v none
theorem Sls.unset {K : PySem.W.Frag} {ρ : Rho} {H : Hp} {S : Sl} {σ : L2.St} (h : Sls K ρ H S σ) (i : Nat) : Sls K ρ H (S.set i none) (σ.set i none) := by
  refine ⟨by rw [List.length_set, List.length_set]; exact h.len, fun j d e => ?_⟩
  by_cases hj : i = j
  · subst hj
    have hl : i < S.length := by
      have := (List.getElem?_eq_some_iff.mp e).1
      rwa [List.length_set] at this
    rw [List.getElem?_set_self hl] at e
    cases e
  · rw [List.getElem?_set_ne hj] at e
    rw [List.getElem?_set_ne hj]
    exact h.at_ j d e
theorem Sls.wipe {K : PySem.W.Frag} {ρ : Rho} {H : Hp} {S : Sl} {σ : L2.St} (h : Sls K ρ H S σ) : ∀ vs : List Nat, Sls K ρ H (wipeD S vs) (L2.wipe σ vs)
  | [] => h
  | v :: vs => (Sls.wipe h vs).unset v
/-- a comprehension's target: it stores to the block's own slots alone -/
def TgS (K : PySem.W.Frag) (vs : List Nat) (g : TG) (gd : TGd) : Prop := ∀ ρ H S σ d v M Qd, Sls K ρ H S σ → Sh K ρ H d v → gd d S M Qd → g v σ H (fun σ2 H2 => H2 = H ∧ L2.wipe σ2 vs = L2.wipe σ vs ∧ ∃ S2, Sls K ρ H S2 σ2 ∧ Qd S2 M)
theorem tg_name {K : PySem.W.Frag} {vs : List Nat} {i : Nat} (hi : i ∈ vs) : TgS K vs (gName i) (dGN i) := fun ρ H S σ d v M Qd sl s q => ⟨rfl, wipe_set hi _, _, sl.set i s, q⟩
/-- a reading of targets may be asked more of -/
def GMono (g : TG) : Prop := ∀ v σ H Q Q', (∀ σ' H', Q σ' H' → Q' σ' H') → g v σ H Q → g v σ H Q'
theorem gm_name {i : Nat} : GMono (gName i) := fun v σ H Q Q' h q => h _ _ q
abbrev E00 : KE' := fun _ _ _ => False
abbrev X00 : XK := fun _ _ _ => False
theorem xok0 {K : PySem.W.Frag} {Ts : Tbs} {ρ : Rho} {H : Hp} {E : XK} : XOk K Ts ρ H E00 E := fun _ _ _ h => h.elim
/-- the turns of a comprehension, its list the thing n -/
def lcD (gd : TGd) (tt : TTd) (te : TEd) (vs : List Nat) (n : Nat) (alive : Mem → Prop) (Q : KD) (S : Sl) : List D → Mem → Prop
  | [], M => alive M ∧ Q (.obj n) M
  | d :: ds, M => alive M ∧ gd d (wipeD S vs) M fun S1 M1 => tt S1 M1 (fun b M2 => if b = true then te S1 M2 (fun y M3 => ∃ acc, M3[n]? = some (.lst acc) ∧ acc.length < sizeLine ∧ lcD gd tt te vs n alive Q S ds (M3.set n (.lst (acc ++ [y])))) E00
      else lcD gd tt te vs n alive Q S ds M2) E00
theorem lcD_alive {gd : TGd} {tt : TTd} {te : TEd} {vs : List Nat} {n : Nat} {alive : Mem → Prop} {Q : KD} {S : Sl} : ∀ {ds : List D} {M : Mem}, lcD gd tt te vs n alive Q S ds M → alive M
  | [], _, h => h.1
  | _ :: _, _, h => h.1
@[simp] def dLc (ti : TId) (gd : TGd) (tt : TTd) (te : TEd) (vs : List Nat) : TEd := fun S M Q E => ti S M (fun ds alive M1 => lcD gd tt te vs M1.length alive Q S ds (M1 ++ [.lst []])) E
@[simp] def dYes : TTd := fun _ M Q _ => Q true M
section
variable {X : Cx} {Ts : Tbs} {E : XK} {pos p : Pos} {tg elt iter : Expr} {ti : TId} {g : TG} {gd : TGd} {tt : TTd} {te : TEd} {vs : List Nat}
theorem lcRead (hgs : TgS X.K vs g gd) (gm : GMono g) {σ : L2.St} {H : Hp} {Q : VK} (h : rdE X.K Ts E (dLc ti gd tt te vs) σ H Q) : tLc (rdI X.K Ts E ti) g (rdT X.K Ts X00 tt) (rdE X.K Ts X00 te) vs σ H Q := by
  obtain ⟨ρ, S, M, Qd, Ed, R, sl, q, k, x⟩ := h
  refine ⟨ρ, S, M, _, Ed, R, sl, q, fun ds alive M1 q1 ρ1 H1 J g1 R1 fd => ?_, x⟩
  intro D hD
  have gx := grw_ext R1 (o := .lst []) hD
  have rn : ext ρ1 M1.length D M1.length = some D := by unfold ext; rw [if_pos rfl]
  refine ⟨fun i m H' => ∃ ρ' M', Grw (ext ρ1 M1.length D) (upd H1 D (.lst [])) ρ' H' ∧ Rl X.K Ts ρ' M' H' ∧ m = ds.length - i ∧ lcD gd tt te vs M1.length alive Qd S (ds.drop i) M',
    ⟨ds.length, _, _, Grw.refl _ _, R1.cellNew (c := .lst []) hD ⟨[], rfl, .nil⟩, rfl, q1⟩, ?_⟩
  rintro i m H2 ⟨ρ2, M2, g2, R2, hm, f2⟩
  obtain ⟨fn, fs⟩ := fd ρ2 M2 H2 (gx.tr g2) R2 (lcD_alive f2) i
  cases hd : ds[i]? with
  | none =>
    rw [drop_none hd] at f2
    exact .inl ⟨fn hd, k _ _ f2.2 ρ2 H2 _ ((g1.tr gx).tr g2) R2 (.obj (g2.r _ _ rn))⟩
  | some d =>
    obtain ⟨go, yl⟩ := fs d hd
    rw [drop_some hd] at f2
    have hl : i < ds.length := (List.getElem?_eq_some_iff.mp hd).1
    refine .inr ⟨go, fun H' => ∃ ρ' M', Grw (ext ρ1 M1.length D) (upd H1 D (.lst [])) ρ' H' ∧ Rl X.K Ts ρ' M' H' ∧ lcD gd tt te vs M1.length alive Qd S (ds.drop (i + 1)) M', fun H' ⟨ρ', M', h1, h2, h3⟩ => ⟨ds.length - (i + 1), by omega, ρ', M', h1, h2, rfl, h3⟩, fun y H3 hy => ?_⟩
    obtain ⟨ρ3, g3, R3, s3⟩ := yl y H3 hy
    have gs : Grw ρ H ρ3 H3 := ((g1.tr gx).tr g2).tr g3
    refine gm _ _ _ _ _ (fun σ4 H4 ⟨e4, hw, S4, sl4, q4⟩ => ?_) (hgs ρ3 H3 (wipeD S vs) (L2.wipe σ vs) d y M2 _ ((sl.grw gs).wipe vs) s3 f2.2)
    subst e4
    refine ⟨hw.trans (wipe_wipe σ vs), ρ3, S4, M2, _, E00, R3, sl4, q4, fun b M5 q5 ρ5 H5 g5 R5 => ?_, xok0⟩
    cases b with
    | false => exact ⟨ρ5, M5, (g2.tr g3).tr g5, R5, q5⟩
    | true =>
      refine ⟨ρ5, S4, M5, _, E00, R5, sl4.grw g5, q5, fun z M6 ⟨acc, em, hz, q6⟩ ρ6 H6 zv g6 R6 s6 => ?_, xok0⟩
      obtain ⟨a', ws, r1, h1, t1⟩ := R6.lst em
      have rD : ρ6 M1.length = some D := (((g2.tr g3).tr g5).tr g6).r _ _ rn
      rw [rD] at r1
      cases r1
      have hc : CSh X.K Ts.w ρ6 H6 (.lst (acc ++ [z])) (.lst (ws ++ [zv])) := ⟨_, rfl, t1.append (.cons s6 .nil)⟩
      exact ⟨ws, h1, by rw [← t1.length]; exact hz, ρ6, _, (((g2.tr g3).tr g5).tr g6).tr (grw_set R6 em rD), R6.cellSet em rD hc, q6⟩
theorem qe_lc {scope : Scope} {own : List (Str × Nat)} {ifs : List Expr} (hc : X.calm = true) (hN : X.N.Nodup) (hi : QI X Ts E tg iter ti) (ok : BlkOk X.N X.env.scope scope own)
    (hg : ∀ (s : Shared) (H : Hp) (C : Addr) (cl : List (Str × Addr)) (fp : List Addr), PG (X.blk s H scope (compEnvC scope cl C X.env) fp) tg g) (hgs : TgS X.K (own.map (·.2)) g gd) (gm : GMono g)
    (ht : ∀ (s : Shared) (H : Hp) (C : Addr) (cl : List (Str × Addr)) (fp : List Addr), PTs (X.blk s H scope (compEnvC scope cl C X.env) fp) ifs (rdT X.K Ts X00 tt))
    (he : ∀ (s : Shared) (H : Hp) (C : Addr) (cl : List (Str × Addr)) (fp : List Addr), QE (X.blk s H scope (compEnvC scope cl C X.env) fp) Ts X00 elt te) (hs : ∀ x, foldedSetIterable iter X.env x = pure x := by intro _; rfl) :
    QE X Ts E (.ListComp elt [⟨tg, iter, ifs, 0⟩] scope pos) (dLc ti gd tt te (own.map (·.2))) := peLe (pe_lc hc hN hi ok hg ht he hs) fun σ H Q h => lcRead hgs gm h
theorem ptsLe {X : Cx} {ifs : List Expr} {t t' : TT} (h : PTs X ifs t) (i : ∀ σ H Q, t' σ H Q → t σ H Q) : PTs X ifs t' := ⟨fun pins s σ H Q I q => h.run pins s σ H Q I (i σ H Q q)⟩
theorem qts_nil : PTs X [] (rdT X.K Ts E dYes) := ptsLe pts_nil fun σ H Q ⟨ρ, S, M, Qd, Ed, R, sl, q, k, x⟩ => k _ _ q ρ H (Grw.refl _ _) R
theorem qts_one {c : Expr} {t : TTd} (h : QT X Ts E c t) : PTs X [c] (rdT X.K Ts E t) := pts_one h
theorem tabbed_rl {K : PySem.W.Frag} {ρ : Rho} {M : Mem} {H H2 : Hp} {P : Addr} (R : Rl K Ts ρ M H) (hP : P ∈ Ts.g) (t : Tabbed P H H2) : Grw ρ H ρ H2 ∧ Rl K Ts ρ M H2 := by
  obtain ⟨ps, e, _⟩ := R.tab P hP
  have ne : ∀ b o, H b = some o → (∀ qs, o ≠ .tbl qs) → b ≠ P := fun b o h n z => by
    rw [z, e] at h
    exact n ps (Option.some.inj h).symm
  have g : Grw ρ H ρ H2 := ⟨fun _ _ h => h, fun b xs h => by rw [t.2 b (ne b _ h (fun qs z => by cases z))]; exact h, fun b o u h => by rw [t.2 b (ne b _ h (fun qs z => by cases z))]; exact h, fun b fs h => by rw [t.2 b (ne b _ h (fun qs z => by cases z))]; exact h, fun b p q h => by rw [t.2 b (ne b _ h (fun qs => LamX.codeO_ne qs))]; exact h⟩
  have lm : ∀ p ∈ Ts.l, LamX.TabS H2 p.1 p.2 := fun p hp => by
    obtain ⟨qs, h1, h2, h3⟩ := R.lam p hp
    have np : p.1 ≠ P := fun z => Ts.dis p hp (by rw [z]; exact hP)
    refine ⟨qs, by rw [t.2 p.1 np]; exact h1, h2, fun pos cv hc => ?_⟩
    obtain ⟨c, e1, e2⟩ := h3 pos cv hc
    exact ⟨c, e1, by rw [t.2 c (ne c _ e2 (fun qs => LamX.codeO_ne qs))]; exact e2⟩
  refine ⟨g, R.inj, R.dom, fun i c h => ?_, fun P' hP' => ?_, lm⟩
  · obtain ⟨a, o, e1, e2, e3⟩ := R.cell i c h
    have q := e3.is
    exact ⟨a, o, e1, by rw [t.2 a (ne a o e2 (fun qs z => by subst z; exact q))]; exact e2, e3.grw g⟩
  · by_cases z : P' = P
    · rw [z]; exact t.1
    · obtain ⟨qs, h1, h2⟩ := R.tab P' hP'
      exact ⟨qs, by rw [t.2 P' z]; exact h1, h2⟩
def allD (gd : TGd) (te : TEd) (vs : List Nat) (alive : Mem → Prop) (Q : KD) (S : Sl) : List D → Mem → Prop
  | [], M => alive M ∧ Q (.bl true) M
  | d :: ds, M => alive M ∧ gd d (wipeD S vs) M fun S1 M1 => te S1 M1 (fun y M2 => ∃ b, y = .bl b ∧ if b = true then allD gd te vs alive Q S ds M2 else Q (.bl false) M2) E00
theorem allD_alive {gd : TGd} {te : TEd} {vs : List Nat} {alive : Mem → Prop} {Q : KD} {S : Sl} : ∀ {ds : List D} {M : Mem}, allD gd te vs alive Q S ds M → alive M
  | [], _, h => h.1
  | _ :: _, _, h => h.1
@[simp] def dAll (ti : TId) (gd : TGd) (te : TEd) (vs : List Nat) : TEd := fun S M Q E => ti S M (fun ds alive M1 => allD gd te vs alive Q S ds M1) E
theorem allRead {P : Addr} (hP : P ∈ Ts.g) (hgs : TgS X.K vs g gd) (gm : GMono g) {σ : L2.St} {H : Hp} {Q : VK} (h : rdE X.K Ts E (dAll ti gd te vs) σ H Q) : tAllP (rdI X.K Ts E ti) g (rdE X.K Ts X00 te) vs P σ H Q := by
  obtain ⟨ρ, S, M, Qd, Ed, R, sl, q, k, x⟩ := h
  refine ⟨ρ, S, M, _, Ed, R, sl, q, fun ds alive M1 q1 ρ1 H1 J g1 R1 fd => ⟨R1.tab P hP, fun H2 tb => ?_⟩, x⟩
  obtain ⟨gt, R2⟩ := tabbed_rl R1 hP tb
  refine ⟨fun i m H' => ∃ ρ' M', Grw ρ1 H2 ρ' H' ∧ Rl X.K Ts ρ' M' H' ∧ m = ds.length - i ∧ allD gd te vs alive Qd S (ds.drop i) M', ⟨ds.length, _, _, Grw.refl _ _, R2, rfl, q1⟩, ?_⟩
  rintro i m H3 ⟨ρ3, M3, g3, R3, hm, f3⟩
  obtain ⟨fn, fs⟩ := fd ρ3 M3 H3 (gt.tr g3) R3 (allD_alive f3) i
  cases hd : ds[i]? with
  | none =>
    rw [drop_none hd] at f3
    exact .inl ⟨fn hd, k _ _ f3.2 ρ3 H3 _ ((g1.tr gt).tr g3) R3 (.bl true)⟩
  | some d =>
    obtain ⟨go, yl⟩ := fs d hd
    rw [drop_some hd] at f3
    have hl : i < ds.length := (List.getElem?_eq_some_iff.mp hd).1
    refine .inr ⟨go, fun y H4 hy => ?_⟩
    obtain ⟨ρ4, g4, R4, s4⟩ := yl y H4 hy
    have gs : Grw ρ H ρ4 H4 := ((g1.tr gt).tr g3).tr g4
    refine gm _ _ _ _ _ (fun σ5 H5 ⟨e5, hw, S5, sl5, q5⟩ => ?_) (hgs ρ4 H4 (wipeD S vs) (L2.wipe σ vs) d y M3 _ ((sl.grw gs).wipe vs) s4 f3.2)
    subst e5
    refine ⟨hw.trans (wipe_wipe σ vs), ρ4, S5, M3, _, E00, R4, sl5, q5, fun z M6 ⟨b, ez, q6⟩ ρ6 H6 zv g6 R6 s6 => ?_, xok0⟩
    subst ez
    cases s6
    refine ⟨b, rfl, ?_⟩
    cases b with
    | false => exact k _ _ q6 ρ6 H6 _ (gs.tr g6) R6 (.bl false)
    | true => exact ⟨ds.length - (i + 1), by omega, ρ6, M6, (g3.tr g4).tr g6, R6, rfl, q6⟩
theorem qe_all {c P : Addr} {gpos : Pos} {scope : Scope} {own : List (Str × Nat)} {k : Nat}
    (hP : P ∈ Ts.g) (hc : X.calm = true) (hr : Room (k + 1) X.A) (hg : Gl X "all") (hm : X.mg "all" = none) (TB : TabB X.base X.mg c P) (hcode : X.env.code = .ref c) (hN : X.N.Nodup) (ok : BlkOk X.N X.env.scope scope own) (hco : scope.isCoroutine = false)
    (hcell : ∀ y ∈ scope.names, y.2 ≠ .cell) (h0 : scope.names.lookup (".0" : Str) = some NameKind.local) (hi : QI X Ts E tg iter ti)
    (pg : ∀ (A' : Around) (s : Shared) (H : Hp) (C : Addr) (cl : List (Str × Addr)) (cd : Value) (fp : List Addr), PG (gcx X A' s H (genEnv scope cl C cd builtinsNs X.env) scope fp) tg g) (hgs : TgS X.K (own.map (·.2)) g gd) (gm : GMono g)
    (pe : ∀ (A' : Around) (s : Shared) (H : Hp) (C : Addr) (cl : List (Str × Addr)) (cd : Value) (fp : List Addr), Room k A' → A'.guards = X.A.guards → QE (gcx X A' s H (genEnv scope cl C cd builtinsNs X.env) scope fp) Ts X00 elt te)
    (hs : ∀ v, genFold iter X.env v = pure v := by intro _; rfl)
    (he : starEach [.GeneratorExp elt [⟨tg, iter, [], 0⟩] scope gpos] X.env = (false, eval (.GeneratorExp elt [⟨tg, iter, [], 0⟩] scope gpos) X.env) :: starEach [] X.env := by rfl) :
    QE X Ts E (.Call (.Name "all" p) [.GeneratorExp elt [⟨tg, iter, [], 0⟩] scope gpos] [] pos) (dAll ti gd te (own.map (·.2))) := peLe (pe_allP hc hr hg hm TB hcode hN ok hco hcell h0 hi pg pe hs he) fun σ H Q h => allRead hP hgs gm h
end
end Dl
set_option Elab.async false
set_option linter.all false
set_option maxRecDepth 100000
set_option maxHeartbeats 4000000
namespace Dl
open PySem PySem.Spec PyProof.Rows L2 GxR Gn
/-- room, and no guard around -/
structure RoomG (k : Nat) (A : Around) : Prop where
  r : Room k A
  g : A.guards = some []
theorem RoomG.mono {j k : Nat} {A : Around} (h : RoomG k A) (l : j ≤ k) : RoomG j A := ⟨h.r.mono l, h.g⟩
/-- the def at f keeps sp, wherever no guard stands -/
structure FnG (P : Program) (w : World) (K : PySem.W.Frag) (mg : Str → Option Value) (base : Heap) (k : Nat) (f : Addr) (fd : FuncData) (n : Nat) (ps : List Str) (sp : Sp) : Prop where
  cnt : ps.length = n
  len : ∀ vs H Q E, sp vs H Q E → vs.length = n
  run : ∀ (A : Around) (outer : List Env) (s : Shared) (H : Hp) (args : Args) (us : List Value) (vs : List V) (Q : VK) (E : XK), RoomG k A → Env0 P w K mg base A outer s H → BindsTo s fd args (ps.zip us) → Vals vs us → sp vs H Q E →
    codeAny (model P w) A (.call (.ref f) args) (CR (L2.CX P w) outer P w H s Q E) s
theorem FnG.mono {P : Program} {w : World} {K : PySem.W.Frag} {mg : Str → Option Value} {base : Heap} {j k : Nat} {f : Addr} {fd : FuncData} {n : Nat} {ps : List Str} {sp : Sp} (F : FnG P w K mg base j f fd n ps sp) (h : j ≤ k) : FnG P w K mg base k f fd n ps sp :=
  ⟨F.cnt, F.len, fun A outer s H args us vs Q E hr => F.run A outer s H args us vs Q E (hr.mono h)⟩
section
variable {X : Cx} {k : Nat} {f C : Addr} {fd : FuncData} {n : Nat} {ps : List Str} {sp : Sp} {dvs : List V} {ds : List Value} {E : XK} {x m : Str} {p pos apos : Pos} {e o : Expr} {es : List Expr} {ta : TE} {t : TA}
theorem xe_of (tk : Takes X (fun c d _ H => E c d H)) {pins : List (Addr × Obj)} {σ : L2.St} {H : Hp} {s s' : Shared} {u : Value} (I : Inv X pins σ H s) (h : L2.CX X.prog X.w X.stack H s E u s') : X.xe u s' :=
  passes_call (W := fun c d _ H => E c d H) tk (fun _ _ _ _ q => q) pins σ H s u s' I h
theorem goG {pins : List (Addr × Obj)} {σ : L2.St} {H : Hp} {s : Shared} {Q : VK} {us : List Value} {vs : List V} (F : FnG X.prog X.w X.K X.mg X.base k f fd n ps sp) (hr : RoomG k X.A) (hb : Binds X.K fd ps ds) (hd : Vals dvs ds) (tk : Takes X (fun c d _ H => E c d H))
    (I : Inv X pins σ H s) (r : Vals vs us) (h : sp (vs ++ dvs) H Q E) : wpAny (model X.prog X.w) X.A (call (.ref f) us) (EP X pins σ Q) X.xe s := by
  have rr := r.append hd
  have hl : (us ++ ds).length = ps.length := by rw [← rr.length, F.cnt]; exact F.len _ _ _ _ h
  refine wpAny_call (codeAny_mono (F.run X.A X.stack s H ⟨us, []⟩ _ _ Q E hr I.env0 (hb s us I.kIn hl) rr h) fun res s' hres => ?_)
  match res, hres with
  | .error u, hres => exact xe_of tk I hres
  | .ok (.ret u), hres => exact I.after hres
  | .ok .next, hres => exact False.elim hres
  | .ok .brk, hres => exact False.elim hres
  | .ok .cont, hres => exact False.elim hres
theorem callG (F : FnG X.prog X.w X.K X.mg X.base k f fd n ps sp) (hr : RoomG k X.A) (hg : Gl X x) (hm : X.mg x = some (.ref f)) (hk : PySem.W.keepIn X.K (.ref f) = true) (hb : Binds X.K fd ps ds) (hd : Vals dvs ds) (tk : Takes X (fun c d _ H => E c d H))
    (ha : PA X (e :: es) t) (hdb : (x == ("__debug__" : Str)) = false := by decide) (he : starEach (e :: es) X.env = (false, eval e X.env) :: starEach es X.env := by rfl) (hpl : (backTo pos (starEach es X.env)).any (·.1) = false := by rfl) :
    PE X (.Call (.Name x p) (e :: es) [] pos) (tCall sp dvs E t) :=
  ⟨fun pins s σ H Q I h => wpAny_Call_Name_kw (ld_glob I hg hm (PySem.W.callWith_K (h₀ := X.base) I.ok.mod.kin hk (thn (ha.run pos pins s σ H _ I h) fun us s1 ⟨vs, H1, I1, r, q⟩ => ⟨I1.kIn, goG F hr hb hd tk I1 r q⟩) he hpl) hdb)⟩
end
abbrev SpD := List D → Mem → KD → KE' → Prop
def spOf (K : PySem.W.Frag) (Ts : Tbs) (n : Nat) (sp : SpD) : Sp := fun vs H Q E => vs.length = n ∧ ∃ ρ M ds Qd Ed, Rl K Ts ρ M H ∧ Shs K ρ H ds vs ∧ sp ds M Qd Ed ∧ KOk K Ts ρ H Qd Q ∧ XOk K Ts ρ H Ed E
abbrev FnD (P : Program) (w : World) (K : PySem.W.Frag) (mg : Str → Option Value) (base : Heap) (Ts : Tbs) (k : Nat) (f : Addr) (fd : FuncData) (n : Nat) (ps : List Str) (sp : SpD) : Prop := FnG P w K mg base k f fd n ps (spOf K Ts n sp)
theorem FnD.imp {P : Program} {w : World} {K : PySem.W.Frag} {mg : Str → Option Value} {base : Heap} {Ts : Tbs} {k : Nat} {f : Addr} {fd : FuncData} {n : Nat} {ps : List Str} {sp sp' : SpD} (F : FnD P w K mg base Ts k f fd n ps sp) (h : ∀ ds M Q E, ds.length = n → sp' ds M Q E → sp ds M Q E) : FnD P w K mg base Ts k f fd n ps sp' := by
  have conv : ∀ vs H Q E, spOf K Ts n sp' vs H Q E → spOf K Ts n sp vs H Q E := fun vs H Q E ⟨hl, ρ, M, ds, Qd, Ed, R, s, q, kk, x⟩ => ⟨hl, ρ, M, ds, Qd, Ed, R, s, h _ _ _ _ (s.length.trans hl) q, kk, x⟩
  exact ⟨F.cnt, fun vs H Q E q => F.len vs H Q E (conv _ _ _ _ q), fun A outer s H args us vs Q E hr e0 hb r q => F.run A outer s H args us vs Q E hr e0 hb r (conv _ _ _ _ q)⟩
/-- a def's slots at its entry -/
@[simp] def startD (N : List Str) (ds : List D) : Sl := ds.map some ++ List.replicate (N.length - ds.length) none
theorem start_sls {K : PySem.W.Frag} {ρ : Rho} {H : Hp} {ds : List D} {vs : List V} (N : List Str) (h : Shs K ρ H ds vs) : Sls K ρ H (startD N ds) (L2.start N vs) := by
  unfold startD L2.start
  refine ⟨by simp [h.length], fun j d e => ?_⟩
  by_cases hj : j < ds.length
  · rw [List.getElem?_append_left (by simpa using hj), List.getElem?_map, Option.map_eq_some_iff] at e
    obtain ⟨d', e1, e2⟩ := e
    cases e2
    obtain ⟨v, e3, s⟩ := h.getD e1
    exact ⟨v, by rw [List.getElem?_append_left (by rw [List.length_map, ← h.length]; exact hj), List.getElem?_map, e3]; rfl, s⟩
  · rw [List.getElem?_append_right (by simpa using Nat.le_of_not_lt hj)] at e
    have := List.mem_of_getElem? e
    simp at this
section
variable {P : Program} {w : World} {K : PySem.W.Frag} {mg : Str → Option Value} {base : Heap} {Ts : Tbs}
/-- a def keeps a promise by data: its body read, the reading shown -/
theorem fnD {x qual : Str} {st : Stmt} {f : Addr} {fd : FuncData} {N ps : List Str} {k : Nat} {sp : SpD} {c0 : Value} {t : TSd} (F : Fun K x qual st f fd) (hc : fd.code = c0) (S : FnScope N ps (defScope st))
    (body : ∀ (A : Around) (outer : List Env) (s : Shared) (H : Hp) (E : XK), RoomG k (A.deeper (envOfC qual (defScope st) s.heap.objs.size f c0)) → QSs (cxOf (L2.CX P w) P w K mg base N qual (defScope st) f c0 A outer s H E) Ts E (defBody st) t)
    (h : ∀ ds M Q E, ds.length = ps.length → sp ds M Q E → t { nx := fun _ M' => Q .non M', rt := Q } E (startD N ds) M) : FnD P w K mg base Ts (k + 1) f fd ps.length ps sp := by
  obtain ⟨oc, od, kV, doc, pm, an, cdv, ct, osl, rfl, lk, hcd⟩ := F.ex
  have hc : cdv = c0 := hc
  subst hc
  refine ⟨rfl, fun vs H Q E q => q.1, fun A outer s H args us vs Q E hr e0 hb r hsp => ?_⟩
  obtain ⟨hl, ρ, M, ds, Qd, Ed, R, sv, q, kk, xx⟩ := id hsp
  have ksp : K.In s.heap := e0.mod.kin.keeps fun b o e => (e0.bs b o e).1
  have hpar : ∀ y ∈ ps.zip us, (defScope st).names.lookup y.1 = some .local ∨ ((defScope st).names.lookup y.1 = some .cell ∧ ((cellsFrom (s.heap.objs.size + 1) (defScope st).names []).lookup y.1).isSome = true) := fun y hy =>
    (S.par y.1 (List.of_mem_zip (a := y.1) (b := y.2) hy).1).elim .inl fun q => .inr ⟨q, PySem.W.cellsFrom_some _ _ _ (.inl q)⟩
  refine codeAny_call_function hr.r.depth (ksp _ _ lk) rfl S.co S.gen rfl (PySem.W.codeRec_of ksp hcd) (hb _ _ _ _ (wpAny_newFunctionEnv_cells S.kind hpar fun env he s1 nx => ?_))
  subst he
  refine ⟨(e0.mod.nolimit.keeps fun b o e => (e0.bs b o e).1).keeps nx.toInCall.keep, codeAny_func ?_⟩
  have hr' : RoomG k (A.deeper (envOfC qual (defScope st) s.heap.objs.size f cdv)) := ⟨hr.r.deeper _, hr.g⟩
  have I0 := inv_start (CX := L2.CX P w) (E := E) (qual := qual) (f := f) (cd := cdv) S hr.r.hd e0 (vs := vs) (by rw [hl]) r nx
  have rd : rdS K Ts E t { nx := fun _ H' => Q .non H', rt := Q } (L2.start N vs) H :=
    ⟨ρ, startD N ds, M, { nx := fun _ M' => Qd .non M', rt := Qd }, Ed, R, start_sls N sv, h ds M Qd Ed (sv.length.trans hl) q, fun S' M' q' ρ' H' σ' g R' _ => kk _ _ q' ρ' H' .non g R' .non, kk, fun _ _ z => z.elim, fun _ _ z => z.elim, xx⟩
  refine wpAny_mono ((body A outer s H E hr').run [] s1 (L2.start N vs) H _ I0 rd) (fun fl s' hs => ?_) fun _ _ z => z
  match fl, hs with
  | .ret u, ⟨v, σ', H', J, rv, q⟩ => exact ⟨v, H', J.os, J.bare, J.base, J.hok, rv, q⟩
  | .next, ⟨σ', H', J, q⟩ => exact ⟨.non, H', J.os, J.bare, J.base, J.hok, rfl, q⟩
  | .brk, ⟨_, _, _, q⟩ => exact q.elim
  | .cont, ⟨_, _, _, q⟩ => exact q.elim
theorem takesD {N : List Str} {qual : Str} {scope : Scope} {f : Addr} {cd : Value} {A : Around} {outer : List Env} {s : Shared} {H : Hp} {E : XK} : Takes (cxOf (L2.CX P w) P w K mg base N qual scope f cd A outer s H E) (fun c d _ H => E c d H) := takes_of rfl rfl rfl rfl
theorem passD {N : List Str} {qual : Str} {scope : Scope} {f : Addr} {cd : Value} {A : Around} {outer : List Env} {s : Shared} {H : Hp} {E : XK} : PassesOwn (model P w) (A.deeper (envOfC qual scope s.heap.objs.size f cd)) (envOfC qual scope s.heap.objs.size f cd) (cxOf (L2.CX P w) P w K mg base N qual scope f cd A outer s H E).xe :=
  passes_of (X := cxOf (L2.CX P w) P w K mg base N qual scope f cd A outer s H E) rfl
end
section
variable {X : Cx} {Ts : Tbs} {k : Nat} {f C : Addr} {fd : FuncData} {n : Nat} {ps : List Str} {sp : SpD} {E : XK} {x m : Str} {p pos apos : Pos} {e o : Expr} {es : List Expr} {ta : TEd} {t : TAd}
@[simp] def dCall (n : Nat) (sp : SpD) (t : TAd) : TEd := fun S M Q E => t S M (fun ds M1 => ds.length = n ∧ sp ds M1 Q E) E
theorem callRead {σ : L2.St} {H : Hp} {Q : VK} (h : rdE X.K Ts E (dCall n sp t) σ H Q) : tCall (spOf X.K Ts n sp) [] E (rdA X.K Ts E t) σ H Q := by
  obtain ⟨ρ, S, M, Qd, Ed, R, sl, q, kk, xx⟩ := h
  exact ⟨ρ, S, M, _, Ed, R, sl, q, fun ds M1 ⟨hl, q1⟩ ρ1 H1 vs g1 R1 s1 => by
    show spOf X.K Ts n sp (vs ++ []) H1 Q E
    rw [List.append_nil]
    exact ⟨s1.length.symm.trans hl, ρ1, M1, ds, Qd, Ed, R1, s1, q1, kk.grw g1, xx.grw g1⟩, xx⟩
theorem qe_call (F : FnD X.prog X.w X.K X.mg X.base Ts k f fd n ps sp) (hr : RoomG k X.A) (hg : Gl X x) (hm : X.mg x = some (.ref f)) (hk : PySem.W.keepIn X.K (.ref f) = true) (hb : Binds X.K fd ps []) (tk : Takes X (fun c d _ H => E c d H))
    (ha : QA X Ts E (e :: es) t) (hdb : (x == ("__debug__" : Str)) = false := by decide) (he : starEach (e :: es) X.env = (false, eval e X.env) :: starEach es X.env := by rfl) (hpl : (backTo pos (starEach es X.env)).any (·.1) = false := by rfl) :
    QE X Ts E (.Call (.Name x p) (e :: es) [] pos) (dCall n sp t) := peLe (callG F hr hg hm hk hb .nil tk ha hdb he hpl) fun σ H Q h => callRead h
end
end Dl
set_option Elab.async false
set_option linter.all false
set_option maxRecDepth 100000
set_option maxHeartbeats 4000000
namespace Dl
open PySem PySem.Spec PyProof.Rows L2 GxR Gn
section
variable {X : Cx} {Ts : Tbs} {E : XK} {pos p apos : Pos} {a b c e o : Expr} {es : List Expr} {ta tb : TEd} {t : TAd}
def CallD (X : Cx) (Ts : Tbs) (r : List V → Hp → VK → Prop) (rd : List D → Mem → KD → Prop) : Prop :=
  ∀ ρ M H ds vs Q Qd, Rl X.K Ts ρ M H → Shs X.K ρ H ds vs → rd ds M Qd → KOk X.K Ts ρ H Qd Q → r vs H Q
@[simp] def dCB (rd : List D → Mem → KD → Prop) (t : TAd) : TEd := fun S M Q E => t S M (fun ds M1 => rd ds M1 Q) E
theorem cbRead {r : List V → Hp → VK → Prop} {rd : List D → Mem → KD → Prop} (h : CallD X Ts r rd) {σ : L2.St} {H : Hp} {Q : VK} (q : rdE X.K Ts E (dCB rd t) σ H Q) : tCB r (rdA X.K Ts E t) σ H Q := by
  obtain ⟨ρ, S, M, Qd, Ed, R, sl, q, k, x⟩ := q
  exact ⟨ρ, S, M, _, Ed, R, sl, q, fun ds M1 q1 ρ1 H1 vs g1 R1 s1 => h ρ1 M1 H1 ds vs Q Qd R1 s1 q1 (k.grw g1), x⟩
theorem qe_cb {id : String} {x : Str} {r : List V → Hp → VK → Prop} {rd : List D → Mem → KD → Prop} (hr : CallR X (.builtin id) r) (hd : CallD X Ts r rd) (hg : Gl X x) (hm : X.mg x = none) (hv : bootBuiltins x = some (.builtin id)) (ha : QA X Ts E (e :: es) t) (hn : x ≠ "__name__" := by decide) (hdb : (x == ("__debug__" : Str)) = false := by decide)
    (he : starEach (e :: es) X.env = (false, eval e X.env) :: starEach es X.env := by rfl) (hpl : (backTo pos (starEach es X.env)).any (·.1) = false := by rfl) : QE X Ts E (.Call (.Name x p) (e :: es) [] pos) (dCB rd t) := peLe (pe_callB hr hg hm hv ha hn hdb he hpl) fun σ H Q h => cbRead hd h
theorem qe_cty {T : String} {x : Str} {r : List V → Hp → VK → Prop} {rd : List D → Mem → KD → Prop} (hr : CallR X (.type T) r) (hd : CallD X Ts r rd) (hg : Gl X x) (hm : X.mg x = none) (hv : bootBuiltins x = some (.type T)) (ha : QA X Ts E (e :: es) t) (hn : x ≠ "__name__" := by decide) (hdb : (x == ("__debug__" : Str)) = false := by decide)
    (he : starEach (e :: es) X.env = (false, eval e X.env) :: starEach es X.env := by rfl) (hpl : (backTo pos (starEach es X.env)).any (·.1) = false := by rfl) : QE X Ts E (.Call (.Name x p) (e :: es) [] pos) (dCB rd t) := peLe (pe_callTy hr hg hm hv ha hn hdb he hpl) fun σ H Q h => cbRead hd h
def lenD : List D → Mem → KD → Prop
  | [.tup ds], M, Q => Q (.int (ds.length : Nat)) M
  | [.str z], M, Q => z.length ≤ sizeLine ∧ Q (.int (z.length : Nat)) M
  | [.obj i], M, Q => (∃ ds, M[i]? = some (.lst ds) ∧ Q (.int (ds.length : Nat)) M) ∨ ∃ kvs, M[i]? = some (.dK kvs) ∧ Q (.int (kvs.length : Nat)) M
  | _, _, _ => False
def rLenH (X : Cx) : List V → Hp → VK → Prop := fun xs H Q => (∃ x n, xs = [x] ∧ LenV X.K x H n ∧ Q (.int n) H) ∨ ∃ a kvs, xs = [V.ref a] ∧ H a = some (.dK kvs) ∧ Q (.int kvs.length) H
theorem cr_lenH : CallR X (.builtin "len") (rLenH X) := CallR.or call_len call_lenD
theorem cd_len : CallD X Ts (rLenH X) lenD := fun ρ M H ds vs Q Qd R s h k => by
  cases s with
  | nil => exact h.elim
  | cons s1 s2 =>
    cases s2 with
    | cons _ _ => cases s1 <;> exact h.elim
    | nil =>
      cases s1 with
      | str z => exact .inl ⟨_, _, rfl, ⟨h.1, rfl⟩, k.same R h.2 (.int _)⟩
      | @tup a xs ds ha hs => exact .inl ⟨_, ds.length, rfl, .inr ⟨xs, ha, hs.length⟩, k.same R (show Qd (.int (ds.length : Nat)) M from h) (.int _)⟩
      | @obj i a ea =>
        rcases h with ⟨ds, em, q⟩ | ⟨kvs, em, q⟩
        · obtain ⟨a', ws, r1, h1, t1⟩ := R.lst em
          rw [ea] at r1; cases r1
          exact .inl ⟨_, ds.length, rfl, .inl ⟨ws, SqL.of h1, t1.length⟩, k.same R q (.int _)⟩
        · obtain ⟨a', ws, r1, h1, t1⟩ := R.dict em
          rw [ea] at r1; cases r1
          refine .inr ⟨_, ws, rfl, h1, ?_⟩
          rw [← t1.length]
          exact k.same R q (.int _)
      | _ => exact h.elim
def kindD : D → Mem → Option String
  | .non, _ => some "NoneType"
  | .bl _, _ => some "bool"
  | .int _, _ => some "int"
  | .str _, _ => some "str"
  | .tup _, _ => some "tuple"
  | .obj i, M => match M[i]? with
    | some (.lst _) => some "list"
    | some (.dK _) => some "dict"
    | _ => none
  | _, _ => none
def isiD : List D → Mem → KD → Prop
  | [x, .ty T], M, Q => ∃ k b, kindD x M = some k ∧ kitB k T = some b ∧ Q (.bl b) M
  | _, _, _ => False
theorem kind_ty {K : PySem.W.Frag} {ρ : Rho} {M : Mem} {H : Hp} {d : D} {v : V} {n : String} (R : Rl K Ts ρ M H) (s : Sh K ρ H d v) (e : kindD d M = some n) : TyX K H v (.type n) := by
  cases s with
  | non => cases e; exact .base .non
  | bl b => cases e; exact .base (.bl b)
  | int i => cases e; exact .base (.int i)
  | str x => cases e; exact .base (.str x)
  | tup ha hs =>
    cases e
    exact .base (.tup ha)
  | @obj i a ea =>
    have e : (match M[i]? with | some (.lst _) => some "list" | some (.dK _) => some "dict" | _ => none) = some n := e
    cases em : M[i]? with
    | none => rw [em] at e; cases e
    | some cc =>
      rw [em] at e
      cases cc with
      | lst ds =>
        cases e
        obtain ⟨a', vs, r1, g1, s1⟩ := R.lst em
        rw [ea] at r1; cases r1
        exact .base (.lst g1)
      | dK kvs =>
        cases e
        obtain ⟨a', vs, r1, g1, s1⟩ := R.dict em
        rw [ea] at r1; cases r1
        exact .base (.dK g1)
      | dT kvs => cases e
      | ins C fs => cases e
      | dN kvs => cases e
      | lkd kvs => cases e
      | lkt kvs => cases e
  | adr a => cases e
  | ty n => cases e
  | scr e2 => cases e
  | lam e2 e3 e4 => cases e
  | exc e2 e3 => cases e
theorem cd_isi : CallD X Ts (rIsi X.K) isiD := fun ρ M H ds vs Q Qd R s h k => by
  cases s with
  | nil => exact h.elim
  | cons s1 s2 =>
    cases s2 with
    | nil => exact h.elim
    | cons s2 s3 =>
      cases s3 with
      | cons _ _ => cases s2 <;> exact h.elim
      | nil =>
        cases s2 with
        | ty T =>
          obtain ⟨n, b, e1, e2, q⟩ := h
          exact ⟨_, _, _, _, b, rfl, .ty T, kind_ty R s1 e1, kit_ty e2, k.same R q (.bl b)⟩
        | _ => exact h.elim
def intOfD : List D → Mem → KD → Prop
  | [.int i], M, Q => Q (.int i) M
  | [.bl b], M, Q => Q (.int (if b then 1 else 0)) M
  | _, _, _ => False
theorem cd_int : CallD X Ts (fun xs H Q => (∃ i, xs = [V.int i] ∧ Q (.int i) H) ∨ ∃ k, xs = [V.bl k] ∧ Q (.int (if k then 1 else 0)) H) intOfD := fun ρ M H ds vs Q Qd R s h k => by
  cases s with
  | nil => exact h.elim
  | cons s1 s2 =>
    cases s2 with
    | cons _ _ => cases s1 <;> exact h.elim
    | nil =>
      cases s1 with
      | int i => exact .inl ⟨i, rfl, k.same R (show Qd (.int i) M from h) (.int i)⟩
      | bl b => exact .inr ⟨b, rfl, k.same R (show Qd (.int (if b then 1 else 0)) M from h) (.int _)⟩
      | _ => exact h.elim
def tupOfD : List D → Mem → KD → Prop
  | [.tup ds], M, Q => Q (.tup ds) M
  | [.obj i], M, Q => ∃ ds, M[i]? = some (.lst ds) ∧ Q (.tup ds) M
  | _, _, _ => False
def rTupOf (X : Cx) : List V → Hp → VK → Prop := fun xs H Q => ∃ p ys, xs = [.ref p] ∧ ((SqL X.K H p ys ∧ ∀ l, H l = none → Q (.ref l) (upd H l (.tup ys))) ∨ (SqT X.K H p ys ∧ Q (.ref p) H))
theorem cd_tup : CallD X Ts (rTupOf X) tupOfD := fun ρ M H ds vs Q Qd R s h k => by
  cases s with
  | nil => exact h.elim
  | cons s1 s2 =>
    cases s2 with
    | cons _ _ => cases s1 <;> exact h.elim
    | nil =>
      cases s1 with
      | @tup a xs ds ha hs => exact ⟨a, xs, rfl, .inr ⟨ha, k.same R (show Qd (.tup ds) M from h) (.tup ha hs)⟩⟩
      | @obj i a ea =>
        obtain ⟨ds, em, q⟩ := h
        obtain ⟨a', ws, r1, h1, t1⟩ := R.lst em
        rw [ea] at r1; cases r1
        exact ⟨a, ws, rfl, .inl ⟨SqL.of h1, fun l hl => newTup R t1 k q hl⟩⟩
      | _ => exact h.elim
def lstOfD : List D → Mem → KD → Prop
  | [.tup ds], M, Q => Q (.obj M.length) (M ++ [.lst ds])
  | [.obj i], M, Q => ∃ ds, M[i]? = some (.lst ds) ∧ Q (.obj M.length) (M ++ [.lst ds])
  | [.str z], M, Q => z.cps.size ≤ sizeLine ∧ Q (.obj M.length) (M ++ [.lst (sgD z)])
  | _, _, _ => False
def rLstOf (X : Cx) : List V → Hp → VK → Prop := fun xs H Q => (∃ p ys, xs = [.ref p] ∧ (SqL X.K H p ys ∨ SqT X.K H p ys) ∧ ∀ l, H l = none → Q (.ref l) (upd H l (.lst ys))) ∨ Zn.rListS xs H Q
theorem cr_lstOf (hc : X.A.handled = none) : CallR X (.type "list") (rLstOf X) := CallR.or call_list_of (Zn.cr_listS hc)
theorem shs_signs {K : PySem.W.Frag} {ρ : Rho} {H : Hp} (z : Str) : Shs K ρ H (sgD z) (Zn.signs z) := by
  unfold sgD Zn.signs
  induction z.cps.toList with
  | nil => exact .nil
  | cons c cs ih => exact .cons (.str _) ih
theorem cd_lst : CallD X Ts (rLstOf X) lstOfD := fun ρ M H ds vs Q Qd R s h k => by
  cases s with
  | nil => exact h.elim
  | cons s1 s2 =>
    cases s2 with
    | cons _ _ => cases s1 <;> exact h.elim
    | nil =>
      cases s1 with
      | @tup a xs ds ha hs => exact .inl ⟨a, xs, rfl, .inr ha, fun l hl => newLst R hs k h hl⟩
      | @obj i a ea =>
        obtain ⟨ds, em, q⟩ := h
        obtain ⟨a', ws, r1, h1, t1⟩ := R.lst em
        rw [ea] at r1; cases r1
        exact .inl ⟨a, ws, rfl, .inl (SqL.of h1), fun l hl => newLst R t1 k q hl⟩
      | str z => exact .inr ⟨z, rfl, h.1, fun l hl => newLst R (shs_signs z) k h.2 hl⟩
      | _ => exact h.elim
def intsOf : List D → Option (List Int)
  | [] => some []
  | .int i :: ds => (intsOf ds).map (i :: ·)
  | _ :: _ => none
theorem intsOf_shs {K : PySem.W.Frag} {ρ : Rho} {H : Hp} : ∀ {ds : List D} {ns : List Int} {vs : List V}, intsOf ds = some ns → Shs K ρ H ds vs → vs = ns.map V.int
  | [], _, _, e, h => by cases e; cases h; rfl
  | .int i :: ds, ns, _, e, h => by
    cases h with
    | cons h1 h2 =>
      cases h1
      have e : (intsOf ds).map (i :: ·) = some ns := e
      cases e2 : intsOf ds with
      | none => rw [e2] at e; cases e
      | some ms =>
        rw [e2] at e
        cases e
        rw [intsOf_shs e2 h2]
        rfl
  | .non :: _, _, _, e, _ => by cases e
  | .bl _ :: _, _, _, e, _ => by cases e
  | .str _ :: _, _, _, e, _ => by cases e
  | .tup _ :: _, _, _, e, _ => by cases e
  | .obj _ :: _, _, _, e, _ => by cases e
  | .adr _ :: _, _, _, e, _ => by cases e
  | .ty _ :: _, _, _, e, _ => by cases e
  | .scr _ :: _, _, _, e, _ => by cases e
  | .lam _ _ _ _ _ _ :: _, _, _, e, _ => by cases e
  | .exc _ _ _ :: _, _, _, e, _ => by cases e
def max2D (mx : Bool) : List D → Mem → KD → Prop
  | [.int i, .int j], M, Q => Q (.int (if mx then (if j > i then j else i) else (if j < i then j else i))) M
  | _, _, _ => False
theorem cd_max2 : CallD X Ts (fun xs H Q => ∃ i j, xs = [V.int i, V.int j] ∧ Q (.int (if j > i then j else i)) H) (max2D true) := fun ρ M H ds vs Q Qd R s h k => by
  cases s with
  | nil => exact h.elim
  | cons s1 s2 =>
    cases s2 with
    | nil => cases s1 <;> exact h.elim
    | cons s2 s3 =>
      cases s3 with
      | cons _ _ => cases s1 <;> cases s2 <;> exact h.elim
      | nil =>
        cases s1 with
        | int i =>
          cases s2 with
          | int j => exact ⟨i, j, rfl, k.same R (show Qd (.int (if j > i then j else i)) M from h) (.int _)⟩
          | _ => exact h.elim
        | _ => cases s2 <;> exact h.elim
theorem cd_min2 : CallD X Ts (fun xs H Q => ∃ i j, xs = [V.int i, V.int j] ∧ Q (.int (if j < i then j else i)) H) (max2D false) := fun ρ M H ds vs Q Qd R s h k => by
  cases s with
  | nil => exact h.elim
  | cons s1 s2 =>
    cases s2 with
    | nil => cases s1 <;> exact h.elim
    | cons s2 s3 =>
      cases s3 with
      | cons _ _ => cases s1 <;> cases s2 <;> exact h.elim
      | nil =>
        cases s1 with
        | int i =>
          cases s2 with
          | int j => exact ⟨i, j, rfl, k.same R (show Qd (.int (if j < i then j else i)) M from h) (.int _)⟩
          | _ => exact h.elim
        | _ => cases s2 <;> exact h.elim
def reprD : List D → Mem → KD → Prop
  | [x], M, Q => ∃ n d, pyM M n x = some d ∧ PyData.showable d = true ∧ d.hasDict = false ∧ d.depth ≤ 60 ∧ d.shown.length ≤ sizeLine ∧ (match x with | .tup _ => True | .obj _ => True | .str _ => True | _ => False) ∧ Q (.str d.shown) M
  | _, _, _ => False
theorem cd_repr : CallD X Ts (Zn.rRepr X.K) reprD := fun ρ M H ds vs Q Qd R s h k => by
  cases s with
  | nil => exact h.elim
  | cons s1 s2 =>
    cases s2 with
    | cons _ _ => exact h.elim
    | nil =>
      obtain ⟨n, d, e, h1, h2, h3, h4, h5, q⟩ := h
      refine ⟨_, d, rfl, pyM_dp R n _ d _ e s1, h1, h2, h3, h4, ?_, k.same R q (.str _)⟩
      cases s1 with
      | tup _ _ => exact .inl ⟨_, rfl⟩
      | obj _ => exact .inl ⟨_, rfl⟩
      | str z => exact .inr ⟨z, rfl⟩
      | _ => exact h5.elim
end
end Dl
set_option Elab.async false
set_option linter.all false
set_option maxRecDepth 100000
set_option maxHeartbeats 4000000
namespace Dl
open PySem PySem.Spec PyProof.Rows L2 GxR Gn
/-- a key, as data -/
def kyD : Key → D
  | .inl i => .int i
  | .inr x => .str x
def keyOf : D → Option Key
  | .int i => some (.inl i)
  | .str x => some (.inr x)
  | _ => none
theorem keyOf_sh {K : PySem.W.Frag} {ρ : Rho} {H : Hp} {d : D} {v : V} {k : Key} (e : keyOf d = some k) (s : Sh K ρ H d v) : v = kV k := by
  cases s <;> cases e <;> rfl
/-- the value at a key -/
def valD {κ : Type} [DecidableEq κ] (kvs : List (κ × D)) (k : κ) : Option D := (kvs.find? fun kv => decide (kv.1 = k)).map (·.2)
def putKD {κ : Type} [DecidableEq κ] (kvs : List (κ × D)) (k : κ) (d : D) : List (κ × D) :=
  if (kvs.any fun kv => decide (kv.1 = k)) = true then kvs.map (fun kv => if kv.1 = k then (kv.1, d) else kv) else kvs ++ [(k, d)]
section
variable {K : PySem.W.Frag} {ρ : Rho} {H : Hp} {κ : Type} [DecidableEq κ]
theorem Shp.keys {ds : List (κ × D)} {vs : List (κ × V)} (h : Shp K ρ H ds vs) : ds.map (·.1) = vs.map (·.1) := by
  induction h with
  | nil => rfl
  | cons _ _ ih => simp [ih]
theorem Shp.val {ds : List (κ × D)} {vs : List (κ × V)} (h : Shp K ρ H ds vs) (k : κ) : (valD ds k = none ∧ valV vs k = none) ∨ ∃ d v, valD ds k = some d ∧ valV vs k = some v ∧ Sh K ρ H d v := by
  induction h with
  | nil => exact .inl ⟨rfl, rfl⟩
  | @cons k' d ds v vs h1 _ ih =>
    by_cases e : k' = k
    · exact .inr ⟨d, v, by simp [valD, List.find?_cons, e], by simp [valV, List.find?_cons, e], h1⟩
    · have e1 : valD ((k', d) :: ds) k = valD ds k := by simp [valD, List.find?_cons, e]
      have e2 : valV ((k', v) :: vs) k = valV vs k := by simp [valV, List.find?_cons, e]
      rw [e1, e2]
      exact ih
theorem Shp.append {ds es : List (κ × D)} {vs ws : List (κ × V)} (h : Shp K ρ H ds vs) (h' : Shp K ρ H es ws) : Shp K ρ H (ds ++ es) (vs ++ ws) := by
  induction h with
  | nil => exact h'
  | cons h1 _ ih => exact .cons h1 ih
theorem Shp.putK {ds : List (κ × D)} {vs : List (κ × V)} (h : Shp K ρ H ds vs) {k : κ} {d : D} {v : V} (s : Sh K ρ H d v) : Shp K ρ H (putKD ds k d) (L2.putK vs k v) := by
  unfold putKD L2.putK
  have e : (ds.any fun kv => decide (kv.1 = k)) = (vs.any fun kv => decide (kv.1 = k)) := by
    have := h.keys
    have q : ∀ {γ : Type} (l : List (κ × γ)), (l.any fun kv => decide (kv.1 = k)) = ((l.map (·.1)).any fun x => decide (x = k)) := fun l => by rw [List.any_map]; rfl
    rw [q, q, this]
  rw [e]
  split
  · rename_i hh
    clear hh e
    induction h with
    | nil => exact .nil
    | @cons k' d' ds v' vs h1 _ ih =>
      simp only [List.map_cons]
      by_cases z : k' = k
      · rw [if_pos z, if_pos z]; exact .cons s ih
      · rw [if_neg z, if_neg z]; exact .cons h1 ih
  · exact h.append (.cons s .nil)
end
section
variable {X : Cx} {Ts : Tbs} {E : XK} {pos p apos tpos : Pos} {a b c e o i : Expr} {es : List Expr} {ta tb to ti te : TEd} {t : TAd}
def ixA (x y : D) (M : Mem) (Q : KD) : Prop := match x with
  | .obj n => match M[n]? with
    | some (.dK kvs) => ∃ k v, keyOf y = some k ∧ valD kvs k = some v ∧ Q v M
    | _ => ixD x y M Q
  | _ => ixD x y M Q
def rIxDk : R2 := fun x y H Q => ∃ a v, x = V.ref a ∧ DGet H a y (some v) ∧ Q v H
theorem ix_dk (hu : X.A.units + 1 < cLine) : IxR X rIxDk := fun value slice pins s σ H x y v u Q I rx ry ⟨a, w, ex, g, q⟩ hs => by
  subst ex
  have ev : v = Value.ref a := rx
  subst ev
  have hT := dict_typeIs I g
  unfold subscriptTail
  refine wpAny_bind ?_
  rw [getitemInPython_of_ne hT.not_modules]
  refine wpAny_bind (wpAny_specialOf hT PySem.F.slot_dict_getitem.lookup ?_)
  have fin : wpAny (model X.prog X.w) X.A (subscripted slice false (.ref a) u) (fun r s3 => wpAny (model X.prog X.w) X.A (letTemporaryGo value (.ref a) r >>= fun _ => pure r) (EP X pins σ Q) X.xe s3) X.xe s := by
    rw [hs]
    exact wpAny_operating (d_getItem hu I g ry fun w' s3 I3 rw' => wpAny_bind (wpAny_letTemporaryGo (wpAny_pure ⟨w, H, I3, rw', q⟩)))
  first
    | exact wpAny_pure (wpAny_bind fin)
    | exact wpAny_bind (wpAny_pure (wpAny_bind fin))
    | exact wpAny_bind fin
def rIxA (X : Cx) : R2 := fun x y H Q => rIx X.K x y H Q ∨ rIxDk x y H Q
theorem od_ixA : OpD X Ts (rIxA X) ixA := fun ρ M H x y v u Q Qd R sx sy h k => by
  cases sx with
  | @obj n a ea =>
    unfold ixA at h
    simp only at h
    split at h
    · rename_i kvs em
      obtain ⟨ky, d, e1, e2, q⟩ := h
      obtain ⟨a', vs, r1, h1, t1⟩ := R.dict em
      rw [ea] at r1; cases r1
      rcases t1.val ky with ⟨z, _⟩ | ⟨d', w, z1, z2, z3⟩
      · rw [e2] at z; cases z
      · rw [e2] at z1; cases z1
        refine .inr ⟨a, w, rfl, ?_, k.same R q z3⟩
        rw [keyOf_sh e1 sy, ← z2]
        exact DGet.k h1
    · exact .inl (od_ix ρ M H _ y _ u Q Qd R (.obj ea) sy h k)
  | non => exact .inl (od_ix ρ M H _ y _ u Q Qd R .non sy h k)
  | bl b => exact .inl (od_ix ρ M H _ y _ u Q Qd R (.bl b) sy h k)
  | int b => exact .inl (od_ix ρ M H _ y _ u Q Qd R (.int b) sy h k)
  | str b => exact .inl (od_ix ρ M H _ y _ u Q Qd R (.str b) sy h k)
  | tup h1 h2 => exact .inl (od_ix ρ M H _ y _ u Q Qd R (.tup h1 h2) sy h k)
  | adr b => exact .inl (od_ix ρ M H _ y _ u Q Qd R (.adr b) sy h k)
  | ty b => exact .inl (od_ix ρ M H _ y _ u Q Qd R (.ty b) sy h k)
  | scr b => exact .inl (od_ix ρ M H _ y _ u Q Qd R (.scr b) sy h k)
  | lam b c d => exact .inl (od_ix ρ M H _ y _ u Q Qd R (.lam b c d) sy h k)
  | exc b c => exact .inl (od_ix ρ M H _ y _ u Q Qd R (.exc b c) sy h k)
theorem qe_at {k : Nat} (hr : Room k X.A) (ha : QE X Ts E a ta) (hb : QE X Ts E b tb) (hs : PlainIx b := by intro _ _; rfl) : QE X Ts E (.Subscript a b pos) (dOp ixA ta tb) := qe_ix (ix_seq.or (ix_dk (by have := hr.units; omega))) od_ixA ha hb hs
@[simp] def setD (x y z : D) (M : Mem) (Q : Mem → Prop) : Prop := ∃ n, x = .obj n ∧
  ((∃ ds k j, M[n]? = some (.lst ds) ∧ y = .int k ∧ ixN ds.length k = some j ∧ Q (M.set n (.lst (ds.set j z)))) ∨
   (∃ kvs k, M[n]? = some (.dK kvs) ∧ keyOf y = some k ∧ kvs.length < sizeLine ∧ Q (M.set n (.dK (putKD kvs k z)))))
def rSetA : V → V → V → Hp → (Hp → Prop) → Prop := fun o i v H Q => rSetL o i v H Q ∨ ∃ a H4, o = .ref a ∧ DPut H a i v H4 ∧ Q H4
theorem set_any (hu : X.A.units + 1 < cLine) : PSet X rSetA := fun pins s σ H o i v ov iv u Q I ro ri rv h => by
  rcases h with h | ⟨a, H4, eo, g, q⟩
  · exact set_list pins s σ H o i v ov iv u Q I ro ri rv h
  · subst eo
    have ev : ov = Value.ref a := ro
    subst ev
    exact d_setItem hu I g ri rv fun s4 I4 => ⟨H4, I4, q⟩
/-- o[i] = e -/
@[simp] def dPut (to ti te : TEd) : TSd := fun D E S M => te S M (fun d M1 => to S M1 (fun x M2 => ti S M2 (fun y M3 => setD x y d M3 (D.nx S)) E) E) E
theorem qs_put {k : Nat} (hr : Room k X.A) (ho : QE X Ts E o to) (hi : QE X Ts E i ti) (he : QE X Ts E e te) (hs : swapsWithSole [.Subscript o i tpos] e pos.line X.env = pure false := by rfl) (hw : swappedStores [.Subscript o i tpos] e X.env = pure none := by rfl) (h1 : (assignEach [.Subscript o i tpos] X.env).map (·.2) = [assign (.Subscript o i tpos) X.env] := by rfl) :
    (hg : PG X (.Subscript o i tpos) (gSub (rdE X.K Ts E to) (rdE X.K Ts E ti) rSetA)) → QS X Ts E (.Assign [.Subscript o i tpos] e pos) (dPut to ti te) := fun hg => psLe (ps_asg he hg hs hw h1) fun D σ H ⟨ρ, S, M, Dd, Ed, R, sl, q, k, kr, kb, kc, x⟩ =>
  ⟨ρ, S, M, _, Ed, R, sl, q, fun d M1 q1 ρ1 H1 v g1 R1 s1 => ⟨ρ1, S, M1, _, Ed, R1, sl.grw g1, q1, fun ox M2 q2 ρ2 H2 ov g2 R2 s2 => ⟨ρ2, S, M2, _, Ed, R2, (sl.grw g1).grw g2, q2, fun iy M3 ⟨n, eo, q3⟩ ρ3 H3 iv g3 R3 s3 => by
    subst eo
    have sd := Sh.grw g3 _ _ (Sh.grw g2 _ _ s1)
    have sl3 := ((sl.grw g1).grw g2).grw g3
    cases s2 with
    | @obj _ a ea =>
      have ea3 := g3.r _ _ ea
      rcases q3 with ⟨ds, kk, j, em, ey, hj, q4⟩ | ⟨kvs, ky, em, ek, hl, q4⟩
      · subst ey
        cases s3
        obtain ⟨a', vs, r1, h1, t1⟩ := R3.lst em
        rw [ea3] at r1; cases r1
        have hc : CSh X.K Ts.w ρ3 H3 (.lst (ds.set j d)) (.lst (vs.set j v)) := ⟨_, rfl, t1.set j sd⟩
        exact .inl ⟨a, vs, kk, j, rfl, rfl, h1, by rw [← t1.length]; exact hj, k _ _ q4 ρ3 _ σ (((g1.tr g2).tr g3).tr (grw_set R3 em ea3)) (R3.cellSet em ea3 hc) (sl3.grw (grw_set R3 em ea3))⟩
      · obtain ⟨a', vs, r1, h1, t1⟩ := R3.dict em
        rw [ea3] at r1; cases r1
        have hc : CSh X.K Ts.w ρ3 H3 (.dK (putKD kvs ky d)) (.dK (L2.putK vs ky v)) := ⟨_, rfl, t1.putK sd⟩
        refine .inr ⟨a, _, rfl, ?_, k _ _ q4 ρ3 _ σ (((g1.tr g2).tr g3).tr (grw_set R3 em ea3)) (R3.cellSet em ea3 hc) (sl3.grw (grw_set R3 em ea3))⟩
        rw [keyOf_sh ek s3]
        exact DPut.k h1 (by rw [← t1.length]; exact hl), (x.grw g1).grw g2⟩, x.grw g1⟩, x⟩
end
end Dl
set_option Elab.async false
set_option linter.all false
set_option maxRecDepth 100000
set_option maxHeartbeats 4000000
namespace Dl
open PySem PySem.Spec PyProof.Rows L2 GxR Gn
section
variable {X : Cx} {Ts : Tbs} {E : XK} {pos p apos tpos cpos : Pos} {a b c e f o i : Expr} {es : List Expr} {ta tb to ti te tf : TEd} {t : TAd}
def inD (y x : D) (M : Mem) (Q : KD) : Prop :=
  (∃ n d ds ps, x = .tup ds ∧ pyM M n y = some d ∧ pyMs M n ds = some ps ∧ SeqAt.shaped d = true ∧ SeqAt.shaped (.tuple ps) = true ∧ Q (.bl (ps.any fun z => PyData.eqv z d)) M) ∨
  (∃ n d j ds ps, x = .obj j ∧ M[j]? = some (.lst ds) ∧ pyM M n y = some d ∧ pyMs M n ds = some ps ∧ SeqAt.shaped d = true ∧ SeqAt.shaped (.list ps) = true ∧ Q (.bl (ps.any fun z => PyData.eqv z d)) M) ∨
  (∃ c z, y = .str ⟨#[c]⟩ ∧ x = .str z ∧ Q (.bl (decide (c ∈ z.cps.toList))) M) ∨
  (∃ j kvs k, x = .obj j ∧ M[j]? = some (.dK kvs) ∧ keyOf y = some k ∧ Q (.bl (valD kvs k).isSome) M)
def notInD (y x : D) (M : Mem) (Q : KD) : Prop :=
  (∃ n d j ds ps, x = .obj j ∧ M[j]? = some (.lst ds) ∧ pyM M n y = some d ∧ pyMs M n ds = some ps ∧ SeqAt.shaped d = true ∧ SeqAt.shaped (.list ps) = true ∧ Q (.bl (!ps.any fun z => PyData.eqv z d)) M) ∨
  (∃ c z, y = .str ⟨#[c]⟩ ∧ x = .str z ∧ Q (.bl (!decide (c ∈ z.cps.toList))) M) ∨
  (∃ j kvs k, x = .obj j ∧ M[j]? = some (.dK kvs) ∧ keyOf y = some k ∧ Q (.bl (!(valD kvs k).isSome)) M) ∨
  (∃ i ns ds, y = .int i ∧ x = .tup ds ∧ intsOf ds = some ns ∧ Q (.bl (!ns.any fun z => z == i)) M)
def rInDk (neg : Bool) : R2 := fun x y H Q => ∃ a o, y = V.ref a ∧ DGet H a x o ∧ Q (.bl (if neg then !o.isSome else o.isSome)) H
theorem op_inDk (hu : X.A.units + 1 < cLine) : OpR X (compareOp .In) (rInDk false) := fun pins s σ H x y v u Q I rx ry ⟨a, o, ey, g, q⟩ => by
  subst ey
  have eu : u = Value.ref a := ry
  subst eu
  exact d_in hu I g rx fun s' I' => ⟨.bl _, H, I', rfl, q⟩
theorem op_notInDk (hu : X.A.units + 1 < cLine) : OpR X (compareOp .NotIn) (rInDk true) := fun pins s σ H x y v u Q I rx ry ⟨a, o, ey, g, q⟩ => by
  subst ey
  have eu : u = Value.ref a := ry
  subst eu
  exact d_notIn hu I g rx fun s' I' => ⟨.bl _, H, I', rfl, q⟩
def rSignIn (neg : Bool) : R2 := fun x y H Q => ∃ (c : Nat) (z : Str), x = .str ⟨#[c]⟩ ∧ y = .str z ∧ Q (.bl (if neg then !decide (c ∈ z.cps.toList) else decide (c ∈ z.cps.toList))) H
theorem get_dk {ρ : Rho} {M : Mem} {H : Hp} (R : Rl X.K Ts ρ M H) {j : Nat} {a : Addr} {kvs : List (Key × D)} {k : Key} (ea : ρ j = some a) (em : M[j]? = some (.dK kvs)) : ∃ o, DGet H a (kV k) o ∧ (valD kvs k).isSome = o.isSome := by
  obtain ⟨a', vs, r1, h1, t1⟩ := R.dict em
  rw [ea] at r1; cases r1
  refine ⟨valV vs k, DGet.k h1, ?_⟩
  rcases t1.val k with ⟨z1, z2⟩ | ⟨d, w, z1, z2, _⟩
  · rw [z1, z2]; rfl
  · rw [z1, z2]; rfl
def rInH (X : Cx) : R2 := fun x y H Q => Zn.rInT X.K x y H Q ∨ rInD X.K x y H Q ∨ rSignIn false x y H Q ∨ rInDk false x y H Q
theorem op_inH {k : Nat} (hr : Room k X.A) : OpR X (compareOp .In) (rInH X) := (Zn.op_inT (by have := hr.un; omega)).or ((op_inD (by have := hr.un; omega)).or (OpR.or (r := rSignIn false) (fun pins s σ H x y v u Q I rx ry h => op_in_sign pins s σ H x y v u Q I rx ry h) (op_inDk (by have := hr.un; omega))))
theorem od_in : OpD X Ts (rInH X) inD := fun ρ M H y x v u Q Qd R sy sx h k => by
  rcases h with ⟨n, d, ds, ps, e, e1, e2, h1, h2, q⟩ | ⟨n, d, j, ds, ps, e, em, e1, e2, h1, h2, q⟩ | ⟨c, z, e1, e2, q⟩ | ⟨j, kvs, ky, e, em, ek, q⟩
  · subst e
    cases sx with
    | tup ha hs => exact .inl ⟨d, ps, pyM_dp R n y d v e1 sy, .tup ha (pyMs_dp R n ds ps _ e2 hs), h1, h2, k.same R q (.bl _)⟩
  · subst e
    cases sx with
    | obj ea =>
      obtain ⟨a', vs, r1, g1, t1⟩ := R.lst em
      rw [ea] at r1; cases r1
      exact .inr (.inl ⟨d, ps, pyM_dp R n y d v e1 sy, .lst (SqL.of g1) (pyMs_dp R n ds ps _ e2 t1), h1, h2, k.same R q (.bl _)⟩)
  · subst e1 e2
    cases sy
    cases sx
    exact .inr (.inr (.inl ⟨c, z, rfl, rfl, k.same R q (.bl _)⟩))
  · subst e
    cases sx with
    | obj ea =>
      obtain ⟨oo, g, eo⟩ := get_dk (k := ky) R ea em
      rw [eo] at q
      exact .inr (.inr (.inr ⟨_, oo, rfl, by rw [keyOf_sh ek sy]; exact g, k.same R q (.bl _)⟩))
def rNotInH (X : Cx) : R2 := fun x y H Q => rNotInD X.K x y H Q ∨ rSignIn true x y H Q ∨ rInDk true x y H Q ∨ L2.rIn X.K true x y H Q
theorem op_notInH {k : Nat} (hr : Room k X.A) : OpR X (compareOp .NotIn) (rNotInH X) := (op_notInD (by have := hr.un; omega)).or (OpR.or (r := rSignIn true) (fun pins s σ H x y v u Q I rx ry h => op_notIn_sign pins s σ H x y v u Q I rx ry h) ((op_notInDk (by have := hr.un; omega)).or op_notIn_seq))
theorem flat_ints : ∀ ns : List Int, (ns.map V.int).all flatV = true
  | [] => rfl
  | n :: ns => by simp [flatV, flat_ints ns]
theorem inV_ints (i : Int) : ∀ ns : List Int, inV (.int i) (ns.map V.int) = ns.any fun z => z == i
  | [] => rfl
  | n :: ns => by
    have ih := inV_ints i ns
    unfold inV at ih ⊢
    simp only [List.map_cons, List.any_cons, ih]
    rfl
theorem od_notIn : OpD X Ts (rNotInH X) notInD := fun ρ M H y x v u Q Qd R sy sx h k => by
  rcases h with ⟨n, d, j, ds, ps, e, em, e1, e2, h1, h2, q⟩ | ⟨c, z, e1, e2, q⟩ | ⟨j, kvs, ky, e, em, ek, q⟩ | ⟨i, ns, ds, e1, e2, e3, q⟩
  · subst e
    cases sx with
    | obj ea =>
      obtain ⟨a', vs, r1, g1, t1⟩ := R.lst em
      rw [ea] at r1; cases r1
      exact .inl ⟨d, ps, pyM_dp R n y d v e1 sy, .lst (SqL.of g1) (pyMs_dp R n ds ps _ e2 t1), h1, h2, k.same R q (.bl _)⟩
  · subst e1 e2
    cases sy
    cases sx
    exact .inr (.inl ⟨c, z, rfl, rfl, k.same R q (.bl _)⟩)
  · subst e
    cases sx with
    | obj ea =>
      obtain ⟨oo, g, eo⟩ := get_dk (k := ky) R ea em
      rw [eo] at q
      exact .inr (.inr (.inl ⟨_, oo, rfl, by rw [keyOf_sh ek sy]; exact g, k.same R q (.bl _)⟩))
  · subst e1 e2
    cases sy
    cases sx with
    | tup ha hs =>
      have es := intsOf_shs e3 hs
      subst es
      refine .inr (.inr (.inr ⟨_, _, rfl, .inr ha, rfl, flat_ints ns, ?_⟩))
      rw [inV_ints]
      exact k.same R q (.bl _)
@[simp] def dBM (ok : D → Mem → Prop) (rd : D → List D → Mem → KD → Prop) (to : TEd) (t : TAd) : TEd := fun S M Q E => to S M (fun o M1 => ok o M1 ∧ t S M1 (fun ds M2 => rd o ds M2 Q) E) E
@[simp] def dBM0 (ok : D → Mem → Prop) (rd : D → List D → Mem → KD → Prop) (to : TEd) : TEd := fun S M Q E => to S M (fun o M1 => ok o M1 ∧ rd o [] M1 Q) E
def TyD (X : Cx) (Ts : Tbs) (T : String) (ok : D → Mem → Prop) : Prop := ∀ ρ M H d v, Rl X.K Ts ρ M H → Sh X.K ρ H d v → ok d M → tyV X.K T v H
def MtD (X : Cx) (Ts : Tbs) (r : V → List V → Hp → VK → Prop) (rd : D → List D → Mem → KD → Prop) : Prop :=
  ∀ ρ M H o ds v vs Q Qd, Rl X.K Ts ρ M H → Sh X.K ρ H o v → Shs X.K ρ H ds vs → rd o ds M Qd → KOk X.K Ts ρ H Qd Q → r v vs H Q
theorem bmRead {T : String} {r : V → List V → Hp → VK → Prop} {ok : D → Mem → Prop} {rd : D → List D → Mem → KD → Prop} (hT : TyD X Ts T ok) (hm : MtD X Ts r rd) {σ : L2.St} {H : Hp} {Q : VK} (h : rdE X.K Ts E (dBM ok rd to t) σ H Q) : tBM X.K T r (rdE X.K Ts E to) (rdA X.K Ts E t) σ H Q := by
  obtain ⟨ρ, S, M, Qd, Ed, R, sl, q, k, x⟩ := h
  exact ⟨ρ, S, M, _, Ed, R, sl, q, fun o M1 ⟨ho, q1⟩ ρ1 H1 v g1 R1 s1 => ⟨hT _ _ _ _ _ R1 s1 ho, ρ1, S, M1, _, Ed, R1, sl.grw g1, q1, fun ds M2 q2 ρ2 H2 vs g2 R2 s2 => hm _ _ _ _ _ _ _ _ _ R2 (Sh.grw g2 _ _ s1) s2 q2 (k.grw (g1.tr g2)), x.grw g1⟩, x⟩
theorem bm0Read {T : String} {r : V → List V → Hp → VK → Prop} {ok : D → Mem → Prop} {rd : D → List D → Mem → KD → Prop} (hT : TyD X Ts T ok) (hm : MtD X Ts r rd) {σ : L2.St} {H : Hp} {Q : VK} (h : rdE X.K Ts E (dBM0 ok rd to) σ H Q) : tBM0 X.K T r (rdE X.K Ts E to) σ H Q := by
  obtain ⟨ρ, S, M, Qd, Ed, R, sl, q, k, x⟩ := h
  exact ⟨ρ, S, M, _, Ed, R, sl, q, fun o M1 ⟨ho, q1⟩ ρ1 H1 v g1 R1 s1 => ⟨hT _ _ _ _ _ R1 s1 ho, hm _ _ _ _ _ _ _ _ _ R1 s1 .nil q1 (k.grw g1)⟩, x⟩
def isLst (d : D) (M : Mem) : Prop := ∃ i ds, d = .obj i ∧ M[i]? = some (.lst ds)
theorem ty_lst : TyD X Ts "list" isLst := fun ρ M H d v R s ⟨i, ds, e, em⟩ => by
  subst e
  obtain ⟨a', vs, r1, g1, t1⟩ := R.lst em
  cases s with
  | obj ea =>
    rw [ea] at r1; cases r1
    exact .inl ⟨rfl, _, SqL.of g1⟩
@[simp] def appendD (o : D) (ds : List D) (M : Mem) (Q : KD) : Prop := ∃ i xs d, o = .obj i ∧ ds = [d] ∧ M[i]? = some (.lst xs) ∧ xs.length < sizeLine ∧ Q .non (M.set i (.lst (xs ++ [d])))
theorem md_append : MtD X Ts rAppend appendD := fun ρ M H o ds v vs Q Qd R so sd ⟨i, xs, d, e, e2, em, hz, q⟩ k => by
  subst e e2
  obtain ⟨a', ws, r1, g1, t1⟩ := R.lst em
  cases so with
  | obj ea =>
    rw [ea] at r1; cases r1
    cases sd with
    | cons s1 s2 =>
      cases s2
      exact ⟨_, ws, _, rfl, rfl, g1, by rw [← t1.length]; exact hz, setCell (c' := .lst (xs ++ [d])) R em ea ⟨_, rfl, t1.append (.cons s1 .nil)⟩ k .non q⟩
theorem qe_append (ho : QE X Ts E o to) (ha : QA X Ts E (e :: es) t) (hbase : attributeBase o "append" X.env (eval o X.env) = eval o X.env := by rfl)
    (hfew : ((backTo cpos (starEach (e :: es) X.env)).all (fun x => !x.1) && (backToKw cpos (keywordEach [] X.env)).all (fun x => x.1.isSome)
      && decide ((e :: es).length + ([] : List Keyword).length + (if ([] : List Keyword).isEmpty then 0 else 1) < 30)) = true := by rfl)
    (hline : (apos.endLine == cpos.line) = true := by rfl) (hs : starEach (e :: es) X.env = (false, eval e X.env) :: starEach es X.env := by rfl) (hplain : (backTo cpos (starEach es X.env)).any (·.1) = false := by rfl) :
    QE X Ts E (.Call (.Attribute o "append" apos) (e :: es) [] cpos) (dBM isLst appendD to t) := peLe (pe_bm PySem.F.plainAttrs_list PySem.F.slot_list_append PySem.F.type_list_append mt_append ho ha hbase hfew hline hs hplain) fun σ H Q h => bmRead ty_lst md_append h
@[simp] def popD (o : D) (ds : List D) (M : Mem) (Q : KD) : Prop := ∃ i xs d, o = .obj i ∧ ds = [] ∧ M[i]? = some (.lst xs) ∧ xs[xs.length - 1]? = some d ∧ Q d (M.set i (.lst xs.dropLast))
theorem shs_dropLast {K : PySem.W.Frag} {ρ : Rho} {H : Hp} {ds : List D} {vs : List V} (h : Shs K ρ H ds vs) : Shs K ρ H ds.dropLast vs.dropLast := by
  rw [List.dropLast_eq_take, List.dropLast_eq_take, h.length]
  exact h.take _
theorem md_pop : MtD X Ts rPop popD := fun ρ M H o ds v vs Q Qd R so sd ⟨i, xs, d, e, e2, em, hd, q⟩ k => by
  subst e e2
  obtain ⟨a', ws, r1, g1, t1⟩ := R.lst em
  cases so with
  | obj ea =>
    rw [ea] at r1; cases r1
    cases sd
    obtain ⟨w, e3, s3⟩ := t1.getD hd
    exact ⟨_, ws, w, rfl, rfl, g1, by rw [← t1.length]; exact e3, setCell (c' := .lst xs.dropLast) R em ea ⟨_, rfl, shs_dropLast t1⟩ k s3 q⟩
theorem qe_pop0 (ho : QE X Ts E o to) (hbase : attributeBase o "pop" X.env (eval o X.env) = eval o X.env := by rfl) (hline : (apos.endLine == cpos.line) = true := by rfl) :
    QE X Ts E (.Call (.Attribute o "pop" apos) [] [] cpos) (dBM0 isLst popD to) := peLe (pe_bm0 PySem.F.plainAttrs_list PySem.F.slot_list_pop PySem.F.type_list_pop mt_pop ho hbase hline) fun σ H Q h => bm0Read ty_lst md_pop h
def popAtD (o : D) (ds : List D) (M : Mem) (Q : KD) : Prop := ∃ i xs n j d, o = .obj i ∧ ds = [.int n] ∧ M[i]? = some (.lst xs) ∧ -(2 ^ 63) ≤ n ∧ n < 2 ^ 63 ∧ seqIndex? n xs.length = some j ∧ xs[j]? = some d ∧ Q d (M.set i (.lst (xs.eraseIdx j)))
theorem md_popAt : MtD X Ts rPopAt popAtD := fun ρ M H o ds v vs Q Qd R so sd ⟨i, xs, n, j, d, e, e2, em, h1, h2, hj, hd, q⟩ k => by
  subst e e2
  obtain ⟨a', ws, r1, g1, t1⟩ := R.lst em
  cases so with
  | obj ea =>
    rw [ea] at r1; cases r1
    cases sd with
    | cons s1 s2 =>
      cases s1; cases s2
      obtain ⟨w, e3, s3⟩ := t1.getD hd
      exact ⟨_, ws, n, j, w, rfl, rfl, g1, h1, h2, by rw [← t1.length]; exact hj, e3, setCell (c' := .lst (xs.eraseIdx j)) R em ea ⟨_, rfl, t1.eraseIdx j⟩ k s3 q⟩
theorem qe_popAt (ho : QE X Ts E o to) (ha : QA X Ts E (e :: es) t) (hbase : attributeBase o "pop" X.env (eval o X.env) = eval o X.env := by rfl)
    (hfew : ((backTo cpos (starEach (e :: es) X.env)).all (fun x => !x.1) && (backToKw cpos (keywordEach [] X.env)).all (fun x => x.1.isSome)
      && decide ((e :: es).length + ([] : List Keyword).length + (if ([] : List Keyword).isEmpty then 0 else 1) < 30)) = true := by rfl)
    (hline : (apos.endLine == cpos.line) = true := by rfl) (hs : starEach (e :: es) X.env = (false, eval e X.env) :: starEach es X.env := by rfl) (hplain : (backTo cpos (starEach es X.env)).any (·.1) = false := by rfl) :
    QE X Ts E (.Call (.Attribute o "pop" apos) (e :: es) [] cpos) (dBM isLst popAtD to t) := peLe (pe_bm PySem.F.plainAttrs_list PySem.F.slot_list_pop PySem.F.type_list_pop mt_popAt ho ha hbase hfew hline hs hplain) fun σ H Q h => bmRead ty_lst md_popAt h
@[simp] def dRev (ta : TEd) : TEd := fun S M Q E => ta S M (fun d M1 => ∃ i ds, d = .obj i ∧ M1[i]? = some (.lst ds) ∧ Q (.obj M1.length) (M1 ++ [.lst ds.reverse])) E
theorem qe_rev {k : Nat} {p1 p2 p3 : Pos} (ha : QE X Ts E a ta) : QE X Ts E (.Subscript a (.Slice none none (some (.UnaryOp .USub (.Constant (.int 1) k p1) p2)) p3) pos) (dRev ta) := peLe (pe_revL ha) fun σ H Q ⟨ρ, S, M, Qd, Ed, R, sl, q, k, x⟩ =>
  ⟨ρ, S, M, _, Ed, R, sl, q, fun d M1 ⟨i, ds, e, em, q1⟩ ρ1 H1 v g1 R1 s1 => by
    subst e
    obtain ⟨a', vs, r1, h1, t1⟩ := R1.lst em
    cases s1 with
    | obj ea =>
      rw [ea] at r1; cases r1
      exact ⟨_, vs, rfl, SqL.of h1, fun p hp => newLst R1 t1.reverse (k.grw g1) q1 hp⟩, x⟩
@[simp] def dNeg (ta : TEd) : TEd := fun S M Q E => ta S M (fun d M1 => ∃ i, d = .int i ∧ Q (.int (-i)) M1) E
def isNon : D → Bool
  | .non => true
  | _ => false
def isD (neg : Bool) (x y : D) (M : Mem) (Q : KD) : Prop := (y = .non ∧ Q (.bl (Bool.xor neg (isNon x))) M) ∨ ∃ a b, x = .bl a ∧ y = .bl b ∧ Q (.bl (Bool.xor neg (decide (a = b)))) M
def rIsH (neg : Bool) : R2 := fun x y H Q => (y = .non ∧ Q (.bl (Bool.xor neg (decide (x = .non)))) H) ∨ ∃ a b : Bool, x = .bl a ∧ y = .bl b ∧ Q (.bl (Bool.xor neg (decide (a = b)))) H
theorem op_isH : OpR X (compareOp .Is) (rIsH false) := OpR.or (r := fun x y H Q => y = .non ∧ Q (.bl (Bool.xor false (decide (x = .non)))) H) (r' := fun x y H Q => ∃ a b : Bool, x = .bl a ∧ y = .bl b ∧ Q (.bl (Bool.xor false (decide (a = b)))) H)
  (fun pins s σ H x y v u Q I rx ry h => op_isN pins s σ H x y v u Q I rx ry (by simpa using h)) (fun pins s σ H x y v u Q I rx ry h => op_isBl pins s σ H x y v u Q I rx ry (by simpa [rIsB] using h))
theorem op_isNotH : OpR X (compareOp .IsNot) (rIsH true) := OpR.or (r := fun x y H Q => y = .non ∧ Q (.bl (Bool.xor true (decide (x = .non)))) H) (r' := fun x y H Q => ∃ a b : Bool, x = .bl a ∧ y = .bl b ∧ Q (.bl (Bool.xor true (decide (a = b)))) H)
  (fun pins s σ H x y v u Q I rx ry h => op_notN pins s σ H x y v u Q I rx ry (by simpa using h)) (fun pins s σ H x y v u Q I rx ry h => op_notBl pins s σ H x y v u Q I rx ry (by simpa [rNotB] using h))
theorem od_is (neg : Bool) : OpD X Ts (rIsH neg) (isD neg) := fun ρ M H x y v u Q Qd R sx sy h k => by
  rcases h with ⟨e, q⟩ | ⟨a, b, e1, e2, q⟩
  · subst e
    cases sy
    refine .inl ⟨rfl, ?_⟩
    have : decide (v = V.non) = (isNon x) := by cases sx <;> simp [isNon]
    rw [this]
    exact k.same R q (.bl _)
  · subst e1 e2
    cases sx
    cases sy
    exact .inr ⟨a, b, rfl, rfl, k.same R q (.bl _)⟩
def IpD (X : Cx) (Ts : Tbs) (ti : TIp) (rd : D → D → Mem → KD → Prop) : Prop :=
  ∀ ρ M H x y v u Q Qd, Rl X.K Ts ρ M H → Sh X.K ρ H x v → Sh X.K ρ H y u → rd x y M Qd → KOk X.K Ts ρ H Qd Q → ti v u H Q
def dAug (i : Nat) (rd : D → D → Mem → KD → Prop) (te : TEd) : TSd := fun D E S M => ∃ x, S[i]? = some (some x) ∧ te S M (fun y M1 => rd x y M1 fun z M2 => D.nx (S.set i (some z)) M2) E
theorem qs_aug {i : Nat} {x : Str} {op : Operator} {pos' : Pos} {r : TIp} {rd : D → D → Mem → KD → Prop} (hN : X.N.Nodup) (hi : X.N[i]? = some x) (hx : Loc X.env.scope x) (he : QE X Ts E e te) (ho : PIp X op r) (hd : IpD X Ts r rd) (hf : X.fn x = true ∨ X.env.scope.names.lookup x = some .local := by first | exact .inl rfl | exact .inr rfl | assumption) :
    QS X Ts E (.AugAssign (.Name x pos') op e pos) (dAug i rd te) := psLe (ps_aug hN hi hx he ho hf) fun D σ H ⟨ρ, S, M, Dd, Ed, R, sl, ⟨d, ed, q⟩, k, kr, kb, kc, xx⟩ => by
  obtain ⟨v, e1, s0⟩ := sl.at_ i d ed
  refine ⟨v, e1, ρ, S, M, _, Ed, R, sl, q, fun y M1 q1 ρ1 H1 u g1 R1 s1 => ?_, xx⟩
  refine hd ρ1 M1 H1 d y v u _ _ R1 (Sh.grw g1 _ _ s0) s1 q1 fun z M2 q2 ρ2 H2 w g2 R2 s2 => ?_
  exact k _ _ q2 ρ2 H2 _ (g1.tr g2) R2 (((sl.grw g1).grw g2).set i s2)
theorem ip_of {op : Operator} {r : R2} (h : OpR X (inplaceOp op) r) : PIp X op r := fun pins s σ H x y v u Q I rx ry q => h pins s σ H x y v u Q I rx ry q
theorem qs_augI {i : Nat} {x : Str} {op : Operator} {pos' : Pos} {C : Int → Int → Prop} {g : Int → Int → Int} (hN : X.N.Nodup) (hi : X.N[i]? = some x) (hx : Loc X.env.scope x) (he : QE X Ts E e te) (ho : OpR X (inplaceOp op) (rI C fun i j => .int (g i j))) (hf : X.fn x = true ∨ X.env.scope.names.lookup x = some .local := by first | exact .inl rfl | exact .inr rfl | assumption) :
    QS X Ts E (.AugAssign (.Name x pos') op e pos) (dAug i (intD C fun i j => .int (g i j)) te) := qs_aug hN hi hx he (ip_of ho) (fun ρ M H x y v u Q Qd R sx sy h k => od_int (X := X) (fun _ _ _ _ => .int _) ρ M H x y v u Q Qd R sx sy h k) hf
theorem qs_setLc {i : Nat} {y : Str} {py spos : Pos} {elt tg iter : Expr} {scope : Scope} {own : List (Str × Nat)} {ifs : List Expr} {tid : TId} {g : TG} {gd : TGd} {tt : TTd} (hc : X.calm = true) (hN : X.N.Nodup) (hy : X.N[i]? = some y) (hyl : X.env.scope.names.lookup y = some .local)
    (hsw : swapsWith (.ListComp elt [⟨tg, iter, ifs, 0⟩] scope pos) (some (.Name y py)) spos.line X.env = pure true) (hi : QI X Ts E tg iter tid) (ok : BlkOk X.N X.env.scope scope own)
    (hg : ∀ (s : Shared) (H : Hp) (C : Addr) (cl : List (Str × Addr)) (fp : List Addr), PG (X.blk s H scope (compEnvC scope cl C X.env) fp) tg g) (hgs : TgS X.K (own.map (·.2)) g gd) (gm : GMono g)
    (ht : ∀ (s : Shared) (H : Hp) (C : Addr) (cl : List (Str × Addr)) (fp : List Addr), PTs (X.blk s H scope (compEnvC scope cl C X.env) fp) ifs (rdT X.K Ts X00 tt))
    (he : ∀ (s : Shared) (H : Hp) (C : Addr) (cl : List (Str × Addr)) (fp : List Addr), QE (X.blk s H scope (compEnvC scope cl C X.env) fp) Ts X00 elt te) (hs : ∀ x, foldedSetIterable iter X.env x = pure x := by intro _; rfl) :
    QS X Ts E (.Assign [.Name y py] (.ListComp elt [⟨tg, iter, ifs, 0⟩] scope pos) spos) (dSet i (dLc tid gd tt te (own.map (·.2)))) := psLe (ps_setLc hc hN hy hyl hsw hi ok hg ht he hs) fun D σ H ⟨ρ, S, M, Dd, Ed, R, sl, q, k, kr, kb, kc, x⟩ =>
  lcRead (E := E) (Q := fun v H1 => D.nx (σ.set i (some v)) H1) hgs gm ⟨ρ, S, M, _, Ed, R, sl, q, fun d M1 q1 ρ1 H1 v g1 R1 s1 => k _ _ q1 ρ1 H1 _ g1 R1 ((sl.grw g1).set i s1), x⟩
end
end Dl
set_option Elab.async false
set_option linter.all false
set_option maxRecDepth 100000
set_option maxHeartbeats 4000000
namespace Dl
open PySem PySem.Spec PyProof.Rows L2 GxR Gn
section
variable {X : Cx} {Ts : Tbs} {E : XK} {pos p apos tpos cpos : Pos} {a b c e f o i : Expr} {es : List Expr} {ta tb to ti te tf : TEd} {t : TAd}
/-- < (st) or <=, of ints, texts, tuples of ints (< alone) -/
def cmpD (st : Bool) (x y : D) (M : Mem) (Q : KD) : Prop := match x, y with
  | .int i, .int j => Q (.bl (if st then decide (i < j) else decide (i ≤ j))) M
  | .str u, .str w => Q (.bl (if st then decide (u.cps.toList < w.cps.toList) else !decide (w.cps.toList < u.cps.toList))) M
  | .tup xs, .tup ys => st = true ∧ ∃ ns ms, intsOf xs = some ns ∧ intsOf ys = some ms ∧ Q (.bl (HT.lexLt ns ms)) M
  | _, _ => False
def rLtH (X : Cx) : R2 := fun x y H Q => rI0 (fun i j => .bl (decide (i < j))) x y H Q ∨ (∃ i j, x = .str i ∧ y = .str j ∧ Q (.bl (decide (i.cps.toList < j.cps.toList))) H) ∨ rLtT X.K x y H Q
def rLeH : R2 := fun x y H Q => rI0 (fun i j => .bl (decide (i ≤ j))) x y H Q ∨ (∃ i j, x = .str i ∧ y = .str j ∧ Q (.bl (!decide (j.cps.toList < i.cps.toList))) H)
theorem op_ltH {k : Nat} (hr : Room k X.A) : OpR X (compareOp .Lt) (rLtH X) := op_lt.or (op_lt_str.or (op_ltT hr.units0))
theorem op_leH : OpR X (compareOp .LtE) rLeH := op_le.or op_le_str
theorem od_ltH : OpD X Ts (rLtH X) (cmpD true) := fun ρ M H x y v u Q Qd R sx sy h k => by
  cases sx with
  | int i => cases sy with
    | int j => exact .inl ⟨i, j, rfl, rfl, k.same R h (.bl _)⟩
    | _ => exact h.elim
  | str i => cases sy with
    | str j => exact .inr (.inl ⟨i, j, rfl, rfl, k.same R h (.bl _)⟩)
    | _ => exact h.elim
  | tup ha hs => cases sy with
    | tup hb ht =>
      obtain ⟨_, ns, ms, e1, e2, q⟩ := h
      have z1 := intsOf_shs e1 hs
      have z2 := intsOf_shs e2 ht
      subst z1 z2
      exact .inr (.inr ⟨_, _, ns, ms, rfl, rfl, ha, hb, k.same R q (.bl _)⟩)
    | _ => exact h.elim
  | _ => cases sy <;> exact h.elim
theorem od_leH : OpD X Ts rLeH (cmpD false) := fun ρ M H x y v u Q Qd R sx sy h k => by
  cases sx with
  | int i => cases sy with
    | int j => exact .inl ⟨i, j, rfl, rfl, k.same R h (.bl _)⟩
    | _ => exact h.elim
  | str i => cases sy with
    | str j => exact .inr ⟨i, j, rfl, rfl, k.same R h (.bl _)⟩
    | _ => exact h.elim
  | tup ha hs => cases sy with
    | tup hb ht => exact absurd h.1 (by decide)
    | _ => exact h.elim
  | _ => cases sy <;> exact h.elim
theorem od_gt : OpD X Ts (rI (fun _ _ => True) fun i j => V.bl (decide (j < i))) gtD := od_int fun _ _ _ _ => .bl _
theorem od_ge : OpD X Ts (rI (fun _ _ => True) fun i j => V.bl (decide (j ≤ i))) geD := od_int fun _ _ _ _ => .bl _
@[simp] def dPairs : List (TEd × TEd) → Sl → Mem → (List (D × D) → Mem → Prop) → KE' → Prop
  | [], _, M, Q, _ => Q [] M
  | (k, v) :: r, S, M, Q, E => k S M (fun x M1 => v S M1 (fun y M2 => dPairs r S M2 (fun ps M3 => Q ((x, y) :: ps) M3) E) E) E
inductive Sh2 (K : PySem.W.Frag) (ρ : Rho) (H : Hp) : List (D × D) → List (V × V) → Prop
  | nil : Sh2 K ρ H [] []
  | cons {d e : D} {v u : V} {ds : List (D × D)} {vs : List (V × V)} : Sh K ρ H d v → Sh K ρ H e u → Sh2 K ρ H ds vs → Sh2 K ρ H ((d, e) :: ds) ((v, u) :: vs)
theorem pairsRead {σ : L2.St} : ∀ {trs : List (TEd × TEd)} {ρ : Rho} {S : Sl} {M : Mem} {H : Hp} {Qd : List (D × D) → Mem → Prop} {Ed : KE'} {Q : List (V × V) → Hp → Prop}, Rl X.K Ts ρ M H → Sls X.K ρ H S σ → dPairs trs S M Qd Ed →
    (∀ ds M', Qd ds M' → ∀ ρ' H' vs, Grw ρ H ρ' H' → Rl X.K Ts ρ' M' H' → Sh2 X.K ρ' H' ds vs → Q vs H') → XOk X.K Ts ρ H Ed E → tPairs (trs.map fun q => (rdE X.K Ts E q.1, rdE X.K Ts E q.2)) σ H Q
  | [], ρ, S, M, H, Qd, Ed, Q, R, sl, h, k, x => k _ _ h ρ H [] (Grw.refl _ _) R .nil
  | (tk, tv) :: r, ρ, S, M, H, Qd, Ed, Q, R, sl, h, k, x => ⟨ρ, S, M, _, Ed, R, sl, h, fun d M1 h1 ρ1 H1 v g1 R1 s1 => ⟨ρ1, S, M1, _, Ed, R1, sl.grw g1, h1, fun y M2 h2 ρ2 H2 u g2 R2 s2 =>
      pairsRead (trs := r) R2 ((sl.grw g1).grw g2) h2 (fun ds M3 h3 ρ3 H3 vs g3 R3 s3 => k _ _ h3 ρ3 H3 _ ((g1.tr g2).tr g3) R3 (.cons (Sh.grw g3 _ _ (Sh.grw g2 _ _ s1)) (Sh.grw g3 _ _ s2) s3)) ((x.grw g1).grw g2), x.grw g1⟩, x⟩
def mergeKD (kvs more : List (Key × D)) : List (Key × D) := more.foldl (fun acc kv => putKD acc kv.1 kv.2) kvs
theorem sh2_keys {K : PySem.W.Frag} {ρ : Rho} {H : Hp} : ∀ {kvs : List (Key × D)} {vs : List (V × V)}, Sh2 K ρ H (kvs.map fun kv => (kyD kv.1, kv.2)) vs → ∃ ws : List (Key × V), vs = ws.map (fun kv => (kV kv.1, kv.2)) ∧ Shp K ρ H kvs ws
  | [], _, h => by cases h; exact ⟨[], rfl, .nil⟩
  | (k, d) :: r, _, h => by
    cases h with
    | cons h1 h2 h3 =>
      obtain ⟨ws, e, s⟩ := sh2_keys h3
      refine ⟨(k, _) :: ws, ?_, .cons h2 s⟩
      subst e
      cases k <;> cases h1 <;> rfl
theorem merge_sh {K : PySem.W.Frag} {ρ : Rho} {H : Hp} {more : List (Key × D)} {ms : List (Key × V)} (h : Shp K ρ H more ms) : ∀ {kvs : List (Key × D)} {vs : List (Key × V)}, Shp K ρ H kvs vs → Shp K ρ H (mergeKD kvs more) (mergeK vs ms) := by
  induction h with
  | nil => intro kvs vs h; exact h
  | cons h1 _ ih => intro kvs vs h; exact ih (h.putK h1)
@[simp] def dDisp (trs : List (TEd × TEd)) : TEd := fun S M Q E => dPairs trs S (M ++ [.dK []]) (fun ps M2 => M2[M.length]? = some (.dK []) ∧ ∃ kvs : List (Key × D), ps = kvs.map (fun kv => (kyD kv.1, kv.2)) ∧ kvs.length ≤ 15 ∧ Q (.obj M.length) (M2.set M.length (.dK (mergeKD [] kvs)))) E
theorem qe_disp {keys : List (Option Expr)} {values : List Expr} {trs : List (TEd × TEd)} (h : PPs X pos keys values (trs.map fun q => (rdE X.K Ts E q.1, rdE X.K Ts E q.2))) (hall : keys.all (·.isSome) = true := by rfl) (hl : keys.length = values.length := by rfl) (h0 : keys ≠ [] := by simp) (h15 : keys.length ≤ 15 := by decide) :
    QE X Ts E (.Dict keys values pos) (dDisp trs) := peLe (pe_disp h hall hl h0 h15) fun σ H Q ⟨ρ, S, M, Qd, Ed, R, sl, q, k, x⟩ p hp => by
  have g0 := grw_ext R (o := .dK []) hp
  have R0 := R.cellNew (c := .dK []) (o := .dK []) hp ⟨[], rfl, .nil⟩
  refine pairsRead R0 (sl.grw g0) q (fun ds M2 ⟨em, kvs, eds, hz, q2⟩ ρ2 H2 vs g2 R2 s2 => ?_) (x.grw g0)
  subst eds
  obtain ⟨ws, ev, sw⟩ := sh2_keys s2
  subst ev
  have rp : ρ2 M.length = some p := g2.r _ _ (by unfold ext; rw [if_pos rfl])
  obtain ⟨a', us, r1, h1, t1⟩ := R2.dict em
  rw [rp] at r1
  cases r1
  cases t1
  have hc : CSh X.K Ts.w ρ2 H2 (.dK (mergeKD [] kvs)) (.dK (mergeK [] ws)) := ⟨_, rfl, merge_sh sw .nil⟩
  exact ⟨h1, ws, rfl, by rw [← sw.length]; exact hz, k _ _ q2 ρ2 _ _ ((g0.tr g2).tr (grw_set R2 em rp)) (R2.cellSet em rp hc) (.obj rp)⟩
@[simp] def dStar (te : TEd) (t : TAd) : TAd := fun S M Q E => te S M (fun d M1 =>
  (∃ ds, d = .tup ds ∧ t S M1 (fun es M2 => Q (ds ++ es) M2) E) ∨ (∃ j ds, d = .obj j ∧ M1[j]? = some (.lst ds) ∧ t S M1 (fun es M2 => Q (ds ++ es) M2) E) ∨ ∃ z, d = .str z ∧ z.cps.size ≤ sizeLine ∧ t S M1 (fun es M2 => Q (sgD z ++ es) M2) E) E
def tStarA (K : PySem.W.Frag) (te : TE) (t : TA) : TA := fun σ H Q => te σ H fun x H1 => (∃ z : Str, x = .str z ∧ z.cps.size ≤ sizeLine ∧ t σ H1 fun ys H2 => Q (Zn.signs z ++ ys) H2) ∨ ∃ a xs, x = .ref a ∧ (SqT K H1 a xs ∨ SqL K H1 a xs) ∧ t σ H1 fun ys H2 => Q (xs ++ ys) H2
theorem pa_starA {te : TE} {t : TA} {p : Pos} (hc : X.A.handled = none) (he : PE X e te) (hr : PA X es t) (hs : starEach (.Starred e p :: es) X.env = (true, eval e X.env) :: starEach es X.env := by rfl) : PA X (.Starred e p :: es) (tStarA X.K te t) := by
  refine ⟨fun pos pins s σ H Q I h => ?_⟩
  refine PySem.W.items_star (thn (he.run pins s σ H _ I h) fun v s1 hv => ?_) hs
  obtain ⟨y, H1, I1, ry, hy⟩ := hv
  rcases hy with ⟨z, rfl, hz, q⟩ | ⟨a, xs, rfl, hq, q⟩
  · have z1 := (Zn.pa_starS (X := X) (e := .Constant (.str z) 0 p) (p := p) hc pe_str hr (by rfl)).run pos pins s1 σ H1 Q I1 ⟨z, rfl, hz, q⟩
    obtain ⟨tk, rfl⟩ := ry
    have main : wpAny (model X.prog X.w) X.A (collect (.str z tk)) (fun us s2 => wpAny (model X.prog X.w) X.A (spliced (backTo pos (starEach es X.env))) (fun ws s3 => AP X pins σ Q (us ++ ws) s3) X.xe s2) X.xe s1 := by
      refine wpAny_collect_str hc z tk (fun s' acc hk hg hd ho hacc => ?_) hz
      have J : Inv X pins σ H1 s' := by
        have := I1.kept (h' := s'.heap) (t' := s'.toks) hk
        rw [Zn.sh_all s1 s' hg hd ho] at this
        exact this
      exact thn (hr.run pos pins s' σ H1 _ J q) fun ws s3 hw => by
        obtain ⟨vs, H3, I3, r3, q3⟩ := hw
        exact ⟨Zn.signs z ++ vs, H3, I3, (Zn.vals_signs hacc).append r3, q3⟩
    unfold PySem.W.StarOf notIterableAtAll
    exact wpAny_bind (wpAny_specialOf (typeIs_str s1 z tk) PySem.F.slot_str_iter.lookup (wpAny_pure ⟨rfl, main⟩))
  · have ev : v = Value.ref a := ry
    subst ev
    unfold PySem.W.StarOf notIterableAtAll
    rcases hq with hq | hq
    · obtain ⟨its, rv, ⟨o, ho, hcl, n, hd⟩, hz⟩ := I1.tuple hq
      refine wpAny_bind (wpAny_specialOf ⟨o, ho, hcl⟩ PySem.F.slot_tuple_iter.lookup (wpAny_pure ⟨rfl, ?_⟩))
      refine wpAny_collect_seq a (.inr rfl) ho hcl hd (fun h' hk => ?_) (by rw [List.size_toArray, ← rv.length]; exact hz)
      exact thn (hr.run pos pins _ σ H1 _ (I1.kept (t' := s1.toks) hk) q) fun ws s3 ⟨vs, H3, I3, r3, q3⟩ => ⟨xs ++ vs, H3, I3, (by simpa using rv.append r3), q3⟩
    · obtain ⟨its, rv, ⟨o, n, ho, hcl, _, hd⟩, hz⟩ := I1.list hq
      refine wpAny_bind (wpAny_specialOf ⟨o, ho, hcl⟩ PySem.F.slot_list_iter.lookup (wpAny_pure ⟨rfl, ?_⟩))
      refine wpAny_collect_seq a (.inl rfl) ho hcl hd (fun h' hk => ?_) (by rw [List.size_toArray, ← rv.length]; exact hz)
      exact thn (hr.run pos pins _ σ H1 _ (I1.kept (t' := s1.toks) hk) q) fun ws s3 ⟨vs, H3, I3, r3, q3⟩ => ⟨xs ++ vs, H3, I3, (by simpa using rv.append r3), q3⟩
theorem qa_star {p : Pos} (hc : X.A.handled = none) (he : QE X Ts E e te) (hr : QA X Ts E es t) (hs : starEach (.Starred e p :: es) X.env = (true, eval e X.env) :: starEach es X.env := by rfl) : QA X Ts E (.Starred e p :: es) (dStar te t) := paLe (pa_starA hc he hr hs) fun σ H Q ⟨ρ, S, M, Qd, Ed, R, sl, q, k, x⟩ =>
  ⟨ρ, S, M, _, Ed, R, sl, q, fun d M1 q1 ρ1 H1 v g1 R1 s1 => by
    rcases q1 with ⟨ds, ed, q2⟩ | ⟨j, ds, ed, em, q2⟩ | ⟨z, ed, hz, q2⟩
    · subst ed
      cases s1 with
      | tup ha hs => exact .inr ⟨_, _, rfl, .inl ha, ρ1, S, M1, _, Ed, R1, sl.grw g1, q2, fun es M2 q3 ρ2 H2 vs g2 R2 s2 => k _ _ q3 ρ2 H2 _ (g1.tr g2) R2 ((Shs.grw g2 _ _ hs).append s2), x.grw g1⟩
    · subst ed
      obtain ⟨a', vs, r1, h1, t1⟩ := R1.lst em
      cases s1 with
      | obj ea =>
        rw [ea] at r1; cases r1
        exact .inr ⟨_, vs, rfl, .inr (SqL.of h1), ρ1, S, M1, _, Ed, R1, sl.grw g1, q2, fun es M2 q3 ρ2 H2 us g2 R2 s2 => k _ _ q3 ρ2 H2 _ (g1.tr g2) R2 ((Shs.grw g2 _ _ t1).append s2), x.grw g1⟩
    · subst ed
      cases s1
      exact .inl ⟨z, rfl, hz, ρ1, S, M1, _, Ed, R1, sl.grw g1, q2, fun es M2 q3 ρ2 H2 us g2 R2 s2 => k _ _ q3 ρ2 H2 _ (g1.tr g2) R2 ((shs_signs z).append s2), x.grw g1⟩, x⟩
end
end Dl
set_option Elab.async false
set_option linter.all false
set_option maxRecDepth 100000
set_option maxHeartbeats 4000000
namespace Dl
open PySem PySem.Spec PyProof.Rows L2 GxR Gn
section
variable {X : Cx} {Ts : Tbs} {E : XK} {pos p : Pos} {a b c e : Expr} {es : List Expr} {ta tb : TEd} {t : TAd}
theorem takes0 : Takes X (fun c d _ H => X00 c d H) := fun _ _ ⟨_, _, _, _, _, _, _, _, _, _, _, _, _, _, _, _, h⟩ => h.elim
theorem qe_globI {x : Str} {n : Int} (hg : Gl X x) (hm : ∃ t, X.mg x = some (.int n t)) (hd : (x == ("__debug__" : Str)) = false := by decide) : QE X Ts E (.Name x p) (dC (.int n)) :=
  let ⟨t, h⟩ := hm; qe_glob (v := .int n) hg h ⟨t, rfl⟩ (fun _ _ => .int n) hd
@[simp] def shrD := intD (fun _ j => 0 ≤ j) fun i j => .int (i / 2 ^ j.toNat)
/-- one of two walks -/
theorem pi_or {tg it : Expr} {t u : TI} (h1 : PI X tg it t) (h2 : PI X tg it u) : PI X tg it (fun σ H R => t σ H R ∨ u σ H R) :=
  ⟨fun pins s σ H R I h => h.elim (h1.run pins s σ H R I) (h2.run pins s σ H R I)⟩
@[simp] def dEnumA (t : TAd) : TId := fun S M Q E => dEnumT t S M Q E ∨ dEnumL t S M Q E
theorem qi_enumA {elts : List Expr} {kk : Nat} {tpos : Pos} {t : TAd} (hg : Gl X "enumerate") (hm : X.mg "enumerate" = none) (h : QA X Ts E [a] t) (hs : starEach [a] X.env = [(false, eval a X.env)] := by rfl) : QI X Ts E (.Tuple elts kk tpos) (.Call (.Name "enumerate" p) [a] [] pos) (dEnumA t) :=
  piLe (pi_or (qi_enumT hg hm h hs) (qi_enumL hg hm h hs)) fun σ H R ⟨ρ, S, M, Qd, Ed, Rr, sl, q, k, x⟩ => q.elim (fun q => .inl ⟨ρ, S, M, Qd, Ed, Rr, sl, q, k, x⟩) fun q => .inr ⟨ρ, S, M, Qd, Ed, Rr, sl, q, k, x⟩
/-- a, b = x, y -/
@[simp] def dPar (i j : Nat) (t : TAd) : TSd := fun D E S M => t S M (fun ds M1 => ∃ d e, ds = [d, e] ∧ D.nx ((S.set i (some d)).set j (some e)) M1) E
theorem qs_par {i j : Nat} {x y : Str} {px py pt : Pos} {kt k2 pt2} (hc : X.calm = true) (hN : X.N.Nodup) (hi : X.N[i]? = some x) (hj : X.N[j]? = some y) (hij : i ≠ j)
    (hx : X.env.scope.names.lookup x = some .local) (hy : X.env.scope.names.lookup y = some .local) (ha : QA X Ts E [a, b] t)
    (hw : swappedStores [.Tuple [.Name x px, .Name y py] kt pt] (.Tuple [a, b] k2 pt2) X.env = pure (some [x, y]))
    (hs : swapsWithSole [.Tuple [.Name x px, .Name y py] kt pt] (.Tuple [a, b] k2 pt2) pos.line X.env = pure false := by rfl) :
    QS X Ts E (.Assign [.Tuple [.Name x px, .Name y py] kt pt] (.Tuple [a, b] k2 pt2) pos) (dPar i j t) := psLe (ps_par hc hN hi hj hij hx hy ha hw hs) fun D σ H ⟨ρ, S, M, Dd, Ed, R, sl, q, k, kr, kb, kc, x⟩ =>
  ⟨ρ, S, M, _, Ed, R, sl, q, fun ds M1 ⟨d, e, e1, q1⟩ ρ1 H1 vs g1 R1 s1 => by
    subst e1
    cases s1 with
    | cons h1 h2 =>
      cases h2 with
      | cons h2 h3 =>
        cases h3
        exact ⟨_, _, rfl, k _ _ q1 ρ1 H1 _ g1 R1 (((sl.grw g1).set i h1).set j h2)⟩, x⟩
end
section
variable {X : Cx} {Ts : Tbs} {k : Nat} {f : Addr} {fd : FuncData} {n : Nat} {ps ks : List Str} {sp : SpD} {E : XK} {x : Str} {p pos : Pos} {kws : List Keyword} {tk : TA} {t : TAd} {g : List Value → List Value → List Value} {gV : List V → List V → List V}
theorem callGW {sp : Sp} (F : FnG X.prog X.w X.K X.mg X.base k f fd n ps sp) (hr : RoomG k X.A) (hg : Gl X x) (hm : X.mg x = some (.ref f)) (kp : PySem.W.keepIn X.K (.ref f) = true) (hb : KBinds X.K fd ps ks g gV) (tk' : Takes X (fun c d _ H => E c d H)) (hkw : PK X kws tk)
    (hall : (backToKw pos (keywordEach kws X.env)).all (·.1.isSome) = true := by rfl) (hks : (backToKw pos (keywordEach kws X.env)).filterMap (·.1) = ks := by rfl) (hdb : (x == ("__debug__" : Str)) = false := by decide)
    (hpl : ((backTo pos (starEach [] X.env)).any (·.1) || (backToKw pos (keywordEach kws X.env)).any (·.1.isNone)) = false := by rfl) :
    PE X (.Call (.Name x p) [] kws pos) (fun σ H Q => tk σ H fun zs H1 => sp (gV [] zs) H1 Q E) := by
  constructor
  intro pins s σ H Q I h
  apply wpAny_Call_Name_kw
  apply ld_glob I hg hm _ hdb
  apply PySem.W.callWith_KW0 (h₀ := X.base) I.ok.mod.kin kp hall _ hpl
  refine thn (hkw.run pos pins s σ H _ I h) ?_
  rintro ws s2 ⟨zs, H2, I2, rz, q2⟩
  refine ⟨I2.kIn, ?_⟩
  rw [hks]
  have rr := hb.rel .nil rz
  have hl : (g [] ws).length = ps.length := by rw [← rr.length, F.cnt]; exact F.len _ _ _ _ q2
  refine wpAny_call (codeAny_mono (F.run X.A X.stack s2 H2 ⟨[], ks.zip ws⟩ _ _ Q E hr I2.env0 (hb.to s2 [] ws I2.kIn hl) rr q2) fun res s' hres => ?_)
  match res, hres with
  | .error u, hres => exact xe_of tk' I2 hres
  | .ok (.ret u), hres => exact I2.after hres
  | .ok .next, hres => exact False.elim hres
  | .ok .brk, hres => exact False.elim hres
  | .ok .cont, hres => exact False.elim hres
def pick {α : Type} (is : List Nat) (xs : List α) : List α := is.filterMap fun i => xs[i]?
def gP {α : Type} (is : List Nat) (us ws : List α) : List α := match us with
  | [] => if ws.length = is.length then pick is ws else []
  | _ => []
theorem vals_get : ∀ {vs : List V} {us : List Value} (i : Nat), Vals vs us → (vs[i]? = none ∧ us[i]? = none) ∨ ∃ v u, vs[i]? = some v ∧ us[i]? = some u ∧ RelV v u
  | [], _, i, h => by cases h; exact .inl ⟨by simp, by simp⟩
  | v :: vs, _, 0, h => by
    cases h with
    | cons h1 h2 => exact .inr ⟨v, _, rfl, rfl, h1⟩
  | v :: vs, _, i + 1, h => by
    cases h with
    | cons h1 h2 => simpa using vals_get i h2
theorem vals_pick {vs : List V} {us : List Value} (h : Vals vs us) : ∀ is : List Nat, Vals (pick is vs) (pick is us)
  | [] => .nil
  | i :: is => by
    unfold pick
    rcases vals_get i h with ⟨e1, e2⟩ | ⟨v, u, e1, e2, r⟩
    · rw [List.filterMap_cons_none e1, List.filterMap_cons_none e2]; exact vals_pick h is
    · rw [List.filterMap_cons_some e1, List.filterMap_cons_some e2]; exact .cons r (vals_pick h is)
theorem vals_gP {vs : List V} {us : List Value} {zs : List V} {ws : List Value} (is : List Nat) (r : Vals vs us) (rz : Vals zs ws) : Vals (gP is vs zs) (gP is us ws) := by
  cases r with
  | cons _ _ => exact .nil
  | nil =>
    unfold gP
    show Vals (if _ then _ else _) (if _ then _ else _)
    rw [rz.length]
    split
    · exact vals_pick rz is
    · exact .nil
theorem shs_pick {K : PySem.W.Frag} {ρ : Rho} {H : Hp} {ds : List D} {vs : List V} (h : Shs K ρ H ds vs) : ∀ is : List Nat, Shs K ρ H (pick is ds) (pick is vs)
  | [] => .nil
  | i :: is => by
    unfold pick
    cases e : vs[i]? with
    | none =>
      have : ds[i]? = none := by
        rw [List.getElem?_eq_none_iff] at e ⊢
        rw [h.length]; exact e
      rw [List.filterMap_cons_none e, List.filterMap_cons_none this]; exact shs_pick h is
    | some v =>
      obtain ⟨d, e2, s⟩ := h.get e
      rw [List.filterMap_cons_some e, List.filterMap_cons_some e2]; exact .cons s (shs_pick h is)
theorem kb_two {K : PySem.W.Frag} {x qual : Str} {st : Stmt} {f : Addr} {fd : FuncData} (F : Fun K x qual st f fd) {ps ks : List Str} {is : List Nat} (hi : is.length = 2 := by rfl) (hp : ps.length = 2 := by rfl)
    (h : ∀ (kV doc pm : Value) (an : Option Addr) (cdv ct u v : Value), bindArgs (PySem.W.fnOf x qual (defArgs st) (defBody st) (defScope st) .none kV doc pm an cdv ct) ⟨[], ks.zip [u, v]⟩ = pure (ps.zip (pick is [u, v])) := by intros; rfl) : KBinds K fd ps ks (gP is) (gP is) := by
  obtain ⟨oc, od, kV, doc, pm, an, cdv, ct, osl, rfl, lk, hcd⟩ := F.ex
  refine ⟨fun s us ws hk hl => ?_, fun r rz => vals_gP is r rz⟩
  cases us with
  | cons _ _ => rw [hp] at hl; exact absurd hl (by show ¬ 0 = 2; decide)
  | nil =>
    have e : ws.length = 2 := by
      by_cases z : ws.length = is.length
      · rw [z, hi]
      · unfold gP at hl
        simp only [if_neg z, hp] at hl
        exact absurd hl (by decide)
    match ws, e with
    | [u, v], _ =>
      have : gP is [] [u, v] = pick is [u, v] := by unfold gP; exact if_pos (by rw [hi]; rfl)
      rw [this]
      exact .of_eq (h kV doc pm an cdv ct u v)
abbrev QK (X : Cx) (Ts : Tbs) (E : XK) (kws : List Keyword) (t : TAd) : Prop := PK X kws (rdA X.K Ts E t)
theorem pkLe {X : Cx} {kws : List Keyword} {t t' : TA} (h : PK X kws t) (i : ∀ σ H Q, t' σ H Q → t σ H Q) : PK X kws t' := ⟨fun p pins s σ H Q I q => h.run p pins s σ H Q I (i σ H Q q)⟩
theorem qk_nil : QK X Ts E [] dNil := pkLe pk_nil fun σ H Q ⟨ρ, S, M, Qd, Ed, R, sl, q, k, x⟩ => k _ _ q ρ H [] (Grw.refl _ _) R .nil
theorem qk_cons {e : Expr} {nm : Option Str} {kpos : Pos} {ta : TEd} {t : TAd} (ha : QE X Ts E e ta) (hr : QK X Ts E kws t) : QK X Ts E (⟨nm, e, kpos⟩ :: kws) (dCons ta t) := pkLe (pk_cons ha hr) fun σ H Q ⟨ρ, S, M, Qd, Ed, R, sl, q, k, x⟩ =>
  ⟨ρ, S, M, _, Ed, R, sl, q, fun d M1 q1 ρ1 H1 v g1 R1 s1 => ⟨ρ1, S, M1, _, Ed, R1, sl.grw g1, q1, fun ds M2 q2 ρ2 H2 vs g2 R2 s2 => k _ _ q2 ρ2 H2 _ (g1.tr g2) R2 (.cons (Sh.grw g2 _ _ s1) s2), x.grw g1⟩, x⟩
@[simp] def dCallW (n : Nat) (is : List Nat) (sp : SpD) (t : TAd) : TEd := fun S M Q E => t S M (fun ds M1 => ds.length = n ∧ is.length = n ∧ (pick is ds).length = n ∧ sp (pick is ds) M1 Q E) E
theorem qe_callW {is : List Nat} (F : FnD X.prog X.w X.K X.mg X.base Ts k f fd n ps sp) (hr : RoomG k X.A) (hg : Gl X x) (hm : X.mg x = some (.ref f)) (kp : PySem.W.keepIn X.K (.ref f) = true) (hb : KBinds X.K fd ps ks (gP is) (gP is)) (tk' : Takes X (fun c d _ H => E c d H)) (hkw : QK X Ts E kws t)
    (hall : (backToKw pos (keywordEach kws X.env)).all (·.1.isSome) = true := by rfl) (hks : (backToKw pos (keywordEach kws X.env)).filterMap (·.1) = ks := by rfl) (hdb : (x == ("__debug__" : Str)) = false := by decide)
    (hpl : ((backTo pos (starEach [] X.env)).any (·.1) || (backToKw pos (keywordEach kws X.env)).any (·.1.isNone)) = false := by rfl) :
    QE X Ts E (.Call (.Name x p) [] kws pos) (dCallW n is sp t) := peLe (callGW F hr hg hm kp hb tk' hkw hall hks hdb hpl) fun σ H Q ⟨ρ, S, M, Qd, Ed, R, sl, q, kk, xx⟩ =>
  ⟨ρ, S, M, _, Ed, R, sl, q, fun ds M1 ⟨h1, h2, h3, q1⟩ ρ1 H1 vs g1 R1 s1 => by
    have e : gP is [] vs = pick is vs := by unfold gP; exact if_pos (by rw [← s1.length, h1, h2])
    show spOf X.K Ts n sp (gP is [] vs) H1 Q E
    rw [e]
    have sp' := shs_pick s1 is
    exact ⟨sp'.length.symm.trans h3, ρ1, M1, _, Qd, Ed, R1, sp', q1, kk.grw g1, xx.grw g1⟩, xx⟩
end
end Dl
set_option Elab.async false
set_option linter.all false
set_option maxRecDepth 100000
set_option maxHeartbeats 4000000
namespace Dl
open PySem PySem.Spec PyProof.Rows L2 GxR Gn
/-- a def of the top, called by its parameters -/
structure Df (K : PySem.W.Frag) (mg : Str → Option Value) (x : Str) (st : Stmt) (ps : List Str) (f : Addr) (fd : FuncData) : Prop where
  F : Fun K x x st f fd
  g : mg x = some (.ref f)
  b : Binds K fd ps []
theorem Df.kp {K : PySem.W.Frag} {mg : Str → Option Value} {x : Str} {st : Stmt} {ps : List Str} {f : Addr} {fd : FuncData} (D : Df K mg x st ps f fd) : PySem.W.keepIn K (.ref f) = true := D.F.kp
/-- the code of a def with a generator expression, and its table -/
structure Tb (mg : Str → Option Value) (base : Heap) (fd : FuncData) (c P : Addr) : Prop where
  code : fd.code = .ref c
  tab : TabB base mg c P
theorem bt_len : bootBuiltins "len" = some (.builtin "len") := by decide +kernel
theorem bt_isinstance : bootBuiltins "isinstance" = some (.builtin "isinstance") := by decide +kernel
theorem bt_repr : bootBuiltins "repr" = some (.builtin "repr") := by decide +kernel
theorem bt_max : bootBuiltins "max" = some (.builtin "max") := by decide +kernel
theorem bt_min : bootBuiltins "min" = some (.builtin "min") := by decide +kernel
theorem bt_int : bootBuiltins "int" = some (.type "int") := by decide +kernel
theorem bt_tuple : bootBuiltins "tuple" = some (.type "tuple") := by decide +kernel
theorem bt_list : bootBuiltins "list" = some (.type "list") := by decide +kernel
section
variable {X : Cx} {Ts : Tbs} {E : XK} {pos : Pos}
theorem qg_tupA {es : List Expr} {k : Nat} {t : TGsd} {n : Nat} (hc : X.calm = true) (h : QGs X Ts es t) (hl : es.length = n := by rfl) (hn : (assignEach es X.env).length = n := by rfl) (hst : (assignEach es X.env).findIdx? (·.1) = none := by rfl) : QG X Ts (.Tuple es k pos) (dGTup n t) :=
  qg_tup hc h hl (pg_tup hc h hn hst)
theorem iter_intTup {A : Around} {E' : Value → Shared → Prop} {prog : Program} {w : World} {s : Shared} {l : Addr} {xs : Array (Int × Tok)} {Q : Value → Shared → Prop} (hl : s.heap.IsTuple l (intItems xs))
    (h : ∀ s₂ : Shared, s₂ = { s with heap := s.heap.push { cls := .type "tuple_iterator", data := .fields #[.ref l, .int 0 0] } } →
      (s₂.heap.IsTupleIter s.heap.objs.size l 0 ∧ s₂.heap.IsTuple l (intItems xs)) → (∀ b ∈ [s.heap.objs.size, l], b < s₂.heap.objs.size) → l ≠ s.heap.objs.size → Q (.ref s.heap.objs.size) s₂) :
    wpAny (model prog w) A (pyIter (.ref l)) Q E' s := by
  have hlt : l < s.heap.objs.size := by obtain ⟨_, e, _⟩ := hl; exact Heap.lt_size e
  refine wpAny_pyIter_tuple hl (h _ rfl ⟨⟨_, Heap.get?_push_size _ rfl, rfl, rfl⟩, hl.push _⟩ (fun b hb => ?_) (Nat.ne_of_lt hlt))
  show b < (s.heap.push _).objs.size
  rw [Heap.size_push]
  rcases List.mem_cons.mp hb with rfl | hb
  · exact Nat.lt_succ_self _
  · rcases List.mem_cons.mp hb with rfl | hb
    · exact Nat.lt_succ_of_lt hlt
    · cases hb
theorem kept_tup {s : Shared} {l : Addr} {h' : Heap} (hk : ∀ b o, b ∉ [s.heap.objs.size] → (s.heap.push { cls := .type "tuple_iterator", data := .fields #[.ref l, .int 0 0] }).get? b = some o → h'.get? b = some o) :
    ∀ b o, s.heap.get? b = some o → h'.get? b = some o := fun b o e => by
  refine hk b o (fun hm => ?_) (Heap.get?_push_of_some _ e)
  rcases List.mem_cons.mp hm with e1 | hm
  · exact absurd (e1 ▸ Heap.lt_size e) (Nat.lt_irrefl _)
  · cases hm
def sumHD : List D → Mem → KD → Prop
  | [.obj i], M, Q => ∃ ds ns, M[i]? = some (.lst ds) ∧ intsOf ds = some ns ∧ Q (.int ns.sum) M
  | [.tup ds], M, Q => ∃ ns, intsOf ds = some ns ∧ Q (.int ns.sum) M
  | _, _, _ => False
theorem max_tupG {A : Around} {E' : Value → Shared → Prop} {prog : Program} {w : World} {s : Shared} {l : Addr} {xs : Array (Int × Tok)} {Q : Value → Shared → Prop} (hh : A.handled = none) (hl : s.heap.IsTuple l (intItems xs)) (hne : 0 < xs.size)
    (h : ∀ v h' tk, (intItems xs)[argBest (fun i j => decide (numAt xs i > numAt xs j)) (xs.size - 1)]? = some v → (∀ b o, s.heap.get? b = some o → h'.get? b = some o) → Q v { s with heap := h', toks := tk }) :
    wpAny (model prog w) A (call (.builtin "max") [.ref l]) Q E' s := by
  refine PySem.call_max_walk (iter_intTup hl fun s₂ e st hfp hlI => ?_)
  subst e
  refine ⟨_, _, _, _, _, _, _, rfl, Walks.tuple (A := A.in1) hh _ l hlI (intItems xs), st, hfp, by simpa [intItems] using hne, CmpOf.ints_gt (numAt xs) (fun _ _ => intItems_at), fun v h' tk hP hk => ?_⟩
  exact h v h' tk (by simpa [intItems] using hP) (kept_tup hk)
def rMaxT (K : PySem.W.Frag) : List V → Hp → VK → Prop := fun vs H Q => ∃ (a : Addr) (ns : List Int), vs = [V.ref a] ∧ SqT K H a (ns.map V.int) ∧ 0 < ns.length ∧ ∀ m, m ∈ ns → (∀ y, y ∈ ns → y ≤ m) → Q (.int m) H
theorem cr_maxT (hc : X.calm = true) : CallR X (.builtin "max") (rMaxT X.K) := by
  intro pins s σ H vs us Q I r h
  obtain ⟨a, ns, rfl, hs, hne, q⟩ := h
  obtain ⟨its, rv, hl, _⟩ := I.tuple hs
  rw [Vals.ref1 r]
  have hi := rv.ints
  obtain ⟨xs, e⟩ := hi.allInts.items
  have hn : numsOf (intItems xs).toList = ns := by rw [← e]; exact hi.numsOf
  rw [nums_intItems] at hn
  subst hn
  rw [e] at hl
  have hsz : 0 < xs.size := by simpa using hne
  refine max_tupG (I.ok.hd hc) hl hsz fun v h' tk hv hk => ?_
  obtain ⟨t, rfl⟩ := intItems_at hv
  obtain ⟨h1, h2⟩ := argBest_gt (numAt xs) (xs.size - 1)
  refine ⟨.int _, H, I.kept hk, ⟨t, rfl⟩, q _ ?_ fun a ha => ?_⟩
  · rw [numAt_eq]; exact PySem.getD_mem (by rw [List.length_map, Array.length_toList]; omega)
  · obtain ⟨j, hj, rfl⟩ := mem_getD ha
    rw [← numAt_eq]
    exact h2 j (by simp at hj; omega)
def maxHD : List D → Mem → KD → Prop
  | [.obj i], M, Q => ∃ ds ns, M[i]? = some (.lst ds) ∧ intsOf ds = some ns ∧ 0 < ns.length ∧ ∀ m, m ∈ ns → (∀ y, y ∈ ns → y ≤ m) → Q (.int m) M
  | [.tup ds], M, Q => ∃ ns, intsOf ds = some ns ∧ 0 < ns.length ∧ ∀ m, m ∈ ns → (∀ y, y ∈ ns → y ≤ m) → Q (.int m) M
  | _, _, _ => False
def rMaxH (X : Cx) : List V → Hp → VK → Prop := fun vs H Q => rMax X.K vs H Q ∨ rMaxT X.K vs H Q
theorem cr_maxH (hc : X.calm = true) : CallR X (.builtin "max") (rMaxH X) := (cr_max hc).or (cr_maxT hc)
theorem cd_maxH : CallD X Ts (rMaxH X) maxHD := fun ρ M H ds vs Q Qd R s h k => by
  cases s with
  | nil => exact h.elim
  | cons s1 s2 =>
    cases s2 with
    | cons _ _ => cases s1 <;> exact h.elim
    | nil =>
      cases s1 with
      | @obj i a ea =>
        obtain ⟨ds, ns, em, e, hp, q⟩ := h
        obtain ⟨a', vs, r1, g1, t1⟩ := R.lst em
        rw [ea] at r1; cases r1
        have := intsOf_shs e t1
        subst this
        exact .inl ⟨_, ns, rfl, .inl (.inl g1), hp, fun m h1 h2 => k.same R (q m h1 h2) (.int m)⟩
      | @tup a xs ds ha hs =>
        obtain ⟨ns, e, hp, q⟩ := h
        have := intsOf_shs e hs
        subst this
        exact .inr ⟨a, ns, rfl, ha, hp, fun m h1 h2 => k.same R (q m h1 h2) (.int m)⟩
      | _ => exact h.elim
theorem qs_putA {k : Nat} {tpos : Pos} {o i e : Expr} {to ti te : TEd} (hr : Room k X.A) (ho : QE X Ts E o to) (hi : QE X Ts E i ti) (he : QE X Ts E e te) (hs : swapsWithSole [.Subscript o i tpos] e pos.line X.env = pure false := by rfl) (hw : swappedStores [.Subscript o i tpos] e X.env = pure none := by rfl) (h1 : (assignEach [.Subscript o i tpos] X.env).map (·.2) = [assign (.Subscript o i tpos) X.env] := by rfl)
    (ha : ∀ v, assign (.Subscript o i tpos) X.env v = (do
      let ov ← holding [v] (eval o X.env)
      let iv ← holding [v, ov] (eval i X.env)
      standAt tpos
      holding [v, ov, iv] (setItem ov iv v)
      release [v, ov, iv] []) := by intro _; rfl) : QS X Ts E (.Assign [.Subscript o i tpos] e pos) (dPut to ti te) :=
  qs_put hr ho hi he hs hw h1 (pg_sub ho hi (set_any (by have := hr.units; omega)) ha)
theorem cr_reprG {k : Nat} (hr : RoomG k X.A) : CallR X (.builtin "repr") (Zn.rRepr X.K) := Zn.cr_repr hr.g (by have := hr.r.units; omega)
end
end Dl
set_option Elab.async false
set_option linter.all false
set_option maxRecDepth 100000
set_option maxHeartbeats 4000000
namespace Dl
open PySem PySem.Spec PyProof.Rows L2 GxR Gn
theorem small_le {n : Nat} (h : n ≤ 1000) : n ≤ sizeLine := by rw [sizeLine_eq]; omega
/-- what the walk tracks at first: the tables, and the script where the top has not written it -/
def hp0 (K : PySem.W.Frag) (Ts : List Addr) (a : Addr) (u : HO) : Hp := fun b => if b ∈ Ts then some (.tbl #[]) else if b = a ∧ K.lookup a = none then some u else none
theorem hp0_cases {K : PySem.W.Frag} {Ts : List Addr} {a b : Addr} {u o : HO} (h : hp0 K Ts a u b = some o) : (b ∈ Ts ∧ o = .tbl #[]) ∨ (b = a ∧ K.lookup a = none ∧ o = u) := by
  unfold hp0 at h
  split at h
  · rename_i m
    exact .inl ⟨m, (Option.some.inj h).symm⟩
  · split at h
    · rename_i m
      exact .inr ⟨m.1, m.2, (Option.some.inj h).symm⟩
    · cases h
/-- the law's promise, told of its run at the caller -/
def RunD (P : Program) (w : World) (K : PySem.W.Frag) (mg : Str → Option Value) (Ts : Tbs) (fa : Addr) : Prop :=
  ∀ (base : Heap) (s : Shared) (H : Hp) (a : Addr) (ns : List Int), K.In base → base.Ns mainGlobals mg → (∀ p ∈ Ts.all, base.BuiltinsAt mg p ∧ mainGlobals ≠ p) → Env0 P w K mg base callerA [] s H → (∀ p ∈ Ts.g, TabG H p) → (∀ p ∈ Ts.l, LamX.TabS H p.1 p.2) → FrL K H a (ns.map V.int) → ns.length ≤ 63 →
    codeAny (model P w) callerA (.call (.ref fa) ⟨[.ref a], []⟩) (CR (L2.CX P w) [] P w H s (fun v _ => v = .bl true) X00) s
theorem end_at {P : Program} {w : World} {K : PySem.W.Frag} {mg mb : Str → Option Value} {Ts : Tbs} {fa a : Addr} {s1 : Shared} {vs : List Value} {ns : List Int} (inK : K.In s1.heap) (glob : s1.heap.Ns mainGlobals mg) (blt : s1.heap.Ns builtinsNs mb)
    (boot : ∀ x : Str, x ≠ "__name__" → mb x = bootBuiltins x) (lim : s1.heap.NoLimit) (gens : s1.gens = #[]) (tabs : ∀ p ∈ Ts.all, s1.heap.get? p = some { cls := .none, data := .fields #[] }) (out : ∀ p ∈ Ts.all, K.lookup p = none) (kinds : ∀ p ∈ Ts.all, isCodeTable s1.heap p)
    (main : ∃ (bm : Addr) (ob : Obj), mg "__builtins__" = some (.ref bm) ∧ bm ≠ builtinsNs ∧ s1.heap.get? bm = some ob ∧ ob.cls = .type "module" ∧ ob.dict = some builtinsNs ∧ ob.data = .plain)
    (script : s1.heap.get? a = some { cls := .type "list", data := .seq vs.toArray }) (numbers : IntsAre vs ns) (short : ns.length ≤ 63) (R : RunD P w K mg Ts fa) :
    codeAny (model P w) callerA (.call (.ref fa) ⟨[.ref a], []⟩) (fun r s' => r = .ok (.ret (.bool true)) ∧ OldK s1.heap s'.heap ∧ s'.os = s1.os ∧ AllBare s'.gens) s1 := by
  obtain ⟨H, eH⟩ : ∃ H, H = hp0 K Ts.all a (.frz { cls := .type "list", data := .seq vs.toArray } (.lst (ns.map V.int))) := ⟨_, rfl⟩
  have split : ∀ {b : Addr} {o : HO}, H b = some o → (b ∈ Ts.all ∧ o = .tbl #[]) ∨ (b = a ∧ K.lookup a = none ∧ o = .frz { cls := .type "list", data := .seq vs.toArray } (.lst (ns.map V.int))) := fun {b o} h => hp0_cases (eH ▸ h)
  have small : (ns.map V.int).length ≤ sizeLine := by
    rw [List.length_map]
    exact small_le (by omega)
  have onTab : ∀ {p : Addr}, p ∈ Ts.all → H p = some (.tbl #[]) := fun {p} m => by
    rw [eH]
    exact if_pos m
  have aNot : a ∉ Ts.all := fun m => by
    have q := tabs a m
    rw [script] at q
    exact Data.noConfusion (congrArg Obj.data (Option.some.inj q))
  -- what is neither a sequence nor a table is not tracked
  have free : ∀ {b : Addr} {o : Obj}, s1.heap.get? b = some o → (∀ v n, o.data ≠ .seq v n) → o.data ≠ .fields #[] → H b = none := fun {b o} e n1 n2 => by
    cases q : H b with
    | none => rfl
    | some u =>
      exfalso
      rcases split q with ⟨m, _⟩ | ⟨z, _⟩
      · rw [tabs b m] at e
        cases e
        exact n2 rfl
      · rw [z, script] at e
        cases e
        exact n1 _ _ rfl
  have lay : ∀ {b : Addr} {o : Obj}, s1.heap.get? b = some o → H b = none → (hidT s1.heap H).get? b = some o := fun e n => hidT_get e n
  have names : ∀ {b : Addr} {m : Str → Option Value}, s1.heap.Ns b m → (hidT s1.heap H).Ns b m := by
    rintro b m ⟨o, es, ep, e, hd, rest⟩
    refine ⟨o, es, ep, lay e (free e (fun v n z => ?_) fun z => ?_), hd, rest⟩
    · rw [hd] at z; cases z
    · rw [hd] at z; cases z
  have kin : K.In (hidT s1.heap H) := fun b o e => by
    refine lay (inK b o e) ?_
    cases q : H b with
    | none => rfl
    | some u =>
      exfalso
      rcases split q with ⟨m, _⟩ | ⟨z, n, _⟩
      · rw [out b m] at e; cases e
      · rw [z, n] at e; cases e
  have limB : (hidT s1.heap H).NoLimit := by
    obtain ⟨m, x, y⟩ := lim
    exact ⟨m, names x, y⟩
  have bAt : ∀ p ∈ Ts.all, (hidT s1.heap H).BuiltinsAt mg p ∧ mainGlobals ≠ p := fun p m => by
    have hp := tabs p m
    obtain ⟨bm, ob, q1, q2, q3, q4, q5, q6⟩ := main
    obtain ⟨og, es, ep, g1, g2, _⟩ := id glob
    refine ⟨⟨bm, ob, q1, q2, fun z => ?_, fun z => ?_, lay q3 (free q3 (fun v n z => ?_) fun z => ?_), q4, q5, q6⟩, fun z => ?_⟩
    · rw [z, g1] at q3; cases q3; rw [g2] at q6; cases q6
    · rw [z, hp] at q3; cases q3; cases q6
    · rw [q6] at z; cases z
    · rw [q6] at z; cases z
    · rw [z, hp] at g1; cases g1; cases g2
  have held : HOk P w H s1.heap := fun b u q => by
    rcases split q with ⟨m, rfl⟩ | ⟨rfl, _, rfl⟩
    · exact tabs b m
    · exact ⟨script, small, vs, _, vals_ints numbers, script⟩
  have env0 : Env0 P w K mg (hidT s1.heap H) callerA [] s1 H :=
    { frames := rfl, mod := ⟨kin, names glob, ⟨mb, names blt, boot⟩, limB⟩, bs := fun b o e => of_hidT e, bsz := Nat.le_of_eq (hidT_size _ _), funs := trivial, frf := fun b m => absurd (show b ∈ ([] : List Addr) from m) (by simp), hok := held, bare := .of_eq gens }
  have seq : FrL K H a (ns.map V.int) := by
    cases q : K.lookup a with
    | none =>
      refine .inl ⟨{ cls := .type "list", data := .seq vs.toArray }, ?_⟩
      rw [eH]
      exact (if_neg aNot).trans (if_pos ⟨rfl, q⟩)
    | some o =>
      have e := inK a o q
      rw [script] at e
      cases e
      refine .inr ⟨_, vs.toArray, _, q, rfl, rfl, rfl, ?_, by simpa using vals_ints numbers⟩
      have := numbers.length
      rw [List.size_toArray]
      exact small_le (by omega)
  have tok : ∀ p ∈ Ts.g, TabG H p := fun p m => ⟨#[], onTab (Tbs.of_g m), trivial⟩
  have tol : ∀ p ∈ Ts.l, LamX.TabS H p.1 p.2 := fun p m => LamX.TabS.nil (onTab (Tbs.of_l m))
  refine codeAny_mono (R _ s1 H a ns kin (names glob) bAt env0 tok tol seq short) ?_
  rintro (e | fl) s' h
  · obtain ⟨_, _, _, _, _, _, _, _, _, _, _, _, hE⟩ := h
    exact hE.elim
  cases fl with
  | next => exact h.elim
  | brk => exact h.elim
  | cont => exact h.elim
  | ret u =>
    obtain ⟨v, H', os, bare, un, after, rel, rfl⟩ := h
    obtain rfl : u = Value.bool true := rel
    -- every object but the tables is as it was
    have stay : ∀ b o, b ∉ Ts.all → s1.heap.get? b = some o → s'.heap.get? b = some o := fun b o n e => by
      cases q : H b with
      | none => exact un.keep b o e q (fun z => by cases z) fun z => by cases z
      | some x =>
        rcases split q with ⟨m, _⟩ | ⟨rfl, _, rfl⟩
        · exact absurd m n
        · rw [script] at e
          cases e
          exact (after _ _ (un.frzs _ _ _ q)).1
    have more : ∀ p, p ∈ Ts.all → ∃ ps : Array Value, s'.heap.get? p = some { cls := .none, data := .fields ps } := fun p m => by
      obtain ⟨ps, z⟩ := un.tbls p #[] (onTab m)
      exact ⟨_, after p _ z⟩
    refine ⟨rfl, ⟨fun b o e => ?_, fun b o e => ?_⟩, os, bare⟩
    · by_cases m : b ∈ Ts.all
      · obtain ⟨ps, z⟩ := more b m
        rw [tabs b m] at e
        cases e
        exact .inr (.inl ⟨kinds b m, rfl, #[], ps, rfl, by rw [Array.empty_append]; exact z⟩)
      · exact .inl (stay b o m e)
    · by_cases m : b ∈ Ts.all
      · obtain ⟨ps, z⟩ := more b m
        exact ⟨_, z⟩
      · exact ⟨o, stay b o m e⟩
theorem rl0 {K : PySem.W.Frag} {Ts : Tbs} {H : Hp} (tk : ∀ p ∈ Ts.g, TabG H p) (tl : ∀ p ∈ Ts.l, LamX.TabS H p.1 p.2) : Rl K Ts (fun _ => none) [] H where
  inj := fun i j a h _ => by cases h
  dom := fun i a h => by cases h
  cell := fun i c h => by simp at h
  tab := tk
  lam := tl
/-- the run at the caller, by the reading of the law -/
theorem run_top {P : Program} {w : World} {K : PySem.W.Frag} {mg : Str → Option Value} {base : Heap} {Ts : Tbs} {k : Nat} {fa a : Addr} {fd : FuncData} {sp : SpD} {s : Shared} {H : Hp} {ns : List Int} (F : FnD P w K mg base Ts k fa fd 1 ["script"] sp) (room : Room k callerA) (b : Binds K fd ["script"] [])
    (e0 : Env0 P w K mg base callerA [] s H) (kb : K.In base) (tk : ∀ p ∈ Ts.g, TabG H p) (tl : ∀ p ∈ Ts.l, LamX.TabS H p.1 p.2) (sq : FrL K H a (ns.map V.int)) (hl : sp [.scr ns] [] (fun d _ => d = .bl true) E00) :
    codeAny (model P w) callerA (.call (.ref fa) ⟨[.ref a], []⟩) (CR (L2.CX P w) [] P w H s (fun v _ => v = .bl true) X00) s := by
  have inS : K.In s.heap := fun b o e => (e0.bs b o (kb b o e)).1
  refine F.run callerA [] s H ⟨[.ref a], []⟩ [.ref a] [.ref a] _ _ ⟨room, rfl⟩ e0 (by simpa using b s [.ref a] inS rfl) (.cons rfl .nil) ⟨rfl, fun _ => none, [], [.scr ns], _, E00, rl0 tk tl, .cons (.scr sq) .nil, hl, fun d M' e ρ' H' v g R sh => ?_, xok0⟩
  subst e
  cases sh
  rfl
end Dl
set_option Elab.async false
set_option linter.all false
set_option maxRecDepth 100000
set_option maxHeartbeats 4000000
namespace Dl
open PySem PySem.Spec PyProof.Rows L2 GxR Gn
section
variable {M : Mem} {Q : KD} {d e : D} {ds es : List D} {i j : Int} {n m : Nat} {x y : Str} {a b : Bool}
@[simp] theorem intD_int {C : Int → Int → Prop} {g : Int → Int → D} : Dl.intD C g (.int i) (.int j) M Q ↔ C i j ∧ Q (g i j) M := Iff.rfl
@[simp] theorem addD_int : addD (.int i) (.int j) M Q ↔ Q (.int (i + j)) M := Iff.rfl
@[simp] theorem addD_str : addD (.str x) (.str y) M Q ↔ x.length + y.length ≤ sizeLine ∧ Q (.str (x ++ y)) M := Iff.rfl
@[simp] theorem addD_tup : addD (.tup ds) (.tup es) M Q ↔ ds.length + es.length ≤ sizeLine ∧ Q (.tup (ds ++ es)) M := Iff.rfl
@[simp] theorem addD_obj : addD (.obj n) (.obj m) M Q ↔ ∃ xs ys, M[n]? = some (.lst xs) ∧ M[m]? = some (.lst ys) ∧ xs.length + ys.length ≤ sizeLine ∧ Q (.obj M.length) (M ++ [.lst (xs ++ ys)]) := Iff.rfl
@[simp] theorem mulD_int : mulD (.int i) (.int j) M Q ↔ CMulW i j ∧ Q (.int (i * j)) M := Iff.rfl
@[simp] theorem mulD_tup : mulD (.tup ds) (.int j) M Q ↔ ds ≠ [] ∧ 2 ≤ j ∧ j ≤ 1000 ∧ ds.length ≤ 1000 ∧ Q (.tup (List.replicate j.toNat ds).flatten) M := Iff.rfl
@[simp] theorem cmpD_int {st : Bool} : cmpD st (.int i) (.int j) M Q ↔ Q (.bl (if st then decide (i < j) else decide (i ≤ j))) M := Iff.rfl
@[simp] theorem cmpD_str {st : Bool} : cmpD st (.str x) (.str y) M Q ↔ Q (.bl (if st then decide (x.cps.toList < y.cps.toList) else !decide (y.cps.toList < x.cps.toList))) M := Iff.rfl
@[simp] theorem kindD_int : kindD (.int i) M = some "int" := rfl
@[simp] theorem kindD_bl : kindD (.bl a) M = some "bool" := rfl
@[simp] theorem kindD_non : kindD .non M = some "NoneType" := rfl
@[simp] theorem kindD_str : kindD (.str x) M = some "str" := rfl
@[simp] theorem kindD_tup : kindD (.tup ds) M = some "tuple" := rfl
@[simp] theorem kindD_obj : kindD (.obj n) M = match M[n]? with
    | some (.lst _) => some "list"
    | some (.dK _) => some "dict"
    | _ => none := rfl
@[simp] theorem isiD_two {T : String} : isiD [d, .ty T] M Q ↔ ∃ k b, kindD d M = some k ∧ kitB k T = some b ∧ Q (.bl b) M := Iff.rfl
@[simp] theorem intOfD_int : intOfD [.int i] M Q ↔ Q (.int i) M := Iff.rfl
@[simp] theorem intOfD_bl : intOfD [.bl a] M Q ↔ Q (.int (if a then 1 else 0)) M := Iff.rfl
@[simp] theorem tupOfD_tup : tupOfD [.tup ds] M Q ↔ Q (.tup ds) M := Iff.rfl
@[simp] theorem tupOfD_obj : tupOfD [.obj n] M Q ↔ ∃ ds, M[n]? = some (.lst ds) ∧ Q (.tup ds) M := Iff.rfl
@[simp] theorem lstOfD_tup : lstOfD [.tup ds] M Q ↔ Q (.obj M.length) (M ++ [.lst ds]) := Iff.rfl
@[simp] theorem lstOfD_obj : lstOfD [.obj n] M Q ↔ ∃ ds, M[n]? = some (.lst ds) ∧ Q (.obj M.length) (M ++ [.lst ds]) := Iff.rfl
@[simp] theorem lstOfD_str : lstOfD [.str x] M Q ↔ x.cps.size ≤ sizeLine ∧ Q (.obj M.length) (M ++ [.lst (sgD x)]) := Iff.rfl
@[simp] theorem lenD_tup : lenD [.tup ds] M Q ↔ Q (.int (ds.length : Nat)) M := Iff.rfl
@[simp] theorem lenD_str : lenD [.str x] M Q ↔ x.length ≤ sizeLine ∧ Q (.int (x.length : Nat)) M := Iff.rfl
@[simp] theorem lenD_obj : lenD [.obj n] M Q ↔ (∃ ds, M[n]? = some (.lst ds) ∧ Q (.int (ds.length : Nat)) M) ∨ ∃ kvs, M[n]? = some (.dK kvs) ∧ Q (.int (kvs.length : Nat)) M := Iff.rfl
@[simp] theorem max2D_int {mx : Bool} : max2D mx [.int i, .int j] M Q ↔ Q (.int (if mx then (if j > i then j else i) else (if j < i then j else i))) M := Iff.rfl
@[simp] theorem ixA_tup : ixA (.tup ds) (.int j) M Q ↔ ∃ v, atI ds j = some v ∧ Q v M := Iff.rfl
@[simp] theorem ixA_str : ixA (.str x) (.int j) M Q ↔ ∃ c, x.length ≤ sizeLine ∧ atI x.cps.toList j = some c ∧ Q (.str ⟨#[c]⟩) M := Iff.rfl
@[simp] theorem ixA_objS : ixA (.obj n) (.str x) M Q ↔ match M[n]? with
    | some (.dK kvs) => ∃ v, valD kvs (.inr x) = some v ∧ Q v M
    | _ => False := by
  show (match M[n]? with | some (.dK kvs) => ∃ k v, keyOf (.str x) = some k ∧ valD kvs k = some v ∧ Q v M | _ => ixD (.obj n) (.str x) M Q) ↔ _
  cases M[n]? with
  | none => exact Iff.rfl
  | some c =>
    cases c with
    | dK kvs => exact ⟨fun ⟨k, v, e, h⟩ => by cases e; exact ⟨v, h⟩, fun ⟨v, h⟩ => ⟨_, v, rfl, h⟩⟩
    | _ => exact Iff.rfl
@[simp] theorem ixA_objI {xs : List D} (h : M[n]? = some (.lst xs)) : ixA (.obj n) (.int j) M Q ↔ ∃ v, atI xs j = some v ∧ Q v M := by
  show (match M[n]? with | some (.dK kvs) => ∃ k v, keyOf (.int j) = some k ∧ valD kvs k = some v ∧ Q v M | _ => ixD (.obj n) (.int j) M Q) ↔ _
  rw [h]
  exact ⟨fun ⟨ds, v, e, h2⟩ => by rw [h] at e; cases e; exact ⟨v, h2⟩, fun ⟨v, h2⟩ => ⟨_, v, h, h2⟩⟩
@[simp] theorem slD_tup {lo hi : Option Int} : slD (.tup ds) lo hi M Q ↔ Q (.tup (cutL ds lo hi)) M := Iff.rfl
@[simp] theorem slD_obj {lo hi : Option Int} : slD (.obj n) lo hi M Q ↔ ∃ ds, M[n]? = some (.lst ds) ∧ Q (.obj M.length) (M ++ [.lst (cutL ds lo hi)]) := Iff.rfl
@[simp] theorem slD_str {lo hi : Option Int} : slD (.str x) lo hi M Q ↔ x.length ≤ sizeLine ∧ Q (.str (cutS x lo hi)) M := Iff.rfl
@[simp] theorem slD_scr {ns : List Int} {lo hi : Option Int} : slD (.scr ns) lo hi M Q ↔ Q (.obj M.length) (M ++ [.lst (cutL (ns.map D.int) lo hi)]) := Iff.rfl
@[simp] theorem seqD_tup {Q : List D → (Mem → Prop) → Mem → Prop} : seqD (.tup ds) M Q ↔ Q ds (fun _ => True) M := Iff.rfl
@[simp] theorem seqD_obj {Q : List D → (Mem → Prop) → Mem → Prop} : seqD (.obj n) M Q ↔ ∃ ds, M[n]? = some (.lst ds) ∧ Q ds (fun M => M[n]? = some (.lst ds)) M := Iff.rfl
@[simp] theorem seqD_str {Q : List D → (Mem → Prop) → Mem → Prop} : seqD (.str x) M Q ↔ Q (sgD x) (fun _ => True) M := Iff.rfl
@[simp] theorem sumHD_obj : sumHD [.obj n] M Q ↔ ∃ ds ns, M[n]? = some (.lst ds) ∧ intsOf ds = some ns ∧ Q (.int ns.sum) M := Iff.rfl
@[simp] theorem sumHD_tup : sumHD [.tup ds] M Q ↔ ∃ ns, intsOf ds = some ns ∧ Q (.int ns.sum) M := Iff.rfl
@[simp] theorem maxHD_obj : maxHD [.obj n] M Q ↔ ∃ ds ns, M[n]? = some (.lst ds) ∧ intsOf ds = some ns ∧ 0 < ns.length ∧ ∀ m, m ∈ ns → (∀ y, y ∈ ns → y ≤ m) → Q (.int m) M := Iff.rfl
@[simp] theorem maxHD_tup : maxHD [.tup ds] M Q ↔ ∃ ns, intsOf ds = some ns ∧ 0 < ns.length ∧ ∀ m, m ∈ ns → (∀ y, y ∈ ns → y ≤ m) → Q (.int m) M := Iff.rfl
@[simp] theorem truD_bl : truD (.bl a) M = some a := rfl
@[simp] theorem truD_int : truD (.int i) M = some (decide (i ≠ 0)) := rfl
@[simp] theorem truD_tup : truD (.tup ds) M = some (!ds.isEmpty) := rfl
@[simp] theorem truD_non : truD .non M = some false := rfl
@[simp] theorem keyOf_int : keyOf (.int i) = some (.inl i) := rfl
@[simp] theorem keyOf_str : keyOf (.str x) = some (.inr x) := rfl
end
@[simp] theorem kit_ii : kitB "int" "int" = some true := by decide +kernel
@[simp] theorem kit_ib : kitB "int" "bool" = some false := by decide +kernel
@[simp] theorem kit_bi : kitB "bool" "int" = some true := by decide +kernel
@[simp] theorem kit_bb : kitB "bool" "bool" = some true := by decide +kernel
@[simp] theorem kit_tt : kitB "tuple" "tuple" = some true := by decide +kernel
@[simp] theorem kit_st : kitB "str" "tuple" = some false := by decide +kernel
@[simp] theorem kit_it : kitB "int" "tuple" = some false := by decide +kernel
@[simp] theorem kit_ss : kitB "str" "str" = some true := by decide +kernel
@[simp] theorem kit_ts : kitB "tuple" "str" = some false := by decide +kernel
end Dl
set_option Elab.async false
set_option linter.all false
set_option maxRecDepth 100000
set_option maxHeartbeats 4000000
namespace Dl
open PySem PySem.Spec PyProof.Rows L2 GxR Gn
@[simp] theorem intsOf_map : ∀ ns : List Int, intsOf (ns.map D.int) = some ns
  | [] => rfl
  | n :: ns => by
    show intsOf (D.int n :: ns.map D.int) = some (n :: ns)
    unfold intsOf
    rw [intsOf_map ns]
    rfl
section
variable {X : Cx} {Ts : Tbs} {E : XK} {pos p apos cpos : Pos} {o e : Expr} {es : List Expr} {to ta : TEd} {t : TAd}
def allLD : List D → Mem → KD → Prop
  | [.obj i], M, Q => ∃ bs : List Bool, M[i]? = some (.lst (bs.map D.bl)) ∧ Q (.bl (bs.all id)) M
  | _, _, _ => False
def sortID : List D → Mem → KD → Prop
  | [.obj i], M, Q => ∃ ns : List Int, M[i]? = some (.lst (ns.map D.int)) ∧ ∀ ns' : List Int, ns'.Perm ns → ns'.Pairwise (· ≤ ·) → Q (.obj M.length) (M ++ [.lst (ns'.map D.int)])
  | _, _, _ => False
@[simp] def extendD (o : D) (ds : List D) (M : Mem) (Q : KD) : Prop := ∃ i j xs ys, o = .obj i ∧ ds = [.obj j] ∧ M[i]? = some (.lst xs) ∧ M[j]? = some (.lst ys) ∧ xs.length + ys.length ≤ sizeLine ∧ Q .non (M.set i (.lst (xs ++ ys)))
theorem iop_addT : OpR X (inplaceOp .Add) (rI (fun _ _ => True) fun i j => .int (i + j)) := op_rI0 iop_add
/-- == and != of any data -/
def eqA (neg : Bool) (x y : D) (M : Mem) (Q : KD) : Prop := match x, y with
  | .str i, .str j => Q (.bl (if neg then !decide (i = j) else decide (i = j))) M
  | .int i, .int j => Q (.bl (if neg then !decide (i = j) else decide (i = j))) M
  | x, y => eqD neg x y M Q
def rEqA (X : Cx) : R2 := fun x y H Q => rEq x y H Q ∨ rEqD X.K x y H Q
def rNeA (X : Cx) : R2 := fun x y H Q => rNe x y H Q ∨ rNeD X.K x y H Q
theorem op_eqA {k : Nat} (hr : Room k X.A) : OpR X (compareOp .Eq) (rEqA X) := op_eq.or (op_eqD hr.units)
theorem op_neA {k : Nat} (hr : Room k X.A) : OpR X (compareOp .NotEq) (rNeA X) := op_ne.or (op_neD hr.units)
theorem od_eqA : OpD X Ts (rEqA X) (eqA false) := fun ρ M H x y v u Q Qd R sx sy h k => by
  have sx' := sx
  have sy' := sy
  cases sx <;> cases sy <;> first
    | exact .inr (od_eq ρ M H _ _ _ _ Q Qd R sx' sy' h k)
    | (refine .inl ⟨rfl, k.same R ?_ (.bl _)⟩; simpa [eqA] using h)
theorem od_neA : OpD X Ts (rNeA X) (eqA true) := fun ρ M H x y v u Q Qd R sx sy h k => by
  have sx' := sx
  have sy' := sy
  cases sx <;> cases sy <;> first
    | exact .inr (od_ne ρ M H _ _ _ _ Q Qd R sx' sy' h k)
    | (refine .inl ⟨rfl, k.same R ?_ (.bl _)⟩; simpa [eqA] using h)
section
variable {M : Mem} {Q : KD} {i j : Int} {n : Nat} {x y : Str} {neg : Bool}
@[simp] theorem eqA_int : eqA neg (.int i) (.int j) M Q ↔ Q (.bl (if neg then !decide (i = j) else decide (i = j))) M := Iff.rfl
@[simp] theorem eqA_str : eqA neg (.str x) (.str y) M Q ↔ Q (.bl (if neg then !decide (x = y) else decide (x = y))) M := Iff.rfl
@[simp] theorem eqA_tup {ds es : List D} : eqA neg (.tup ds) (.tup es) M Q ↔ eqD neg (.tup ds) (.tup es) M Q := Iff.rfl
@[simp] theorem eqA_obj {m : Nat} : eqA neg (.obj n) (.obj m) M Q ↔ eqD neg (.obj n) (.obj m) M Q := Iff.rfl
@[simp] theorem allLD_obj : allLD [.obj n] M Q ↔ ∃ bs : List Bool, M[n]? = some (.lst (bs.map D.bl)) ∧ Q (.bl (bs.all id)) M := Iff.rfl
@[simp] theorem sortID_obj : sortID [.obj n] M Q ↔ ∃ ns : List Int, M[n]? = some (.lst (ns.map D.int)) ∧ ∀ ns' : List Int, ns'.Perm ns → ns'.Pairwise (· ≤ ·) → Q (.obj M.length) (M ++ [.lst (ns'.map D.int)]) := Iff.rfl
end
end
end Dl
set_option Elab.async false
set_option linter.all false
set_option maxRecDepth 100000
set_option maxHeartbeats 4000000
namespace Dl
open PySem PySem.Spec PyProof.Rows L2 GxR Gn
theorem allD_of {α : Type} {gd : TGd} {te : TEd} {vs : List Nat} {alive : Mem → Prop} {Q : KD} {S : Sl} (dd : α → D) (p : α → Bool) : ∀ (as : List α) (M : Mem), (∀ G, alive (M ++ G)) →
    (∀ a ∈ as, ∀ (G : Mem) (Q' : KD), (∀ G', Q' (.bl (p a)) (M ++ G ++ G')) → gd (dd a) (wipeD S vs) (M ++ G) fun S1 M1 => te S1 M1 Q' E00) → (∀ G, Q (.bl (as.all p)) (M ++ G)) → ∀ G, allD gd te vs alive Q S (as.map dd) (M ++ G)
  | [], M, al, _, h, G => ⟨al G, by simpa using h G⟩
  | a :: as, M, al, el, h, G => by
    refine ⟨al G, el a (by simp) G _ fun G' => ⟨p a, rfl, ?_⟩⟩
    cases hp : p a with
    | false => simpa [hp] using h (G ++ G')
    | true =>
      simp only [if_true]
      rw [List.append_assoc]
      exact allD_of dd p as M al (fun a ha => el a (List.mem_cons_of_mem _ ha)) (fun G => by simpa [hp] using h G) (G ++ G')
theorem lcD_go {α : Type} {gd : TGd} {te : TEd} {vs : List Nat} {alive : Mem → Prop} {Q : KD} {S : Sl} (dd f : α → D) : ∀ (as : List α) (acc : List D) (M : Mem), (∀ G, alive (M ++ G)) →
    (∀ a ∈ as, ∀ (G : Mem) (Q' : KD), (∀ G', Q' (f a) (M ++ G ++ G')) → gd (dd a) (wipeD S vs) (M ++ G) fun S1 M1 => te S1 M1 Q' E00) → acc.length + as.length ≤ sizeLine → (∀ G, Q (.obj M.length) (M ++ .lst (acc ++ as.map f) :: G)) →
    ∀ G, lcD gd dYes te vs M.length alive Q S (as.map dd) (M ++ .lst acc :: G)
  | [], acc, M, al, _, _, h, G => ⟨al _, by simpa using h G⟩
  | a :: as, acc, M, al, el, hz, h, G => by
    refine ⟨al _, ?_⟩
    simp only [dYes, if_true]
    refine el a (by simp) (.lst acc :: G) _ fun G' => ⟨acc, by simp, by simp at hz; omega, ?_⟩
    have e : (M ++ .lst acc :: G ++ G').set M.length (.lst (acc ++ [f a])) = M ++ .lst (acc ++ [f a]) :: (G ++ G') := by simp
    rw [e]
    exact lcD_go dd f as (acc ++ [f a]) M al (fun a ha => el a (List.mem_cons_of_mem _ ha)) (by simp at hz ⊢; omega) (fun G => by simpa using h G) (G ++ G')
/-- a whole comprehension that only reads -/
theorem lcD_of {α : Type} {gd : TGd} {te : TEd} {vs : List Nat} {alive : Mem → Prop} {Q : KD} {S : Sl} (dd f : α → D) (as : List α) (M : Mem) (al : ∀ G, alive (M ++ G))
    (el : ∀ a ∈ as, ∀ (G : Mem) (Q' : KD), (∀ G', Q' (f a) (M ++ G ++ G')) → gd (dd a) (wipeD S vs) (M ++ G) fun S1 M1 => te S1 M1 Q' E00) (hz : as.length ≤ sizeLine) (h : ∀ G, Q (.obj M.length) (M ++ .lst (as.map f) :: G)) :
    lcD gd dYes te vs M.length alive Q S (as.map dd) (M ++ [.lst []]) := lcD_go dd f as [] M al el (by simpa using hz) (by simpa using h) []
theorem at_end {M G : Mem} {c : Cell} : (M ++ c :: G)[M.length]? = some c := by simp
def vI (ns : List Int) : D := .tup (ns.map D.int)
def mI (rows : List (List Int)) : D := .tup (rows.map vI)
def Bd (B : Int) (ns : List Int) : Prop := ∀ n ∈ ns, -B ≤ n ∧ n ≤ B
theorem cmul_of {i j B C : Int} (h1 : -B ≤ i ∧ i ≤ B) (h2 : -C ≤ j ∧ j ≤ C) (hB : B ≤ 2 ^ 40 := by decide) (hC : C ≤ 2 ^ 40 := by decide) : CMulW i j := by
  refine wide_mul (a := 41) (b := 41) ?_ ?_ (by decide) (by decide) (by decide)
  · have : (2 : Int) ^ 40 = 1099511627776 := by decide
    have : (2 : Nat) ^ 41 = 2199023255552 := by decide
    omega
  · have : (2 : Int) ^ 40 = 1099511627776 := by decide
    have : (2 : Nat) ^ 41 = 2199023255552 := by decide
    omega
end Dl
set_option Elab.async false
set_option linter.all false
set_option maxRecDepth 100000
set_option maxHeartbeats 4000000
namespace Dl
open PySem PySem.Spec PyProof.Rows L2 GxR Gn
/-- the datum is p whatever the memory -/
def Pu (d : D) (p : PyData) : Prop := ∀ M n, pyM M n d = some p
theorem Pu.non : Pu .non .none := fun M n => by rw [pyM]
theorem Pu.bl (b : Bool) : Pu (.bl b) (.bool b) := fun M n => by rw [pyM]
theorem Pu.int (i : Int) : Pu (.int i) (.int i) := fun M n => by rw [pyM]
theorem Pu.str (x : Str) : Pu (.str x) (.str x) := fun M n => by rw [pyM]
def Pus (ds : List D) (ps : List PyData) : Prop := ∀ M n, pyMs M n ds = some ps
theorem Pus.nil : Pus [] [] := fun M n => by rw [pyMs]
theorem Pus.cons {d : D} {p : PyData} {ds : List D} {ps : List PyData} (h : Pu d p) (hs : Pus ds ps) : Pus (d :: ds) (p :: ps) := fun M n => by rw [pyMs, h M n, hs M n]
theorem Pu.tup {ds : List D} {ps : List PyData} (h : Pus ds ps) : Pu (.tup ds) (.tuple ps) := fun M n => by rw [pyM, h M n]; rfl
theorem Pus.map {α : Type} {f : α → D} {g : α → PyData} : ∀ {as : List α}, (∀ a ∈ as, Pu (f a) (g a)) → Pus (as.map f) (as.map g)
  | [], _ => Pus.nil
  | a :: as, h => Pus.cons (h a (by simp)) (Pus.map fun b hb => h b (List.mem_cons_of_mem _ hb))
theorem Pu.vI (ns : List Int) : Pu (vI ns) (.tuple (ns.map .int)) := Pu.tup (Pus.map fun a _ => Pu.int a)
theorem eqD_of {neg : Bool} {x y : D} {p q : PyData} {M : Mem} {Q : KD} (h1 : Pu x p) (h2 : Pu y q) (s1 : SeqAt.shaped p = true) (s2 : SeqAt.shaped q = true) (h : Q (.bl (if neg then !PyData.eqv p q else PyData.eqv p q)) M) : eqD neg x y M Q :=
  ⟨0, p, q, h1 M 0, h2 M 0, s1, s2, h⟩
/-- data that may be compared -/
structure Pn (k : Nat) (p : PyData) : Prop where
  lay : p.canLay0 = true
  dep : p.depth ≤ k
theorem Pn.int (k : Nat) (i : Int) : Pn k (.int i) := ⟨by rw [PyData.canLay0], by rw [PyData.depth]; omega⟩
theorem Pn.bl (k : Nat) (i : Bool) : Pn k (.bool i) := ⟨by rw [PyData.canLay0], by rw [PyData.depth]; omega⟩
theorem pn_all {k : Nat} : ∀ ps : List PyData, (∀ p ∈ ps, Pn k p) → PyData.canLayAll0 ps = true ∧ PyData.depthAll ps ≤ k
  | [], _ => ⟨by rw [PyData.canLayAll0], by rw [PyData.depthAll]; omega⟩
  | p :: ps, h => by
    obtain ⟨a, b⟩ := pn_all ps fun q hq => h q (List.mem_cons_of_mem _ hq)
    have q := h p List.mem_cons_self
    exact ⟨by rw [PyData.canLayAll0, q.lay, a]; rfl, by rw [PyData.depthAll]; exact Nat.max_le.mpr ⟨q.dep, b⟩⟩
theorem Pn.tup {k : Nat} {ps : List PyData} (h : ∀ p ∈ ps, Pn k p) : Pn (k + 1) (.tuple ps) := by
  obtain ⟨a, b⟩ := pn_all ps h
  exact ⟨by rw [PyData.canLay0]; exact a, by rw [PyData.depth]; omega⟩
theorem Pn.sh {k : Nat} {p : PyData} (h : Pn k p) (hk : k ≤ 64) : SeqAt.shaped p = true := by
  unfold SeqAt.shaped
  rw [h.lay, decide_eq_true (Nat.le_trans h.dep hk)]
  rfl
def pI (ns : List Int) : PyData := .tuple (ns.map .int)
theorem Pn.pI (ns : List Int) : Pn 1 (pI ns) := Pn.tup fun p hp => by
  obtain ⟨n, _, rfl⟩ := List.mem_map.mp hp
  exact Pn.int 0 n
theorem pyMs_ints (M : Mem) (n : Nat) : ∀ ns : List Int, pyMs M n (ns.map D.int) = some (ns.map .int) := fun ns => (Pus.map fun a _ => Pu.int a) M n
/-- a list of ints and the empty list -/
theorem eqD_lst0 {neg : Bool} {a b : Nat} {ns : List Int} {M : Mem} {Q : KD} (ha : M[a]? = some (.lst (ns.map D.int))) (hb : M[b]? = some (.lst [])) (h : Q (.bl (if neg then !ns.isEmpty else ns.isEmpty)) M) : eqD neg (.obj a) (.obj b) M Q := by
  have s : ∀ ps : List PyData, (∀ p ∈ ps, Pn 0 p) → SeqAt.shaped (.list ps) = true := fun ps h => by
    obtain ⟨x, y⟩ := pn_all ps h
    unfold SeqAt.shaped
    rw [PyData.canLay0, PyData.depth, x, decide_eq_true (by omega)]
    rfl
  refine ⟨1, .list (ns.map .int), .list [], ?_, ?_, s _ fun p hp => ?_, s [] (by simp), ?_⟩
  · rw [pyM, ha]
    show (pyMs M 0 (ns.map D.int)).map PyData.list = _
    rw [pyMs_ints]
    rfl
  · rw [pyM, hb]
    show (pyMs M 0 []).map PyData.list = _
    rw [pyMs]
    rfl
  · obtain ⟨n, _, rfl⟩ := List.mem_map.mp hp
    exact Pn.int 0 n
  · have e : PyData.eqv (.list (ns.map .int)) (.list []) = ns.isEmpty := by
      rw [PyData.eqv]
      cases ns with
      | nil => rw [List.map_nil, PyData.eqvAll]; rfl
      | cons n ns => rw [List.map_cons, PyData.eqvAll]; rfl
    rw [e]
    exact h
end Dl
set_option Elab.async false
set_option linter.all false
set_option maxRecDepth 100000
set_option maxHeartbeats 4000000
namespace Dl
open PySem PySem.Spec PyProof.Rows L2 GxR Gn
theorem tuple_mul1 (l : Addr) (items : Array Value) (n : Nat) (sl : Array (Option Value)) (dd : Option Addr) (x : Int) (u : Tok) (c0 : (decide (x < -(2 ^ 63)) || decide (x ≥ 2 ^ 63)) = false) (c1 : (items.isEmpty || x == 1) = true) :
    Meets (Builtin.«tuple.__mul__» ⟨[.ref l, .int x u], []⟩) (fun _ R s => s.heap.get? l = some { cls := .type "tuple", dict := dd, data := .seq items n, slots := sl } ∧
      R (.ok (.ret (Value.ref l))) s) :=
  .of_wp fun prog w A R s h => by
    obtain ⟨hp, g, d, tk, os⟩ := s
    obtain ⟨hl, h⟩ := h
    have f1 := AutoSeq1.idx_int
    wp_walk using wpAny_loadPart' hl
    refine wpAny_ite_false (decide_eq_false (by rw [c0]; exact Bool.false_ne_true)) ?_
    wp_walk using wpAny_loadPart' hl
    exact ⟨_, rfl, h⟩
theorem tuple_mul0 (l : Addr) (items : Array Value) (n : Nat) (sl : Array (Option Value)) (dd : Option Addr) (x : Int) (u : Tok) (c0 : (decide (x < -(2 ^ 63)) || decide (x ≥ 2 ^ 63)) = false) (c1 : (items.isEmpty || x == 1) = false) (c2 : (decide (x ≤ 0) || items.isEmpty) = true) :
    Meets (Builtin.«tuple.__mul__» ⟨[.ref l, .int x u], []⟩) (fun _ R s => s.heap.get? l = some { cls := .type "tuple", dict := dd, data := .seq items n, slots := sl } ∧
      R (.ok (.ret (Value.ref s.heap.objs.size))) { s with heap := s.heap.push { cls := Value.type "tuple", data := Data.seq #[] }, toks := s.toks }) :=
  .of_wp fun prog w A R s h => by
    obtain ⟨hp, g, d, tk, os⟩ := s
    obtain ⟨hl, h⟩ := h
    have f1 := AutoSeq1.idx_int
    wp_walk using wpAny_loadPart' hl
    refine wpAny_ite_false (decide_eq_false (by rw [c0]; exact Bool.false_ne_true)) ?_
    wp_walk using wpAny_loadPart' hl
    repeat (first
      | (refine wpAny_ite_false (decide_eq_false (by rw [c1]; exact Bool.false_ne_true)) ?_; wp_walk using wpAny_loadPart' hl)
      | (refine wpAny_ite_true (decide_eq_true c2) ?_; wp_walk using wpAny_loadPart' hl))
    exact ⟨_, rfl, h⟩
def rRep1 (K : PySem.W.Frag) : R2 := fun x y H Q => ∃ l k xs, x = .ref l ∧ y = .int k ∧ SqT K H l xs ∧ ((k = 1 ∧ Q (.ref l) H) ∨ (xs ≠ [] ∧ k ≤ 0 ∧ -1000 ≤ k ∧ ∀ p, H p = none → Q (.ref p) (upd H p (.tup []))))
theorem op_rep1 {X : Cx} : OpR X (binaryOp .Mult) (rRep1 X.K) := by
  intro pins s σ H x y v u Q I rx ry h
  obtain ⟨l, k, xs, rfl, rfl, hT, q⟩ := h
  cases rx
  obtain ⟨t, rfl⟩ := ry
  obtain ⟨its, r, ⟨⟨cls, dd, data, sl⟩, ho, hc, n, hd⟩, hs⟩ := I.tuple hT
  simp only at hc hd
  subst hc hd
  rcases q with ⟨rfl, q⟩ | ⟨hne, h1, h2, q⟩
  · have c1 : (its.toArray.isEmpty || (1 : Int) == 1) = true := by simp
    exact wpAny_binaryOp_repeat_ref (T := "tuple") (U := "int") (by decide) ⟨_, ho, rfl⟩ (fun s' => typeIs_int s' 1 t) noFill_tuple_mul F.fills_int_mul F.slot_int_rmul repeat_tuple F.slot_int_index.lookup
      (call_meets F.slot_int_rmul (typeIs_int s 1 t) F.entry_int_rmul (F.args_int_rmul_2 _ _) (int_rmul_tuple 1 t l its.toArray n dd sl)
        ⟨ho, rfl, ⟨_, ho, rfl⟩, call_meets F.slot_tuple_mul ⟨_, ho, rfl⟩ F.entry_tuple_mul (F.args_tuple_mul_2 _ _) (tuple_mul1 l its.toArray n sl dd 1 t (by decide) c1) ⟨ho, ⟨.ref l, H, I, rfl, q⟩⟩⟩)
  · have hle : its.length = xs.length := r.length.symm
    have hn : its ≠ [] := fun e => hne (by
      rw [e] at hle
      exact List.eq_nil_of_length_eq_zero hle.symm)
    have hi : its.toArray.isEmpty = false := by
      cases its with
      | nil => exact absurd rfl hn
      | cons a b => rfl
    have c0 : (decide (k < -(2 ^ 63)) || decide (k ≥ 2 ^ 63)) = false := by
      rw [decide_eq_false (by omega), decide_eq_false (by omega)] <;> rfl
    have c1 : (its.toArray.isEmpty || k == 1) = false := by
      rw [hi, Bool.false_or]
      exact beq_eq_false_iff_ne.mpr (by omega)
    have c2 : (decide (k ≤ 0) || its.toArray.isEmpty) = true := by rw [decide_eq_true h1]; rfl
    refine wpAny_binaryOp_repeat_ref (T := "tuple") (U := "int") (by decide) ⟨_, ho, rfl⟩ (fun s' => typeIs_int s' k t) noFill_tuple_mul F.fills_int_mul F.slot_int_rmul repeat_tuple F.slot_int_index.lookup
      (call_meets F.slot_int_rmul (typeIs_int s k t) F.entry_int_rmul (F.args_int_rmul_2 _ _) (int_rmul_tuple k t l its.toArray n dd sl)
        ⟨ho, rfl, ⟨_, ho, rfl⟩, call_meets F.slot_tuple_mul ⟨_, ho, rfl⟩ F.entry_tuple_mul (F.args_tuple_mul_2 _ _) (tuple_mul0 l its.toArray n sl dd k t c0 c1 c2) ⟨ho, ?_⟩⟩)
    refine ⟨.ref s.heap.objs.size, _, I.laid (t' := s.toks) (o := .tup []) (fun b ob q => Heap.get?_push_of_some _ q) (Nat.le_refl _) ?_, rfl, q _ (I.hok.fresh (Nat.le_refl _))⟩
    exact ⟨by simp, [], .nil, IsTup.new _ _⟩
/-- times, of anything that the laws multiply -/
def mulA (x y : D) (M : Mem) (Q : KD) : Prop := match x, y with
  | .tup ds, .int k => (k = 1 ∧ Q (.tup ds) M) ∨ (ds ≠ [] ∧ k ≤ 0 ∧ -1000 ≤ k ∧ Q (.tup []) M) ∨ mulD (.tup ds) (.int k) M Q
  | x, y => mulD x y M Q
@[simp] theorem mulA_int {i j : Int} {M : Mem} {Q : KD} : mulA (.int i) (.int j) M Q ↔ CMulW i j ∧ Q (.int (i * j)) M := Iff.rfl
section
variable {X : Cx} {Ts : Tbs} {E : XK} {pos : Pos} {a b : Expr} {ta tb : TEd}
def rMulA (X : Cx) : R2 := fun x y H Q => rMulH X.K x y H Q ∨ rRep1 X.K x y H Q
theorem op_mulA : OpR X (binaryOp .Mult) (rMulA X) := op_mulH.or op_rep1
theorem od_mulA : OpD X Ts (rMulA X) mulA := fun ρ M H x y v u Q Qd R sx sy h k => by
  have sx' := sx
  have sy' := sy
  cases sx <;> cases sy <;> first
    | exact .inl (od_mul ρ M H _ _ _ _ Q Qd R sx' sy' h k)
    | skip
  rename_i a xs ds ha hs j
  rcases h with ⟨e, q⟩ | ⟨h0, h1, h2, q⟩ | h
  · exact .inr ⟨a, j, xs, rfl, rfl, ha, .inl ⟨e, k.same R q sx'⟩⟩
  · exact .inr ⟨a, j, xs, rfl, rfl, ha, .inr ⟨fun e => h0 ((shs_nil hs).mp e), h1, h2, fun p hp => newTup R .nil k q hp⟩⟩
  · exact .inl (od_mul ρ M H _ _ _ _ Q Qd R sx' sy' h k)
theorem qe_mulA (ha : QE X Ts E a ta) (hb : QE X Ts E b tb) : QE X Ts E (.BinOp a .Mult b pos) (dOp mulA ta tb) := qe_op op_mulA od_mulA ha hb
end
end Dl
set_option Elab.async false
set_option linter.all false
set_option maxRecDepth 100000
set_option maxHeartbeats 4000000
namespace Dl
open PySem PySem.Spec PyProof.Rows L2 GxR Gn
/-- data whose text is short -/
structure Sz (n d : Nat) (p : PyData) : Prop where
  sh : PyData.showable p = true
  nd : p.hasDict = false
  dp : p.depth ≤ d
  ln : p.shown.length ≤ n
theorem Sz.mono {n n' d d' : Nat} {p : PyData} (h : Sz n d p) (hn : n ≤ n') (hd : d ≤ d') : Sz n' d' p := ⟨h.sh, h.nd, Nat.le_trans h.dp hd, Nat.le_trans h.ln hn⟩
theorem str_app_len (a b : Str) : (a ++ b).length = a.length + b.length := by
  show (a.cps ++ b.cps).size = _
  rw [Array.size_append]
  rfl
theorem join_le {k : Nat} : ∀ ts : List Str, (∀ t ∈ ts, t.length ≤ k) → (Str.join ", " ts).length ≤ ts.length * (k + 2)
  | [], _ => Nat.zero_le _
  | [x], h => by
    have := h x List.mem_cons_self
    show x.length ≤ 1 * (k + 2)
    omega
  | x :: y :: r, h => by
    have h1 := h x List.mem_cons_self
    have h2 := join_le (y :: r) fun t ht => h t (List.mem_cons_of_mem _ ht)
    show (x ++ ", " ++ Str.join ", " (y :: r)).length ≤ (r.length + 1 + 1) * (k + 2)
    rw [str_app_len, str_app_len]
    have e : ((", " : Str)).length = 2 := rfl
    rw [e, Nat.succ_mul]
    have h3 : (Str.join ", " (y :: r)).length ≤ (r.length + 1) * (k + 2) := h2
    omega
theorem sz_all {k d : Nat} : ∀ ps : List PyData, (∀ p ∈ ps, Sz k d p) → PyData.showableAll ps = true ∧ PyData.hasDictAll ps = false ∧ PyData.depthAll ps ≤ d ∧ (PyData.shownAll ps).length = ps.length ∧ ∀ t ∈ PyData.shownAll ps, t.length ≤ k
  | [], _ => ⟨by simp [PyData.showableAll], by simp [PyData.hasDictAll], by simp [PyData.depthAll], by simp [PyData.shownAll], by simp [PyData.shownAll]⟩
  | p :: r, h => by
    obtain ⟨a, b, c, e, f⟩ := sz_all r fun x hx => h x (List.mem_cons_of_mem _ hx)
    have q := h p List.mem_cons_self
    rw [PyData.showableAll, PyData.hasDictAll, PyData.depthAll, PyData.shownAll, q.sh, q.nd, a, b]
    refine ⟨rfl, rfl, Nat.max_le.mpr ⟨q.dp, c⟩, by rw [List.length_cons, List.length_cons, e], fun t ht => ?_⟩
    rcases List.mem_cons.mp ht with rfl | ht
    · exact q.ln
    · exact f t ht
theorem Sz.tup {k d m : Nat} {ps : List PyData} (h : ∀ p ∈ ps, Sz k d p) (hm : ps.length ≤ m) : Sz (m * (k + 2) + 3) (d + 1) (.tuple ps) := by
  obtain ⟨a, b, c, e, f⟩ := sz_all ps h
  refine ⟨by rw [PyData.showable]; exact a, by rw [PyData.hasDict]; exact b, by rw [PyData.depth]; omega, ?_⟩
  rw [PyData.shown]
  unfold tupleText
  rw [str_app_len, str_app_len]
  have h1 := join_le _ f
  rw [e] at h1
  have h2 : ((if (PyData.shownAll ps).length == 1 then ",)" else ")" : String) : Str).length ≤ 2 := by split <;> decide
  have h3 : ((("(" : Str))).length = 1 := rfl
  have h4 : ps.length * (k + 2) ≤ m * (k + 2) := Nat.mul_le_mul_right _ hm
  omega
theorem Sz.int {i : Int} (h : i.natAbs < 100000000) : Sz 10 0 (.int i) := by
  refine ⟨?_, rfl, by rw [PyData.depth]; decide, ?_⟩
  · rw [PyData.showable]
    refine decide_eq_true ?_
    show (Int.natAbs i).log2 < 1920
    by_cases h0 : i.natAbs = 0
    · rw [h0]; decide
    · exact (Nat.log2_lt h0).mpr (Nat.lt_trans h (by decide))
  · rw [PyData.shown]
    have := int_text_length_le10 (a := i) (k := 8) (by decide) h
    show (Str.ofString (toString i)).length ≤ 10
    rw [PySem.ofString_length]
    omega
theorem Sz.pI {ns : List Int} {m : Nat} (h : ∀ n ∈ ns, n.natAbs < 100000000) (hm : ns.length ≤ m) : Sz (m * 12 + 3) 1 (pI ns) :=
  Sz.tup (k := 10) (d := 0) (fun p hp => by
    obtain ⟨n, hn, rfl⟩ := List.mem_map.mp hp
    exact Sz.int (h n hn)) (by rw [List.length_map]; exact hm)
end Dl
set_option Elab.async false
set_option linter.all false
set_option maxRecDepth 100000
set_option maxHeartbeats 4000000
namespace Dl
open PySem PySem.Spec PyProof.Rows L2 GxR Gn
section
variable {K : PySem.W.Frag} {Ts : Tbs} {ρ : Rho} {M : Mem} {H : Hp}
/-- the columns of rows of one width -/
def colsD (rows : List (List D)) (w : Nat) : List D := (List.range w).map fun i => D.tup (rows.map fun r => r.getD i .non)
/-- the tuples of rows -/
def TupsAt (K : PySem.W.Frag) (ρ : Rho) (H : Hp) (as : List Addr) (rows : List (List D)) : Prop := as.length = rows.length ∧ ∀ (k : Nat) (a : Addr) (r : List D), as[k]? = some a → rows[k]? = some r → ∃ zs, SqT K H a zs ∧ Shs K ρ H r zs
theorem TupsAt.grw {ρ' : Rho} {H' : Hp} {as : List Addr} {rows : List (List D)} (g : Grw ρ H ρ' H') (h : TupsAt K ρ H as rows) : TupsAt K ρ' H' as rows := ⟨h.1, fun k a r e1 e2 => by
  obtain ⟨zs, h1, h2⟩ := h.2 k a r e1 e2
  exact ⟨zs, SqT.grw g h1, Shs.grw g _ _ h2⟩⟩
end
section
variable {X : Cx} {Ts : Tbs} {E : XK} {pos p p2 p3 : Pos} {a : Expr} {ta : TEd} {x : Str}
def colsQ (ds : List D) (M : Mem) (Q : List D → (Mem → Prop) → Mem → Prop) : Prop := ∃ (rows : List (List D)) (w : Nat), ds = rows.map D.tup ∧ rows ≠ [] ∧ (∀ r ∈ rows, r.length = w) ∧ rows.length ≤ sizeLine ∧ Q (colsD rows w) (fun _ => True) M
@[simp] def dZipS (te : TEd) : TId := fun S M Q E => te S M (fun d M1 => seqD d M1 fun ds _ M2 => colsQ ds M2 Q) E
end
end Dl
set_option Elab.async false
set_option linter.all false
set_option maxRecDepth 100000
set_option maxHeartbeats 4000000
namespace Zn
open PySem PySem.Spec PyProof.Rows L2 GxR SrtO
/-- these ints as a key -/
def kI (k : List Int) : List Key := k.map Sum.inl
variable {X : Cx}
end Zn
set_option Elab.async false
set_option linter.all false
set_option maxRecDepth 100000
set_option maxHeartbeats 4000000
namespace Dl
open PySem PySem.Spec PyProof.Rows L2 GxR Gn
def keysD : List D → Option (List Key)
  | [] => some []
  | d :: ds => match keyOf d, keysD ds with
    | some k, some ks => some (k :: ks)
    | _, _ => none
section
variable {K : PySem.W.Frag} {ρ : Rho} {H : Hp} {Ts : Tbs} {M : Mem}
theorem keysD_shs : ∀ {ds : List D} {vs : List V} {ks : List Key}, keysD ds = some ks → Shs K ρ H ds vs → vs = ks.map kV
  | [], _, ks, e, h => by
    cases h
    cases e
    rfl
  | d :: ds, _, ks, e, h => by
    cases h with
    | cons h1 h2 =>
      unfold keysD at e
      cases e1 : keyOf d with
      | none => rw [e1] at e; cases e
      | some k =>
        cases e2 : keysD ds with
        | none => rw [e1, e2] at e; cases e
        | some ks' =>
          rw [e1, e2] at e
          cases e
          rw [keyOf_sh e1 h1, keysD_shs e2 h2]
          rfl
theorem Rl.dictT (R : Rl K Ts ρ M H) {i : Nat} {ds : List (List Key × D)} (e : M[i]? = some (.dT ds)) : ∃ a vs, ρ i = some a ∧ H a = some (.dT vs) ∧ Shp K ρ H ds vs := by
  obtain ⟨a, o, e1, e2, vs, rfl, h⟩ := R.cell i _ e
  exact ⟨a, vs, e1, e2, h⟩
/-- a tuple as a key -/
theorem tupKey {ds : List D} {ks : List Key} {y : V} (e : keysD ds = some ks) (s : Sh K ρ H (.tup ds) y) : ∃ b, y = .ref b ∧ H b = some (.tup (ks.map kV)) := by
  cases s with
  | tup ha hs => exact ⟨_, rfl, by rw [← keysD_shs e hs]; exact ha⟩
end
section
variable {X : Cx} {Ts : Tbs} {E : XK} {pos p apos tpos cpos : Pos} {a b c e o i f : Expr} {es : List Expr} {ta tb to ti te tx : TEd} {t : TAd}
@[simp] def dNewT : TEd := fun S M Q E => Q (.obj M.length) (M ++ [.dT []])
@[simp] def dNewK : TEd := fun S M Q E => Q (.obj M.length) (M ++ [.dK []])
theorem qe_newT : QE X Ts E (.Dict [] [] pos) dNewT := peLe pe_dnewT fun σ H Q ⟨ρ, S, M, Qd, Ed, R, sl, q, k, x⟩ p hp =>
  k _ _ q _ _ _ (grw_ext R hp) (R.cellNew hp ⟨[], rfl, .nil⟩) (.obj (by unfold ext; rw [if_pos rfl]))
@[simp] def setT (x y z : D) (M : Mem) (Q : Mem → Prop) : Prop := ∃ n kvs ds ks, x = .obj n ∧ M[n]? = some (.dT kvs) ∧ y = .tup ds ∧ keysD ds = some ks ∧ kvs.length < sizeLine ∧ Q (M.set n (.dT (putKD kvs ks z)))
@[simp] def dPutT (to ti te : TEd) : TSd := fun D E S M => te S M (fun d M1 => to S M1 (fun x M2 => ti S M2 (fun y M3 => setT x y d M3 (D.nx S)) E) E) E
theorem qs_putT {k : Nat} (hr : Room k X.A) (ho : QE X Ts E o to) (hi : QE X Ts E i ti) (he : QE X Ts E e te) (hs : swapsWithSole [.Subscript o i tpos] e pos.line X.env = pure false := by rfl) (hw : swappedStores [.Subscript o i tpos] e X.env = pure none := by rfl) (h1 : (assignEach [.Subscript o i tpos] X.env).map (·.2) = [assign (.Subscript o i tpos) X.env] := by rfl) :
    (hg : PG X (.Subscript o i tpos) (gSub (rdE X.K Ts E to) (rdE X.K Ts E ti) rSetA)) → QS X Ts E (.Assign [.Subscript o i tpos] e pos) (dPutT to ti te) := fun hg => psLe (ps_asg he hg hs hw h1) fun D σ H ⟨ρ, S, M, Dd, Ed, R, sl, q, k, kr, kb, kc, x⟩ =>
  ⟨ρ, S, M, _, Ed, R, sl, q, fun d M1 q1 ρ1 H1 v g1 R1 s1 => ⟨ρ1, S, M1, _, Ed, R1, sl.grw g1, q1, fun ox M2 q2 ρ2 H2 ov g2 R2 s2 => ⟨ρ2, S, M2, _, Ed, R2, (sl.grw g1).grw g2, q2, fun iy M3 ⟨n, kvs, ds, ks, eo, em, ey, ek, hl, q4⟩ ρ3 H3 iv g3 R3 s3 => by
    subst eo ey
    have sd := Sh.grw g3 _ _ (Sh.grw g2 _ _ s1)
    have sl3 := ((sl.grw g1).grw g2).grw g3
    cases s2 with
    | @obj _ a ea =>
      have ea3 := g3.r _ _ ea
      obtain ⟨a', vs, r1, h1, t1⟩ := R3.dictT em
      rw [ea3] at r1; cases r1
      obtain ⟨b, rfl, hb⟩ := tupKey ek s3
      have hc : CSh X.K Ts.w ρ3 H3 (.dT (putKD kvs ks d)) (.dT (L2.putK vs ks v)) := ⟨_, rfl, t1.putK sd⟩
      have hlen : kvs.length = vs.length := by
        have := congrArg List.length t1.keys
        simpa using this
      exact .inr ⟨a, _, rfl, DPut.t h1 hb (by rw [← hlen]; exact hl), k _ _ q4 ρ3 _ σ (((g1.tr g2).tr g3).tr (grw_set R3 em ea3)) (R3.cellSet em ea3 hc) (sl3.grw (grw_set R3 em ea3))⟩, (x.grw g1).grw g2⟩, x.grw g1⟩, x⟩
def kyI (k : List Int) : D := .tup (k.map D.int)
def getT2 (x y z : D) (M : Mem) (Q : KD) : Prop := ∃ n kvs ds ks, x = .obj n ∧ M[n]? = some (.dT kvs) ∧ y = .tup ds ∧ keysD ds = some ks ∧ Q ((valD kvs ks).getD z) M
end
end Dl
set_option Elab.async false
set_option linter.all false
set_option maxRecDepth 100000
set_option maxHeartbeats 4000000
namespace Dl
open PySem PySem.Spec PyProof.Rows L2 GxR Gn
section
variable {X : Cx} {Ts : Tbs} {E : XK} {pos p apos tpos cpos : Pos} {a b c e o i f : Expr} {es : List Expr} {ta tb to ti te tx : TEd} {t : TAd}
@[simp] def dPar3 (i j l : Nat) (t : TAd) : TSd := fun D E S M => t S M (fun ds M1 => ∃ d e f, ds = [d, e, f] ∧ D.nx (((S.set i (some d)).set j (some e)).set l (some f)) M1) E
theorem qs_putTA {k : Nat} {tpos : Pos} {o i e : Expr} {to ti te : TEd} (hr : Room k X.A) (ho : QE X Ts E o to) (hi : QE X Ts E i ti) (he : QE X Ts E e te) (hs : swapsWithSole [.Subscript o i tpos] e pos.line X.env = pure false := by rfl) (hw : swappedStores [.Subscript o i tpos] e X.env = pure none := by rfl) (h1 : (assignEach [.Subscript o i tpos] X.env).map (·.2) = [assign (.Subscript o i tpos) X.env] := by rfl)
    (ha : ∀ v, assign (.Subscript o i tpos) X.env v = (do
      let ov ← holding [v] (eval o X.env)
      let iv ← holding [v, ov] (eval i X.env)
      standAt tpos
      holding [v, ov, iv] (setItem ov iv v)
      release [v, ov, iv] []) := by intro _; rfl) : QS X Ts E (.Assign [.Subscript o i tpos] e pos) (dPutT to ti te) :=
  qs_putT hr ho hi he hs hw h1 (pg_sub ho hi (set_any (by have := hr.units; omega)) ha)
end
end Dl
set_option Elab.async false
set_option linter.all false
set_option maxRecDepth 100000
set_option maxHeartbeats 4000000
namespace Zn
open PySem PySem.Spec PyProof.Rows L2 GxR
section
end
section
end
end Zn
set_option Elab.async false
set_option linter.all false
set_option maxRecDepth 100000
set_option maxHeartbeats 4000000
namespace Zn
open PySem PySem.Spec PyProof.Rows L2 GxR
section
end
end Zn
set_option Elab.async false
set_option linter.all false
set_option maxRecDepth 100000
set_option maxHeartbeats 4000000
namespace Dl
open PySem PySem.Spec PyProof.Rows L2 GxR Gn
def dropKD {κ : Type} [DecidableEq κ] (kvs : List (κ × D)) (k : κ) : List (κ × D) := kvs.filter fun kv => decide (kv.1 ≠ k)
section
variable {X : Cx} {Ts : Tbs} {E : XK} {pos p apos tpos cpos : Pos} {a b c e o i f : Expr} {es : List Expr} {ta tb to ti te ty tz : TEd} {t : TAd}
/-- d.get(t, x) -/
@[simp] def dGetT (to ty tz : TEd) : TEd := fun S M Q E => to S M (fun x M1 => ∃ n kvs, x = .obj n ∧ M1[n]? = some (.dT kvs) ∧ ty S M1 (fun y M2 => tz S M2 (fun z M3 => getT2 x y z M3 Q) E) E) E
theorem qe_getT {k : Nat} (hr : Room k X.A) (ho : QE X Ts E o to) (he : QE X Ts E e ty) (hf : QE X Ts E f tz) (m : M2 X o "get" apos e f cpos) : QE X Ts E (.Call (.Attribute o "get" apos) [e, f] [] cpos) (dGetT to ty tz) :=
  peLe (pe_dget2 (by have := hr.units; omega) ho he hf m) fun σ H Q ⟨ρ, S, M, Qd, Ed, R, sl, q, k, x⟩ =>
  ⟨ρ, S, M, _, Ed, R, sl, q, fun d M1 ⟨n, kvs, ed, em, q1⟩ ρ1 H1 v g1 R1 s1 => by
    subst ed
    cases s1 with
    | @obj _ a ea =>
      obtain ⟨a', vs, r1, h1, t1⟩ := R1.dictT em
      rw [ea] at r1; cases r1
      refine ⟨_, rfl, .inr ⟨vs, .inl h1⟩, ρ1, S, M1, _, Ed, R1, sl.grw g1, q1, fun y M2 q2 ρ2 H2 yv g2 R2 s2 => ⟨ρ2, S, M2, _, Ed, R2, (sl.grw g1).grw g2, q2, fun z M3 q3 ρ3 H3 zv g3 R3 s3 => ?_, (x.grw g1).grw g2⟩, x.grw g1⟩
      obtain ⟨n', kvs', ds, ks, e1, e2, e3, e4, q4⟩ := q3
      cases e1
      subst e3
      have ea3 := g3.r _ _ (g2.r _ _ ea)
      obtain ⟨b, rfl, hb⟩ := tupKey e4 (Sh.grw g3 _ _ s2)
      obtain ⟨a2, vs2, r2, h2, t2⟩ := R3.dictT e2
      rw [ea3] at r2; cases r2
      refine ⟨valV vs2 ks, DGet.t h2 hb, ?_⟩
      rcases t2.val ks with ⟨z1, z2⟩ | ⟨d', w, z1, z2, z3⟩
      · rw [z1] at q4
        rw [z2]
        exact k _ _ q4 ρ3 H3 _ ((g1.tr g2).tr g3) R3 s3
      · rw [z1] at q4
        rw [z2]
        exact k _ _ q4 ρ3 H3 _ ((g1.tr g2).tr g3) R3 z3, x⟩
/-- d.pop(t), there -/
@[simp] def dPopT (to ty : TEd) : TEd := fun S M Q E => to S M (fun x M1 => ∃ n kvs, x = .obj n ∧ M1[n]? = some (.dT kvs) ∧ ty S M1 (fun y M2 => ∃ kvs2 ds ks v, M2[n]? = some (.dT kvs2) ∧ y = .tup ds ∧ keysD ds = some ks ∧ valD kvs2 ks = some v ∧ Q v (M2.set n (.dT (dropKD kvs2 ks)))) E) E
end
end Dl
set_option Elab.async false
set_option linter.all false
set_option maxRecDepth 100000
set_option maxHeartbeats 4000000
namespace Dl
open PySem PySem.Spec PyProof.Rows L2 GxR Gn
section
end
section
variable {X : Cx} {Ts : Tbs} {E : XK} {pos pos2 p p2 tpos : Pos} {a b : Expr} {t : TAd} {elts : List Expr} {kk : Nat}
@[simp] def dEnumZ (t : TAd) : TId := fun S M Q E => t S M (fun ds M1 => ∃ xs ys, ds = [.tup xs, .tup ys] ∧ Q (enumD (zipD xs ys)) (fun _ => True) M1) E
end
section
end
end Dl
set_option Elab.async false
set_option linter.all false
set_option maxRecDepth 100000
set_option maxHeartbeats 4000000
namespace Dl
open PySem PySem.Spec PyProof.Rows L2 GxR Gn
section
end
end Dl
set_option Elab.async false
set_option linter.all false
set_option maxRecDepth 100000
set_option maxHeartbeats 4000000
namespace Zn
open PySem PySem.Spec PyProof.Rows L2 GxR
end Zn
set_option Elab.async false
set_option linter.all false
set_option maxRecDepth 100000
set_option maxHeartbeats 4000000
namespace Dl
open PySem PySem.Spec PyProof.Rows L2 GxR Gn
section
end
section
variable {X : Cx} {Ts : Tbs} {E : XK} {pos2 p2 tpos : Pos} {a b : Expr} {t : TAd} {elts : List Expr} {kk : Nat}
@[simp] def dZipM (t : TAd) : TId := fun S M Q E => t S M (fun ds M1 => ∃ i xs ys, ds = [.obj i, .tup ys] ∧ M1[i]? = some (.lst xs) ∧ Q (zipD xs ys) (fun M => M[i]? = some (.lst xs)) M1) E
end
end Dl
set_option Elab.async false
set_option linter.all false
set_option maxRecDepth 100000
set_option maxHeartbeats 4000000
namespace Zn
open PySem PySem.Spec PyProof.Rows L2 GxR
end Zn
set_option Elab.async false
set_option linter.all false
set_option maxRecDepth 100000
set_option maxHeartbeats 4000000
namespace Dl
open PySem PySem.Spec PyProof.Rows L2 GxR Gn
section
end
section
variable {X : Cx} {Ts : Tbs} {E : XK} {pos2 p2 tpos : Pos} {a b : Expr} {t : TAd} {elts : List Expr} {kk : Nat}
@[simp] def dZipX (t : TAd) : TId := fun S M Q E => t S M (fun ds M1 => ∃ i xs ys, ds = [.tup xs, .obj i] ∧ M1[i]? = some (.lst ys) ∧ Q (zipD xs ys) (fun M => M[i]? = some (.lst ys)) M1) E
/-- zip of two tuples, two lists, or a tuple and a list -/
@[simp] def dZipG (t : TAd) : TId := fun S M Q E => dZip t S M Q E ∨ dZipX t S M Q E
end
end Dl
set_option Elab.async false
set_option linter.all false
set_option maxRecDepth 100000
set_option maxHeartbeats 4000000
namespace Dl
open PySem PySem.Spec PyProof.Rows L2 GxR Gn
section
variable {X : Cx} {Ts : Tbs} {E : XK} {pos : Pos}
def dGLst (n : Nat) (t : TGsd) : TGd := fun d S M Q => ∃ i ds, d = .obj i ∧ M[i]? = some (.lst ds) ∧ ds.length = n ∧ t ds S M Q
@[simp] theorem dGLst_obj {n i : Nat} {t : TGsd} {S : Sl} {M : Mem} {Q : Sl → Mem → Prop} : dGLst n t (.obj i) S M Q ↔ ∃ ds, M[i]? = some (.lst ds) ∧ ds.length = n ∧ t ds S M Q :=
  ⟨fun ⟨_, ds, e, h⟩ => by cases e; exact ⟨ds, h⟩, fun ⟨ds, h⟩ => ⟨_, ds, rfl, h⟩⟩
end
end Dl
set_option Elab.async false
set_option linter.all false
set_option maxRecDepth 100000
set_option maxHeartbeats 4000000
namespace Dl
open PySem PySem.Spec PyProof.Rows L2 GxR Gn
section
end
section
variable {X : Cx} {Ts : Tbs} {k : Nat} {f C : Addr} {fd : FuncData} {n : Nat} {ps : List Str} {sp : SpD} {E : XK} {x : Str} {p pos : Pos} {e : Expr} {es : List Expr} {t : TAd}
/-- C(..): a new object, then its __init__ -/
@[simp] def dMake (C : Addr) (n : Nat) (sp : SpD) (t : TAd) : TEd := fun S M Q E => t S M (fun ds M1 => ds.length + 1 = n ∧ sp (.obj M1.length :: ds) (M1 ++ [.ins C []]) (fun d M2 => d = .non ∧ Q (.obj M1.length) M2) E) E
end
end Dl
set_option Elab.async false
set_option linter.all false
set_option maxRecDepth 100000
set_option maxHeartbeats 4000000
namespace Zn
open PySem PySem.Spec PyProof.Rows L2 GxR
end Zn
set_option Elab.async false
set_option linter.all false
set_option maxRecDepth 100000
set_option maxHeartbeats 4000000
namespace Dl
open PySem PySem.Spec PyProof.Rows L2 GxR Gn
section
variable {X : Cx} {Ts : Tbs} {E : XK} {pos p apos tpos : Pos} {a e o : Expr} {es : List Expr} {ta te to : TEd} {t : TAd} {C f : Addr} {m : Str}
/-- what the attribute of an object of the class at C is -/
def fldC (C : Addr) (x : Str) (d : D) (M : Mem) (Q : KD) : Prop := ∃ i fs v, d = .obj i ∧ M[i]? = some (.ins C fs) ∧ fs.lookup x = some v ∧ Q v M
@[simp] def dFldC (C : Addr) (x : Str) (t : TEd) : TEd := fun S M Q E => t S M (fun d M1 => fldC C x d M1 Q) E
/-- o.x = e -/
def putC (C : Addr) (x : Str) (d o : D) (M : Mem) (Q : Mem → Prop) : Prop := ∃ i fs, o = .obj i ∧ M[i]? = some (.ins C fs) ∧ fs.length < 1000 ∧ Q (M.set i (.ins C (putD x d fs)))
@[simp] def dPutC (C : Addr) (x : Str) (to te : TEd) : TSd := fun D E S M => te S M (fun d M1 => to S M1 (fun o M2 => putC C x d o M2 (D.nx S)) E) E
/-- o.x op= e -/
def augC (C : Addr) (x : Str) (rd : D → D → Mem → KD → Prop) (te : TEd) (D0 : EndsD) (E : KE') (S : Sl) (o : D) (M : Mem) : Prop := ∃ i fs v, o = .obj i ∧ M[i]? = some (.ins C fs) ∧ fs.lookup x = some v ∧
  te S M (fun d M2 => rd v d M2 fun z M3 => ∃ fs', M3[i]? = some (.ins C fs') ∧ fs'.length < 1000 ∧ D0.nx S (M3.set i (.ins C (putD x z fs')))) E
@[simp] def dAugC (C : Addr) (x : Str) (rd : D → D → Mem → KD → Prop) (to te : TEd) : TSd := fun D E S M => to S M (fun o M1 => augC C x rd te D E S o M1) E
/-- o.m(..) -/
def methC (C : Addr) (m : Str) (o : D) (M : Mem) (K : Prop) : Prop := (∃ i fs, o = .obj i ∧ M[i]? = some (.ins C fs) ∧ fs.lookup m = none) ∧ K
@[simp] def dMethC (C : Addr) (m : Str) (n : Nat) (sp : SpD) (ta : TEd) (t : TAd) : TEd := fun S M Q E => ta S M (fun o M1 => methC C m o M1 (t S M1 (fun ds M2 => ds.length + 1 = n ∧ sp (o :: ds) M2 Q E) E)) E
variable {fd : FuncData} {k n : Nat} {ps : List Str} {sp : SpD}
/-- o.m() -/
@[simp] def dMethC0 (C : Addr) (m : Str) (sp : SpD) (ta : TEd) : TEd := fun S M Q E => ta S M (fun o M1 => methC C m o M1 (sp [o] M1 Q E)) E
/-- {t: v} -/
@[simp] def dDispT (tk tv : TEd) : TEd := fun S M Q E => tk S (M ++ [.dT []]) (fun x M1 => tv S M1 (fun y M2 => M2[M.length]? = some (.dT []) ∧ ∃ ds ks, x = .tup ds ∧ keysD ds = some ks ∧ Q (.obj M.length) (M2.set M.length (.dT [(ks, y)]))) E) E
end
end Dl
set_option Elab.async false
set_option linter.all false
set_option maxRecDepth 100000
set_option maxHeartbeats 4000000
namespace Dl
open PySem PySem.Spec PyProof.Rows L2 GxR Gn
/-- // by a divisor below 2 ^ 9000 either way -/
def CDivA (_ j : Int) : Prop := j ≠ 0 ∧ j.natAbs.log2 < 9000
theorem cdiv_of {i j : Int} {b : Nat} (h : j ≠ 0) (hb : j.natAbs < 2 ^ b) (h9 : b ≤ 9000 := by decide) (h0 : 0 < b := by decide) : CDivA i j := ⟨h, Nat.lt_of_lt_of_le (PySem.Flt.log2_lt_of h0 hb) h9⟩
section
variable {X : Cx} {Ts : Tbs} {E : XK} {pos : Pos} {a b : Expr} {ta tb : TEd}
theorem op_fdivA : OpR X (binaryOp .FloorDiv) (rI CDivA fun i j => .int (i.fdiv j)) := opI fun _ _ _ _ _ _ _ hc q => floordiv_int hc.1 q (.inl (PyProof.noPylong_of_log2 hc.2))
@[simp] def fdivWD := intD CDivA fun i j => .int (i.fdiv j)
theorem qe_fdivW (ha : QE X Ts E a ta) (hb : QE X Ts E b tb) : QE X Ts E (.BinOp a .FloorDiv b pos) (dOp fdivWD ta tb) := qe_op op_fdivA (od_int fun _ _ _ _ => .int _) ha hb
end
end Dl
set_option Elab.async false
set_option linter.all false
set_option maxRecDepth 100000
set_option maxHeartbeats 4000000
namespace Dl
open PySem PySem.Spec PyProof.Rows L2 GxR Gn
section
variable {X : Cx} {Ts : Tbs} {E : XK} {pos p tpos : Pos} {a b e o i : Expr} {es : List Expr} {ta tb to ti : TEd} {t : TAd} {x : Str}
def gcdD : List D → Mem → KD → Prop
  | [.int a, .int b], M, Q => Q (.int ((Nat.gcd a.natAbs b.natAbs : Nat) : Int)) M
  | _, _, _ => False
@[simp] theorem gcdD_int {i j : Int} {M : Mem} {Q : KD} : gcdD [.int i, .int j] M Q ↔ Q (.int ((Nat.gcd i.natAbs j.natAbs : Nat) : Int)) M := Iff.rfl
@[simp] def andD := intD (fun _ _ => True) fun i j => .int (Builtin.bitAnd i j)
/-- o[i] as a target -/
@[simp] def dGSub (to ti : TEd) : TGd := fun d S M Q => to S M (fun x M1 => ti S M1 (fun y M2 => setD x y d M2 (Q S)) (fun _ _ _ => False)) (fun _ _ _ => False)
end
end Dl
set_option Elab.async false
set_option linter.all false
set_option maxRecDepth 100000
set_option maxHeartbeats 4000000
namespace Dl
open PySem PySem.Spec PyProof.Rows L2 GxR Gn
mutual
/-- the key that a datum is -/
def nkD : D → Option NestedKey
  | .non => some .none
  | .int i => some (.num i)
  | .str x => some (.text x)
  | .tup ds => match nksD ds with
    | some ks => some (.tup ks)
    | none => none
  | .bl _ => none
  | .obj _ => none
  | .adr _ => none
  | .ty _ => none
  | .scr _ => none
  | .lam _ _ _ _ _ _ => none
  | .exc _ _ _ => none
def nksD : List D → Option (List NestedKey)
  | [] => some []
  | d :: ds => match nkD d, nksD ds with
    | some k, some ks => some (k :: ks)
    | _, _ => none
end
section
variable {K : PySem.W.Frag} {ρ : Rho} {H : Hp}
abbrev PN (K : PySem.W.Frag) (ρ : Rho) (H : Hp) : List (NestedKey × D) → List Nk.Ent → Prop := Paired fun p q => p.1 = q.1 ∧ Nk.NIs H q.1 (.ref q.2.1) ∧ q.1.depth ≤ 8 ∧ Sh K ρ H p.2 q.2.2
theorem PN.ok {kvs : List (NestedKey × D)} {ws : List Nk.Ent} (h : PN K ρ H kvs ws) : Nk.KeysOk H ws := by
  induction h with
  | nil => intro p hp; cases hp
  | @cons p q ps qs h t ih =>
    intro x hx
    rcases List.mem_cons.mp hx with rfl | hx
    · exact ⟨h.2.1, h.2.2.1⟩
    · exact ih x hx
theorem PN.val {kvs : List (NestedKey × D)} {ws : List Nk.Ent} (h : PN K ρ H kvs ws) (k : NestedKey) : (valD kvs k = none ∧ Nk.valE ws k = none) ∨ ∃ d v, valD kvs k = some d ∧ Nk.valE ws k = some v ∧ Sh K ρ H d v := by
  induction h with
  | nil => exact .inl ⟨rfl, rfl⟩
  | @cons p q ps qs h t ih =>
    obtain ⟨e0, _, _, hs⟩ := h
    by_cases e : p.1 = k
    · have e2 : q.1 = k := e0.symm.trans e
      exact .inr ⟨p.2, q.2.2, by simp [valD, List.find?_cons, e], by simp [Nk.valE, List.find?_cons, e2], hs⟩
    · have e2 : ¬ q.1 = k := fun z => e (e0.trans z)
      have e3 : valD (p :: ps) k = valD ps k := by simp [valD, List.find?_cons, e]
      have e4 : Nk.valE (q :: qs) k = Nk.valE qs k := by simp [Nk.valE, List.find?_cons, e2]
      rw [e3, e4]
      exact ih
theorem valD_any {κ : Type} [DecidableEq κ] (kvs : List (κ × D)) (k : κ) : (kvs.any fun kv => decide (kv.1 = k)) = (valD kvs k).isSome := by
  induction kvs with
  | nil => rfl
  | cons p ps ih =>
    rw [List.any_cons]
    by_cases e : p.1 = k
    · simp [valD, List.find?_cons, e]
    · have e3 : valD (p :: ps) k = valD ps k := by simp [valD, List.find?_cons, e]
      rw [e3, ← ih]
      simp [e]
theorem PN.put {kvs : List (NestedKey × D)} {ws : List Nk.Ent} (h : PN K ρ H kvs ws) {k : NestedKey} {b : Addr} {d : D} {v : V} (n : Nk.NIs H k (.ref b)) (hd : k.depth ≤ 8) (s : Sh K ρ H d v) : PN K ρ H (putKD kvs k d) (Nk.putE ws k b v) := by
  have e : (kvs.any fun kv => decide (kv.1 = k)) = (Nk.valE ws k).isSome := by
    rw [valD_any]
    rcases h.val k with ⟨z1, z2⟩ | ⟨d', w, z1, z2, _⟩ <;> rw [z1, z2] <;> rfl
  unfold putKD Nk.putE
  rw [e]
  split
  · rename_i hs
    clear e hs
    induction h with
    | nil => exact .nil
    | @cons p q ps qs h t ih =>
      rw [List.map_cons, List.map_cons]
      refine .cons ?_ ih
      obtain ⟨h1, h2, h3, h4⟩ := h
      by_cases z : p.1 = k
      · rw [if_pos z, if_pos (h1.symm.trans z)]; exact ⟨h1, h2, h3, s⟩
      · rw [if_neg z, if_neg (fun y => z (h1.trans y))]; exact ⟨h1, h2, h3, h4⟩
  · exact Paired.snoc h ⟨rfl, n, hd, s⟩
variable {Ts : Tbs} {M : Mem}
end
/-- a tuple as a nested key -/
def nkT (y : D) (k : NestedKey) : Prop := (∃ ds, y = .tup ds) ∧ nkD y = some k ∧ k.depth ≤ 8
section
variable {X : Cx} {Ts : Tbs} {E : XK} {pos p apos tpos cpos : Pos} {a b c e o i f : Expr} {es : List Expr} {ta tb to ti te tx ty tz : TEd} {t : TAd}
@[simp] def dNewN : TEd := fun S M Q E => Q (.obj M.length) (M ++ [.dN []])
def ixN (x y : D) (M : Mem) (Q : KD) : Prop := ∃ n kvs k v, x = .obj n ∧ M[n]? = some (.dN kvs) ∧ nkT y k ∧ valD kvs k = some v ∧ Q v M
/-- d[t] = e -/
@[simp] def setN (x y z : D) (M : Mem) (Q : Mem → Prop) : Prop := ∃ n kvs k, x = .obj n ∧ M[n]? = some (.dN kvs) ∧ nkT y k ∧ kvs.length < sizeLine ∧ Q (M.set n (.dN (putKD kvs k z)))
@[simp] def dPutN (to ti te : TEd) : TSd := fun D E S M => te S M (fun d M1 => to S M1 (fun x M2 => ti S M2 (fun y M3 => setN x y d M3 (D.nx S)) E) E) E
/-- d.get(t, x) -/
@[simp] def dGetN (to ty tz : TEd) : TEd := fun S M Q E => to S M (fun x M1 => ∃ n kvs, x = .obj n ∧ M1[n]? = some (.dN kvs) ∧ ty S M1 (fun y M2 => tz S M2 (fun z M3 => ∃ kvs3 k, M3[n]? = some (.dN kvs3) ∧ nkT y k ∧ Q ((valD kvs3 k).getD z) M3) E) E) E
end
end Dl
set_option Elab.async false
set_option linter.all false
set_option maxRecDepth 100000
set_option maxHeartbeats 4000000
namespace Zn
open PySem PySem.Spec PyProof.Rows L2 GxR SrtO
end Zn
namespace Dl
open PySem PySem.Spec PyProof.Rows L2 GxR Gn
section
variable {X : Cx} {Ts : Tbs}
/-- list(d) of a dict whose keys are tuples of ints -/
def lstTD : List D → Mem → KD → Prop
  | [.obj n], M, Q => ∃ (kvs : List (List Key × D)) (ks : List (List Int)), M[n]? = some (.dT kvs) ∧ kvs.map (·.1) = ks.map Zn.kI ∧ Q (.obj M.length) (M ++ [.lst (ks.map kyI)])
  | _, _, _ => False
@[simp] theorem lstTD_obj {n : Nat} {M : Mem} {Q : KD} : lstTD [.obj n] M Q ↔ ∃ (kvs : List (List Key × D)) (ks : List (List Int)), M[n]? = some (.dT kvs) ∧ kvs.map (·.1) = ks.map Zn.kI ∧ Q (.obj M.length) (M ++ [.lst (ks.map kyI)]) := Iff.rfl
/-- sorted(l) of a list of tuples of ints -/
def sortTLD : List D → Mem → KD → Prop
  | [.obj n], M, Q => ∃ ks : List (List Int), M[n]? = some (.lst (ks.map kyI)) ∧ ∀ ks' : List (List Int), ks'.Perm ks → ks'.Pairwise (fun x y => HT.lexLt y x = false) → Q (.obj M.length) (M ++ [.lst (ks'.map kyI)])
  | _, _, _ => False
@[simp] theorem sortTLD_obj {n : Nat} {M : Mem} {Q : KD} : sortTLD [.obj n] M Q ↔ ∃ ks : List (List Int), M[n]? = some (.lst (ks.map kyI)) ∧ ∀ ks' : List (List Int), ks'.Perm ks → ks'.Pairwise (fun x y => HT.lexLt y x = false) → Q (.obj M.length) (M ++ [.lst (ks'.map kyI)]) := Iff.rfl
end
end Dl
set_option Elab.async false
set_option linter.all false
set_option maxRecDepth 100000
set_option maxHeartbeats 4000000
namespace Zn
open PySem PySem.Spec PyProof.Rows L2 GxR
end Zn
namespace Dl
open PySem PySem.Spec PyProof.Rows L2 GxR Gn
section
variable {X : Cx} {Ts : Tbs} {E : XK} {pos : Pos} {o : Expr} {to : TEd} {m : Str}
@[simp] def dGFld (C : Addr) (x : Str) (to : TEd) : TGd := fun d S M Q => to S M (fun o M1 => putC C x d o M1 (Q S)) (fun _ _ _ => False)
end
end Dl
set_option Elab.async false
set_option linter.all false
set_option maxRecDepth 100000
set_option maxHeartbeats 4000000
namespace Dl
open PySem PySem.Spec PyProof.Rows L2 GxR Gn
end Dl
set_option Elab.async false
set_option linter.all false
set_option maxRecDepth 100000
set_option maxHeartbeats 4000000
namespace Dl
open PySem PySem.Spec PyProof.Rows L2 GxR Gn
/-- the turns of the inner clause -/
def lcDi (gd : TGd) (tt : TTd) (te : TEd) (vs : List Nat) (n : Nat) (alive : Mem → Prop) (Nx : Mem → Prop) (S : Sl) : List D → Mem → Prop
  | [], M => alive M ∧ Nx M
  | d :: ds, M => alive M ∧ gd d (wipeD S vs) M fun S1 M1 => tt S1 M1 (fun b M2 => if b = true then te S1 M2 (fun y M3 => ∃ acc, M3[n]? = some (.lst acc) ∧ acc.length < sizeLine ∧ lcDi gd tt te vs n alive Nx S ds (M3.set n (.lst (acc ++ [y])))) E00
      else lcDi gd tt te vs n alive Nx S ds M2) E00
/-- the turns of the outer clause -/
def lcD2 (gd : TGd) (tt : TTd) (ti1 : TId) (gd1 : TGd) (tt1 : TTd) (te : TEd) (vs vs1 : List Nat) (n : Nat) (alive : Mem → Prop) (Q : KD) (S : Sl) : List D → Mem → Prop
  | [], M => alive M ∧ Q (.obj n) M
  | d :: ds, M => alive M ∧ gd d (wipeD S vs) M fun S1 M1 => tt S1 M1 (fun b M2 => if b = true then ti1 S1 M2 (fun ds1 alive1 M3 => lcDi gd1 tt1 te vs1 n alive1 (lcD2 gd tt ti1 gd1 tt1 te vs vs1 n alive Q S ds) S1 ds1 M3) E00
      else lcD2 gd tt ti1 gd1 tt1 te vs vs1 n alive Q S ds M2) E00
@[simp] def dLc2 (ti : TId) (gd : TGd) (tt : TTd) (ti1 : TId) (gd1 : TGd) (tt1 : TTd) (te : TEd) (vs vs1 : List Nat) : TEd := fun S M Q E => ti S M (fun ds alive M1 => lcD2 gd tt ti1 gd1 tt1 te vs vs1 M1.length alive Q S ds (M1 ++ [.lst []])) E
section
end
end Dl
set_option Elab.async false
set_option linter.all false
set_option maxRecDepth 100000
set_option maxHeartbeats 4000000
namespace Dl
open PySem PySem.Spec PyProof.Rows L2 GxR Gn
section
variable {X : Cx} {Ts : Tbs} {E : XK} {pos p apos tpos cpos : Pos} {a b c e o i f tg : Expr} {es : List Expr} {ta tb to ti te ty tz : TEd} {t : TAd} {st : Stmt} {ts : TSd}
theorem Shp.at {K : PySem.W.Frag} {ρ : Rho} {H : Hp} {κ : Type} {ds : List (κ × D)} {vs : List (κ × V)} (h : Shp K ρ H ds vs) : ∀ (i : Nat) (k : κ) (v : V), vs[i]? = some (k, v) → ∃ d, ds[i]? = some (k, d) ∧ Sh K ρ H d v := by
  induction h with
  | nil => intro i k v e; simp at e
  | cons h1 _ ih =>
    intro i k v e
    cases i with
    | zero => simp at e; obtain ⟨rfl, rfl⟩ := e; exact ⟨_, rfl, h1⟩
    | succ i => simpa using ih i k v (by simpa using e)
theorem Rl.lkd {K : PySem.W.Frag} {ρ : Rho} {M : Mem} {H : Hp} (R : Rl K Ts ρ M H) {i : Nat} {ds : List (Key × D)} (e : M[i]? = some (.lkd ds)) : ∃ a od vs, ρ i = some a ∧ H a = some (.frz od (.dK vs)) ∧ Shp K ρ H ds vs := by
  obtain ⟨a, o, e1, e2, od, vs, rfl, s⟩ := R.cell i _ e
  exact ⟨a, od, vs, e1, e2, s⟩
theorem sh_ky {K : PySem.W.Frag} {ρ : Rho} {H : Hp} (k : Key) : Sh K ρ H (kyD k) (kV k) := by
  cases k with
  | inl n => exact .int n
  | inr x => exact .str x
section
end
@[simp] def dVals (to : TEd) : TId := fun S M Q E => to S M (fun x M1 => ∃ n kvs, x = .obj n ∧ M1[n]? = some (.lkd kvs) ∧ Q (kvs.map (·.2)) (fun _ => True) M1) E
@[simp] def dKeys (to : TEd) : TId := fun S M Q E => to S M (fun x M1 => ∃ n kvs, x = .obj n ∧ M1[n]? = some (.lkd kvs) ∧ Q (kvs.map fun kv => kyD kv.1) (fun _ => True) M1) E
@[simp] def dItems (to : TEd) : TId := fun S M Q E => to S M (fun x M1 => ∃ n kvs, x = .obj n ∧ M1[n]? = some (.lkd kvs) ∧ Q (kvs.map fun kv => .tup [kyD kv.1, kv.2]) (fun _ => True) M1) E
@[simp] def dPopK (to ty tz : TEd) : TEd := fun S M Q E => to S M (fun x M1 => ∃ n kvs, x = .obj n ∧ M1[n]? = some (.dK kvs) ∧ ty S M1 (fun y M2 => tz S M2 (fun z M3 => ∃ kvs3 k, M3[n]? = some (.dK kvs3) ∧ keyOf y = some k ∧ (∀ v, valD kvs3 k = some v → Q v (M3.set n (.dK (dropKD kvs3 k)))) ∧ (valD kvs3 k = none → Q z M3)) E) E) E
@[simp] def dDel (to ty : TEd) : TSd := fun D E S M => to S M (fun x M1 => ty S M1 (fun y M2 => ∃ n kvs k v, x = .obj n ∧ M2[n]? = some (.dK kvs) ∧ keyOf y = some k ∧ valD kvs k = some v ∧ D.nx S (M2.set n (.dK (dropKD kvs k)))) E) E
end
end Dl
set_option Elab.async false
set_option linter.all false
set_option maxRecDepth 100000
set_option maxHeartbeats 4000000
namespace PySem
namespace ErrX
open PySem.W PySem.Calls PyProof.Rows PySem.HandSPX
/-- the mro of Exception -/
abbrev eT : List Value := [.type "Exception", .type "BaseException", .type "object"]
def iA (p1 p2 : Pos) : Arguments := { posonlyargs := [], args := [{ arg := "self", annotation := none, pos := p1 }, { arg := "thing", annotation := none, pos := p2 }], vararg := none, kwonlyargs := [], kw_defaults := [], kwarg := none, defaults := [] }
def iB (q1 q2 q3 q4 : Pos) : List Stmt := [.Assign [.Attribute (.Name "self" q1) "thing" q2] (.Name "thing" q3) q4]
def iS : Scope := { kind := .function, names := [(PySem.Str.ofString "self", .local), (PySem.Str.ofString "thing", .local)], isGenerator := false, isCoroutine := false, more := [] }
/-- what the written part says of the class x, at C, and of its __init__, at fI -/
structure ErrTxt (K : Frag) (mg : Str → Option Value) (x : Str) (C fI : Addr) : Prop where
  gC : mg x = some (.ref C)
  xi : excInitIn K C eT "Exception.__new__" = true
  xo : excOver K C eT = true
  sa : findIn K (.ref C) "__setattr__" = some (some (.builtin "object.__setattr__"))
  ga : findIn K (.ref C) "__getattribute__" = some (some (.builtin "BaseException.__getattribute__"))
  gg : findIn K (.ref C) "__getattr__" = some none
  noN : findIn K (.ref C) "thing" = some none
  iC : findIn K (.ref C) "__init__" = some (some (.ref fI))
  tC : typeIn K (.ref fI) = some (.type "function")
  kC : keepIn K (.ref C) = true
  exC : subIn K (.ref C) (.type "BaseException") = some true
  tyC : typeIn K (.ref C) = some (.type "type")
  hdC : hasDictIn K C = true
  fn : ∃ (oc : Value) (od : Option Addr) (kV doc pm : Value) (an : Option Addr) (cdv ct : Value) (osl : Array (Option Value)) (q : Str) (p1 p2 q1 q2 q3 q4 : Pos),
    K.lookup fI = some ⟨oc, od, .func (fnOf "__init__" q (iA p1 p2) (iB q1 q2 q3 q4) iS .none kV doc pm an cdv ct), osl⟩ ∧ codeIn K cdv q = true
theorem one_size (v : Value) : [v].length ≤ sizeLine := by
  rw [sizeLine_eq]
  exact (by decide : 1 ≤ 16777216)
theorem ldC {M : Model} {s : Shared} {name : Str} {scope : Scope} {L a : Addr} {cd : Value} {m : Str → Option Value} {x : Str} {pos : Pos} {v : Value} {Q : Value → Shared → Prop} {A : Around} {E : Value → Shared → Prop} (hn : s.heap.Ns L m) (hv : m x = some v) (h : Q v s)
    (hk : scope.kind = .function := by rfl) (hl : (envOfC name scope L a cd).kindOf x = some .local := by rfl) (hd : (x == ("__debug__" : Str)) = false := by decide) :
    wpAny M A (eval (.Name x pos) (envOfC name scope L a cd)) Q E s := wpAny_Name (wpAny_loadName_local hk hl hn hv h) hd
/-- what __init__ leaves of a fresh exception at x -/
structure InitEnd (h h' : Heap) (x C dx t1 : Addr) (v : Value) : Prop where
  keep : ∀ b o, b ≠ x → h.get? b = some o → h'.get? b = some o
  obj : h'.get? x = some { cls := .ref C, dict := some dx, data := .fields #[.ref t1, .none, .none, .none, .bool false, .none] }
  dbig : h.objs.size ≤ dx
  dne : dx ≠ x
  ns : h'.Ns1 dx (fun y => if y = "thing" then some v else none)
/-- a made error -/
structure OwnMade (h h' : Heap) (e C d : Addr) (v : Value) : Prop where
  keep : ∀ b o, h.get? b = some o → h'.get? b = some o
  new : h.objs.size ≤ e
  obj : ∃ oe vs, h'.get? e = some oe ∧ oe.cls = .ref C ∧ oe.dict = some d ∧ oe.data = .fields vs ∧ vs[1]? = some .none
  dbig : h.objs.size ≤ d
  dne : d ≠ e
  ns : h'.Ns1 d (fun y => if y = "thing" then some v else none)
section
variable {prog : Program} {w : World} {A : Around} {E : Value → Shared → Prop} {R : Result → Shared → Prop} {s : Shared} {K : Frag} {mg : Str → Option Value} {C fI : Addr} {x : Str}
open Builtin Builtin.ObjectAttr in
/-- the first store to a fresh error -/
theorem set_new {name : Str} {tk : Tok} {v : Value} {y : Addr} {fv : Array Value} (X : K.In s.heap) (hx : s.heap.get? y = some { cls := .ref C, data := .fields fv }) (xo : excOver K C eT = true) (hd : hasDictIn K C = true) (ha : findIn K (.ref C) name = some none)
    (hq : ∀ h' tk' dx, (∀ b o, b ≠ y → s.heap.get? b = some o → h'.get? b = some o) → s.heap.objs.size ≤ dx → dx ≠ y → h'.get? y = some { cls := .ref C, dict := some dx, data := .fields fv } → h'.Ns1 dx (fun z => if z = name then some v else none) →
      R (.ok (.ret .none)) { s with heap := h', toks := tk' }) :
    codeAny (model prog w) A (.call (.builtin "object.__setattr__") ⟨[.ref y, .str name tk, v], []⟩) R s := by
  have I : InstAt s.heap y { cls := .ref C, data := .fields fv } C none := ⟨hx, rfl, rfl, trivial⟩
  have hys : y ≠ s.heap.objs.size := Nat.ne_of_lt (Heap.lt_size hx)
  refine osa_openX F.store_Exception X I xo (r := none) (by unfold takerIn; rw [ha]; rfl) fun b => ?_
  obtain ⟨cd, hc, hd'⟩ := any_some hd
  have Lc : Looks (model prog w) s.heap (classData C) cd := looks_clsIn X hc
  obtain ⟨hp, g, d, t, os⟩ := s
  obtain ⟨nm, bs, mro, ns, qn, dd, sn, sb, ab, col, del⟩ := cd
  dsimp only at hd'
  subst hd'
  show wpAny _ _ (storeInOwnDict (.ref y) (.ref C) (.str name tk) name v b) _ _ _
  unfold storeInOwnDict ownDictForStores
  repeat (first | with_reducible refine store_in_new ?_ ?_ | with_reducible refine wpAny_loadPart_at hx ?_ | with_reducible refine Lc.at ?_ | wp_step)
  · refine ⟨_, #[], _, (Heap.get?_update_ne _ _ _ _ hys.symm).trans (Heap.get?_push_at rfl rfl), rfl, fun e he => absurd he (by simp), fun _ => rfl⟩
  · intro h' tk' hn' hs
    have hx1 : (hp.push { cls := .type "dict", data := .dict #[] }).get? y = some { cls := .ref C, data := .fields fv } := Heap.get?_push_of_some _ hx
    refine hq h' tk' hp.objs.size (fun c o hb ho => ?_) (Nat.le_refl _) hys.symm ((hs.2 y hys).trans (Heap.get?_update_self _ hx1 rfl)) hn'
    have q1 := hs.2 c (Nat.ne_of_lt (Heap.lt_size ho))
    rw [q1, Heap.get?_update_ne _ _ _ _ hb]
    exact Heap.get?_push_of_some _ ho
theorem err_init (T : ErrTxt K mg x C fI) {y t0 : Addr} {v : Value} (X : K.In s.heap) (hlim : s.heap.NoLimit) (hx : s.heap.get? y = some (excO C t0)) (hroom : A.depth < recursionLimit)
    (hq : ∀ h' tk dx, InitEnd s.heap h' y C dx t0 v → R (.ok (.ret .none)) { s with heap := h', toks := tk }) :
    codeAny (model prog w) A (.call (.ref fI) ⟨[.ref y, v], []⟩) R s := by
  obtain ⟨oc, od, kV, doc, pm, an, cdv, ct, osl, qn, p1, p2, q1, q2, q3, q4, ho, hcd⟩ := T.fn
  refine Att.call_fn (binds := [("self", .ref y), ("thing", v)]) X hlim ho hcd hroom (BindsTo.of_eq (by first | rfl | with_unfolding_all rfl)) (by first | rfl | decide | with_unfolding_all rfl) (fun s₁ IC => ?_) rfl rfl rfl
  obtain ⟨h₁, tk₁, rfl⟩ := IC.toInCall.same
  have k : ∀ b o, s.heap.get? b = some o → h₁.get? b = some o := IC.toInCall.keep
  have hn := IC.toInCall.ns
  have X₁ : K.In h₁ := X.keeps k
  have hx₁ := k _ _ hx
  -- self.thing = thing
  show wpAny _ _ (execs _ _) _ _ _
  refine wpAny_execs_cons (plainObj_wpAny_Assign_Attribute ?_)
  refine ldC (v := v) hn (by first | rfl | with_unfolding_all rfl | kernel_rfl) (ldC (v := .ref y) hn (by first | rfl | with_unfolding_all rfl | kernel_rfl) ?_)
  refine set_plain X₁ (ox := excO C t0) (od := none) ⟨hx₁, rfl, rfl, trivial⟩ T.sa ?_
  refine set_new (s := ⟨h₁, _, _, _, _⟩) X₁ hx₁ T.xo T.hdC T.noN (fun h₃ tk₃ dx k₃ dn dne hx₃ hn₃ => ?_)
  show wpAny _ _ (execs _ _) _ _ _
  have z : s.heap.objs.size < h₁.objs.size := hn.lt
  exact wpAny_execs_nil (hq h₃ tk₃ dx ⟨fun b o hb e => k₃ b o hb (k b o e), hx₃, Nat.le_of_lt (Nat.lt_of_lt_of_le z dn), dne, hn₃⟩)
theorem err_made (T : ErrTxt K mg x C fI) {v : Value} (X : K.In s.heap) (hlim : s.heap.NoLimit) (hroom : A.depth + 1 < recursionLimit)
    (hq : ∀ h' tk e d, OwnMade s.heap h' e C d v → R (.ok (.ret (.ref e))) { s with heap := h', toks := tk }) :
    codeAny (model prog w) A (.call (.ref C) ⟨[v], []⟩) R s := by
  obtain ⟨hp, g, dr, tk, os⟩ := s
  obtain ⟨nm, N, qn, bs, bm, hdct, sn, sub, ab, col, dd, k0, k1, k2, k3, k5, hC, hT⟩ := excInit_of X T.xi
  have k : ∀ b o, hp.get? b = some o → ((hp.push (kdv_tup [v])).push (excO C hp.objs.size)).get? b = some o := fun b o e => Heap.get?_push_of_some _ (Heap.get?_push_of_some _ e)
  have hget : ((hp.push (kdv_tup [v])).push (excO C hp.objs.size)).get? (hp.objs.size + 1) = some (excO C hp.objs.size) := by heap_get
  refine call_own F.excBase_Exception hT hC (looks_findIn X T.iC) (fun self => bind_fn X self T.tC) (one_size v) ?_
  refine err_init (s := ⟨(hp.push (kdv_tup [v])).push (excO C hp.objs.size), g, dr, tk, os⟩) T (X.keeps k) (hlim.keeps k) hget ?_ fun h' tk' dx ⟨k', hx, dn, dne, hns⟩ => ?_
  · show A.depth + 1 < recursionLimit
    exact hroom
  · have old : ∀ b o, hp.get? b = some o → h'.get? b = some o := fun b o e => k' b o (Nat.ne_of_lt (Nat.lt_succ_of_lt (Heap.lt_size e))) (k b o e)
    have z : hp.objs.size + 1 + 1 ≤ dx := by
      first
        | (simpa only [Heap.size_push] using dn)
        | exact dn
        | (have q := dn; rw [Heap.size_push, Heap.size_push] at q; exact q)
    exact ⟨rfl, hq h' tk' (hp.objs.size + 1) dx ⟨old, Nat.le_succ _, ⟨_, _, hx, rfl, rfl, rfl, rfl⟩, Nat.le_trans (Nat.le_trans (Nat.le_succ _) (Nat.le_succ _)) z, dne, hns⟩⟩
end
end ErrX
end PySem
namespace Zn
open PySem PySem.Spec PyProof.Rows L2 GxR
theorem relO_thing {v : V} {v' : Value} (r : RelV v v') (f : Str) : RelO (List.lookup f [(("thing" : Str), v)]) (if f = "thing" then some v' else none) := by
  by_cases hw : f = "thing"
  · subst hw
    rw [if_pos rfl]
    have q : List.lookup ("thing" : Str) [(("thing" : Str), v)] = some v := by simp [List.lookup]
    rw [q]
    exact r
  · rw [if_neg hw]
    have qw : (f == ("thing" : Str)) = false := by simpa using hw
    have q2 : List.lookup f [(("thing" : Str), v)] = none := by simp [List.lookup, qw]
    rw [q2]
    trivial
section
variable {X : Cx} {C fI : Addr} {x : Str}
/-- C(e) -/
def tMkErr (C : Addr) (ta : TA) : L2.St → Hp → XK → Prop := fun σ H Q => ta σ H fun vs H1 => ∃ v, vs = [v] ∧ ∀ d, H1 d = none → Q (.ref C) (some d) (upd H1 d (.xd [(("thing" : Str), v)]))
theorem pmk_err {a : Expr} {ta : TA} {p pos : Pos} {k : Nat} (T : PySem.ErrX.ErrTxt X.K X.mg x C fI) (hr : Room k X.A) (ha : PA X [a] ta) (hg : Gl X x) (hdb : (x == ("__debug__" : Str)) = false := by decide)
    (he : starEach (a :: []) X.env = (false, eval a X.env) :: starEach [] X.env := by rfl) (hpl : (backTo pos (starEach [] X.env)).any (·.1) = false := by rfl) :
    PMk X (.Call (.Name x p) [a] [] pos) (tMkErr C ta) := by
  intro pins s σ H Q I h
  refine wpAny_Call_Name_kw (ld_glob I hg T.gC ?_ hdb)
  refine PySem.W.callWith_K (h₀ := X.base) I.ok.mod.kin T.kC (thn (ha.run pos pins s σ H _ I h) fun us s1 hh => ?_) he hpl
  obtain ⟨vs, H1, I1, r1, v, ev, q1⟩ := hh
  subst ev
  refine ⟨I1.kIn, ?_⟩
  cases r1 with
  | cons rv rn =>
    rename_i v' us'
    cases rn
    show wpAny _ _ (call (.ref C) [v']) _ _ _
    have hlim := I1.nolimit
    obtain ⟨hp, g, dr, tk, os⟩ := s1
    refine wpAny_call (PySem.ErrX.err_made T I1.kIn hlim (by have := hr.dp; omega) fun h' tk' e d M => ?_)
    show MkP X pins σ Q (.ref e) ⟨h', g, dr, tk', os⟩
    obtain ⟨oe, fv, hoe, hc, hd, hdat, h1⟩ := M.obj
    have hns := M.ns
    obtain ⟨G', g1, g2⟩ := restrict h' fun b => decide (b ≠ e)
    have gk : ∀ b, b ≠ e → G'.get? b = h'.get? b := fun b hb => g1 b (decide_eq_true hb)
    have ge : G'.get? e = none := g2 e (by simp)
    have old : ∀ b o, hp.get? b = some o → G'.get? b = some o := fun b o q => (gk b (Nat.ne_of_lt (Nat.lt_of_lt_of_le (Heap.lt_size q) M.new))).trans (M.keep b o q)
    have ob : ObjOk X.prog X.w (upd H1 d (.xd [(("thing" : Str), v)])) G' d (.xd [(("thing" : Str), v)]) :=
      ⟨_, hns.at (fun o q => (gk d M.dne).trans q), fun f => relO_thing rv f⟩
    have J : Inv X pins σ (upd H1 d (.xd [(("thing" : Str), v)])) ⟨G', g, dr, tk', os⟩ := I1.laid (t' := tk') old M.dbig ob
    refine ⟨e, oe, fv, ⟨G', g, dr, tk', os⟩, _, .ref C, some d, rfl, J, fun b o q => ?_, ge, hoe, ⟨hc, hd⟩, hdat, h1, ?_, rfl, I1.bare, raises_own T.exC T.tyC, q1 d (I1.hok.fresh M.dbig)⟩
    · by_cases hb : b = e
      · have q' : G'.get? b = some o := q
        rw [hb, ge] at q'; cases q'
      · exact (gk b hb).symm.trans q
    · rw [upd_ne (Ne.symm M.dne)]
      exact I1.hok.fresh M.new
/-- raise C(e) -/
def tRaiseErr (C : Addr) (W : WX) (ta : TA) : TS := fun _ σ H => tMkErr C ta σ H fun cls d H' => W cls d σ H'
theorem ps_raiseErr {a : Expr} {ta : TA} {W : WX} {p pos pos2 : Pos} {k : Nat} (hc : X.calm = true) (T : PySem.ErrX.ErrTxt X.K X.mg x C fI) (hr : Room k X.A) (tk : Takes X W) (ha : PA X [a] ta) (hg : Gl X x) (hdb : (x == ("__debug__" : Str)) = false := by decide)
    (he : starEach (a :: []) X.env = (false, eval a X.env) :: starEach [] X.env := by rfl) (hpl : (backTo pos (starEach [] X.env)).any (·.1) = false := by rfl) :
    PS X (.Raise (some (.Call (.Name x p) [a] [] pos)) none pos2) (tRaiseErr C W ta) := ps_raise hc tk (pmk_err T hr ha hg hdb he hpl)
end
end Zn
set_option Elab.async false
set_option linter.all false
set_option maxRecDepth 100000
set_option maxHeartbeats 4000000
namespace LamX
open PySem PySem.Spec PyProof.Rows L2
section
end
end LamX
namespace LamX
open PySem PySem.Spec PyProof.Rows L2 Gn
section
end
section
end
end LamX
set_option Elab.async false
set_option linter.all false
set_option maxRecDepth 100000
set_option maxHeartbeats 4000000
namespace Dl
open PySem PySem.Spec PyProof.Rows L2 GxR Gn
section
variable {X : Cx} {Ts : Tbs} {E : XK} {pos p apos : Pos} {a b c e : Expr} {es : List Expr} {ta tb te : TEd} {t : TAd}
@[simp] def dRaise (C : Addr) (te : TEd) : TSd := fun _ E S M => te S M (fun d M1 => E C d M1) E
theorem qs_raise {C fI : Addr} {x : Str} {p pos pos2 : Pos} {k : Nat} (hc : X.calm = true) (T : PySem.ErrX.ErrTxt X.K X.mg x C fI) (hr : RoomG k X.A) (tk : Takes X (fun c d _ H => E c d H)) (ha : QE X Ts E a te) (hg : Gl X x) (hdb : (x == ("__debug__" : Str)) = false := by decide)
    (he : starEach (a :: []) X.env = (false, eval a X.env) :: starEach [] X.env := by rfl) (hpl : (backTo pos (starEach [] X.env)).any (·.1) = false := by rfl) :
    QS X Ts E (.Raise (some (.Call (.Name x p) [a] [] pos)) none pos2) (dRaise C te) :=
  psLe (Zn.ps_raiseErr hc T hr.r tk (qa_cons ha qa_nil he) hg hdb he hpl) fun D σ H ⟨ρ, S, M, Dd, Ed, R, sl, q, kn, kr, kb, kc, x⟩ => by
    refine ⟨ρ, S, M, fun ds M' => ∃ d, ds = [d] ∧ Ed C d M', Ed, R, sl, ?_, fun ds M' ⟨d, eds, q1⟩ ρ1 H1 vs g1 R1 s1 => ?_, x⟩
    · have q : te S M (fun d M1 => Ed C d M1) Ed := q
      exact cast (by
        have : (fun d M1 => Ed C d M1) = (fun d M1 => ∃ d', [d] = [d'] ∧ Ed C d' M1) := by
          funext d M1
          exact propext ⟨fun h => ⟨d, rfl, h⟩, fun ⟨d', e, h⟩ => by cases e; exact h⟩
        rw [this]
        rfl) q
    · subst eds
      cases s1 with
      | cons h1 h2 =>
        cases h2
        refine ⟨_, rfl, fun dd hd => ?_⟩
        exact x C d M' q1 ρ1 _ dd _ (g1.tr (grw_new hd)) (R1.new hd) upd_same (Sh.grw (grw_new hd) _ _ h1)
/-- the suite's ends: its name is gone -/
@[simp] def gone (i : Nat) (Dd : EndsD) : EndsD := { nx := fun S M => Dd.nx (S.set i none) M, rt := Dd.rt, bk := fun S M => Dd.bk (S.set i none) M, ct := fun S M => Dd.ct (S.set i none) M }
@[simp] def dTryAs (cs : Nat → Addr) (js : List Nat) (N i : Nat) (tb : TSd) (su : Nat → Addr → Addr → TSd) : TSd := fun Dd E S M =>
  tb Dd (fun C d M' => ∃ j, j ∈ js ∧ C = cs j ∧ ∀ a dx, su j a dx (gone i Dd) E00 ((List.replicate N none).set i (some (.exc a dx d))) M') S M
end
end Dl
set_option Elab.async false
set_option linter.all false
set_option maxRecDepth 100000
set_option maxHeartbeats 4000000
namespace Dl
open PySem PySem.Spec PyProof.Rows L2 GxR Gn
/-- what a class of errors must say, so that isinstance asks its instances rightly and their fields are read -/
structure ExK (K : PySem.W.Frag) (C : Addr) : Prop where
  cl : (PySem.W.clsIn K C).isSome = true
  ga : PySem.W.findIn K (.ref C) "__getattribute__" = some (some (.builtin "BaseException.__getattribute__"))
  gg : PySem.W.findIn K (.ref C) "__getattr__" = some none
  ex : PySem.W.subIn K (.ref C) (.type "BaseException") = some true
  hd : PySem.W.hasDictIn K C = true
  ac : PySem.W.findIn K (.ref C) "__class__" = some (some (.builtin "object.__class__"))
  hn : PySem.W.specialIn K (.builtin "object.__class__") "__get__" = some (some (.builtin "getset_descriptor.__get__"))
  ht : PySem.W.takesIn K (.builtin "object.__class__") = some true
  hm : PySem.W.mroIn K C (.type "object") = some true
section
variable {X : Cx} {Ts : Tbs} {E : XK} {pos p apos : Pos} {e : Expr} {es : List Expr} {ta tb te : TEd} {t : TAd} {ea dx C : Addr} {oe : Obj} {pn : List (Addr × Obj)}
def isXD (a dx B : Addr) (b : Bool) : List D → Mem → KD → Prop := fun ds M Q => ∃ d, ds = [.exc a dx d, .adr B] ∧ Q (.bl b) M
@[simp] theorem isXD_at {a dx K : Addr} {b : Bool} {d : D} {M : Mem} {Q : KD} : isXD a dx K b [.exc a dx d, .adr K] M Q ↔ Q (.bl b) M := ⟨fun ⟨_, _, q⟩ => q, fun q => ⟨d, rfl, q⟩⟩
/-- e.thing -/
@[simp] def dThing (a dx : Addr) (te : TEd) : TEd := fun S M Q E => te S M (fun x M1 => ∃ d, x = .exc a dx d ∧ Q d M1) E
end
/-- what a lambda does when it is called -/
abbrev LamD := Mem → KD → KE' → Prop
/-- call(), in the def that got the lambda l as its slot 0 -/
@[simp] def dAct (l : D) (tl : LamD) : TEd := fun S M Q E => S[0]? = some (some l) ∧ tl M Q E
@[simp] def dLam (sp : LamD → Mem → KD → Prop) (te : TEd) : TEd := fun S M Q _ => sp (fun M' Q' E' => te S M' Q' E') M Q
section
end
end Dl
set_option Elab.async false
set_option linter.all false
set_option maxRecDepth 100000
set_option maxHeartbeats 4000000
namespace Dl
open PySem PySem.Spec PyProof.Rows L2 GxR Gn
section
end
end Dl
set_option Elab.async false
set_option linter.all false
set_option maxRecDepth 100000
set_option maxHeartbeats 4000000
namespace Dl
open PySem PySem.Spec PyProof.Rows L2 GxR Gn
section
end
end Dl
set_option Elab.async false
set_option linter.all false
set_option maxRecDepth 100000
set_option maxHeartbeats 4000000
namespace PySem.SeqAt
open AutoSeq1 (wpAny_loadPart')
open MeetsSeq
end PySem.SeqAt
namespace Dl
open PySem PySem.Spec PyProof.Rows L2 GxR Gn
section
end
section
end
end Dl
set_option Elab.async false
set_option linter.all false
set_option maxRecDepth 100000
set_option maxHeartbeats 4000000
namespace Dl
open PySem PySem.Spec PyProof.Rows L2 GxR Gn
section
variable {X : Cx} {Ts : Tbs}
def LcmB (a : Int) : Prop := a.natAbs < 2 ^ 13000
def lcmD : List D → Mem → KD → Prop
  | [.int a, .int b], M, Q => LcmB a ∧ LcmB b ∧ Q (.int ((Nat.lcm a.natAbs b.natAbs : Nat) : Int)) M
  | _, _, _ => False
@[simp] theorem lcmD_int {i j : Int} {M : Mem} {Q : KD} : lcmD [.int i, .int j] M Q ↔ LcmB i ∧ LcmB j ∧ Q (.int ((Nat.lcm i.natAbs j.natAbs : Nat) : Int)) M := Iff.rfl
end
end Dl
set_option Elab.async false
set_option linter.all false
set_option maxRecDepth 100000
set_option maxHeartbeats 4000000
namespace Dl
open PySem PySem.Spec PyProof.Rows L2 GxR Gn
section
variable {X : Cx} {Ts : Tbs} {E : XK} {elts : List Expr} {kk : Nat} {tpos pos2 : Pos} {a b : Expr} {t : TAd}
@[simp] def dZipO (t : TAd) : TId := fun S M Q E => dZip t S M Q E ∨ dZipM t S M Q E
end
end Dl
set_option Elab.async false
set_option linter.all false
set_option maxRecDepth 100000
set_option maxHeartbeats 4000000
namespace Dl
open PySem PySem.Spec PyProof.Rows L2 GxR Gn
mutual
inductive DpA (K : PySem.W.Frag) (H : Hp) : V → PyData → Prop
  | pl {v : V} {d : PyData} (h : Dp K H v d) (hp : (∀ ds, d ≠ .list ds) ∧ ∀ ds, d ≠ .tuple ds) : DpA K H v d
  | ls {a : Addr} {xs : List V} {ds : List PyData} (h : SqL K H a xs) (hs : DpAs K H xs ds) : DpA K H (.ref a) (.list ds)
  | tp {a : Addr} {xs : List V} {ds : List PyData} (h : SqT K H a xs) (hs : DpAs K H xs ds) : DpA K H (.ref a) (.tuple ds)
  | dE {a : Addr} (h : H a = some (.dK [])) : DpA K H (.ref a) (.dict [])
inductive DpAs (K : PySem.W.Frag) (H : Hp) : List V → List PyData → Prop
  | none : DpAs K H [] []
  | more {v : V} {vs : List V} {d : PyData} {ds : List PyData} (h : DpA K H v d) (hs : DpAs K H vs ds) : DpAs K H (v :: vs) (d :: ds)
end
/-- what a value gives repr from within another's -/
structure RpA (P : Program) (w : World) (h : Heap) (u : Value) (d : PyData) : Prop where
  rd : ∃ as, Reads h u d as
  rp : ∃ bs, ReadAtMost h d.depth bs ∧ ReprK P w bs h d.depth u d.shown
structure RpAs (P : Program) (w : World) (h : Heap) (us : List Value) (ds : List PyData) : Prop where
  rd : ∃ as, ReadsAll h us ds as
  rp : ∃ bs, ReadAtMost h (PyData.depthAll ds) bs ∧ ReprAllK P w bs h (PyData.depthAll ds) us (PyData.shownAll ds)
section
variable {P : Program} {w : World} {h : Heap}
theorem RpAs.cons {u : Value} {d : PyData} {us : List Value} {ds : List PyData} (a : RpA P w h u d) (b : RpAs P w h us ds) : RpAs P w h (u :: us) (d :: ds) := by
  obtain ⟨⟨as, r1⟩, xs, a1, a2⟩ := a
  obtain ⟨⟨bs, r2⟩, ys, b1, b2⟩ := b
  have ml := Nat.le_max_left d.depth (PyData.depthAll ds)
  have mr := Nat.le_max_right d.depth (PyData.depthAll ds)
  refine ⟨⟨_, .cons r1 r2⟩, xs ++ ys, ?_, ?_⟩
  · rw [PyData.depthAll]
    exact (a1.mono ml).append (b1.mono mr)
  · rw [PyData.depthAll, PyData.shownAll]
    refine .cons ((a2.more fun z hz => List.mem_append.mpr (.inl hz)).level_le ml) (b2.more_le (fun z hz => List.mem_append.mpr (.inr hz)) mr)
theorem RpAs.nil : RpAs P w h [] [] := ⟨⟨_, .nil⟩, [], fun b hb => (by cases hb), by rw [PyData.shownAll]; exact .nil⟩
end
section
end
section
end
end Dl
set_option Elab.async false
set_option linter.all false
set_option maxRecDepth 100000
set_option maxHeartbeats 4000000
namespace Dl
open PySem PySem.Spec PyProof.Rows L2 GxR Gn
def isTxD (s : Str) : D → Bool
  | .str z => decide (z = s)
  | _ => false
section
end
section
end
end Dl
set_option Elab.async false
set_option linter.all false
set_option maxRecDepth 100000
set_option maxHeartbeats 4000000
namespace Dl
open PySem PySem.Spec PyProof.Rows L2 GxR Gn
mutual
/-- a datum of any kind: of dicts only {} -/
inductive AnyD (M : Mem) : D → PyData → Prop
  | non : AnyD M .non .none
  | bl {b : Bool} : AnyD M (.bl b) (.bool b)
  | int {i : Int} : AnyD M (.int i) (.int i)
  | str {x : Str} : AnyD M (.str x) (.str x)
  | tup {ds : List D} {ps : List PyData} (h : AnyDs M ds ps) : AnyD M (.tup ds) (.tuple ps)
  | lst {i : Nat} {ds : List D} {ps : List PyData} (e : M[i]? = some (.lst ds)) (h : AnyDs M ds ps) : AnyD M (.obj i) (.list ps)
  | dct {i : Nat} (e : M[i]? = some (.dK [])) : AnyD M (.obj i) (.dict [])
inductive AnyDs (M : Mem) : List D → List PyData → Prop
  | nil : AnyDs M [] []
  | cons {d : D} {ds : List D} {p : PyData} {ps : List PyData} (h : AnyD M d p) (hs : AnyDs M ds ps) : AnyDs M (d :: ds) (p :: ps)
end
section
variable {K : PySem.W.Frag} {Ts : Tbs} {ρ : Rho} {M : Mem} {H : Hp}
mutual
theorem AnyD.dp (R : Rl K Ts ρ M H) : ∀ {d : D} {p : PyData} {v : V}, AnyD M d p → Sh K ρ H d v → DpA K H v p
  | _, _, _, .non, h => by cases h; exact .pl .non ⟨(fun _ e => by cases e), (fun _ e => by cases e)⟩
  | _, _, _, .bl, h => by cases h; exact .pl (.bl _) ⟨(fun _ e => by cases e), (fun _ e => by cases e)⟩
  | _, _, _, .int, h => by cases h; exact .pl (.int _) ⟨(fun _ e => by cases e), (fun _ e => by cases e)⟩
  | _, _, _, .str, h => by cases h; exact .pl (.str _) ⟨(fun _ e => by cases e), (fun _ e => by cases e)⟩
  | _, _, _, .tup hs, h => by
    cases h with
    | tup h1 h2 => exact .tp (SqT.of h1) (AnyDs.dp R hs h2)
  | _, _, _, .lst em hs, h => by
    obtain ⟨a, vs, r1, g1, s1⟩ := R.lst em
    cases h with
    | obj ea =>
      rw [ea] at r1; cases r1
      exact .ls (SqL.of g1) (AnyDs.dp R hs s1)
  | _, _, _, .dct em, h => by
    obtain ⟨a, ws, r1, g1, t1⟩ := R.dict em
    cases h with
    | obj ea =>
      rw [ea] at r1; cases r1
      cases t1
      exact .dE g1
theorem AnyDs.dp (R : Rl K Ts ρ M H) : ∀ {ds : List D} {ps : List PyData} {vs : List V}, AnyDs M ds ps → Shs K ρ H ds vs → DpAs K H vs ps
  | _, _, _, .nil, h => by cases h; exact .none
  | _, _, _, .cons h1 hs, h => by
    cases h with
    | cons s1 s2 => exact .more (AnyD.dp R h1 s1) (AnyDs.dp R hs s2)
end
end
section
end
end Dl
set_option Elab.async false
set_option linter.all false
set_option maxRecDepth 100000
set_option maxHeartbeats 4000000
namespace Dl
open PySem PySem.Spec PyProof.Rows L2 GxR Gn
section
end
section
variable {X : Cx} {Ts : Tbs} {E : XK}
@[simp] def dSortSet (t : TEd) : TEd := fun S M Q E => t S M (fun x M1 => ∃ ns : List Int, x = .tup (ns.map D.int) ∧ ns.length < 64 ∧ ∀ ms : List Int, ms.Pairwise (· < ·) → (∀ k, k ∈ ms ↔ k ∈ ns) → Q (.obj M1.length) (M1 ++ [.lst (ms.map D.int)])) E
def strOfD : List D → Mem → KD → Prop
  | [.int i], M, Q => i.natAbs.log2 < 1920 ∧ Q (.str (toString i)) M
  | _, _, _ => False
@[simp] theorem strOfD_int {i : Int} {M : Mem} {Q : KD} : strOfD [.int i] M Q ↔ i.natAbs.log2 < 1920 ∧ Q (.str (toString i)) M := Iff.rfl
end
end Dl
set_option Elab.async false
set_option linter.all false
set_option maxRecDepth 100000
set_option maxHeartbeats 4000000
namespace Dl
open PySem PySem.Spec PyProof.Rows L2 GxR Gn
section
end
section
end
section
variable {X : Cx} {Ts : Tbs} {E : XK} {a : Expr} {ta : TEd} {pos : Pos}
@[simp] def dRevT (ta : TEd) : TEd := fun S M Q E => ta S M (fun d M1 => ∃ ds, d = .tup ds ∧ Q (.tup ds.reverse) M1) E
end
end Dl
set_option Elab.async false
set_option linter.all false
set_option maxRecDepth 100000
set_option maxHeartbeats 4000000
namespace Dl
open PySem PySem.Spec PyProof.Rows L2 GxR Gn
section
end
section
variable {X : Cx} {Ts : Tbs} {E : XK}
@[simp] def dTryAsK (cs : Nat → Addr) (js : List Nat) (i : Nat) (te : TEd) (su : Nat → Addr → Addr → TSd) : TSd := fun Dd E S M =>
  te S M (fun _ M' => Dd.nx S M') (fun C d M' => ∃ j, j ∈ js ∧ C = cs j ∧ ∀ a dx, su j a dx (gone i Dd) E00 (S.set i (some (.exc a dx d))) M')
end
end Dl
set_option Elab.async false
set_option linter.all false
set_option maxRecDepth 100000
set_option maxHeartbeats 4000000
namespace Dl
open PySem PySem.Spec PyProof.Rows L2 GxR Gn
def keyP : L2.Key → PyData
  | .inl i => .int i
  | .inr x => .str x
mutual
inductive DpE (K : PySem.W.Frag) (H : Hp) : V → PyData → Prop
  | pl {v : V} {d : PyData} (h : Dp K H v d) (hp : (∀ ds, d ≠ .list ds) ∧ ∀ ds, d ≠ .tuple ds) : DpE K H v d
  | ls {a : Addr} {xs : List V} {ds : List PyData} (h : SqL K H a xs) (hs : DpEs K H xs ds) : DpE K H (.ref a) (.list ds)
  | tp {a : Addr} {xs : List V} {ds : List PyData} (h : SqT K H a xs) (hs : DpEs K H xs ds) : DpE K H (.ref a) (.tuple ds)
  | dc {a : Addr} {kvs : List (L2.Key × V)} {ps : List (PyData × PyData)} (h : H a = some (.dK kvs)) (hs : DpKv K H kvs ps) : DpE K H (.ref a) (.dict ps)
inductive DpEs (K : PySem.W.Frag) (H : Hp) : List V → List PyData → Prop
  | none : DpEs K H [] []
  | more {v : V} {vs : List V} {d : PyData} {ds : List PyData} (h : DpE K H v d) (hs : DpEs K H vs ds) : DpEs K H (v :: vs) (d :: ds)
inductive DpKv (K : PySem.W.Frag) (H : Hp) : List (L2.Key × V) → List (PyData × PyData) → Prop
  | none : DpKv K H [] []
  | more {k : L2.Key} {v : V} {kvs : List (L2.Key × V)} {d : PyData} {ds : List (PyData × PyData)} (h : DpE K H v d) (hs : DpKv K H kvs ds) : DpKv K H ((k, v) :: kvs) ((keyP k, d) :: ds)
end
structure RpKv (P : Program) (w : World) (h : Heap) (es : List DictEntry) (ps : List (PyData × PyData)) : Prop where
  rk : ∃ as, ReadsAll h (es.map (·.key)) (ps.map (·.1)) as
  rv : ∃ as, ReadsAll h (es.map (·.val)) (ps.map (·.2)) as
  rp : ∃ bs, ReadAtMost h (PyData.depthKv ps) bs ∧ ReprAllK P w bs h (PyData.depthKv ps) (es.map (·.key)) (ps.map fun p => p.1.shown) ∧ ReprAllK P w bs h (PyData.depthKv ps) (es.map (·.val)) (ps.map fun p => p.2.shown)
section
variable {P : Program} {w : World} {h : Heap}
theorem RpKv.nil : RpKv P w h [] [] := ⟨⟨_, .nil⟩, ⟨_, .nil⟩, [], fun b hb => (by cases hb), .nil, .nil⟩
theorem RpKv.cons {e : DictEntry} {es : List DictEntry} {k v : PyData} {ps : List (PyData × PyData)} (a : RpA P w h e.key k) (b : RpA P w h e.val v) (c : RpKv P w h es ps) : RpKv P w h (e :: es) ((k, v) :: ps) := by
  obtain ⟨⟨a1, ra⟩, xa, pa, qa⟩ := a
  obtain ⟨⟨b1, rb⟩, xb, pb, qb⟩ := b
  obtain ⟨⟨c1, rc⟩, ⟨c2, rd⟩, xc, pc, qc, qd⟩ := c
  have e1 : PyData.depthKv ((k, v) :: ps) = max (max k.depth v.depth) (PyData.depthKv ps) := by rw [PyData.depthKv]
  have m1 : k.depth ≤ PyData.depthKv ((k, v) :: ps) := by rw [e1]; exact Nat.le_trans (Nat.le_max_left _ _) (Nat.le_max_left _ _)
  have m2 : v.depth ≤ PyData.depthKv ((k, v) :: ps) := by rw [e1]; exact Nat.le_trans (Nat.le_max_right _ _) (Nat.le_max_left _ _)
  have m3 : PyData.depthKv ps ≤ PyData.depthKv ((k, v) :: ps) := by rw [e1]; exact Nat.le_max_right _ _
  refine ⟨⟨_, .cons ra rc⟩, ⟨_, .cons rb rd⟩, xa ++ (xb ++ xc), (pa.mono m1).append ((pb.mono m2).append (pc.mono m3)), ?_, ?_⟩
  · exact .cons ((qa.more fun z hz => by simp [hz]).level_le m1) (qc.more_le (fun z hz => by simp [hz]) m3)
  · exact .cons ((qb.more fun z hz => by simp [hz]).level_le m2) (qd.more_le (fun z hz => by simp [hz]) m3)
end
section
end
end Dl
set_option Elab.async false
set_option linter.all false
set_option maxRecDepth 100000
set_option maxHeartbeats 4000000
namespace Dl
open PySem PySem.Spec PyProof.Rows L2 GxR Gn
section
variable {X : Cx} {Ts : Tbs}
mutual
/-- a datum of any kind, dicts of int and text keys too -/
inductive AnyE (M : Mem) : D → PyData → Prop
  | non : AnyE M .non .none
  | bl {b : Bool} : AnyE M (.bl b) (.bool b)
  | int {i : Int} : AnyE M (.int i) (.int i)
  | str {x : Str} : AnyE M (.str x) (.str x)
  | tup {ds : List D} {ps : List PyData} (h : AnyEs M ds ps) : AnyE M (.tup ds) (.tuple ps)
  | lst {i : Nat} {ds : List D} {ps : List PyData} (e : M[i]? = some (.lst ds)) (h : AnyEs M ds ps) : AnyE M (.obj i) (.list ps)
  | dct {i : Nat} {kvs : List (L2.Key × D)} {ps : List (PyData × PyData)} (e : M[i]? = some (.dK kvs)) (h : AnyKv M kvs ps) : AnyE M (.obj i) (.dict ps)
inductive AnyEs (M : Mem) : List D → List PyData → Prop
  | nil : AnyEs M [] []
  | cons {d : D} {ds : List D} {p : PyData} {ps : List PyData} (h : AnyE M d p) (hs : AnyEs M ds ps) : AnyEs M (d :: ds) (p :: ps)
inductive AnyKv (M : Mem) : List (L2.Key × D) → List (PyData × PyData) → Prop
  | nil : AnyKv M [] []
  | cons {k : L2.Key} {d : D} {ds : List (L2.Key × D)} {p : PyData} {ps : List (PyData × PyData)} (h : AnyE M d p) (hs : AnyKv M ds ps) : AnyKv M ((k, d) :: ds) ((keyP k, p) :: ps)
end
end
section
variable {K : PySem.W.Frag} {Ts : Tbs} {ρ : Rho} {M : Mem} {H : Hp}
mutual
theorem AnyE.dp (R : Rl K Ts ρ M H) : ∀ {d : D} {p : PyData} {v : V}, AnyE M d p → Sh K ρ H d v → DpE K H v p
  | _, _, _, .non, h => by cases h; exact .pl .non ⟨(fun _ e => by cases e), (fun _ e => by cases e)⟩
  | _, _, _, .bl, h => by cases h; exact .pl (.bl _) ⟨(fun _ e => by cases e), (fun _ e => by cases e)⟩
  | _, _, _, .int, h => by cases h; exact .pl (.int _) ⟨(fun _ e => by cases e), (fun _ e => by cases e)⟩
  | _, _, _, .str, h => by cases h; exact .pl (.str _) ⟨(fun _ e => by cases e), (fun _ e => by cases e)⟩
  | _, _, _, .tup hs, h => by
    cases h with
    | tup h1 h2 => exact .tp (SqT.of h1) (AnyEs.dp R hs h2)
  | _, _, _, .lst em hs, h => by
    obtain ⟨a, vs, r1, g1, s1⟩ := R.lst em
    cases h with
    | obj ea =>
      rw [ea] at r1; cases r1
      exact .ls (SqL.of g1) (AnyEs.dp R hs s1)
  | _, _, _, .dct em hs, h => by
    obtain ⟨a, ws, r1, g1, t1⟩ := R.dict em
    cases h with
    | obj ea =>
      rw [ea] at r1; cases r1
      exact .dc g1 (AnyKv.dp R hs t1)
theorem AnyEs.dp (R : Rl K Ts ρ M H) : ∀ {ds : List D} {ps : List PyData} {vs : List V}, AnyEs M ds ps → Shs K ρ H ds vs → DpEs K H vs ps
  | _, _, _, .nil, h => by cases h; exact .none
  | _, _, _, .cons h1 hs, h => by
    cases h with
    | cons s1 s2 => exact .more (AnyE.dp R h1 s1) (AnyEs.dp R hs s2)
theorem AnyKv.dp (R : Rl K Ts ρ M H) : ∀ {ds : List (L2.Key × D)} {ps : List (PyData × PyData)} {vs : List (L2.Key × V)}, AnyKv M ds ps → Shp K ρ H ds vs → DpKv K H vs ps
  | _, _, _, .nil, h => by cases h; exact .none
  | _, _, _, .cons h1 hs, h => by
    cases h with
    | cons s1 s2 => exact .more (AnyE.dp R h1 s1) (AnyKv.dp R hs s2)
end
end
section
end
end Dl
set_option Elab.async false
set_option linter.all false
set_option maxRecDepth 100000
set_option maxHeartbeats 4000000
namespace Dl
open PySem PySem.Spec PyProof.Rows L2 GxR Gn
def rngC (lo c : Int) (n : Nat) : List D := (List.range n).map fun i => .int (lo + (i : Nat) * c)
section
end
section
variable {X : Cx} {Ts : Tbs} {E : XK} {tg a b c : Expr} {t : TAd} {p pos : Pos}
@[simp] def dRange3 (t : TAd) : TId := fun S M Q E => t S M (fun ds M1 => ∃ (i j c : Int) (n : Nat), ds = [.int i, .int j, .int c] ∧ RgC i j c n ∧ Q (rngC i c n) (fun _ => True) M1) E
theorem fits {x : Int} (h : -(2 ^ 30) ≤ x ∧ x ≤ 2 ^ 30) : Builtin.Range.rangeFitsLong x = true := by
  unfold Builtin.Range.rangeFitsLong
  simp
  omega
end
end Dl
set_option Elab.async false
set_option linter.all false
set_option maxRecDepth 100000
set_option maxHeartbeats 4000000
namespace Dl
open PySem PySem.Spec PyProof.Rows L2 GxR Gn
section
variable {X : Cx} {Ts : Tbs} {M : Mem} {Q : KD}
def boolID : List D → Mem → KD → Prop
  | [.int i], M, Q => Q (.bl (i != 0)) M
  | _, _, _ => False
@[simp] theorem boolID_int {i : Int} : boolID [.int i] M Q ↔ Q (.bl (i != 0)) M := Iff.rfl
def absID : List D → Mem → KD → Prop
  | [.int i], M, Q => Q (.int (if i < 0 then -i else i)) M
  | _, _, _ => False
@[simp] theorem absID_int {i : Int} : absID [.int i] M Q ↔ Q (.int (if i < 0 then -i else i)) M := Iff.rfl
end
end Dl
set_option Elab.async false
set_option linter.all false
set_option maxRecDepth 100000
set_option maxHeartbeats 4000000
namespace Dl
open PySem PySem.Spec PyProof.Rows L2 GxR Gn
section
variable {X : Cx} {Ts : Tbs} {M : Mem} {Q : KD}
def minTD : List D → Mem → KD → Prop
  | [.tup ds], M, Q => ∃ ns, intsOf ds = some ns ∧ 0 < ns.length ∧ ∀ m, m ∈ ns → (∀ y, y ∈ ns → m ≤ y) → Q (.int m) M
  | _, _, _ => False
@[simp] theorem minTD_tup {ds : List D} : minTD [.tup ds] M Q ↔ ∃ ns, intsOf ds = some ns ∧ 0 < ns.length ∧ ∀ m, m ∈ ns → (∀ y, y ∈ ns → m ≤ y) → Q (.int m) M := Iff.rfl
end
end Dl
set_option Elab.async false
set_option linter.all false
set_option maxRecDepth 100000
set_option maxHeartbeats 4000000
namespace Dl
open PySem PySem.Spec PyProof.Rows L2 GxR Gn
section
variable {X : Cx} {Ts : Tbs} {E : XK} {c a b : Expr} {pos : Pos}
@[simp] def dIfT (tt ta tb : TTd) : TTd := fun S M Q E => tt S M (fun k M1 => if k = true then ta S M1 Q E else tb S M1 Q E) E
end
end Dl
set_option Elab.async false
set_option linter.all false
set_option maxRecDepth 100000
set_option maxHeartbeats 4000000
namespace PySem.SeqAt
open AutoSeq1 (wpAny_loadPart')
open MeetsSeq
end PySem.SeqAt
namespace Dl
open PySem PySem.Spec PyProof.Rows L2 GxR Gn
section
end
section
end
section
end
end Dl
set_option Elab.async false
set_option linter.all false
set_option maxRecDepth 100000
set_option maxHeartbeats 4000000
namespace Dl
open PySem PySem.Spec PyProof.Rows L2 GxR Gn
section
end
end Dl
set_option Elab.async false
set_option linter.all false
set_option maxRecDepth 100000
set_option maxHeartbeats 1000000
namespace Dl
open PySem PySem.Spec PyProof.Rows L2 GxR Gn
def cl (s : Str) : List Nat := s.cps.toList
theorem cl_app (a b : Str) : cl (a ++ b) = cl a ++ cl b := by
  show (a.cps ++ b.cps).toList = _
  rw [Array.toList_append]
  rfl
theorem cl_str (s : String) : cl (Str.ofString s) = s.toList.map Char.toNat := by rw [Str.ofString_eq_toList]; rfl
def dig (c : Nat) : Bool := decide (c = 45) || (decide (48 ≤ c) && decide (c ≤ 57))
theorem digC {c : Char} (h : c.isDigit = true) : 48 ≤ c.toNat ∧ c.toNat ≤ 57 := by
  simp only [Char.isDigit, Bool.and_eq_true, decide_eq_true_eq] at h
  exact ⟨h.1, h.2⟩
theorem nat_cl {n : Nat} : ∀ c ∈ (n.repr.toList.map Char.toNat), 48 ≤ c ∧ c ≤ 57 := fun c hc => by
  rw [Nat.toList_repr] at hc
  obtain ⟨d, hd, rfl⟩ := List.mem_map.mp hc
  exact digC (Nat.isDigit_of_mem_toDigits (by decide) (by decide) hd)
theorem repr_ne {n : Nat} : n.repr.toList.map Char.toNat ≠ [] := by
  rw [Nat.toList_repr]
  intro h
  exact Nat.toDigits_ne_nil (List.map_eq_nil_iff.mp h)
def itx (i : Int) : List Nat := cl (Str.ofString (toString i))
theorem itx_nat (n : Nat) : itx (n : Int) = n.repr.toList.map Char.toNat := cl_str _
theorem itx_neg (n : Nat) : itx (Int.negSucc n) = 45 :: (n + 1).repr.toList.map Char.toNat := by
  unfold itx
  rw [cl_str]
  show (("-" ++ Nat.repr (n + 1) : String).toList.map Char.toNat) = _
  rw [String.toList_append, List.map_append]
  rfl
theorem itx_dig (i : Int) : ∀ c ∈ itx i, dig c = true := fun c hc => by
  cases i with
  | ofNat n =>
    rw [show Int.ofNat n = (n : Int) from rfl, itx_nat] at hc
    have := nat_cl c hc
    simp [dig, this.1, this.2]
  | negSucc n =>
    rw [itx_neg] at hc
    rcases List.mem_cons.mp hc with rfl | hc
    · rfl
    · have := nat_cl c hc
      simp [dig, this.1, this.2]
theorem itx_ne (i : Int) : itx i ≠ [] := by
  cases i with
  | ofNat n => rw [show Int.ofNat n = (n : Int) from rfl, itx_nat]; exact repr_ne
  | negSucc n => rw [itx_neg]; simp
def Stop (r : List Nat) : Prop := r = [] ∨ ∃ t, r = 41 :: t ∨ r = 44 :: t
theorem Stop.no {r : List Nat} (h : Stop r) : ∀ c t, r = c :: t → dig c = false := fun c t e => by
  rcases h with rfl | ⟨u, rfl | rfl⟩
  · cases e
  · cases e; rfl
  · cases e; rfl
/-- the first sign tells the kind -/
def kc : PyData → Nat → Bool
  | .none, c => decide (c = 78)
  | .bool _, c => decide (c = 84) || decide (c = 70)
  | .int _, c => dig c
  | .str _, c => decide (c = 34) || decide (c = 39)
  | .list _, c => decide (c = 91)
  | .tuple _, c => decide (c = 40)
  | .dict _, c => decide (c = 123)
theorem fold_hd (g : Nat → Array Nat) : ∀ (l : List Nat) (acc : Array Nat), ∃ t, (l.foldl (fun out c => out ++ g c) acc).toList = acc.toList ++ t
  | [], acc => ⟨[], by simp⟩
  | c :: l, acc => by
    obtain ⟨t, e⟩ := fold_hd g l (acc ++ g c)
    exact ⟨(g c).toList ++ t, by rw [List.foldl_cons, e, Array.toList_append, List.append_assoc]⟩
theorem first (p : PyData) : ∃ c t, cl p.shown = c :: t ∧ kc p c = true := by
  cases p with
  | none => exact ⟨78, _, by rw [PyData.shown, cl_str]; rfl, rfl⟩
  | bool b =>
    cases b with
    | true => exact ⟨84, _, by rw [PyData.shown, if_pos rfl, cl_str]; rfl, rfl⟩
    | false => exact ⟨70, _, by rw [PyData.shown, if_neg (by decide), cl_str]; rfl, rfl⟩
  | int i =>
    have e : cl (PyData.int i).shown = itx i := by rw [PyData.shown]; rfl
    cases h : itx i with
    | nil => exact absurd h (itx_ne i)
    | cons c t => exact ⟨c, t, by rw [e, h], itx_dig i c (by rw [h]; simp)⟩
  | str x =>
    rw [PyData.shown]
    have hq : reprQuote x = 34 ∨ reprQuote x = 39 := by unfold reprQuote; split <;> simp
    obtain ⟨t, e⟩ := fold_hd (fun c => (Builtin.Str.reprChar (reprQuote x) c).toArray) x.cps.toList #[reprQuote x]
    refine ⟨reprQuote x, t ++ [reprQuote x], ?_, ?_⟩
    · show ((x.cps.foldl (fun out c => out ++ (Builtin.Str.reprChar (reprQuote x) c).toArray) #[reprQuote x]).push (reprQuote x)).toList = _
      rw [Array.toList_push, ← Array.foldl_toList, e]
      rfl
    · rcases hq with e | e <;> rw [e] <;> rfl
  | list xs => exact ⟨91, _, by rw [PyData.shown, listText_eq_join, cl_app, cl_app, cl_str]; rfl, rfl⟩
  | tuple xs => exact ⟨40, _, by rw [PyData.shown]; unfold tupleText; rw [cl_app, cl_app, cl_str]; rfl, rfl⟩
  | dict kvs => exact ⟨123, _, by rw [PyData.shown]; unfold dictText; rw [cl_app, cl_app, cl_str]; rfl, rfl⟩
end Dl
set_option Elab.async false
set_option linter.all false
set_option maxRecDepth 100000
set_option maxHeartbeats 4000000
namespace Dl
open PySem PySem.Spec PyProof.Rows L2 GxR Gn
section
end
section
variable {X : Cx} {Ts : Tbs} {E : XK} {a b c d : Expr} {ta tb tc td : TEd} {pos : Pos}
@[simp] def dChain3 (rd rd' rd2 : D → D → Mem → KD → Prop) (ta tb tc td : TEd) : TEd := fun S M Q E => ta S M (fun x M1 => tb S M1 (fun y M2 => rd x y M2 fun z M3 => ∃ k, z = .bl k ∧ if k = true then tc S M3 (fun w M4 => rd' y w M4 fun z2 M5 => ∃ k2, z2 = .bl k2 ∧ if k2 = true then td S M5 (fun v M6 => rd2 w v M6 Q) E else Q (.bl false) M5) E else Q (.bl false) M3) E) E
/-- len(set(x)) -/
@[simp] def dLenSet (t : TEd) : TEd := fun S M Q E => t S M (fun x M1 => ∃ ws : List Str, ((∃ z, x = .str z ∧ ws = Zn.sgn z) ∨ ∃ i, x = .obj i ∧ M1[i]? = some (.lst (ws.map D.str))) ∧ ws.length ≤ 4000 ∧ Q (.int (Zn.dcnt ws ws.length : Nat)) M1) E
theorem shs_strs {K : PySem.W.Frag} {ρ : Rho} {H : Hp} : ∀ {ws : List Str} {vs : List V}, Shs K ρ H (ws.map D.str) vs → vs = ws.map V.str
  | [], vs, h => by cases h; rfl
  | w :: ws, vs, h => by
    cases h with
    | cons h1 h2 => cases h1; rw [shs_strs h2]; rfl
theorem qe_lenSet {a : Expr} {ta : TEd} {p p2 q pos : Pos} (hc : X.calm = true) (hg : Gl X "len") (hm : X.mg "len" = none) (hg2 : Gl X "set") (hm2 : X.mg "set" = none) (ha : QE X Ts E a ta)
    (na : starEach [a] X.env = (false, eval a X.env) :: starEach [] X.env := by rfl) : QE X Ts E (.Call (.Name "len" p) [.Call (.Name "set" p2) [a] [] q] [] pos) (dLenSet ta) :=
  peLe (Zn.pe_lenSetT hc hg hm hg2 hm2 ha na) fun σ H Q ⟨ρ, S, M, Qd, Ed, R, sl, h, k, x⟩ => ⟨ρ, S, M, _, Ed, R, sl, h, fun d M1 ⟨ws, hw, hl, q1⟩ ρ1 H1 v g1 R1 s1 => by
    refine ⟨ws, ?_, hl, k _ _ q1 ρ1 H1 _ g1 R1 (.int _)⟩
    rcases hw with ⟨z, rfl, e⟩ | ⟨i, rfl, em⟩
    · cases s1
      exact .inl ⟨z, rfl, e⟩
    · obtain ⟨a', vs, r1, h1, t1⟩ := R1.lst em
      cases s1 with
      | obj ea =>
        rw [ea] at r1; cases r1
        rw [shs_strs t1] at h1
        exact .inr ⟨a', rfl, SqL.of h1⟩, x⟩
end
end Dl
set_option Elab.async false
set_option linter.all false
set_option maxRecDepth 100000
set_option maxHeartbeats 4000000
namespace Dl
open PySem PySem.Spec PyProof.Rows L2 GxR Gn
def revS (z : Str) : Str := ⟨z.cps.toList.reverse.toArray⟩
section
end
section
variable {X : Cx} {Ts : Tbs} {E : XK} {a : Expr} {ta : TEd} {pos : Pos}
@[simp] def dRevS (ta : TEd) : TEd := fun S M Q E => ta S M (fun d M1 => ∃ z, d = .str z ∧ z.length ≤ sizeLine ∧ Q (.str (revS z)) M1) E
end
end Dl
set_option Elab.async false
set_option linter.all false
set_option maxRecDepth 100000
set_option maxHeartbeats 4000000
namespace Dl
open PySem PySem.Spec PyProof.Rows L2 GxR Gn
theorem occ_ixD {a : Str} {c : Nat} (h : c ∈ a.cps.toList) : ∃ r, Builtin.Str.occurrences a ⟨#[c]⟩ 0 a.length 1 = a.cps.toList.idxOf c :: r := by
  have hl : a.cps.toList.idxOf c < a.cps.toList.length := List.idxOf_lt_length_iff.mpr h
  have hg : a.cps.toList[a.cps.toList.idxOf c]? = some c := by rw [List.getElem?_eq_getElem hl]; simp
  rcases StrLaws.occ_head a ⟨#[c]⟩ 1 (Nat.le_refl _) with ⟨_, hn⟩ | ⟨i, r, e, hi, hn⟩
  · exact absurd ((StrLaws.subAt_one a c _).mpr hg) (hn _)
  · have hi2 := (StrLaws.subAt_one a c i).mp hi
    refine ⟨r, ?_⟩
    rw [e]
    have h1 : ¬ a.cps.toList.idxOf c < i := fun q => hn _ q ((StrLaws.subAt_one a c _).mpr hg)
    have h2 : ¬ i < a.cps.toList.idxOf c := fun q => by
      have := List.not_of_lt_findIdx (p := (· == c)) (xs := a.cps.toList) (i := i) q
      have e3 : a.cps.toList[i]'(Nat.lt_trans q hl) = c := by
        have := hi2
        rw [List.getElem?_eq_getElem (Nat.lt_trans q hl)] at this
        exact Option.some.inj this
      rw [e3] at this
      simp at this
    have : i = a.cps.toList.idxOf c := by omega
    rw [this]
section
variable {X : Cx} {Ts : Tbs} {E : XK} {o e : Expr} {es : List Expr} {to : TEd} {t : TAd} {apos cpos : Pos}
def isStr (d : D) (M : Mem) : Prop := ∃ z, d = .str z
theorem ty_strD : TyD X Ts "str" isStr := fun ρ M H d v R s ⟨z, e⟩ => by
  subst e
  cases s
  exact rfl
@[simp] theorem isStr_str {z : Str} {M : Mem} : isStr (.str z) M ↔ True := ⟨fun _ => trivial, fun _ => ⟨z, rfl⟩⟩
def rJoinS (K : PySem.W.Frag) : V → List V → Hp → VK → Prop := fun x xs H Q => ∃ a p, ∃ ys : List Str, x = .str a ∧ xs = [.ref p] ∧ (SqL K H p (ys.map V.str) ∨ SqT K H p (ys.map V.str)) ∧ (ys.map (·.length)).sum + ys.length * a.length ≤ 16777216 ∧ Q (.str (Txt.join a ys)) H
theorem mt_joinD : MtR X "str.join" (rJoinS X.K) := mt_join
def indexD (o : D) (ds : List D) (M : Mem) (Q : KD) : Prop := ∃ (a : Str) (c : Nat), o = .str a ∧ ds = [.str ⟨#[c]⟩] ∧ c ∈ a.cps.toList ∧ Q (.int (a.cps.toList.idxOf c : Nat)) M
def rIndexS : V → List V → Hp → VK → Prop := fun x xs H Q => ∃ a b i rest, x = .str a ∧ xs = [.str b] ∧ Builtin.Str.occurrences a b 0 a.length 1 = i :: rest ∧ Q (.int (i : Nat)) H
theorem mt_indexS : MtR X "str.index" rIndexS := mt_sindex
theorem md_index : MtD X Ts rIndexS indexD := fun ρ M H o ds v vs Q Qd R so sd ⟨a, c, e, e2, hc, q⟩ k => by
  subst e e2
  cases so
  cases sd with
  | cons s1 s2 =>
    cases s2
    cases s1
    obtain ⟨r, hr⟩ := occ_ixD hc
    exact ⟨a, _, _, r, rfl, rfl, hr, k.same R q (.int _)⟩
theorem qe_index (ho : QE X Ts E o to) (ha : QA X Ts E (e :: es) t) (hbase : attributeBase o "index" X.env (eval o X.env) = eval o X.env := by rfl)
    (hfew : ((backTo cpos (starEach (e :: es) X.env)).all (fun x => !x.1) && (backToKw cpos (keywordEach [] X.env)).all (fun x => x.1.isSome)
      && decide ((e :: es).length + ([] : List Keyword).length + (if ([] : List Keyword).isEmpty then 0 else 1) < 30)) = true := by rfl)
    (hline : (apos.endLine == cpos.line) = true := by rfl) (hs : starEach (e :: es) X.env = (false, eval e X.env) :: starEach es X.env := by rfl) (hplain : (backTo cpos (starEach es X.env)).any (·.1) = false := by rfl) :
    QE X Ts E (.Call (.Attribute o "index" apos) (e :: es) [] cpos) (dBM isStr indexD to t) := peLe (pe_bm PySem.F.plainAttrs_str PySem.F.slot_str_index PySem.F.type_str_index mt_indexS ho ha hbase hfew hline hs hplain) fun σ H Q h => bmRead ty_strD md_index h
end
end Dl
set_option Elab.async false
set_option linter.all false
set_option maxRecDepth 100000
set_option maxHeartbeats 4000000
namespace Zn
open PySem PySem.Spec PyProof.Rows L2 GxR PySem.Froz
/-- the text of an entry -/
def txE (x : Int × Value) : Str := match x.2 with | .str y _ => y | _ => Str.empty
/-- what a set of texts keeps, so that it may be walked over -/
structure TxR (P : Program) (w : World) (D : SD) (l : List Str) : Prop where
  ok : TxOk P w D l
  nd : l.Nodup
  pm : (D.1.toList.map txE).Perm l
  all : ∀ x ∈ D.1.toList, ∃ y u, x.2 = .str y u
  ris : Ris D.2.2.place.toList
  led : w.params.followText "set-order" = true ∨ D.2.2.led = true
section
variable {P : Program} {w : World} {A : Around} {E : Value → Shared → Prop} {s : Shared}
theorem tail_ris {ep : Nat} {q : Array (Int × Value)} {t2 : SetTable} {wd : Bool} (r : Ris t2.place.toList) : Ris (tailTx ep q t2 wd).2.2.place.toList := by
  unfold tailTx
  split
  · exact relayAll_ris t2 q _
  · exact r
theorem tail_led {ep : Nat} {q : Array (Int × Value)} {t2 : SetTable} {wd : Bool} : (tailTx ep q t2 wd).2.2.led = t2.led := by
  unfold tailTx
  split
  · exact relayAll_led t2 q _
  · rfl
theorem tail_perm {ep : Nat} {q : Array (Int × Value)} {t2 : SetTable} {wd : Bool} : (tailTx ep q t2 wd).1.toList.Perm q.toList := by
  unfold tailTx
  split
  · exact relayAll_perm t2 q _
  · exact .rfl
theorem TxR.add {D : SD} {l : List Str} {k : Str} (u : Tok) (F : TxR P w D l) (hk : k ∉ l) : TxR P w (addTx (hashStr w k) (.str k u) D) (k :: l) := by
  have pe : (addTx (hashStr w k) (.str k u) D).1.toList.Perm ((hashStr w k, Value.str k u) :: D.1.toList) := by
    have p1 := layNew_perm D.2.2 D.1 (hashStr w k) (.str k u)
    rw [Array.toList_push] at p1
    exact (tail_perm.trans p1).trans (List.perm_append_singleton _ _)
  refine ⟨add_ok u F.ok, List.nodup_cons.mpr ⟨hk, F.nd⟩, ?_, fun x hx => ?_, ?_, ?_⟩
  · exact (pe.map txE).trans (by rw [List.map_cons]; exact (F.pm).cons k)
  · rcases List.mem_cons.mp (pe.mem_iff.mp hx) with z | z
    · exact ⟨k, u, by rw [z]⟩
    · exact F.all x z
  · refine tail_ris ?_
    have r1 := layNew_ris D.2.2 D.1 (hashStr w k) (.str k u) F.ris
    split
    · exact r1
    · exact r1
  · rcases F.led with z | z
    · exact .inl z
    · refine .inr ?_
      refine tail_led.trans ?_
      have e1 := layNew_led D.2.2 D.1 (hashStr w k) (.str k u)
      split
      · exact e1.trans z
      · exact e1.trans z
/-- a text that is there already -/
theorem add_old {a : Addr} {T : String} {D : SD} {l : List Str} {k : Str} {u : Tok} {Q : Bool → Shared → Prop} (ob : s.heap.get? a = some (sObj T D)) (F : TxOk P w D l) (hk : k ∈ l) (hlt : l.length < scanBound)
    (h : Q false s) : wpAny (model P w) A (setAddHashed a (.str k u) (hashStr w k)) Q E s := by
  obtain ⟨q, ep, t⟩ := D
  have d1 : (sObj T (q, ep, t)).data = .set q ep t := rfl
  have d2 : t.fits q.size = true := F.fit
  have d3 : q.size < scanBound := by have := F.sz; show q.size < scanBound; have e : q.size = l.length := F.sz; omega
  have kk : (strKind P w).is k (.str k u) = true := is_str k u
  obtain ⟨x, hx, ex⟩ := (F.mem k).mp hk
  unfold setAddHashed setAddHashedIn
  refine wpAny_holding (wpAny_bind (wpAny_setState_of ob d1 d2 ?_))
  dsimp only
  rw [byScan_of rfl d3 (show ElemsOf (strKind P w) q.toList from F.el)]
  simp only [↓reduceIte]
  unfold setAddByScan
  refine wpAny_bind (wpAny_bind (wpAny_rule ?_))
  refine wpAny_bind (wpAny_setScan_of kk ob d1 d2 F.el ?_)
  cases hf : List.findIdx? (fun e => (strKind P w).is k e.2) q.toList with
  | none =>
    have := List.findIdx?_eq_none_iff.mp hf x hx
    rw [ex] at this
    cases this
  | some j =>
    dsimp only
    exact wpAny_pure (wpAny_pure h)
/-- the set at S holds what is among the first i -/
def HoldR (P : Program) (w : World) (h : Heap) (S : Addr) (xs : List Str) (i : Nat) : Prop := ∃ D l, h.get? S = some (sObj "set" D) ∧ TxR P w D l ∧ (∀ k, k ∈ l ↔ k ∈ xs.take i) ∧ l.length ≤ i
theorem HoldR.at {h h' : Heap} {S : Addr} {xs : List Str} {i : Nat} (x : HoldR P w h S xs i) (k : ∀ o, h.get? S = some o → h'.get? S = some o) : HoldR P w h' S xs i :=
  let ⟨D, l, e, r⟩ := x
  ⟨D, l, k _ e, r⟩
theorem nodup_len {α : Type} [DecidableEq α] {l xs : List α} (hn : l.Nodup) (h : ∀ k ∈ l, k ∈ xs) : l.length ≤ xs.length := by
  induction l generalizing xs with
  | nil => exact Nat.zero_le _
  | cons a l ih =>
    obtain ⟨n1, n2⟩ := List.nodup_cons.mp hn
    have ha := h a (List.mem_cons_self ..)
    have := ih (xs := xs.erase a) n2 fun k hk => (List.mem_erase_of_ne (fun z : k = a => n1 (by rw [← z]; exact hk))).mpr (h k (List.mem_cons_of_mem _ hk))
    rw [List.length_erase_of_mem ha] at this
    have := List.length_pos_of_mem ha
    simp only [List.length_cons]
    omega
variable {R : Result → Shared → Prop} {I : Addr} {fp wr : List Addr} {G : Array GenState → Array GenState → Prop} {n : Nat} {Pf : Nat → Value → Prop} {St : Nat → Shared → Prop}
theorem setLoopR (W : WalksS P w A.in1 I fp wr G n Pf St) (S : Addr) (nS : S ∉ fp) (xs : List Str) (hlen : xs.length = n) (hroom : n + 1 < scanBound)
    (val : ∀ i v, Pf i v → ∃ t, v = .str (xs.getD i Str.empty) t) :
    ∀ (k i : Nat) (s : Shared), n - i = k → i ≤ n → St i s → HoldR P w s.heap S xs i → (∀ s', Moved (S :: wr) G s s' → HoldR P w s'.heap S xs n → R (.ok (.ret .none)) s') →
      codeAny (model P w) A (.builtin "set.update.loop" ⟨[.ref S, .ref I], []⟩) R s := by
  have nSw : S ∉ wr := fun h => nS (W.sub _ h)
  have up : ∀ b ∈ wr, b ∈ S :: wr := fun b hb => List.mem_cons_of_mem _ hb
  intro k
  induction k with
  | zero =>
    intro i s hk hi hst hS hR
    have hin : i = n := by omega
    subst hin
    refine codeAny_builtin PyProof.Rows.F.entry_set_update_loop ?_
    rw [Around.under_plainId PyProof.Rows.F.plain_set_update_loop _]
    show wpAny _ A.in1 (pyNext (.ref I) >>= _) _ _ s
    exact wpAny_bind (W.done s _ _ hst fun s' hm => wpAny_pure (hR s' (hm.mono up) (hS.at fun o e => hm.heap S o nSw e)))
  | succ k ih =>
    intro i s hk hi hst hS hR
    have hlt : i < n := by omega
    refine codeAny_builtin PyProof.Rows.F.entry_set_update_loop ?_
    rw [Around.under_plainId PyProof.Rows.F.plain_set_update_loop _]
    show wpAny _ A.in1 (pyNext (.ref I) >>= _) _ _ s
    refine wpAny_bind (W.item i s _ _ hlt hst fun v s' hP hst' hm => ?_)
    obtain ⟨t, rfl⟩ := val i v hP
    obtain ⟨D, l, ob, F, mm, ll⟩ := hS.at (h' := s'.heap) fun o e => hm.heap S o nSw e
    show wpAny _ A.in1 (holding [Value.str (xs.getD i Str.empty) t] (setAdd S (.str (xs.getD i Str.empty) t)) >>= _) _ _ s'
    refine wpAny_bind (wpAny_holding ?_)
    unfold setAdd
    refine wpAny_holding (wpAny_bind ((PySem.strKind P w).pyHash (k := xs.getD i Str.empty) (strKind_is _ _ _ _) ?_))
    have e1 : xs.take (i + 1) = xs.take i ++ [xs.getD i Str.empty] := by
      rw [List.take_add_one, List.getD_eq_getElem?_getD, List.getElem?_eq_getElem (show i < xs.length by omega)]
      rfl
    by_cases hmem : xs.getD i Str.empty ∈ l
    · refine add_old (s := { s' with toks := s'.toks + 1 }) ob F.ok hmem (by omega) ?_
      have hSi : HoldR P w s'.heap S xs (i + 1) := ⟨D, l, ob, F, fun k' => by
        rw [e1, List.mem_append, List.mem_singleton, ← mm k']
        exact ⟨.inl, fun z => z.elim id fun (z2 : k' = _) => by rw [z2]; exact hmem⟩, by omega⟩
      refine wpAny_pure ⟨plainId_quiet PyProof.Rows.F.plain_set_update_loop _, ih (i + 1) _ (by omega) hlt (W.frame _ s' _ _ hst' (Nat.le_succ _) fun b hb o e => e) hSi fun s'' hm'' hS'' => ?_⟩
      exact hR s'' (Moved.trans W.gtrans ((hm.mono up).then_heap (Nat.le_succ _) fun b o hb e => e) hm'') hS''
    · refine add_x (s := { s' with toks := s'.toks + 1 }) ob F.ok hmem (by omega) ?_
      have sb : Heap.SameBut S s'.heap (s'.heap.update S fun _ => sObj "set" (addTx (hashStr w (xs.getD i Str.empty)) (.str (xs.getD i Str.empty) t) D)) := Heap.SameBut.update _ _ _
      have hSi : HoldR P w (s'.heap.update S fun _ => sObj "set" (addTx (hashStr w (xs.getD i Str.empty)) (.str (xs.getD i Str.empty) t) D)) S xs (i + 1) := ⟨_, _, get_upd _ ob rfl, F.add t hmem, fun k' => by
        rw [e1, List.mem_append, List.mem_singleton, ← mm k', List.mem_cons]
        exact Or.comm, by simp only [List.length_cons]; omega⟩
      refine wpAny_pure ⟨plainId_quiet PyProof.Rows.F.plain_set_update_loop _, ih (i + 1) _ (by omega) hlt (W.frame _ s' _ _ hst' (Nat.le_succ _) fun b hb o e => ?_) hSi fun s'' hm'' hS'' => ?_⟩
      · exact (sb.2 b (fun h : b = S => nS (by rw [← h]; exact hb))).trans e
      · exact hR s'' (Moved.trans W.gtrans ((hm.mono up).then_heap (Nat.le_succ _) fun b o hb e => (sb.2 b (fun h : b = S => hb (by rw [h]; exact List.mem_cons_self))).trans e) hm'') hS''
end
end Zn
set_option Elab.async false
set_option linter.all false
set_option maxRecDepth 100000
set_option maxHeartbeats 4000000
namespace Zn
open PySem PySem.Spec PyProof.Rows L2 GxR PySem.Froz
section
variable {prog : Program} {w : World} {A : Around} {E : Value → Shared → Prop} {s : Shared}
set_option maxHeartbeats 6400000 in
/-- set(v), where v is walked and gives the texts xs; the set may be walked over afterwards -/
theorem call_setR {v : Value} {T : String} {fp : List Addr} {Q : Value → Shared → Prop} {xs : List Str} (hh : A.handled = none) (hT : ∀ s' : Shared, (∀ b o, s.heap.get? b = some o → s'.heap.get? b = some o) → s'.TypeIs v T)
    (u1 : isSubtype (.type T) (.type "set") = pure false) (u2 : isSubtype (.type T) (.type "frozenset") = pure false) (u3 : (Value.type T == Value.type "dict") = false) (hroom : xs.length + 1 < scanBound) (hfp : ∀ b ∈ fp, b < s.heap.objs.size)
    (itr : ∀ (A' : Around) (E' : Value → Shared → Prop) (Q' : Value → Shared → Prop) (s' : Shared), (∀ b o, s.heap.get? b = some o → s'.heap.get? b = some o) → s.heap.objs.size < s'.heap.objs.size →
      (∀ (o : Obj) (St : Nat → Heap → Prop) (Pf : Nat → Value → Prop), (∀ A'' : Around, A''.handled = none → Walks prog w A'' s'.heap.objs.size (s'.heap.objs.size :: fp) [s'.heap.objs.size] xs.length Pf St) → St 0 (s'.heap.push o) →
        (∀ i y, Pf i y → ∃ t, y = .str (xs.getD i Str.empty) t) → Q' (.ref s'.heap.objs.size) { s' with heap := s'.heap.push o }) → wpAny (model prog w) A' (pyIter v) Q' E' s')
    (h : ∀ (h' : Heap) (tk : Nat), HoldR prog w h' s.heap.objs.size xs xs.length → (∀ b o, b < s.heap.objs.size → s.heap.get? b = some o → h'.get? b = some o) → Q (.ref s.heap.objs.size) { s with heap := h', toks := tk }) :
    wpAny (model prog w) A (call (.type "set") [v]) Q E s := by
  obtain ⟨c, tl, hmro⟩ := PySem.F.called_set.mro
  have k0 := PySem.F.called_set.made
  have k1 := PySem.F.called_set.sub
  refine wpAny_call (codeAny_of_tree ?_)
  show wpAny _ _ (callAny (.type "set") _) _ _ _
  refine wpAny_pure ⟨Code.quiet_builtin _ (by decide +kernel), codeAny_builtin PySem.F.entry_type_call ?_⟩
  rw [Around.under_plain (weight_type_call_type "set" [v] []) rfl]
  have k2 := PySem.F.called_set.notType
  have k3 := PySem.F.called_set.canCreate
  have k4 := PySem.F.typeCall_set_1 v
  repeat (any_goals (first | assumption | wp_step))
  refine codeAny_mono (code_set_led1 v (E := E) (Q₁ := fun obj s₁ => obj = .ref s.heap.objs.size ∧ s₁ = { s with heap := s.heap.push (sObj "set" (#[], 0, .fresh 0 0 (!w.params.followText "set-order"))) }) ⟨rfl, rfl⟩) fun r s₁ hr => ?_
  cases r with
  | error e => exact hr
  | ok fl =>
    cases fl with
    | next => exact hr.elim
    | brk => exact hr.elim
    | cont => exact hr.elim
    | ret obj =>
      obtain ⟨rfl, rfl⟩ := hr
      have hS : (s.heap.push (sObj "set" (#[], 0, .fresh 0 0 (!w.params.followText "set-order")))).get? s.heap.objs.size = some (sObj "set" (#[], 0, .fresh 0 0 (!w.params.followText "set-order"))) := Heap.get?_push_size _ rfl
      have hTS : Shared.TypeIs { s with heap := s.heap.push (sObj "set" (#[], 0, .fresh 0 0 (!w.params.followText "set-order"))) } (.ref s.heap.objs.size) "set" := ⟨_, hS, rfl⟩
      have k5 := PySem.F.called_set.init.lookup
      have k6 := PySem.F.called_set.init.bind (.ref s.heap.objs.size)
      repeat (any_goals (first | assumption | wp_step))
      have kp : ∀ b o, s.heap.get? b = some o → (s.heap.push (sObj "set" (#[], 0, .fresh 0 0 (!w.params.followText "set-order")))).get? b = some o := fun b o e => Heap.get?_push_of_some _ e
      have sz1 : (s.heap.push (sObj "set" (#[], 0, .fresh 0 0 (!w.params.followText "set-order")))).objs.size = s.heap.objs.size + 1 := Heap.size_push ..
      refine codeAny_mono (codeAny_call_builtin (R := wants (fun r s₂ => r = .none ∧ ∃ h' tk, s₂ = { s with heap := h', toks := tk } ∧ HoldR prog w h' s.heap.objs.size xs xs.length ∧
          (∀ b o, b < s.heap.objs.size → s.heap.get? b = some o → h'.get? b = some o)) E) PySem.F.called_set.init.plain PySem.F.entry_set_init (check_set_init_1 hTS ?_)) fun r₂ s₂ hr₂ => ?_
      · have hTv := hT { s with heap := s.heap.push (sObj "set" (#[], 0, .fresh 0 0 (!w.params.followText "set-order"))) } kp
        unfold Builtin.«set.__init__» noKeywords
        generalize hUF : Builtin.Frozenset.updateFrom = UF
        wp_walk
        subst hUF
        unfold Builtin.Frozenset.updateFrom Builtin.Frozenset.isAnySet
        generalize hPI : pyIter = PI
        wp_walk
        subst hPI
        refine itr _ _ _ _ kp (by show s.heap.objs.size < (s.heap.push _).objs.size; rw [sz1]; exact Nat.lt_succ_self _) fun o St Pf W hst hval => ?_
        refine wpAny_bind (wpAny_runValue ?_)
        have nSf : s.heap.objs.size ∉ ((s.heap.push (sObj "set" (#[], 0, .fresh 0 0 (!w.params.followText "set-order")))).objs.size :: fp) := by
          intro hm
          rcases List.mem_cons.mp hm with z | z
          · rw [sz1] at z
            exact absurd z (Nat.ne_of_lt (Nat.lt_succ_self _))
          · exact Nat.lt_irrefl _ (hfp _ z)
        refine setLoopR (W A.in1.in1.in1 (by simp [hh])).toS s.heap.objs.size nSf xs rfl hroom hval (xs.length - 0) 0 _ (by omega) (Nat.zero_le _) hst ?_ fun s' hm hS' => ?_
        · have hget : ((s.heap.push (sObj "set" (#[], 0, .fresh 0 0 (!w.params.followText "set-order")))).push o).get? s.heap.objs.size = some (sObj "set" (#[], 0, .fresh 0 0 (!w.params.followText "set-order"))) := Heap.get?_push_of_some _ hS
          refine ⟨_, [], hget, ⟨TxOk.nil (by cases w.params.followText "set-order" <;> decide), List.nodup_nil, .nil, fun x hx => (by simp at hx), List.Pairwise.nil, ?_⟩, fun k => by simp, Nat.le_refl _⟩
          show _ ∨ (!w.params.followText "set-order") = true
          cases w.params.followText "set-order"
          · exact .inr rfl
          · exact .inl rfl
        · obtain ⟨h', g', d', tk', os'⟩ := s'
          obtain rfl : g' = s.gens := hm.gens
          obtain rfl : d' = s.drawn := hm.drawn
          obtain rfl : os' = s.os := hm.os
          refine wpAny_pure ?_
          show wpAny _ _ (ret Value.none) _ _ _
          refine wpAny_pure ⟨rfl, h', tk', rfl, hS', fun b o2 hb e => hm.heap b o2 (fun hc => ?_) (Heap.get?_push_of_some _ (kp b o2 e))⟩
          rcases List.mem_cons.mp hc with z | z
          · exact Nat.ne_of_lt hb z
          · rw [List.mem_singleton.mp z, sz1] at hb
            exact absurd hb (by omega)
      · cases r₂ with
        | error e => exact hr₂
        | ok fl₂ =>
          cases fl₂ with
          | next => exact hr₂.elim
          | brk => exact hr₂.elim
          | cont => exact hr₂.elim
          | ret r =>
            obtain ⟨rfl, h', tk, rfl, hS', hk'⟩ := hr₂
            repeat (any_goals (first | assumption | wp_step))
            exact h _ _ hS' hk'
theorem strs_txE : ∀ vs : List Value, (∀ v ∈ vs, ∃ y u, v = .str y u) → StrsAre vs (vs.map fun v => txE (0, v))
  | [], _ => .nil
  | v :: vs, h => by
    obtain ⟨y, u, rfl⟩ := h v (List.mem_cons_self ..)
    exact .cons y u (strs_txE vs fun x hx => h x (List.mem_cons_of_mem _ hx))
/-- sorted(a), a such a set -/
theorem sorted_setX {a : Addr} {D : SD} {l : List Str} {Q : Value → Shared → Prop} (ob : s.heap.get? a = some (sObj "set" D)) (F : TxR prog w D l) (hh : A.handled = none) (h64 : l.length < 64)
    (hQ : ∀ s' p (out : Array Value) (c : Nat) (ys : List Str), (∀ b o, s.heap.get? b = some o → s'.heap.get? b = some o) → s'.gens = s.gens → s'.os = s.os → s.heap.objs.size ≤ p →
      s'.heap.get? p = some (seqObj "list" out c) → StrsAre out.toList ys → ys.Perm l → sortedS ys = true → Q (.ref p) s') :
    wpAny (model prog w) A (call (.builtin "sorted") [.ref a]) Q E s := by
  obtain ⟨q, ep, t⟩ := D
  have d3 : q.size = l.length := F.ok.sz
  have d4 : t.fits q.size = true := F.ok.fit
  have ris1 : Ris t.place.toList := F.ris
  have led1 : w.params.followText "set-order" = true ∨ t.led = true := F.led
  refine Calls.call_function_entry kind_sorted plain_sorted entry_sorted (args_sorted1 _) ?_
  unfold Builtin.«sorted»
  refine wpAny_bind (m := checkCount "sorted" 1 1 _) (wpAny_pure ?_)
  refine wpAny_bind (collect_set (A := A.in1) hh (es := q) (ep := ep) (t := t) ⟨_, ob, rfl, rfl⟩ d4 (by unfold scanBound; omega) ris1 led1 fun s1 vs k1 hz g1 o1 pm => ?_)
  have lv : vs.length = l.length := by rw [pm.length_eq, List.length_map, Array.length_toList]; exact d3
  have sv : StrsAre vs (vs.map fun v => txE (0, v)) := strs_txE vs fun v hv => by
    obtain ⟨x, hx, ex⟩ := List.mem_map.mp (pm.mem_iff.mp hv)
    obtain ⟨y, u, e⟩ := F.all x hx
    exact ⟨y, u, by rw [← ex]; exact e⟩
  have pl : (vs.map fun v => txE (0, v)).Perm l := by
    have p1 := pm.map fun v => txE (0, v)
    rw [List.map_map] at p1
    exact p1.trans F.pm
  refine wpAny_bind (wpAny_newList ?_ (by rw [lv, sizeLine_eq]; omega))
  have hoL : (s1.heap.push (seqObj "list" vs.toArray 0)).get? s1.heap.objs.size = some (seqObj "list" vs.toArray 0) := Heap.get?_push_size _ rfl
  refine wpAny_bind (wpAny_holding (wpAny_call_entry slot_list_sort ⟨_, hoL, rfl⟩ entry_list_sort (list_sort_treeK strKind_oneLt hoL sv.keysOf (fun v₁ v₂ rest e => keyKind_strs (by rw [← e]; exact sv)) (by rw [lv]; exact h64) fun st' b1 b2 => ⟨_, rfl, ?_⟩) (args_list_sort _)))
  obtain ⟨ys, c1, c2, c3⟩ := sorted_out_str sv b1 b2
  obtain ⟨c, hc⟩ := sortedHeap_at (vs := vs) (out := (arrOf st').map (·.2)) hoL
  refine wpAny_pure ⟨_, rfl, hQ _ s1.heap.objs.size _ c ys (fun b u e => ?_) g1 o1 hz hc c1 (c2.trans pl) c3⟩
  have e1 := k1 b u e
  have lt1 := Heap.lt_size e1
  show (sortedHeap (s1.heap.push (seqObj "list" vs.toArray 0)) s1.heap.objs.size vs _).get? b = some u
  rw [sortedHeap_old (Nat.ne_of_lt lt1) (by rw [size_push']; exact Nat.lt_succ_of_lt lt1)]
  exact Heap.get?_push_of_some _ e1
end
/-- letters that ascend -/
theorem asc_of {ys : List Str} : ∀ {cs : List Nat}, ys = cs.map (fun c => (⟨#[c]⟩ : Str)) → sortedS ys = true → ys.Nodup → cs.Pairwise (· < ·) := by
  have go : ∀ (cs : List Nat) (p : Nat), risingS ⟨#[p]⟩ (cs.map fun c => (⟨#[c]⟩ : Str)) = true → ((p :: cs).map fun c => (⟨#[c]⟩ : Str)).Nodup → (p :: cs).Pairwise (· < ·) := by
    intro cs
    induction cs with
    | nil => intro p _ _; simp
    | cons x cs ih =>
      intro p h hn
      have h' : (!ltCps [x] [p] && risingS ⟨#[x]⟩ (cs.map fun c => (⟨#[c]⟩ : Str))) = true := h
      rw [Bool.and_eq_true] at h'
      obtain ⟨h1, h2⟩ := h'
      rw [List.map_cons] at hn
      obtain ⟨n1, n2⟩ := List.nodup_cons.mp hn
      have hx := ih x h2 n2
      have le : ¬ x < p := fun z => by
        have e : ltCps [x] [p] = true := by rw [ltCps_eq]; exact decide_eq_true (List.Lex.rel z)
        rw [e] at h1
        cases h1
      have ne : p ≠ x := fun z => n1 (by rw [z]; exact List.mem_cons_self ..)
      have lt : p < x := by omega
      refine List.pairwise_cons.mpr ⟨fun y hy => ?_, hx⟩
      rcases List.mem_cons.mp hy with z | z
      · rw [z]; exact lt
      · exact Nat.lt_trans lt ((List.pairwise_cons.mp hx).1 y z)
  intro cs e h hn
  subst e
  cases cs with
  | nil => exact List.Pairwise.nil
  | cons c cs => exact go cs c h hn
section
variable {X : Cx}
theorem boot_set3 : bootBuiltins "set" = some (.type "set") := by decide +kernel
theorem boot_sorted3 : bootBuiltins "sorted" = some (.builtin "sorted") := by decide +kernel
/-- sorted(set(x)) of a text -/
def tSortSetX (ta : TE) : TE := fun σ H Q => ta σ H fun x H1 => ∃ z : Str, x = .str z ∧ z.cps.size ≤ 4000 ∧ (∃ few : List Nat, few.length < 64 ∧ ∀ c ∈ z.cps.toList, c ∈ few) ∧
  ∀ (cs : List Nat) (a : Addr), cs.Pairwise (· < ·) → (∀ c, c ∈ cs ↔ c ∈ z.cps.toList) → H1 a = none → Q (.ref a) (upd H1 a (.lst (cs.map fun c => .str ⟨#[c]⟩)))
theorem map_one {ys : List Str} (h : ∀ y ∈ ys, ∃ c : Nat, y = ⟨#[c]⟩) : ∃ cs : List Nat, ys = cs.map fun c => (⟨#[c]⟩ : Str) := by
  induction ys with
  | nil => exact ⟨[], rfl⟩
  | cons y ys ih =>
    obtain ⟨c, rfl⟩ := h y (List.mem_cons_self ..)
    obtain ⟨cs, rfl⟩ := ih fun x hx => h x (List.mem_cons_of_mem _ hx)
    exact ⟨c :: cs, rfl⟩
theorem one_inj {c c' : Nat} (h : (⟨#[c]⟩ : Str) = ⟨#[c']⟩) : c = c' := by injection h with h; simpa using h
theorem pe_sortSetX {a : Expr} {ta : TE} {p p2 q pos : Pos} (hc : X.calm = true) (hg : Gl X "sorted") (hm : X.mg "sorted" = none) (hg2 : Gl X "set") (hm2 : X.mg "set" = none) (ha : PE X a ta)
    (na : starEach [a] X.env = (false, eval a X.env) :: starEach [] X.env := by rfl) : PE X (.Call (.Name "sorted" p) [.Call (.Name "set" p2) [a] [] q] [] pos) (tSortSetX ta) := by
  refine ⟨fun pins s σ H Q I h => ?_⟩
  refine Call_ (ld_blt I hg hm boot_sorted3 (callWith_builtin1 (args_cons ?_ rfl) rfl rfl))
  refine Call_ (ld_blt I hg2 hm2 boot_set3 (callWith_type1 (args_cons (thn (ha.run pins s σ H _ I h) fun v s1 hv => args_nil ?_) na) na rfl))
  obtain ⟨x, H1, I1, r1, z, rfl, h4, ⟨few, f1, f2⟩, q1⟩ := hv
  obtain ⟨t, rfl⟩ := r1
  have room : (sgn z).length + 1 < scanBound := by rw [sgn_length]; unfold scanBound; omega
  refine call_setR (T := "str") (fp := []) (xs := sgn z) (I1.ok.hd hc) (fun s' _ => typeIs_str s' z t) F.sub_str_set F.sub_str_frozenset (by decide) room (fun b hb => by cases hb) (fun A' E' Q' s' hk hlt g => ?_) fun h' tk hS hk => ?_
  · refine wpAny_pyIter_str fun o St W hst => g o St _ (fun A'' hA => by rw [sgn_length]; exact W A'' hA) hst fun i y hy => ?_
    obtain ⟨c, u, hc', rfl⟩ := hy
    refine ⟨u, ?_⟩
    have : (sgn z).getD i Str.empty = ⟨#[c]⟩ := by
      unfold sgn
      have h2 : z.cps.toList[i]? = some c := by rw [Array.getElem?_toList]; exact hc'
      rw [List.getD_eq_getElem?_getD, List.getElem?_map, h2]
      rfl
    rw [this]
  · have I2 : Inv X pins σ H1 { s1 with heap := h', toks := tk } := I1.kept fun b o e => hk b o (Heap.lt_size e) e
    obtain ⟨D, l, ob, F, mm, ll⟩ := hS
    rw [List.take_of_length_le (Nat.le_refl _)] at mm
    have mz : ∀ y ∈ l, ∃ c : Nat, c ∈ z.cps.toList ∧ y = ⟨#[c]⟩ := fun y hy => by
      obtain ⟨c, c1, c2⟩ := List.mem_map.mp ((mm y).mp hy)
      exact ⟨c, c1, c2.symm⟩
    have l64 : l.length < 64 := by
      obtain ⟨cs, rfl⟩ := map_one (ys := l) fun y hy => let ⟨c, _, e⟩ := mz y hy; ⟨c, e⟩
      have nc : cs.Nodup := List.Pairwise.of_map _ (fun a b hne e => hne (by rw [e])) F.nd
      have := nodup_len (xs := few) nc fun c hc' => by
        obtain ⟨c', e1, e2⟩ := mz ⟨#[c]⟩ (List.mem_map.mpr ⟨c, hc', rfl⟩)
        rw [one_inj e2]
        exact f2 _ e1
      rw [List.length_map]
      omega
    refine args_nil (sorted_setX ob F (I2.ok.hd hc) l64 fun s' b out c2 ys kk gg oo hp hget hin hpm hso => ?_)
    obtain ⟨cs, rfl⟩ := map_one (ys := ys) fun y hy => let ⟨c, _, e⟩ := mz y (hpm.mem_iff.mp hy); ⟨c, e⟩
    have pw : cs.Pairwise (· < ·) := asc_of rfl hso (hpm.nodup_iff.mpr F.nd)
    have hl : ((cs.map fun c => (⟨#[c]⟩ : Str)).map V.str).length ≤ sizeLine := by rw [List.length_map, hpm.length_eq, sizeLine_eq]; omega
    have new : ObjOk X.prog X.w (upd H1 b (.lst ((cs.map fun c => (⟨#[c]⟩ : Str)).map V.str))) s'.heap b (.lst ((cs.map fun c => (⟨#[c]⟩ : Str)).map V.str)) := ⟨hl, out.toList, c2, vals_of_strs hin, hget⟩
    refine ⟨.ref b, upd H1 b (.lst ((cs.map fun c => (⟨#[c]⟩ : Str)).map V.str)), I2.call' (ch := []) oo (Un.laid kk hp (I2.hok.fresh hp)) (I2.hok.laid kk hp new) (by rw [gg]; exact I2.bare) (fun _ z => nomatch z), rfl, ?_⟩
    rw [List.map_map]
    refine q1 cs b pw (fun c => ?_) (I2.hok.fresh hp)
    constructor
    · intro hc'
      obtain ⟨c', e1, e2⟩ := mz ⟨#[c]⟩ (hpm.mem_iff.mp (List.mem_map.mpr ⟨c, hc', rfl⟩))
      rw [one_inj e2]; exact e1
    · intro hc'
      have := hpm.mem_iff.mpr ((mm ⟨#[c]⟩).mpr (List.mem_map.mpr ⟨c, hc', rfl⟩))
      obtain ⟨c', e1, e2⟩ := List.mem_map.mp this
      rw [← one_inj e2]; exact e1
end
end Zn
namespace Dl
open PySem PySem.Spec PyProof.Rows L2 GxR Gn
section
variable {X : Cx} {Ts : Tbs} {E : XK}
@[simp] def dSortSetX (t : TEd) : TEd := fun S M Q E => t S M (fun x M1 => ∃ z : Str, x = .str z ∧ z.cps.size ≤ 4000 ∧ (∃ few : List Nat, few.length < 64 ∧ ∀ c ∈ z.cps.toList, c ∈ few) ∧
  ∀ cs : List Nat, cs.Pairwise (· < ·) → (∀ c, c ∈ cs ↔ c ∈ z.cps.toList) → Q (.obj M1.length) (M1 ++ [.lst (cs.map fun c => D.str ⟨#[c]⟩)])) E
theorem shs_one {K : PySem.W.Frag} {ρ : Rho} {H : Hp} : ∀ cs : List Nat, Shs K ρ H (cs.map fun c => D.str ⟨#[c]⟩) (cs.map fun c => V.str ⟨#[c]⟩)
  | [] => .nil
  | c :: cs => .cons (.str _) (shs_one cs)
theorem qe_sortSetX {a : Expr} {ta : TEd} {p p2 q pos : Pos} (hc : X.calm = true) (hg : Gl X "sorted") (hm : X.mg "sorted" = none) (hg2 : Gl X "set") (hm2 : X.mg "set" = none) (ha : QE X Ts E a ta)
    (na : starEach [a] X.env = (false, eval a X.env) :: starEach [] X.env := by rfl) : QE X Ts E (.Call (.Name "sorted" p) [.Call (.Name "set" p2) [a] [] q] [] pos) (dSortSetX ta) :=
  peLe (Zn.pe_sortSetX hc hg hm hg2 hm2 ha na) fun σ H Q ⟨ρ, S, M, Qd, Ed, R, sl, h, k, x⟩ => ⟨ρ, S, M, _, Ed, R, sl, h, fun d M1 ⟨z, e, h4, hf, q1⟩ ρ1 H1 v g1 R1 s1 => by
    subst e
    cases s1
    exact ⟨z, rfl, h4, hf, fun cs a hp hk hn => newLst R1 (shs_one cs) (k.grw g1) (q1 cs hp hk) hn⟩, x⟩
end
end Dl
set_option Elab.async false
set_option linter.all false
set_option maxRecDepth 100000
set_option maxHeartbeats 4000000
namespace Zn
open PySem PySem.Spec PyProof.Rows L2 GxR
/-- the view d.values() at p -/
def valsO (p d : Addr) : HO := .ext fun h => h.IsValuesView p d
section
variable {X : Cx}
theorem valsO_ok {P : Program} {w : World} {H : Hp} {h : Heap} {p d : Addr} (e : h.get? p = some { cls := .type "dict_values", data := .fields #[.ref d] }) : ObjOk P w H h p (valsO p d) :=
  ⟨⟨_, e, rfl, rfl⟩, ⟨_, e⟩, fun _ _ ⟨o, ho, r⟩ k => ⟨o, k o ho, r⟩⟩
theorem meetsVals {P : Program} {w : World} {d : Addr} {es : Array DictEntry} {ep : Nat} (nd : (d == sysModules) = false) :
    MeetsIn P w (Builtin.«dict.values» ⟨[.ref d], []⟩) (fun _ R s => DT.Raw s.heap d es ep ∧
      R (.ok (.ret (.ref s.heap.objs.size))) { s with heap := s.heap.push { cls := .type "dict_values", data := .fields #[.ref d] } }) :=
  .of_wp fun A R s ⟨raw, h⟩ => by
    unfold Builtin.«dict.values»
    refine wpAny_bind ?_
    unfold Builtin.Dict.noArgs
    refine wpAny_bind (wpAny_notOrdered_dict raw.typeIs ?_)
    show wpAny _ _ (pure d) _ _ s
    refine wpAny_pure ?_
    show wpAny _ _ (Builtin.Dict.showsAll d >>= _) _ _ s
    unfold Builtin.Dict.showsAll
    rw [if_neg (by rw [nd]; exact Bool.false_ne_true)]
    exact wpAny_bind (wpAny_pure (wpAny_bind (wpAny_newObj_type (wpAny_pure ⟨_, rfl, h⟩))))
def rValsT : V → List V → Hp → VK → Prop := fun x xs H Q => ∃ (a : Addr) (kvs : List (List L2.Key × V)), x = .ref a ∧ xs = [] ∧ H a = some (.dT kvs) ∧ ∀ p, H p = none → Q (.ref p) (upd H p (valsO p a))
theorem mt_valsT : MtR X "dict.values" rValsT := by
  intro pins s σ H x xs v us Q I rx rxs h
  obtain ⟨a, kvs, rfl, rfl, ha, q⟩ := h
  cases rx
  cases rxs
  obtain ⟨z, nd, ys, rel, o, es, ep, ho, hx, hd, _⟩ := dt_of I.hok ha
  refine call_meetsIn PySem.F.slot_dict_values (show s.TypeIs (.ref a) "dict" from ⟨o, ho, hx.1⟩) PySem.F.entry_dict_values (PySem.F.args_dict_values_1 _) (meetsVals (es := es) (ep := ep) nd) ⟨⟨o, ho, hx, hd⟩, ?_⟩
  exact ⟨.ref s.heap.objs.size, _, I.laid (t' := s.toks) (fun b u e => Heap.get?_push_of_some _ e) (Nat.le_refl _) (valsO_ok (Heap.get?_push_size _ rfl)), rfl, q _ (I.hok.fresh (Nat.le_refl _))⟩
def rMaxV : List V → List V → Hp → VK → Prop := fun xs zs H Q => ∃ (p a : Addr) (kvs : List (List L2.Key × V)) (is : List Int) (z0 : Int), xs = [.ref p] ∧ zs = [.int z0] ∧ H p = some (valsO p a) ∧ H a = some (.dT kvs) ∧ kvs.map (·.2) = is.map V.int ∧
  ∀ m : Int, (is = [] → m = z0) → (is ≠ [] → m ∈ is ∧ ∀ j ∈ is, j ≤ m) → Q (.int m) H
theorem kt_at {H : Hp} {kvs : List (List L2.Key × V)} {ys : List (List L2.Key × Addr × Value)} (r : Paired (fun (p : List L2.Key × V) (q : List L2.Key × Addr × Value) => p.1 = q.1 ∧ H q.2.1 = some (.tup (p.1.map kV)) ∧ RelV p.2 q.2.2) kvs ys) :
    ∀ {i : Nat} {q : List L2.Key × Addr × Value}, ys[i]? = some q → ∃ p, kvs[i]? = some p ∧ RelV p.2 q.2.2 := by
  induction r with
  | nil => intro i q e; simp at e
  | cons h _ ih =>
    intro i q e
    cases i with
    | zero => simp at e; subst e; exact ⟨_, rfl, h.2.2⟩
    | succ i => simpa using ih (i := i) (by simpa using e)
theorem cr_maxV (hc : X.calm = true) : CallRK X (.builtin "max") [Str.ofString "default"] rMaxV := by
  intro pins s σ H xs zs us ws Q I rx rz h
  obtain ⟨p, a, kvs, is, z0, rfl, rfl, hp, ha, hv, q⟩ := h
  rw [Vals.ref1 rx]
  cases rz with
  | cons r1 r2 =>
    cases r2
    obtain ⟨t0, rfl⟩ := r1
    have vw : s.heap.IsValuesView p a := (show ObjOk X.prog X.w H s.heap p (valsO p a) from I.hok p _ hp).1
    obtain ⟨z, nd, ys, rel, o, es, ep, ho, hx, hd, hen, _⟩ := I.hok a _ ha
    have ly : es.size = ys.length := by rw [← Array.length_toList, hen, List.length_map]
    have lk : kvs.length = ys.length := Paired.length rel
    have li : kvs.length = is.length := by have := congrArg List.length hv; simpa using this
    have hlt : a < s.heap.objs.size := Heap.lt_size ho
    have val : ∀ (i : Nat) (v : Value), (∃ hi : i < es.size, v = es[i].val) → ∃ t, v = Value.int (is.getD i 0) t := fun i v ⟨hi, e⟩ => by
      have hy : i < ys.length := by omega
      have ey : es[i].val = (ys[i]).2.2 := by
        have : es.toList[i]? = some es[i] := by simp [hi]
        rw [hen, List.getElem?_map, List.getElem?_eq_getElem hy] at this
        rw [← Option.some.inj this]
        rfl
      obtain ⟨pq, e1, e2⟩ := kt_at rel (i := i) (List.getElem?_eq_getElem hy)
      have e3 : (kvs.map (·.2))[i]? = some pq.2 := by rw [List.getElem?_map, e1]; rfl
      rw [hv, List.getElem?_map] at e3
      obtain ⟨j, hj, e4⟩ := Option.map_eq_some_iff.mp e3
      rw [← e4] at e2
      obtain ⟨t, e5⟩ := e2
      exact ⟨t, by rw [e, ey, e5, List.getD_eq_getElem?_getD, hj]; rfl⟩
    have raw : s.heap.DictRaw a es ep := ⟨o, ho, hx, hd⟩
    have fin : ∀ (m : Int) (t : Tok) (s' : Shared), Moved [s.heap.objs.size] (fun g g' => g' = g) { s with heap := s.heap.push { cls := .type "dict_valueiterator", data := .fields #[.ref a, .int 0 0, .int es.size 0, .int ep 0] } } s' → (is = [] → m = z0) → (is ≠ [] → m ∈ is ∧ ∀ j ∈ is, j ≤ m) → EP X pins σ Q (.int m t) s' := by
      intro m t s' hm h1 h2
      obtain ⟨h', g', d', tk', os'⟩ := s'
      obtain rfl : g' = s.gens := hm.gens
      obtain rfl : d' = s.drawn := hm.drawn
      obtain rfl : os' = s.os := hm.os
      exact ⟨.int m, H, I.kept fun b u e => hm.heap b u (fun hb => by
        rw [List.mem_singleton.mp hb] at e
        exact absurd (Heap.lt_size e) (Nat.lt_irrefl _)) (Heap.get?_push_of_some _ e), ⟨t, rfl⟩, q m h1 h2⟩
    refine call_max_walkD (wpAny_pyIter_values_raw vw raw ⟨s.heap.objs.size, _, _, _, _, _, _, s.heap, fun i j => decide (is.getD i 0 > is.getD j 0), rfl, (Walks.rawValues (A := X.A.in1) (I.ok.hd hc) s.heap.objs.size a (Nat.ne_of_lt hlt) es ep).toS, ⟨⟨_, Heap.get?_push_size _ rfl, rfl, rfl⟩, ⟨o, Heap.get?_push_of_some _ ho, hx, hd⟩⟩, fun b hb => ?_, fun b u e hb => ?_, fun b u e => Heap.get?_push_of_some _ e, fun e0 s' hm => ?_, fun hn => ⟨fun i j vi vj s2 Q2 E2 _ h1 h2 h3 => CmpOf.ints_gt (fun i => is.getD i 0) val i j vi vj s2 Q2 E2 h1 h2 h3, fun v s' hP hm => ?_⟩⟩)
    · show b < (s.heap.push _).objs.size
      rw [Heap.size_push]
      rcases List.mem_cons.mp hb with e | hb
      · rw [e]; exact Nat.lt_succ_self _
      · rw [List.mem_singleton.mp hb]; exact Nat.lt_succ_of_lt hlt
    · rw [List.mem_singleton.mp hb] at e
      exact absurd (Heap.lt_size e) (Nat.lt_irrefl _)
    · have n0 : is = [] := List.length_eq_zero_iff.mp (by omega)
      exact fin z0 t0 s' hm (fun _ => rfl) (fun hne => absurd n0 hne)
    · obtain ⟨t, rfl⟩ := val _ v hP
      obtain ⟨b1, b2⟩ := argBest_gt (fun i => is.getD i 0) (es.size - 1)
      refine fin _ t s' hm (fun e => by have z9 : is.length = 0 := (by rw [e]; rfl); exact absurd hn (by omega)) fun _ => ⟨?_, fun j hj => ?_⟩
      · have hb : argBest (fun i j => decide (is.getD i 0 > is.getD j 0)) (es.size - 1) < is.length := by omega
        rw [List.getD_eq_getElem?_getD, List.getElem?_eq_getElem hb]
        exact List.getElem_mem hb
      · obtain ⟨i, hi, e⟩ := List.mem_iff_getElem.mp hj
        have e2 : is.getD i 0 = j := by rw [List.getD_eq_getElem?_getD, List.getElem?_eq_getElem hi, ← e]; rfl
        rw [← e2]
        exact b2 i (by omega)
/-- min of a list of pairs of ints -/
def ltP (x y : Int × Int) : Prop := x.1 < y.1 ∨ (x.1 = y.1 ∧ x.2 < y.2)
def isP (K : PySem.W.Frag) (H : Hp) (v : V) (k : Int × Int) : Prop := ∃ b, v = .ref b ∧ SqT K H b [.int k.1, .int k.2]
def rMinP (K : PySem.W.Frag) : List V → Hp → VK → Prop := fun xs H Q => ∃ (a : Addr) (vs : List V) (ks : List (Int × Int)), xs = [.ref a] ∧ SqL K H a vs ∧ Paired (isP K H) vs ks ∧ ks ≠ [] ∧
  ∀ (i : Nat) (k : Int × Int) (v : V), ks[i]? = some k → vs[i]? = some v → (∀ k' ∈ ks, ¬ ltP k' k) → Q v H
theorem lt_pair {x y : Int × Int} : PySem.W.DatumOrd.lt x y = true ↔ ltP x y := by
  show (if x.1 = y.1 then decide (x.2 < y.2) else decide (x.1 < y.1)) = true ↔ _
  unfold ltP
  by_cases h : x.1 = y.1
  · rw [if_pos h, decide_eq_true_eq]
    omega
  · rw [if_neg h, decide_eq_true_eq]
    omega
theorem minOf_le : ∀ (xs : List (Int × Int)) (x : Int × Int), ∀ k ∈ x :: xs, ¬ ltP k (PySem.W.minOf x xs) := by
  intro xs
  induction xs with
  | nil =>
    intro x k hk
    rw [List.mem_singleton.mp hk]
    show ¬ ltP x x
    unfold ltP
    omega
  | cons y ys ih =>
    intro x k hk
    have e : PySem.W.minOf x (y :: ys) = PySem.W.minOf (if PySem.W.DatumOrd.lt y x = true then y else x) ys := rfl
    rw [e]
    have c := ih (if PySem.W.DatumOrd.lt y x = true then y else x)
    by_cases hyx : PySem.W.DatumOrd.lt y x = true
    · rw [if_pos hyx] at c ⊢
      rcases List.mem_cons.mp hk with rfl | hk
      · have h1 := c y (List.mem_cons_self ..)
        have h2 := lt_pair.mp hyx
        unfold ltP at *
        omega
      · exact c k hk
    · rw [if_neg hyx] at c ⊢
      rcases List.mem_cons.mp hk with rfl | hk
      · exact c _ (List.mem_cons_self ..)
      · rcases List.mem_cons.mp hk with rfl | hk
        · have h1 := c x (List.mem_cons_self ..)
          have h2 := mt lt_pair.mpr hyx
          unfold ltP at *
          omega
        · exact c k (List.mem_cons_of_mem _ hk)
theorem hold_pairs {pins : List (Addr × Obj)} {σ : L2.St} {H : Hp} {s : Shared} (I : Inv X pins σ H s) : ∀ {vs : List V} {ks : List (Int × Int)} {us : List Value}, Paired (isP X.K H) vs ks → Vals vs us → PySem.W.HoldAll s.heap us ks
  | _, _, _, .nil, .nil => .nil
  | _, _, _, .cons h t, .cons r rs => by
    obtain ⟨b, rfl, hq⟩ := h
    cases r
    obtain ⟨its, rv, pt, _⟩ := I.tuple hq
    cases rv with
    | cons r1 r2 =>
      cases r2 with
      | cons r2 r3 =>
        cases r3
        obtain ⟨t1, rfl⟩ := r1
        obtain ⟨t2, rfl⟩ := r2
        exact .cons (PySem.W.holds_pair pt (PySem.W.holds_int _ t1) (PySem.W.holds_int _ t2)) (hold_pairs I t rs)
theorem holdP_inj {h : Heap} {v : Value} {x y : Int × Int} (hx : PySem.W.Holds h v x) (hy : PySem.W.Holds h v y) : x = y := by
  obtain ⟨l, a, b, rfl, ⟨o, ho, hc, n, hd⟩, ha, hb⟩ := PySem.W.pair_of_holds hx
  obtain ⟨l', a', b', e, ⟨o', ho', hc', n', hd'⟩, ha', hb'⟩ := PySem.W.pair_of_holds hy
  cases e
  rw [ho] at ho'
  cases ho'
  rw [hd] at hd'
  injection hd' with hd1
  have e1 : a = a' := by have := congrArg (fun z : Array Value => z[0]?) hd1; simpa using this
  have e2 : b = b' := by have := congrArg (fun z : Array Value => z[1]?) hd1; simpa using this
  subst e1 e2
  obtain ⟨t, e3⟩ := PySem.W.int_of_holds ha
  obtain ⟨t', e4⟩ := PySem.W.int_of_holds ha'
  obtain ⟨u, e5⟩ := PySem.W.int_of_holds hb
  obtain ⟨u', e6⟩ := PySem.W.int_of_holds hb'
  rw [e3] at e4
  rw [e5] at e6
  injection e4 with e4
  injection e6 with e6
  exact Prod.ext e4 e6
theorem cr_minP (hc : X.calm = true) (hu : X.A.units + 64 < cLine) : CallR X (.builtin "min") (rMinP X.K) := by
  intro pins s σ H xs us Q I rx h
  obtain ⟨a, vs, ks, rfl, hs, hp, hne, q⟩ := h
  obtain ⟨its, rv, pl, _⟩ := I.list hs
  rw [Vals.ref1 rx]
  cases ks with
  | nil => exact absurd rfl hne
  | cons k ks =>
    have hold := hold_pairs I hp rv
    refine PySem.W.min_list_datum (I.ok.hd hc) pl.isList (x := k) (xs := ks) (by simpa using hold) (by show X.A.units + 1 + 1 < cLine; omega) fun i v h' tk hi hm hk => ?_
    have hi' : its[i]? = some v := by simpa using hi
    obtain ⟨x, ex, rx2⟩ : ∃ x, vs[i]? = some x ∧ RelV x v := by
      have hl := rv.length
      have : i < vs.length := by rw [hl]; exact (List.getElem?_eq_some_iff.mp hi').1
      obtain ⟨u, hu1, hu2⟩ := rv.get (List.getElem?_eq_getElem this)
      rw [hi'] at hu1
      cases hu1
      exact ⟨_, List.getElem?_eq_getElem this, hu2⟩
    obtain ⟨k1, ek, hk1⟩ := hold.at hi'
    have e1 : k1 = PySem.W.minOf k ks := holdP_inj (hk1.keeps hk) hm
    exact ⟨x, H, I.kept hk, rx2, q i k1 x ek ex fun k' hk' => by rw [e1]; exact minOf_le ks k k' hk'⟩
end
end Zn
set_option Elab.async false
set_option linter.all false
set_option maxRecDepth 100000
set_option maxHeartbeats 4000000
namespace Zn
open PySem PySem.Spec PyProof.Rows L2 GxR
section
variable {X : Cx}
theorem fold_one (c : Nat) : ∀ (n : Nat) (xs : Array Nat), (List.replicate n #[c]).foldl (· ++ ·) xs = ⟨xs.toList ++ List.replicate n c⟩
  | 0, xs => by simp
  | n + 1, xs => by
    rw [List.replicate_succ, List.foldl_cons, fold_one c n]
    simp [List.replicate_succ]
/-- a letter * n -/
def rRepC : R2 := fun x y H Q => ∃ (c : Nat) (k : Int), x = .str ⟨#[c]⟩ ∧ y = .int k ∧ 1 ≤ k ∧ k ≤ 1000 ∧ Q (.str ⟨(List.replicate k.toNat c).toArray⟩) H
theorem op_repC : OpR X (binaryOp .Mult) rRepC := by
  intro pins s σ H x y v u Q I rx ry h
  obtain ⟨c, k, rfl, rfl, h1, h2, q⟩ := h
  obtain ⟨t, rfl⟩ := rx
  obtain ⟨t2, rfl⟩ := ry
  have hr : (decide (k < -(2 ^ 63 : Int)) || decide (k ≥ 2 ^ 63)) = false := by
    rw [decide_eq_false (by omega), decide_eq_false (by omega)]
    rfl
  have n1 : ¬ k < 1 := by omega
  have l1 : ((⟨#[c]⟩ : Str).length : Int) = 1 := rfl
  have l2 : (⟨#[c]⟩ : Str).length = 1 := rfl
  refine P.mul_str hr (fun _ _ => ?_) (fun _ _ => ?_) ?_
  · rw [l1]
    have : (1 : Int) ≤ (2 ^ 63 - 1) / k := by
      rw [Int.le_ediv_iff_mul_le (by omega)]
      omega
    omega
  · rw [l2]
    have : k.toNat ≤ 1000 := by omega
    unfold Builtin.Str.tooLong
    rw [decide_eq_false_iff_not, sizeLine_eq]
    omega
  · rw [if_neg n1]
    by_cases e : k = 1
    · subst e
      rw [if_pos (by rfl)]
      exact ⟨.str ⟨#[c]⟩, H, I, ⟨t, rfl⟩, q⟩
    · have e2 : (k == 1 || (⟨#[c]⟩ : Str).length == 0) = false := by
        rw [l2, beq_eq_false_iff_ne.mpr e]
        rfl
      rw [e2]
      rw [fold_one c k.toNat #[]] 
      refine ⟨?_, .str ⟨(List.replicate k.toNat c).toArray⟩, H, I.tok _, ⟨_, rfl⟩, q⟩
      show (List.replicate k.toNat c).length ≤ sizeLine
      rw [List.length_replicate, sizeLine_eq]
      omega
end
end Zn
namespace Dl
open PySem PySem.Spec PyProof.Rows L2 GxR Gn
section
variable {X : Cx} {Ts : Tbs} {E : XK} {pos p apos mpos tpos cpos : Pos} {a b c e o i f tg : Expr} {es : List Expr} {ta tb to ti te ty tz : TEd} {t : TAd} {st : Stmt} {ts : TSd}
def mulS (x y : D) (M : Mem) (Q : KD) : Prop := ∃ (c : Nat) (k : Int), x = .str ⟨#[c]⟩ ∧ y = .int k ∧ 1 ≤ k ∧ k ≤ 1000 ∧ Q (.str ⟨(List.replicate k.toNat c).toArray⟩) M
theorem od_mulS : OpD X Ts Zn.rRepC mulS := fun ρ M H x y v u Q Qd R sx sy ⟨c, k, e1, e2, h1, h2, q⟩ kk => by
  subst e1 e2
  cases sx
  cases sy
  exact ⟨c, k, rfl, rfl, h1, h2, kk.same R q (.str _)⟩
theorem qe_mulS (ha : QE X Ts E a ta) (hb : QE X Ts E b tb) : QE X Ts E (.BinOp a .Mult b pos) (dOp mulS ta tb) := qe_op Zn.op_repC od_mulS ha hb
def joinTD (o : D) (ds : List D) (M : Mem) (Q : KD) : Prop := ∃ (a : Str) (ws : List Str), o = .str a ∧ ((∃ i, ds = [.obj i] ∧ M[i]? = some (.lst (ws.map D.str))) ∨ ds = [.tup (ws.map D.str)]) ∧ (ws.map (·.length)).sum + ws.length * a.length ≤ 16777216 ∧ Q (.str (Txt.join a ws)) M
theorem md_joinT : MtD X Ts (rJoinS X.K) joinTD := fun ρ M H o ds v vs Q Qd R so sd ⟨a, ws, e, e2, hz, q⟩ k => by
  subst e
  cases so
  rcases e2 with ⟨i, rfl, em⟩ | rfl
  · obtain ⟨a', vs', r1, g1, t1⟩ := R.lst em
    cases sd with
    | cons s1 s2 =>
      cases s2
      cases s1 with
      | obj ea =>
        rw [ea] at r1; cases r1
        rw [shs_strs t1] at g1
        exact ⟨a, _, ws, rfl, rfl, .inl (SqL.of g1), hz, k.same R q (.str _)⟩
  · cases sd with
    | cons s1 s2 =>
      cases s2
      cases s1 with
      | tup h1 h2 =>
        rw [shs_strs h2] at h1
        exact ⟨a, _, ws, rfl, rfl, .inr (SqT.of h1), hz, k.same R q (.str _)⟩
theorem qe_joinT (ho : QE X Ts E o to) (ha : QA X Ts E (e :: es) t) (hbase : attributeBase o "join" X.env (eval o X.env) = eval o X.env := by rfl)
    (hfew : ((backTo cpos (starEach (e :: es) X.env)).all (fun x => !x.1) && (backToKw cpos (keywordEach [] X.env)).all (fun x => x.1.isSome)
      && decide ((e :: es).length + ([] : List Keyword).length + (if ([] : List Keyword).isEmpty then 0 else 1) < 30)) = true := by rfl)
    (hline : (apos.endLine == cpos.line) = true := by rfl) (hs : starEach (e :: es) X.env = (false, eval e X.env) :: starEach es X.env := by rfl) (hplain : (backTo cpos (starEach es X.env)).any (·.1) = false := by rfl) :
    QE X Ts E (.Call (.Attribute o "join" apos) (e :: es) [] cpos) (dBM isStr joinTD to t) := peLe (pe_bm PySem.F.plainAttrs_str PySem.F.slot_str_join PySem.F.type_str_join mt_joinD ho ha hbase hfew hline hs hplain) fun σ H Q h => bmRead ty_strD md_joinT h
def prD (k : Int × Int) : D := .tup [.int k.1, .int k.2]
def minPD : List D → Mem → KD → Prop
  | [.obj i], M, Q => ∃ ks : List (Int × Int), M[i]? = some (.lst (ks.map prD)) ∧ ks ≠ [] ∧ ∀ k ∈ ks, (∀ k' ∈ ks, ¬ Zn.ltP k' k) → Q (prD k) M
  | _, _, _ => False
@[simp] theorem minPD_obj {i : Nat} {M : Mem} {Q : KD} : minPD [.obj i] M Q ↔ ∃ ks : List (Int × Int), M[i]? = some (.lst (ks.map prD)) ∧ ks ≠ [] ∧ ∀ k ∈ ks, (∀ k' ∈ ks, ¬ Zn.ltP k' k) → Q (prD k) M := Iff.rfl
theorem shs_prsP {K : PySem.W.Frag} {ρ : Rho} {H : Hp} : ∀ {ks : List (Int × Int)} {vs : List V}, Shs K ρ H (ks.map prD) vs → Paired (Zn.isP K H) vs ks
  | [], vs, h => by cases h; exact .nil
  | k :: ks, vs, h => by
    cases h with
    | cons h1 h2 =>
      refine .cons ?_ (shs_prsP h2)
      cases h1 with
      | tup ha hb =>
        cases hb with
        | cons x1 x2 =>
          cases x2 with
          | cons x2 x3 =>
            cases x3; cases x1; cases x2
            exact ⟨_, rfl, SqT.of ha⟩
theorem cr_minPR {k : Nat} (hc : X.calm = true) (hr : Room k X.A) : CallR X (.builtin "min") (Zn.rMinP X.K) := Zn.cr_minP hc (by have := hr.units; omega)
theorem cd_minP : CallD X Ts (Zn.rMinP X.K) minPD := fun ρ M H ds vs Q Qd R s h k => by
  cases s with
  | nil => exact h.elim
  | cons s1 s2 =>
    cases s2 with
    | cons _ _ => cases s1 <;> exact h.elim
    | nil =>
      cases s1 with
      | @obj n a ea =>
        obtain ⟨ks, em, hne, q⟩ := h
        obtain ⟨a', vs, r1, h1, t1⟩ := R.lst em
        rw [ea] at r1; cases r1
        refine ⟨a, vs, ks, rfl, SqL.of h1, shs_prsP t1, hne, fun i kk v e1 e2 hm => ?_⟩
        obtain ⟨v', e3, s3⟩ := t1.getD (i := i) (d := prD kk) (by rw [List.getElem?_map, e1]; rfl)
        rw [e2] at e3
        cases e3
        exact k.same R (q kk (List.mem_of_getElem? e1) hm) s3
      | _ => exact h.elim
@[simp] def dMaxV (z0 : Int) (to : TEd) : TEd := fun S M Q E => to S M (fun x M1 => ∃ (n : Nat) (kvs : List (List Key × D)) (is : List Int), x = .obj n ∧ M1[n]? = some (.dT kvs) ∧ kvs.map (·.2) = is.map D.int ∧
  ∀ m : Int, (is = [] → m = z0) → (is ≠ [] → m ∈ is ∧ ∀ j ∈ is, j ≤ m) → Q (.int m) M1) E
theorem shp_vals {κ : Type} {K : PySem.W.Frag} {ρ : Rho} {H : Hp} : ∀ {kvs : List (κ × D)} {vs : List (κ × V)} {is : List Int}, Shp K ρ H kvs vs → kvs.map (·.2) = is.map D.int → vs.map (·.2) = is.map V.int
  | _, _, is, .nil, e => by cases is with | nil => rfl | cons _ _ => cases e
  | _, _, is, .cons h t, e => by
    cases is with
    | nil => cases e
    | cons j is =>
      injection e with e1 e2
      have e1' := e1
      dsimp only at e1'
      rw [e1'] at h
      cases h
      rw [List.map_cons, List.map_cons, shp_vals t e2]
theorem boot_max2 : bootBuiltins "max" = some (.builtin "max") := by decide +kernel
theorem qe_maxV {kpos kp2 : Pos} {z0 : Int} {j0 : Nat} (hc : X.calm = true) (hg : Gl X "max") (hm : X.mg "max" = none) (ho : QE X Ts E o to) (hbase : attributeBase o "values" X.env (eval o X.env) = eval o X.env := by rfl) (hline : (apos.endLine == mpos.line) = true := by rfl)
    (h1 : backTo pos (starEach [Expr.Call (.Attribute o "values" apos) [] [] mpos] X.env) = (false, eval (Expr.Call (.Attribute o "values" apos) [] [] mpos) X.env) :: backTo pos (starEach [] X.env) := by rfl)
    (h2 : (backTo pos (starEach [Expr.Call (.Attribute o "values" apos) [] [] mpos] X.env)).any (·.1) = false := by rfl)
    (h3 : (backToKw pos (keywordEach [⟨some "default", .Constant (.int z0) j0 kp2, kpos⟩] X.env)).all (·.1.isSome) = true := by rfl) (h4 : (backToKw pos (keywordEach [⟨some "default", .Constant (.int z0) j0 kp2, kpos⟩] X.env)).any (·.1.isNone) = false := by rfl) (h5 : (backToKw pos (keywordEach [⟨some "default", .Constant (.int z0) j0 kp2, kpos⟩] X.env)).filterMap (·.1) = [Str.ofString "default"] := by rfl)
    (h6 : starEach [Expr.Call (.Attribute o "values" apos) [] [] mpos] X.env = (false, eval (Expr.Call (.Attribute o "values" apos) [] [] mpos) X.env) :: starEach [] X.env := by rfl) :
    QE X Ts E (.Call (.Name "max" p) [.Call (.Attribute o "values" apos) [] [] mpos] [⟨some "default", .Constant (.int z0) j0 kp2, kpos⟩] pos) (dMaxV z0 to) :=
  peLe (pe_callBK (Zn.cr_maxV hc) hg hm boot_max2 (pa_cons (pe_bm0 PySem.F.plainAttrs_dict PySem.F.slot_dict_values PySem.F.type_dict_values Zn.mt_valsT ho hbase hline) pa_nil h6) (pk_cons pe_int pk_nil) (by decide) (by decide) h1 h2 h3 h4 h5) fun σ H Q ⟨ρ, S, M, Qd, Ed, R, sl, q, k, x⟩ =>
  ⟨ρ, S, M, _, Ed, R, sl, q, fun d M1 ⟨n, kvs, is, ed, em, ev, q1⟩ ρ1 H1 v g1 R1 s1 => by
    subst ed
    cases s1 with
    | @obj _ a ea =>
      obtain ⟨a', vs, r1, h1, t1⟩ := R1.dictT em
      rw [ea] at r1; cases r1
      refine ⟨.inr (.inr (.inl ⟨rfl, .inr ⟨vs, h1⟩⟩)), a, vs, rfl, rfl, h1, fun p hp => ?_⟩
      have na : a ≠ p := fun z => by rw [z, hp] at h1; cases h1
      refine ⟨p, a, vs, is, z0, rfl, rfl, upd_same, by rw [upd_ne na]; exact h1, shp_vals t1 ev, fun m m1 m2 => ?_⟩
      exact k _ _ (q1 m m1 m2) ρ1 _ _ (g1.tr (grw_new hp)) (R1.new hp) (.int m), x⟩
def dLockT (j : Nat) (te : TEd) : TEd := fun S M Q E => ∃ n kvs, S[j]? = some (some (.obj n)) ∧ M[n]? = some (.dT kvs) ∧ te S (M.set n (.lkt kvs)) (fun v M' => M'[n]? = some (.lkt kvs) ∧ Q v (M'.set n (.dT kvs))) E00
theorem unl_shT {K : PySem.W.Frag} {ρ : Rho} {H : Hp} {a : Addr} {od : Obj} {vs : List (List Key × V)} (eh : H a = some (.frz od (.dT vs))) : (∀ d v, Sh K ρ H d v → Sh K ρ (upd H a (.dT vs)) d v) :=
  Sh.keepL (fun b xs eb => by rw [upd_ne (fun z => by rw [z, eh] at eb; cases eb)]; exact eb) (fun b o xs eb => by rw [upd_ne (fun z => by rw [z, eh] at eb; cases eb)]; exact eb) (fun b xs eb => by rw [upd_ne (fun z => by rw [z, eh] at eb; cases eb)]; exact eb) (fun b p q eb => by rw [upd_ne (fun z => by rw [z, eh] at eb; unfold LamX.CodeO at eb; cases eb)]; exact eb)
theorem qe_lockT {j : Nat} (h : QE X Ts E e te) : QE X Ts E e (dLockT j te) := peLe (pe_lock h) fun σ H Q ⟨ρ, S, M, Qd, Ed, R, sl, ⟨n, kvs, hS, hM, q⟩, k, x⟩ => by
  obtain ⟨a, vs, r1, h1, t1⟩ := R.dictT hM
  obtain ⟨v0, e0, s0⟩ := sl.at_ j _ hS
  refine ⟨a, .dT vs, h1, trivial, fun od => ⟨ρ, S, M.set n (.lkt kvs), _, E00, R.lockT hM r1 h1 t1, sl.grw (grw_lockT h1), q, fun v M' ⟨em, q2⟩ ρ' H' w g R' s' => ?_, xok0⟩⟩
  have ef : H' a = some (.frz od (.dT vs)) := g.z _ _ _ upd_same
  exact ⟨ef, k _ _ q2 ρ' _ w (grw_trans_lockT h1 g vs) (R'.unlockT em (g.r _ _ r1) ef) (unl_shT ef _ _ s')⟩
theorem Rl.lkt {K : PySem.W.Frag} {ρ : Rho} {M : Mem} {H : Hp} (R : Rl K Ts ρ M H) {i : Nat} {ds : List (List Key × D)} (e : M[i]? = some (.lkt ds)) : ∃ a od vs, ρ i = some a ∧ H a = some (.frz od (.dT vs)) ∧ Shp K ρ H ds vs := by
  obtain ⟨a, o, e1, e2, od, vs, rfl, s⟩ := R.cell i _ e
  exact ⟨a, od, vs, e1, e2, s⟩
theorem shs_kys {K : PySem.W.Frag} {ρ : Rho} {H : Hp} : ∀ k : List Key, Shs K ρ H (k.map kyD) (k.map kV)
  | [] => .nil
  | x :: k => .cons (sh_ky x) (shs_kys k)
theorem feeds_keysT {K : PySem.W.Frag} {ρ : Rho} {H : Hp} {d : Addr} {od : Obj} {kvs : List (List Key × D)} {vs : List (List Key × V)} (h : H d = some (.frz od (.dT vs))) (s : Shp K ρ H kvs vs) : Feeds K Ts ρ H (Itkt d od vs) (kvs.map fun kv => .tup (kv.1.map kyD)) (fun _ => True) := fun ρ1 M1 H1 g1 R1 _ i => by
  have l := s.length
  refine ⟨fun e => ⟨g1.z _ _ _ h, by simpa [l] using e⟩, fun x e => ⟨⟨g1.z _ _ _ h, by have := (List.getElem?_eq_some_iff.mp e).1; simpa [l] using this⟩, ?_⟩⟩
  rintro y H2 ⟨rfl, k, v, q, ek, rfl, hq⟩
  obtain ⟨d', e1, e2⟩ := s.at i k v ek
  rw [List.getElem?_map, e1] at e
  cases e
  exact ⟨ρ1, Grw.refl _ _, R1, .tup hq (shs_kys k)⟩
@[simp] def dKeysT (to : TEd) : TId := fun S M Q E => to S M (fun x M1 => ∃ n kvs, x = .obj n ∧ M1[n]? = some (.lkt kvs) ∧ Q (kvs.map fun kv => .tup (kv.1.map kyD)) (fun _ => True) M1) E
theorem qi_keysT (h : QE X Ts E e to) : QI X Ts E tg e (dKeysT to) :=
  piLe (pi_keys h) fun σ H Rr ⟨ρ, S, M, Qd, Ed, R, sl, q, k, x⟩ => ⟨ρ, S, M, _, Ed, R, sl, q, fun d M1 ⟨n, kvs, ed, em, q1⟩ ρ1 H1 v g1 R1 s1 => by
    subst ed
    obtain ⟨a, od, vs, r1, h1, t1⟩ := R1.lkt em
    cases s1 with
    | obj ea =>
      rw [ea] at r1; cases r1
      exact ⟨_, od, rfl, .inr ⟨vs, h1, k _ _ _ q1 ρ1 H1 _ g1 R1 (feeds_keysT h1 t1)⟩⟩, x⟩
/-- d[t] of a locked one -/
def ixLT (x y : D) (M : Mem) (Q : KD) : Prop := ∃ n kvs ds ks v, x = .obj n ∧ M[n]? = some (.lkt kvs) ∧ y = .tup ds ∧ keysD ds = some ks ∧ valD kvs ks = some v ∧ Q v M
theorem od_ixLT : OpD X Ts rIxDk ixLT := fun ρ M H x y v u Q Qd R sx sy ⟨n, kvs, ds, ks, d, ex, em, ey, ek, ev, q⟩ k => by
  subst ex ey
  cases sx with
  | obj ea =>
    obtain ⟨a', od, vs, r1, h1, t1⟩ := R.lkt em
    rw [ea] at r1; cases r1
    obtain ⟨b, rfl, hb⟩ := tupKey ek sy
    rcases t1.val ks with ⟨z, _⟩ | ⟨d', w, z1, z2, z3⟩
    · rw [ev] at z; cases z
    · rw [ev] at z1; cases z1
      refine ⟨_, w, rfl, ?_, k.same R q z3⟩
      rw [← z2]
      exact .inr ⟨_, ks, b, .inr ⟨od, h1⟩, rfl, hb, rfl⟩
theorem qe_atLT {k : Nat} (hr : Room k X.A) (ha : QE X Ts E a ta) (hb : QE X Ts E b tb) (hs : PlainIx b := by intro _ _; rfl) : QE X Ts E (.Subscript a b pos) (dOp ixLT ta tb) := qe_ix (ix_dk (by have := hr.units; omega)) od_ixLT ha hb hs
end
end Dl
set_option Elab.async false
set_option linter.all false
set_option maxRecDepth 100000
set_option maxHeartbeats 4000000
namespace Z03
open PySem PySem.Spec PyProof.Rows L2 GxR Gn Dl
def top (i : Nat) : Stmt := PySem.Challenge.pw_draftward_k03_whole_training_by_own_coun.main.body.getD i (.Pass ⟨0, 0, 0, 0⟩)
set_option genInjectivity false in
set_option genSizeOfSpec false in
structure Wd (K : PySem.W.Frag) (mg : Str → Option Value) (base : Heap) where
  a8 : Addr
  d8 : FuncData
  D8 : Df K mg "is_integer" (top 8) ["thing"] a8 d8
  a9 : Addr
  d9 : FuncData
  D9 : Df K mg "is_integer_from" (top 9) ["thing", "least"] a9 d9
  a10 : Addr
  d10 : FuncData
  D10 : Df K mg "is_number_below" (top 10) ["thing", "many"] a10 d10
  a11 : Addr
  d11 : FuncData
  D11 : Df K mg "is_token" (top 11) ["thing", "many"] a11 d11
  a12 : Addr
  d12 : FuncData
  D12 : Df K mg "are_tokens" (top 12) ["thing", "many"] a12 d12
  a13 : Addr
  d13 : FuncData
  D13 : Df K mg "are_small_letters" (top 13) ["thing"] a13 d13
  a14 : Addr
  d14 : FuncData
  D14 : Df K mg "is_tuple_of" (top 14) ["thing", "many"] a14 d14
  a18 : Addr
  d18 : FuncData
  D18 : Df K mg "is_vocabulary" (top 18) ["thing"] a18 d18
  a19 : Addr
  d19 : FuncData
  D19 : Df K mg "size" (top 19) ["vocabulary"] a19 d19
  a20 : Addr
  d20 : FuncData
  D20 : Df K mg "to_tokens" (top 20) ["vocabulary", "text"] a20 d20
  a21 : Addr
  d21 : FuncData
  D21 : Df K mg "to_text" (top 21) ["vocabulary", "tokens"] a21 d21
  a22 : Addr
  d22 : FuncData
  D22 : Df K mg "trained" (top 22) ["texts", "n"] a22 d22
  a23 : Addr
  d23 : FuncData
  D23 : Df K mg "pieces_of" (top 23) ["vocabulary"] a23 d23
  a24 : Addr
  d24 : FuncData
  D24 : Df K mg "tokens_of" (top 24) ["vocabulary", "text"] a24 d24
  a25 : Addr
  d25 : FuncData
  D25 : Df K mg "next_merge" (top 25) ["rows", "pieces"] a25 d25
  a26 : Addr
  d26 : FuncData
  D26 : Df K mg "_need_vocabulary" (top 26) ["vocabulary"] a26 d26
  a27 : Addr
  d27 : FuncData
  D27 : Df K mg "_need_text" (top 27) ["vocabulary", "text"] a27 d27
  a28 : Addr
  d28 : FuncData
  D28 : Df K mg "_are_letters" (top 28) ["thing"] a28 d28
  a29 : Addr
  d29 : FuncData
  D29 : Df K mg "_are_merges" (top 29) ["letters", "thing"] a29 d29
  a30 : Addr
  d30 : FuncData
  D30 : Df K mg "_is_merge" (top 30) ["thing", "made"] a30 d30
  a31 : Addr
  d31 : FuncData
  D31 : Df K mg "_are_texts" (top 31) ["thing"] a31 d31
  a32 : Addr
  d32 : FuncData
  D32 : Df K mg "_size_of" (top 32) ["vocabulary"] a32 d32
  a33 : Addr
  d33 : FuncData
  D33 : Df K mg "_pieces" (top 33) ["letters", "merges"] a33 d33
  a34 : Addr
  d34 : FuncData
  D34 : Df K mg "_letter_tokens" (top 34) ["letters", "text"] a34 d34
  a35 : Addr
  d35 : FuncData
  D35 : Df K mg "_merged" (top 35) ["tokens", "merge", "made"] a35 d35
  a37 : Addr
  d37 : FuncData
  D37 : Df K mg "_law_deck" (top 37) ["script", "seed"] a37 d37
  a38 : Addr
  d38 : FuncData
  D38 : Df K mg "_law_draw" (top 38) ["deck", "many"] a38 d38
  a39 : Addr
  d39 : FuncData
  D39 : Df K mg "_law_pick" (top 39) ["deck", "some"] a39 d39
  a40 : Addr
  d40 : FuncData
  D40 : Df K mg "_law_letters" (top 40) ["deck", "most"] a40 d40
  a41 : Addr
  d41 : FuncData
  D41 : Df K mg "_law_drawn_text" (top 41) ["deck", "letters", "most"] a41 d41
  a42 : Addr
  d42 : FuncData
  D42 : Df K mg "_law_merged" (top 42) ["tokens", "pair", "new"] a42 d42
  a43 : Addr
  d43 : FuncData
  D43 : Df K mg "_law_tokens" (top 43) ["vocabulary", "text"] a43 d43
  a44 : Addr
  d44 : FuncData
  D44 : Df K mg "_law_trained" (top 44) ["texts", "n"] a44 d44
  a45 : Addr
  d45 : FuncData
  D45 : Df K mg "law" (top 45) ["script"] a45 d45
  cs : Nat → Addr
  x2 : mg "BadVocabulary" = some (.ref (cs 2))
  x3 : mg "BadNumber" = some (.ref (cs 3))
  x4 : mg "BadTokens" = some (.ref (cs 4))
  x5 : mg "BadText" = some (.ref (cs 5))
  x6 : mg "BadTexts" = some (.ref (cs 6))
  y2 : Addr
  e2 : PySem.ErrX.ErrTxt K mg "BadVocabulary" (cs 2) y2
  y3 : Addr
  e3 : PySem.ErrX.ErrTxt K mg "BadNumber" (cs 3) y3
  y4 : Addr
  e4 : PySem.ErrX.ErrTxt K mg "BadTokens" (cs 4) y4
  y5 : Addr
  e5 : PySem.ErrX.ErrTxt K mg "BadText" (cs 5) y5
  y6 : Addr
  e6 : PySem.ErrX.ErrTxt K mg "BadTexts" (cs 6) y6
  eks : ∀ j, j ∈ ([2, 3, 4, 5, 6] : List Nat) → ExK K (cs j)
  ens : ∀ j, j ∈ ([2, 3, 4, 5, 6] : List Nat) → PySem.W.findIn K (.ref (cs j)) "thing" = some none
  c12 : Addr
  P12 : Addr
  T12 : Tb mg base d12 c12 P12
  c13 : Addr
  P13 : Addr
  T13 : Tb mg base d13 c13 P13
  c27 : Addr
  P27 : Addr
  T27 : Tb mg base d27 c27 P27
  c30 : Addr
  P30 : Addr
  T30 : Tb mg base d30 c30 P30
  c31 : Addr
  P31 : Addr
  T31 : Tb mg base d31 c31 P31
  m_all : mg "all" = none
  m_bool : mg "bool" = none
  m_enumerate : mg "enumerate" = none
  m_int : mg "int" = none
  m_isinstance : mg "isinstance" = none
  m_len : mg "len" = none
  m_list : mg "list" = none
  m_max : mg "max" = none
  m_min : mg "min" = none
  m_range : mg "range" = none
  m_repr : mg "repr" = none
  m_set : mg "set" = none
  m_sorted : mg "sorted" = none
  m_str : mg "str" = none
  m_tuple : mg "tuple" = none
  m_zip : mg "zip" = none
  g_MOST_LETTERS : ∃ t, mg "MOST_LETTERS" = some (.int 6 t)
  g_MOST_MERGES : ∃ t, mg "MOST_MERGES" = some (.int 10 t)
def Wd.Ts {K : PySem.W.Frag} {mg : Str → Option Value} {base : Heap} (W : Wd K mg base) (w : World) : Tbs := { w := w, g := [W.P12, W.P13, W.P27, W.P30, W.P31] }
theorem sc8 : FnScope ["thing"] ["thing"] (defScope (top 8)) := ⟨rfl, rfl, rfl, by decide +kernel, rfl, by decide +kernel, by decide +kernel⟩
theorem sc9 : FnScope ["thing", "least"] ["thing", "least"] (defScope (top 9)) := ⟨rfl, rfl, rfl, by decide +kernel, rfl, by decide +kernel, by decide +kernel⟩
theorem sc10 : FnScope ["thing", "many"] ["thing", "many"] (defScope (top 10)) := ⟨rfl, rfl, rfl, by decide +kernel, rfl, by decide +kernel, by decide +kernel⟩
theorem sc11 : FnScope ["thing", "many"] ["thing", "many"] (defScope (top 11)) := ⟨rfl, rfl, rfl, by decide +kernel, rfl, by decide +kernel, by decide +kernel⟩
theorem sc12 : FnScope ["thing", "many", "item"] ["thing", "many"] (defScope (top 12)) := ⟨rfl, rfl, rfl, by decide +kernel, rfl, by decide +kernel, by decide +kernel⟩
theorem sc13 : FnScope ["thing", "letter"] ["thing"] (defScope (top 13)) := ⟨rfl, rfl, rfl, by decide +kernel, rfl, by decide +kernel, by decide +kernel⟩
theorem sc14 : FnScope ["thing", "many"] ["thing", "many"] (defScope (top 14)) := ⟨rfl, rfl, rfl, by decide +kernel, rfl, by decide +kernel, by decide +kernel⟩
theorem sc18 : FnScope ["thing", "_", "letters", "merges"] ["thing"] (defScope (top 18)) := ⟨rfl, rfl, rfl, by decide +kernel, rfl, by decide +kernel, by decide +kernel⟩
theorem sc19 : FnScope ["vocabulary"] ["vocabulary"] (defScope (top 19)) := ⟨rfl, rfl, rfl, by decide +kernel, rfl, by decide +kernel, by decide +kernel⟩
theorem sc20 : FnScope ["vocabulary", "text"] ["vocabulary", "text"] (defScope (top 20)) := ⟨rfl, rfl, rfl, by decide +kernel, rfl, by decide +kernel, by decide +kernel⟩
theorem sc21 : FnScope ["vocabulary", "tokens", "pieces", "token"] ["vocabulary", "tokens"] (defScope (top 21)) := ⟨rfl, rfl, rfl, by decide +kernel, rfl, by decide +kernel, by decide +kernel⟩
theorem sc22 : FnScope ["texts", "n", "letters", "rows", "merges", "made", "merge", "text", "row"] ["texts", "n"] (defScope (top 22)) := ⟨rfl, rfl, rfl, by decide +kernel, rfl, by decide +kernel, by decide +kernel⟩
theorem sc23 : FnScope ["vocabulary", "_", "letters", "merges"] ["vocabulary"] (defScope (top 23)) := ⟨rfl, rfl, rfl, by decide +kernel, rfl, by decide +kernel, by decide +kernel⟩
theorem sc24 : FnScope ["vocabulary", "text", "_", "letters", "merges", "tokens", "at", "merge"] ["vocabulary", "text"] (defScope (top 24)) := ⟨rfl, rfl, rfl, by decide +kernel, rfl, by decide +kernel, by decide +kernel⟩
theorem sc25 : FnScope ["rows", "pieces", "counts", "row", "i", "j", "greatest", "pair"] ["rows", "pieces"] (defScope (top 25)) := ⟨rfl, rfl, rfl, by decide +kernel, rfl, by decide +kernel, by decide +kernel⟩
theorem sc26 : FnScope ["vocabulary"] ["vocabulary"] (defScope (top 26)) := ⟨rfl, rfl, rfl, by decide +kernel, rfl, by decide +kernel, by decide +kernel⟩
theorem sc27 : FnScope ["vocabulary", "text", "letter"] ["vocabulary", "text"] (defScope (top 27)) := ⟨rfl, rfl, rfl, by decide +kernel, rfl, by decide +kernel, by decide +kernel⟩
theorem sc28 : FnScope ["thing"] ["thing"] (defScope (top 28)) := ⟨rfl, rfl, rfl, by decide +kernel, rfl, by decide +kernel, by decide +kernel⟩
theorem sc29 : FnScope ["letters", "thing", "at", "merge", "pieces"] ["letters", "thing"] (defScope (top 29)) := ⟨rfl, rfl, rfl, by decide +kernel, rfl, by decide +kernel, by decide +kernel⟩
theorem sc30 : FnScope ["thing", "made", "item"] ["thing", "made"] (defScope (top 30)) := ⟨rfl, rfl, rfl, by decide +kernel, rfl, by decide +kernel, by decide +kernel⟩
theorem sc31 : FnScope ["thing", "text"] ["thing"] (defScope (top 31)) := ⟨rfl, rfl, rfl, by decide +kernel, rfl, by decide +kernel, by decide +kernel⟩
theorem sc32 : FnScope ["vocabulary"] ["vocabulary"] (defScope (top 32)) := ⟨rfl, rfl, rfl, by decide +kernel, rfl, by decide +kernel, by decide +kernel⟩
theorem sc33 : FnScope ["letters", "merges", "pieces", "i", "j"] ["letters", "merges"] (defScope (top 33)) := ⟨rfl, rfl, rfl, by decide +kernel, rfl, by decide +kernel, by decide +kernel⟩
theorem sc34 : FnScope ["letters", "text", "letter"] ["letters", "text"] (defScope (top 34)) := ⟨rfl, rfl, rfl, by decide +kernel, rfl, by decide +kernel, by decide +kernel⟩
theorem sc35 : FnScope ["tokens", "merge", "made", "found", "at"] ["tokens", "merge", "made"] (defScope (top 35)) := ⟨rfl, rfl, rfl, by decide +kernel, rfl, by decide +kernel, by decide +kernel⟩
theorem sc37 : FnScope ["script", "seed", "mixed", "cell"] ["script", "seed"] (defScope (top 37)) := ⟨rfl, rfl, rfl, by decide +kernel, rfl, by decide +kernel, by decide +kernel⟩
theorem sc38 : FnScope ["deck", "many", "cell", "figure"] ["deck", "many"] (defScope (top 38)) := ⟨rfl, rfl, rfl, by decide +kernel, rfl, by decide +kernel, by decide +kernel⟩
theorem sc39 : FnScope ["deck", "some"] ["deck", "some"] (defScope (top 39)) := ⟨rfl, rfl, rfl, by decide +kernel, rfl, by decide +kernel, by decide +kernel⟩
theorem sc40 : FnScope ["deck", "most", "left", "found", "turn"] ["deck", "most"] (defScope (top 40)) := ⟨rfl, rfl, rfl, by decide +kernel, rfl, by decide +kernel, by decide +kernel⟩
theorem sc41 : FnScope ["deck", "letters", "most", "found", "turn", "part", "at"] ["deck", "letters", "most"] (defScope (top 41)) := ⟨rfl, rfl, rfl, by decide +kernel, rfl, by decide +kernel, by decide +kernel⟩
theorem sc42 : FnScope ["tokens", "pair", "new", "found", "at"] ["tokens", "pair", "new"] (defScope (top 42)) := ⟨rfl, rfl, rfl, by decide +kernel, rfl, by decide +kernel, by decide +kernel⟩
theorem sc43 : FnScope ["vocabulary", "text", "word", "letters", "merges", "found", "at", "pair", "x"] ["vocabulary", "text"] (defScope (top 43)) := ⟨rfl, rfl, rfl, by decide +kernel, rfl, by decide +kernel, by decide +kernel⟩
theorem sc44 : FnScope ["texts", "n", "letters", "some", "merges", "rows", "turn", "counts", "row", "at", "pair", "most", "text", "x", "it"] ["texts", "n"] (defScope (top 44)) := ⟨rfl, rfl, rfl, by decide +kernel, rfl, by decide +kernel, by decide +kernel⟩
theorem sc45 : FnScope ["script", "deck", "turn", "letters", "at", "texts", "n", "due", "told", "fewer", "left", "some", "text", "tokens"] ["script"] (defScope (top 45)) := ⟨rfl, rfl, rfl, by decide +kernel, rfl, by decide +kernel, by decide +kernel⟩
end Z03
set_option Elab.async false
set_option linter.all false
set_option maxRecDepth 100000
set_option maxHeartbeats 4000000
namespace Z03
open PySem PySem.Spec PyProof.Rows L2 GxR Gn Dl
section
variable {P : Program} {w : World} {K : PySem.W.Frag} {mg : Str → Option Value} {base : Heap} (W : Wd K mg base)
def r_is_integer : TSd := dRet (dAnd (dCB isiD (dCons (dVar 0) (dCons (dC (.ty "int")) (dNil)))) (dNot (dCB isiD (dCons (dVar 0) (dCons (dC (.ty "bool")) (dNil))))))
def sp_is_integer : SpD := fun ds M Q E => r_is_integer { nx := fun _ M' => Q .non M', rt := Q } E (startD ["thing"] ds) M
theorem ok_is_integer : FnD P w K mg base (W.Ts w) 1 W.a8 W.d8 1 ["thing"] sp_is_integer :=
  fnD (N := ["thing"]) (ps := ["thing"]) W.D8.F rfl sc8 (fun A outer s H E hr => qss_one (qs_ret (qe_and (qe_cb (id := "isinstance") call_isi cd_isi (by rfl) W.m_isinstance bt_isinstance (qa_cons (qv 0) (qa_cons (qe_bltn (n := "int") (by rfl) W.m_int (by decide +kernel)) (qa_nil)))) (qe_one (qe_not (qe_cb (id := "isinstance") call_isi cd_isi (by rfl) W.m_isinstance bt_isinstance (qa_cons (qv 0) (qa_cons (qe_bltn (n := "bool") (by rfl) W.m_bool (by decide +kernel)) (qa_nil))))))))) fun _ _ _ _ _ h => h
def r_is_integer_from : TSd := dRet (dAnd (dCall 1 sp_is_integer (dCons (dVar 0) (dNil))) (dOp geD (dVar 0) (dVar 1)))
def sp_is_integer_from : SpD := fun ds M Q E => r_is_integer_from { nx := fun _ M' => Q .non M', rt := Q } E (startD ["thing", "least"] ds) M
theorem ok_is_integer_from : FnD P w K mg base (W.Ts w) 2 W.a9 W.d9 2 ["thing", "least"] sp_is_integer_from :=
  fnD (N := ["thing", "least"]) (ps := ["thing", "least"]) W.D9.F rfl sc9 (fun A outer s H E hr => qss_one (qs_ret (qe_and (qe_call (ok_is_integer W) (hr.mono (by decide)) (by rfl) W.D8.g W.D8.kp W.D8.b takesD (qa_cons (qv 0) (qa_nil))) (qe_one (qe_cmp (op_rI0 op_ge) od_ge (qv 0) (qv 1) (nomark _)))))) fun _ _ _ _ _ h => h
def r_is_number_below : TSd := dRet (dAnd (dCall 1 sp_is_integer (dCons (dVar 0) (dNil))) (dChain (cmpD false) (cmpD true) (dC (.int 0)) (dVar 0) (dVar 1)))
def sp_is_number_below : SpD := fun ds M Q E => r_is_number_below { nx := fun _ M' => Q .non M', rt := Q } E (startD ["thing", "many"] ds) M
theorem ok_is_number_below : FnD P w K mg base (W.Ts w) 2 W.a10 W.d10 2 ["thing", "many"] sp_is_number_below :=
  fnD (N := ["thing", "many"]) (ps := ["thing", "many"]) W.D10.F rfl sc10 (fun A outer s H E hr => qss_one (qs_ret (qe_and (qe_call (ok_is_integer W) (hr.mono (by decide)) (by rfl) W.D8.g W.D8.kp W.D8.b takesD (qa_cons (qv 0) (qa_nil))) (qe_one (qe_chain op_leH (op_ltH hr.r) od_leH od_ltH (qe_int) (qv 0) (qv 1)))))) fun _ _ _ _ _ h => h
def r_is_token : TSd := dRet (dCall 2 sp_is_number_below (dCons (dVar 0) (dCons (dVar 1) (dNil))))
def sp_is_token : SpD := fun ds M Q E => r_is_token { nx := fun _ M' => Q .non M', rt := Q } E (startD ["thing", "many"] ds) M
theorem ok_is_token : FnD P w K mg base (W.Ts w) 3 W.a11 W.d11 2 ["thing", "many"] sp_is_token :=
  fnD (N := ["thing", "many"]) (ps := ["thing", "many"]) W.D11.F rfl sc11 (fun A outer s H E hr => qss_one (qs_ret (qe_call (ok_is_number_below W) (hr.mono (by decide)) (by rfl) W.D10.g W.D10.kp W.D10.b takesD (qa_cons (qv 0) (qa_cons (qv 1) (qa_nil)))))) fun _ _ _ _ _ h => h
def r_are_tokens : TSd := dRet (dAnd (dCB isiD (dCons (dVar 0) (dCons (dC (.ty "tuple")) (dNil)))) (dAll (dWalk (dVar 0)) (dGN 2) (dCall 2 sp_is_token (dCons (dVar 2) (dCons (dVar 1) (dNil)))) [2]))
def sp_are_tokens : SpD := fun ds M Q E => r_are_tokens { nx := fun _ M' => Q .non M', rt := Q } E (startD ["thing", "many", "item"] ds) M
theorem ok_are_tokens : FnD P w K mg base (W.Ts w) 5 W.a12 W.d12 2 ["thing", "many"] sp_are_tokens :=
  fnD (N := ["thing", "many", "item"]) (ps := ["thing", "many"]) W.D12.F W.T12.code sc12 (fun A outer s H E hr => qss_one (qs_ret (qe_and (qe_cb (id := "isinstance") call_isi cd_isi (by rfl) W.m_isinstance bt_isinstance (qa_cons (qv 0) (qa_cons (qe_bltn (n := "tuple") (by rfl) W.m_tuple (by decide +kernel)) (qa_nil)))) (qe_one (qe_all (own := [("item", 2)]) (g := gName 2) (by simp [Wd.Ts]) rfl hr.r (by rfl) W.m_all W.T12.tab rfl sc12.nd (blkOk_by (N := ["thing", "many", "item"]) (sc := defScope (top 12)) (by decide +kernel)) rfl (by decide +kernel) (by decide +kernel) (qi_any (qv 0)) (fun _ _ _ _ _ _ _ => pg_name (i := 2) sc12.nd rfl (by first | exact .inl rfl | exact .inr rfl)) (tg_name (by simp)) (gm_name) (fun _ _ _ _ _ _ _ h1 h2 => have hz1 : RoomG _ _ := ⟨h1, h2.trans hr.g⟩; qe_call (ok_is_token W) (hz1.mono (by decide)) (by rfl) W.D11.g W.D11.kp W.D11.b Dl.takes0 (qa_cons (qv 2) (qa_cons (qv 1) (qa_nil))))))))) fun _ _ _ _ _ h => h
def r_are_small_letters : TSd := dRet (dAnd (dCB isiD (dCons (dVar 0) (dCons (dC (.ty "str")) (dNil)))) (dAll (dWalk (dVar 0)) (dGN 1) (dChain (cmpD false) (cmpD false) (dC (.str "a")) (dVar 1) (dC (.str "z"))) [1]))
def sp_are_small_letters : SpD := fun ds M Q E => r_are_small_letters { nx := fun _ M' => Q .non M', rt := Q } E (startD ["thing", "letter"] ds) M
theorem ok_are_small_letters : FnD P w K mg base (W.Ts w) 2 W.a13 W.d13 1 ["thing"] sp_are_small_letters :=
  fnD (N := ["thing", "letter"]) (ps := ["thing"]) W.D13.F W.T13.code sc13 (fun A outer s H E hr => qss_one (qs_ret (qe_and (qe_cb (id := "isinstance") call_isi cd_isi (by rfl) W.m_isinstance bt_isinstance (qa_cons (qv 0) (qa_cons (qe_bltn (n := "str") (by rfl) W.m_str (by decide +kernel)) (qa_nil)))) (qe_one (qe_all (own := [("letter", 1)]) (g := gName 1) (by simp [Wd.Ts]) rfl hr.r (by rfl) W.m_all W.T13.tab rfl sc13.nd (blkOk_by (N := ["thing", "letter"]) (sc := defScope (top 13)) (by decide +kernel)) rfl (by decide +kernel) (by decide +kernel) (qi_any (qv 0)) (fun _ _ _ _ _ _ _ => pg_name (i := 1) sc13.nd rfl (by first | exact .inl rfl | exact .inr rfl)) (tg_name (by simp)) (gm_name) (fun _ _ _ _ _ _ _ h1 h2 => have hz2 : RoomG _ _ := ⟨h1, h2.trans hr.g⟩; qe_chain op_leH op_leH od_leH od_leH (qe_str) (qv 1) (qe_str))))))) fun _ _ _ _ _ h => h
def r_is_tuple_of : TSd := dRet (dAnd (dCB isiD (dCons (dVar 0) (dCons (dC (.ty "tuple")) (dNil)))) (dOp (eqA false) (dCB lenD (dCons (dVar 0) (dNil))) (dVar 1)))
def sp_is_tuple_of : SpD := fun ds M Q E => r_is_tuple_of { nx := fun _ M' => Q .non M', rt := Q } E (startD ["thing", "many"] ds) M
theorem ok_is_tuple_of : FnD P w K mg base (W.Ts w) 1 W.a14 W.d14 2 ["thing", "many"] sp_is_tuple_of :=
  fnD (N := ["thing", "many"]) (ps := ["thing", "many"]) W.D14.F rfl sc14 (fun A outer s H E hr => qss_one (qs_ret (qe_and (qe_cb (id := "isinstance") call_isi cd_isi (by rfl) W.m_isinstance bt_isinstance (qa_cons (qv 0) (qa_cons (qe_bltn (n := "tuple") (by rfl) W.m_tuple (by decide +kernel)) (qa_nil)))) (qe_one (qe_cmp (op_eqA hr.r) od_eqA (qe_cb (id := "len") cr_lenH cd_len (by rfl) W.m_len bt_len (qa_cons (qv 0) (qa_nil))) (qv 1) (nomark _)))))) fun _ _ _ _ _ h => h
def r__is_merge : TSd := dRet (dAnd (dCall 2 sp_is_tuple_of (dCons (dVar 0) (dCons (dC (.int 2)) (dNil)))) (dAll (dWalk (dVar 0)) (dGN 2) (dAnd (dCall 2 sp_is_integer_from (dCons (dVar 2) (dCons (dC (.int 1)) (dNil)))) (dOp (cmpD true) (dVar 2) (dVar 1))) [2]))
def sp__is_merge : SpD := fun ds M Q E => r__is_merge { nx := fun _ M' => Q .non M', rt := Q } E (startD ["thing", "made", "item"] ds) M
theorem ok__is_merge : FnD P w K mg base (W.Ts w) 4 W.a30 W.d30 2 ["thing", "made"] sp__is_merge :=
  fnD (N := ["thing", "made", "item"]) (ps := ["thing", "made"]) W.D30.F W.T30.code sc30 (fun A outer s H E hr => qss_one (qs_ret (qe_and (qe_call (ok_is_tuple_of W) (hr.mono (by decide)) (by rfl) W.D14.g W.D14.kp W.D14.b takesD (qa_cons (qv 0) (qa_cons (qe_int) (qa_nil)))) (qe_one (qe_all (own := [("item", 2)]) (g := gName 2) (by simp [Wd.Ts]) rfl hr.r (by rfl) W.m_all W.T30.tab rfl sc30.nd (blkOk_by (N := ["thing", "made", "item"]) (sc := defScope (top 30)) (by decide +kernel)) rfl (by decide +kernel) (by decide +kernel) (qi_any (qv 0)) (fun _ _ _ _ _ _ _ => pg_name (i := 2) sc30.nd rfl (by first | exact .inl rfl | exact .inr rfl)) (tg_name (by simp)) (gm_name) (fun _ _ _ _ _ _ _ h1 h2 => have hz3 : RoomG _ _ := ⟨h1, h2.trans hr.g⟩; qe_and (qe_call (ok_is_integer_from W) (hz3.mono (by decide)) (by rfl) W.D9.g W.D9.kp W.D9.b Dl.takes0 (qa_cons (qv 2) (qa_cons (qe_int) (qa_nil)))) (qe_one (qe_cmp (op_ltH hz3.r) od_ltH (qv 2) (qv 1) (nomark _))))))))) fun _ _ _ _ _ h => h
def r__pieces : TSd := dSeq (dSet 2 (dLst (dCons (dC (.str "")) (dStar (dVar 0) (dNil))))) (dSeq (dFor (dWalk (dVar 1)) (dGTup 2 (dGCons (dGN 3) (dGCons (dGN 4) (dGNil)))) (dDrop (dBM isLst appendD (dVar 2) (dCons (dOp addD (dOp ixA (dVar 2) (dVar 3)) (dOp ixA (dVar 2) (dVar 4))) (dNil))))) (dRet (dVar 2)))
def sp__pieces : SpD := fun ds M Q E => r__pieces { nx := fun _ M' => Q .non M', rt := Q } E (startD ["letters", "merges", "pieces", "i", "j"] ds) M
theorem ok__pieces : FnD P w K mg base (W.Ts w) 1 W.a33 W.d33 2 ["letters", "merges"] sp__pieces :=
  fnD (N := ["letters", "merges", "pieces", "i", "j"]) (ps := ["letters", "merges"]) W.D33.F rfl sc33 (fun A outer s H E hr => qss_cons (qs_set (i := 2) sc33.nd rfl (by first | exact .inl rfl | exact .inr rfl) (qe_lst (qa_cons (qe_str) (qa_star hr.r.hd (qv 0) (qa_nil))))) (qss_cons (qs_for passD rfl (qi_any (qv 1)) (qg_tupA rfl (qgs_cons (qg_name (i := 3) sc33.nd rfl (by first | exact .inl rfl | exact .inr rfl)) (qgs_cons (qg_name (i := 4) sc33.nd rfl (by first | exact .inl rfl | exact .inr rfl)) (qgs_nil)))) (qss_one (qs_expr (qe_append (qv 2) (qa_cons (qe_add (qe_at hr.r (qv 2) (qv 3)) (qe_at hr.r (qv 2) (qv 4))) (qa_nil)))))) (qss_one (qs_ret (qv 2))))) fun _ _ _ _ _ h => h
def r__are_merges : TSd := dSeq (dIfS (dOrT (dNotT (dTest (dCB isiD (dCons (dVar 1) (dCons (dC (.ty "tuple")) (dNil)))))) (dTest (dOp gtD (dCB lenD (dCons (dVar 1) (dNil))) (dC (.int 10))))) (dRet (dC (.bl false))) (dNext)) (dSeq (dFor (dEnumA (dCons (dVar 1) (dNil))) (dGTup 2 (dGCons (dGN 2) (dGCons (dGN 3) (dGNil)))) (dIfS (dNotT (dTest (dCall 2 sp__is_merge (dCons (dVar 3) (dCons (dOp addD (dOp addD (dC (.int 1)) (dCB lenD (dCons (dVar 0) (dNil)))) (dVar 2)) (dNil)))))) (dRet (dC (.bl false))) (dNext))) (dSeq (dSet 4 (dCall 2 sp__pieces (dCons (dVar 0) (dCons (dVar 1) (dNil))))) (dRet (dOp (eqA false) (dLenSet (dVar 4)) (dCB lenD (dCons (dVar 4) (dNil)))))))
def sp__are_merges : SpD := fun ds M Q E => r__are_merges { nx := fun _ M' => Q .non M', rt := Q } E (startD ["letters", "thing", "at", "merge", "pieces"] ds) M
theorem ok__are_merges : FnD P w K mg base (W.Ts w) 5 W.a29 W.d29 2 ["letters", "thing"] sp__are_merges :=
  fnD (N := ["letters", "thing", "at", "merge", "pieces"]) (ps := ["letters", "thing"]) W.D29.F rfl sc29 (fun A outer s H E hr => qss_cons (qs_if (QW.t (qw_or (qt_not (qt_val (qe_cb (id := "isinstance") call_isi cd_isi (by rfl) W.m_isinstance bt_isinstance (qa_cons (qv 1) (qa_cons (qe_bltn (n := "tuple") (by rfl) W.m_tuple (by decide +kernel)) (qa_nil)))))) (qw_or1 (qt_cmp (op_rI0 op_gt) od_gt (qe_cb (id := "len") cr_lenH cd_len (by rfl) W.m_len bt_len (qa_cons (qv 1) (qa_nil))) (qe_globI (by rfl) W.g_MOST_MERGES) (nomark _))))) (qss_one (qs_ret (qe_bl))) (qss_nil)) (qss_cons (qs_for passD rfl (qi_enumA (by rfl) W.m_enumerate (qa_cons (qv 1) (qa_nil))) (qg_tupA rfl (qgs_cons (qg_name (i := 2) sc29.nd rfl (by first | exact .inl rfl | exact .inr rfl)) (qgs_cons (qg_name (i := 3) sc29.nd rfl (by first | exact .inl rfl | exact .inr rfl)) (qgs_nil)))) (qss_one (qs_if (qt_not (qt_val (qe_call (ok__is_merge W) (hr.mono (by decide)) (by rfl) W.D30.g W.D30.kp W.D30.b takesD (qa_cons (qv 3) (qa_cons (qe_add (qe_add (qe_int) (qe_cb (id := "len") cr_lenH cd_len (by rfl) W.m_len bt_len (qa_cons (qv 0) (qa_nil)))) (qv 2)) (qa_nil)))))) (qss_one (qs_ret (qe_bl))) (qss_nil)))) (qss_cons (qs_set (i := 4) sc29.nd rfl (by first | exact .inl rfl | exact .inr rfl) (qe_call (ok__pieces W) (hr.mono (by decide)) (by rfl) W.D33.g W.D33.kp W.D33.b takesD (qa_cons (qv 0) (qa_cons (qv 1) (qa_nil))))) (qss_one (qs_ret (qe_cmp (op_eqA hr.r) od_eqA (qe_lenSet rfl (by rfl) W.m_len (by rfl) W.m_set (qv 4)) (qe_cb (id := "len") cr_lenH cd_len (by rfl) W.m_len bt_len (qa_cons (qv 4) (qa_nil))) (nomark _))))))) fun _ _ _ _ _ h => h
def r__are_letters : TSd := dSeq (dIfS (dOrT (dNotT (dTest (dCall 1 sp_are_small_letters (dCons (dVar 0) (dNil))))) (dNotT (dTest (dChain (cmpD false) (cmpD false) (dC (.int 1)) (dCB lenD (dCons (dVar 0) (dNil))) (dC (.int 6)))))) (dRet (dC (.bl false))) (dNext)) (dRet (dOp (eqA false) (dLenSet (dVar 0)) (dCB lenD (dCons (dVar 0) (dNil)))))
def sp__are_letters : SpD := fun ds M Q E => r__are_letters { nx := fun _ M' => Q .non M', rt := Q } E (startD ["thing"] ds) M
theorem ok__are_letters : FnD P w K mg base (W.Ts w) 3 W.a28 W.d28 1 ["thing"] sp__are_letters :=
  fnD (N := ["thing"]) (ps := ["thing"]) W.D28.F rfl sc28 (fun A outer s H E hr => qss_cons (qs_if (QW.t (qw_or (qt_not (qt_val (qe_call (ok_are_small_letters W) (hr.mono (by decide)) (by rfl) W.D13.g W.D13.kp W.D13.b takesD (qa_cons (qv 0) (qa_nil))))) (qw_or1 (qt_not (qt_chain op_leH op_leH od_leH od_leH (qe_int) (qe_cb (id := "len") cr_lenH cd_len (by rfl) W.m_len bt_len (qa_cons (qv 0) (qa_nil))) (qe_globI (by rfl) W.g_MOST_LETTERS)))))) (qss_one (qs_ret (qe_bl))) (qss_nil)) (qss_one (qs_ret (qe_cmp (op_eqA hr.r) od_eqA (qe_lenSet rfl (by rfl) W.m_len (by rfl) W.m_set (qv 0)) (qe_cb (id := "len") cr_lenH cd_len (by rfl) W.m_len bt_len (qa_cons (qv 0) (qa_nil))) (nomark _))))) fun _ _ _ _ _ h => h
def r_is_vocabulary : TSd := dSeq (dIfS (dOrT (dNotT (dTest (dCall 2 sp_is_tuple_of (dCons (dVar 0) (dCons (dC (.int 3)) (dNil)))))) (dTest (dOp (eqA true) (dOp ixA (dVar 0) (dC (.int 0))) (dC (.str "vocabulary"))))) (dRet (dC (.bl false))) (dNext)) (dSeq (dAsg (dVar 0) (dGTup 3 (dGCons (dGN 1) (dGCons (dGN 2) (dGCons (dGN 3) (dGNil)))))) (dRet (dAnd (dCall 1 sp__are_letters (dCons (dVar 2) (dNil))) (dCall 2 sp__are_merges (dCons (dVar 2) (dCons (dVar 3) (dNil)))))))
def sp_is_vocabulary : SpD := fun ds M Q E => r_is_vocabulary { nx := fun _ M' => Q .non M', rt := Q } E (startD ["thing", "_", "letters", "merges"] ds) M
theorem ok_is_vocabulary : FnD P w K mg base (W.Ts w) 6 W.a18 W.d18 1 ["thing"] sp_is_vocabulary :=
  fnD (N := ["thing", "_", "letters", "merges"]) (ps := ["thing"]) W.D18.F rfl sc18 (fun A outer s H E hr => qss_cons (qs_if (QW.t (qw_or (qt_not (qt_val (qe_call (ok_is_tuple_of W) (hr.mono (by decide)) (by rfl) W.D14.g W.D14.kp W.D14.b takesD (qa_cons (qv 0) (qa_cons (qe_int) (qa_nil)))))) (qw_or1 (qt_cmp (op_neA hr.r) od_neA (qe_at hr.r (qv 0) (qe_int)) (qe_str) (nomark _))))) (qss_one (qs_ret (qe_bl))) (qss_nil)) (qss_cons (qs_asg (qv 0) (qg_tupA rfl (qgs_cons (qg_name (i := 1) sc18.nd rfl (by first | exact .inl rfl | exact .inr rfl)) (qgs_cons (qg_name (i := 2) sc18.nd rfl (by first | exact .inl rfl | exact .inr rfl)) (qgs_cons (qg_name (i := 3) sc18.nd rfl (by first | exact .inl rfl | exact .inr rfl)) (qgs_nil)))))) (qss_one (qs_ret (qe_and (qe_call (ok__are_letters W) (hr.mono (by decide)) (by rfl) W.D28.g W.D28.kp W.D28.b takesD (qa_cons (qv 2) (qa_nil))) (qe_one (qe_call (ok__are_merges W) (hr.mono (by decide)) (by rfl) W.D29.g W.D29.kp W.D29.b takesD (qa_cons (qv 2) (qa_cons (qv 3) (qa_nil)))))))))) fun _ _ _ _ _ h => h
def r__need_vocabulary (cs : Nat → Addr) : TSd := dIfS (dNotT (dTest (dCall 1 sp_is_vocabulary (dCons (dVar 0) (dNil))))) (dRaise (cs 2) (dVar 0)) (dNext)
def sp__need_vocabulary (cs : Nat → Addr) : SpD := fun ds M Q E => r__need_vocabulary cs { nx := fun _ M' => Q .non M', rt := Q } E (startD ["vocabulary"] ds) M
theorem ok__need_vocabulary : FnD P w K mg base (W.Ts w) 7 W.a26 W.d26 1 ["vocabulary"] (sp__need_vocabulary W.cs) :=
  fnD (N := ["vocabulary"]) (ps := ["vocabulary"]) W.D26.F rfl sc26 (fun A outer s H E hr => qss_one (qs_if (qt_not (qt_val (qe_call (ok_is_vocabulary W) (hr.mono (by decide)) (by rfl) W.D18.g W.D18.kp W.D18.b takesD (qa_cons (qv 0) (qa_nil))))) (qss_one (qs_raise rfl W.e2 hr takesD (qv 0) (by rfl))) (qss_nil))) fun _ _ _ _ _ h => h
def r__size_of : TSd := dRet (dOp addD (dOp addD (dC (.int 1)) (dCB lenD (dCons (dOp ixA (dVar 0) (dC (.int 1))) (dNil)))) (dCB lenD (dCons (dOp ixA (dVar 0) (dC (.int 2))) (dNil))))
def sp__size_of : SpD := fun ds M Q E => r__size_of { nx := fun _ M' => Q .non M', rt := Q } E (startD ["vocabulary"] ds) M
theorem ok__size_of : FnD P w K mg base (W.Ts w) 1 W.a32 W.d32 1 ["vocabulary"] sp__size_of :=
  fnD (N := ["vocabulary"]) (ps := ["vocabulary"]) W.D32.F rfl sc32 (fun A outer s H E hr => qss_one (qs_ret (qe_add (qe_add (qe_int) (qe_cb (id := "len") cr_lenH cd_len (by rfl) W.m_len bt_len (qa_cons (qe_at hr.r (qv 0) (qe_int)) (qa_nil)))) (qe_cb (id := "len") cr_lenH cd_len (by rfl) W.m_len bt_len (qa_cons (qe_at hr.r (qv 0) (qe_int)) (qa_nil)))))) fun _ _ _ _ _ h => h
end
end Z03
set_option Elab.async false
set_option linter.all false
set_option maxRecDepth 100000
set_option maxHeartbeats 4000000
namespace Z03
open PySem PySem.Spec PyProof.Rows L2 GxR Gn Dl
section
variable {P : Program} {w : World} {K : PySem.W.Frag} {mg : Str → Option Value} {base : Heap} (W : Wd K mg base)
def r_size (cs : Nat → Addr) : TSd := dSeq (dDrop (dCall 1 (sp__need_vocabulary cs) (dCons (dVar 0) (dNil)))) (dRet (dCall 1 sp__size_of (dCons (dVar 0) (dNil))))
def sp_size (cs : Nat → Addr) : SpD := fun ds M Q E => r_size cs { nx := fun _ M' => Q .non M', rt := Q } E (startD ["vocabulary"] ds) M
theorem ok_size : FnD P w K mg base (W.Ts w) 8 W.a19 W.d19 1 ["vocabulary"] (sp_size W.cs) :=
  fnD (N := ["vocabulary"]) (ps := ["vocabulary"]) W.D19.F rfl sc19 (fun A outer s H E hr => qss_cons (qs_expr (qe_call (ok__need_vocabulary W) (hr.mono (by decide)) (by rfl) W.D26.g W.D26.kp W.D26.b takesD (qa_cons (qv 0) (qa_nil)))) (qss_one (qs_ret (qe_call (ok__size_of W) (hr.mono (by decide)) (by rfl) W.D32.g W.D32.kp W.D32.b takesD (qa_cons (qv 0) (qa_nil)))))) fun _ _ _ _ _ h => h
def r__need_text (cs : Nat → Addr) : TSd := dIfS (dOrT (dNotT (dTest (dCB isiD (dCons (dVar 1) (dCons (dC (.ty "str")) (dNil)))))) (dNotT (dTest (dAll (dWalk (dVar 1)) (dGN 2) (dOp inD (dVar 2) (dOp ixA (dVar 0) (dC (.int 1)))) [2])))) (dRaise (cs 5) (dVar 1)) (dNext)
def sp__need_text (cs : Nat → Addr) : SpD := fun ds M Q E => r__need_text cs { nx := fun _ M' => Q .non M', rt := Q } E (startD ["vocabulary", "text", "letter"] ds) M
theorem ok__need_text : FnD P w K mg base (W.Ts w) 2 W.a27 W.d27 2 ["vocabulary", "text"] (sp__need_text W.cs) :=
  fnD (N := ["vocabulary", "text", "letter"]) (ps := ["vocabulary", "text"]) W.D27.F W.T27.code sc27 (fun A outer s H E hr => qss_one (qs_if (QW.t (qw_or (qt_not (qt_val (qe_cb (id := "isinstance") call_isi cd_isi (by rfl) W.m_isinstance bt_isinstance (qa_cons (qv 1) (qa_cons (qe_bltn (n := "str") (by rfl) W.m_str (by decide +kernel)) (qa_nil)))))) (qw_or1 (qt_not (qt_val (qe_all (own := [("letter", 2)]) (g := gName 2) (by simp [Wd.Ts]) rfl hr.r (by rfl) W.m_all W.T27.tab rfl sc27.nd (blkOk_by (N := ["vocabulary", "text", "letter"]) (sc := defScope (top 27)) (by decide +kernel)) rfl (by decide +kernel) (by decide +kernel) (qi_any (qv 1)) (fun _ _ _ _ _ _ _ => pg_name (i := 2) sc27.nd rfl (by first | exact .inl rfl | exact .inr rfl)) (tg_name (by simp)) (gm_name) (fun _ _ _ _ _ _ _ h1 h2 => have hz4 : RoomG _ _ := ⟨h1, h2.trans hr.g⟩; qe_cmp (op_inH hz4.r) od_in (qv 2) (qe_at hz4.r (qv 0) (qe_int)) (by rfl)))))))) (qss_one (qs_raise rfl W.e5 hr takesD (qv 1) (by rfl))) (qss_nil))) fun _ _ _ _ _ h => h
def r__letter_tokens : TSd := dRet (dCB tupOfD (dCons (dLc (dWalk (dVar 1)) (dGN 2) (dYes) (dOp addD (dC (.int 1)) (dBM isStr indexD (dVar 0) (dCons (dVar 2) (dNil)))) [2]) (dNil)))
def sp__letter_tokens : SpD := fun ds M Q E => r__letter_tokens { nx := fun _ M' => Q .non M', rt := Q } E (startD ["letters", "text", "letter"] ds) M
theorem ok__letter_tokens : FnD P w K mg base (W.Ts w) 1 W.a34 W.d34 2 ["letters", "text"] sp__letter_tokens :=
  fnD (N := ["letters", "text", "letter"]) (ps := ["letters", "text"]) W.D34.F rfl sc34 (fun A outer s H E hr => qss_one (qs_ret (qe_cty (T := "tuple") call_tuple_of cd_tup (by rfl) W.m_tuple bt_tuple (qa_cons (qe_lc (own := [("letter", 2)]) (g := gName 2) rfl sc34.nd (qi_any (qv 1)) (blkOk_by (N := ["letters", "text", "letter"]) (sc := defScope (top 34)) (by decide +kernel)) (fun _ _ _ _ _ => pg_name (i := 2) sc34.nd rfl (by first | exact .inl rfl | exact .inr rfl)) (tg_name (by simp)) (gm_name) (fun _ _ _ _ _ => qts_nil) (fun _ _ _ _ _ => qe_add (qe_int) (qe_index (qv 0) (qa_cons (qv 2) (qa_nil))))) (qa_nil))))) fun _ _ _ _ _ h => h
def r__merged : TSd := dSeq (dSet 3 (dLst (dNil))) (dSeq (dSet 4 (dC (.int 0))) (dSeq (dWhile (dTest (dOp (cmpD true) (dVar 4) (dCB lenD (dCons (dVar 0) (dNil))))) (dIfS (dTest (dOp (eqA false) (dSl (dVar 0) (dPart (dVar 4)) (dPart (dOp addD (dVar 4) (dC (.int 2))))) (dVar 1))) (dSeq (dDrop (dBM isLst appendD (dVar 3) (dCons (dVar 2) (dNil)))) (dAug 4 (Dl.intD (fun _ _ => True) fun i j => .int (i + j)) (dC (.int 2)))) (dSeq (dDrop (dBM isLst appendD (dVar 3) (dCons (dOp ixA (dVar 0) (dVar 4)) (dNil)))) (dAug 4 (Dl.intD (fun _ _ => True) fun i j => .int (i + j)) (dC (.int 1)))))) (dRet (dCB tupOfD (dCons (dVar 3) (dNil))))))
def sp__merged : SpD := fun ds M Q E => r__merged { nx := fun _ M' => Q .non M', rt := Q } E (startD ["tokens", "merge", "made", "found", "at"] ds) M
theorem ok__merged : FnD P w K mg base (W.Ts w) 1 W.a35 W.d35 3 ["tokens", "merge", "made"] sp__merged :=
  fnD (N := ["tokens", "merge", "made", "found", "at"]) (ps := ["tokens", "merge", "made"]) W.D35.F rfl sc35 (fun A outer s H E hr => qss_cons (qs_set (i := 3) sc35.nd rfl (by first | exact .inl rfl | exact .inr rfl) (qe_lst (qa_nil))) (qss_cons (qs_set (i := 4) sc35.nd rfl (by first | exact .inl rfl | exact .inr rfl) (qe_int)) (qss_cons (qs_while passD (qt_cmp (op_ltH hr.r) od_ltH (qv 4) (qe_cb (id := "len") cr_lenH cd_len (by rfl) W.m_len bt_len (qa_cons (qv 0) (qa_nil))) (nomark _)) (qss_one (qs_if (qt_cmp (op_eqA hr.r) od_eqA (qe_slice (qv 0) (qo_some (qv 4)) (qo_some (qe_add (qv 4) (qe_int)))) (qv 1) (nomark _)) (qss_cons (qs_expr (qe_append (qv 3) (qa_cons (qv 2) (qa_nil)))) (qss_one (qs_augI (i := 4) sc35.nd rfl (by first | exact .inl rfl | exact .inr rfl) (qe_int) iop_addT))) (qss_cons (qs_expr (qe_append (qv 3) (qa_cons (qe_at hr.r (qv 0) (qv 4)) (qa_nil)))) (qss_one (qs_augI (i := 4) sc35.nd rfl (by first | exact .inl rfl | exact .inr rfl) (qe_int) iop_addT)))))) (qss_one (qs_ret (qe_cty (T := "tuple") call_tuple_of cd_tup (by rfl) W.m_tuple bt_tuple (qa_cons (qv 3) (qa_nil)))))))) fun _ _ _ _ _ h => h
def r_tokens_of : TSd := dSeq (dAsg (dVar 0) (dGTup 3 (dGCons (dGN 2) (dGCons (dGN 3) (dGCons (dGN 4) (dGNil)))))) (dSeq (dSet 5 (dCall 2 sp__letter_tokens (dCons (dVar 3) (dCons (dVar 1) (dNil))))) (dSeq (dFor (dEnumA (dCons (dVar 4) (dNil))) (dGTup 2 (dGCons (dGN 6) (dGCons (dGN 7) (dGNil)))) (dSet 5 (dCall 3 sp__merged (dCons (dVar 5) (dCons (dVar 7) (dCons (dOp addD (dOp addD (dC (.int 1)) (dCB lenD (dCons (dVar 3) (dNil)))) (dVar 6)) (dNil))))))) (dRet (dVar 5))))
def sp_tokens_of : SpD := fun ds M Q E => r_tokens_of { nx := fun _ M' => Q .non M', rt := Q } E (startD ["vocabulary", "text", "_", "letters", "merges", "tokens", "at", "merge"] ds) M
theorem ok_tokens_of : FnD P w K mg base (W.Ts w) 2 W.a24 W.d24 2 ["vocabulary", "text"] sp_tokens_of :=
  fnD (N := ["vocabulary", "text", "_", "letters", "merges", "tokens", "at", "merge"]) (ps := ["vocabulary", "text"]) W.D24.F rfl sc24 (fun A outer s H E hr => qss_cons (qs_asg (qv 0) (qg_tupA rfl (qgs_cons (qg_name (i := 2) sc24.nd rfl (by first | exact .inl rfl | exact .inr rfl)) (qgs_cons (qg_name (i := 3) sc24.nd rfl (by first | exact .inl rfl | exact .inr rfl)) (qgs_cons (qg_name (i := 4) sc24.nd rfl (by first | exact .inl rfl | exact .inr rfl)) (qgs_nil)))))) (qss_cons (qs_set (i := 5) sc24.nd rfl (by first | exact .inl rfl | exact .inr rfl) (qe_call (ok__letter_tokens W) (hr.mono (by decide)) (by rfl) W.D34.g W.D34.kp W.D34.b takesD (qa_cons (qv 3) (qa_cons (qv 1) (qa_nil))))) (qss_cons (qs_for passD rfl (qi_enumA (by rfl) W.m_enumerate (qa_cons (qv 4) (qa_nil))) (qg_tupA rfl (qgs_cons (qg_name (i := 6) sc24.nd rfl (by first | exact .inl rfl | exact .inr rfl)) (qgs_cons (qg_name (i := 7) sc24.nd rfl (by first | exact .inl rfl | exact .inr rfl)) (qgs_nil)))) (qss_one (qs_set (i := 5) sc24.nd rfl (by first | exact .inl rfl | exact .inr rfl) (qe_call (ok__merged W) (hr.mono (by decide)) (by rfl) W.D35.g W.D35.kp W.D35.b takesD (qa_cons (qv 5) (qa_cons (qv 7) (qa_cons (qe_add (qe_add (qe_int) (qe_cb (id := "len") cr_lenH cd_len (by rfl) W.m_len bt_len (qa_cons (qv 3) (qa_nil)))) (qv 6)) (qa_nil)))))))) (qss_one (qs_ret (qv 5)))))) fun _ _ _ _ _ h => h
def r_to_tokens (cs : Nat → Addr) : TSd := dSeq (dDrop (dCall 1 (sp__need_vocabulary cs) (dCons (dVar 0) (dNil)))) (dSeq (dDrop (dCall 2 (sp__need_text cs) (dCons (dVar 0) (dCons (dVar 1) (dNil))))) (dRet (dCall 2 sp_tokens_of (dCons (dVar 0) (dCons (dVar 1) (dNil))))))
def sp_to_tokens (cs : Nat → Addr) : SpD := fun ds M Q E => r_to_tokens cs { nx := fun _ M' => Q .non M', rt := Q } E (startD ["vocabulary", "text"] ds) M
theorem ok_to_tokens : FnD P w K mg base (W.Ts w) 8 W.a20 W.d20 2 ["vocabulary", "text"] (sp_to_tokens W.cs) :=
  fnD (N := ["vocabulary", "text"]) (ps := ["vocabulary", "text"]) W.D20.F rfl sc20 (fun A outer s H E hr => qss_cons (qs_expr (qe_call (ok__need_vocabulary W) (hr.mono (by decide)) (by rfl) W.D26.g W.D26.kp W.D26.b takesD (qa_cons (qv 0) (qa_nil)))) (qss_cons (qs_expr (qe_call (ok__need_text W) (hr.mono (by decide)) (by rfl) W.D27.g W.D27.kp W.D27.b takesD (qa_cons (qv 0) (qa_cons (qv 1) (qa_nil))))) (qss_one (qs_ret (qe_call (ok_tokens_of W) (hr.mono (by decide)) (by rfl) W.D24.g W.D24.kp W.D24.b takesD (qa_cons (qv 0) (qa_cons (qv 1) (qa_nil)))))))) fun _ _ _ _ _ h => h
def r_pieces_of : TSd := dSeq (dAsg (dVar 0) (dGTup 3 (dGCons (dGN 1) (dGCons (dGN 2) (dGCons (dGN 3) (dGNil)))))) (dRet (dCall 2 sp__pieces (dCons (dVar 2) (dCons (dVar 3) (dNil)))))
def sp_pieces_of : SpD := fun ds M Q E => r_pieces_of { nx := fun _ M' => Q .non M', rt := Q } E (startD ["vocabulary", "_", "letters", "merges"] ds) M
theorem ok_pieces_of : FnD P w K mg base (W.Ts w) 2 W.a23 W.d23 1 ["vocabulary"] sp_pieces_of :=
  fnD (N := ["vocabulary", "_", "letters", "merges"]) (ps := ["vocabulary"]) W.D23.F rfl sc23 (fun A outer s H E hr => qss_cons (qs_asg (qv 0) (qg_tupA rfl (qgs_cons (qg_name (i := 1) sc23.nd rfl (by first | exact .inl rfl | exact .inr rfl)) (qgs_cons (qg_name (i := 2) sc23.nd rfl (by first | exact .inl rfl | exact .inr rfl)) (qgs_cons (qg_name (i := 3) sc23.nd rfl (by first | exact .inl rfl | exact .inr rfl)) (qgs_nil)))))) (qss_one (qs_ret (qe_call (ok__pieces W) (hr.mono (by decide)) (by rfl) W.D33.g W.D33.kp W.D33.b takesD (qa_cons (qv 2) (qa_cons (qv 3) (qa_nil))))))) fun _ _ _ _ _ h => h
def r_to_text (cs : Nat → Addr) : TSd := dSeq (dDrop (dCall 1 (sp__need_vocabulary cs) (dCons (dVar 0) (dNil)))) (dSeq (dIfS (dNotT (dTest (dCall 2 sp_are_tokens (dCons (dVar 1) (dCons (dCall 1 sp__size_of (dCons (dVar 0) (dNil))) (dNil)))))) (dRaise (cs 4) (dVar 1)) (dNext)) (dSeq (dSet 2 (dCall 1 sp_pieces_of (dCons (dVar 0) (dNil)))) (dRet (dBM isStr joinTD (dC (.str "")) (dCons (dLc (dWalk (dVar 1)) (dGN 3) (dYes) (dOp ixA (dVar 2) (dVar 3)) [3]) (dNil))))))
def sp_to_text (cs : Nat → Addr) : SpD := fun ds M Q E => r_to_text cs { nx := fun _ M' => Q .non M', rt := Q } E (startD ["vocabulary", "tokens", "pieces", "token"] ds) M
theorem ok_to_text : FnD P w K mg base (W.Ts w) 8 W.a21 W.d21 2 ["vocabulary", "tokens"] (sp_to_text W.cs) :=
  fnD (N := ["vocabulary", "tokens", "pieces", "token"]) (ps := ["vocabulary", "tokens"]) W.D21.F rfl sc21 (fun A outer s H E hr => qss_cons (qs_expr (qe_call (ok__need_vocabulary W) (hr.mono (by decide)) (by rfl) W.D26.g W.D26.kp W.D26.b takesD (qa_cons (qv 0) (qa_nil)))) (qss_cons (qs_if (qt_not (qt_val (qe_call (ok_are_tokens W) (hr.mono (by decide)) (by rfl) W.D12.g W.D12.kp W.D12.b takesD (qa_cons (qv 1) (qa_cons (qe_call (ok__size_of W) (hr.mono (by decide)) (by rfl) W.D32.g W.D32.kp W.D32.b takesD (qa_cons (qv 0) (qa_nil))) (qa_nil)))))) (qss_one (qs_raise rfl W.e4 hr takesD (qv 1) (by rfl))) (qss_nil)) (qss_cons (qs_set (i := 2) sc21.nd rfl (by first | exact .inl rfl | exact .inr rfl) (qe_call (ok_pieces_of W) (hr.mono (by decide)) (by rfl) W.D23.g W.D23.kp W.D23.b takesD (qa_cons (qv 0) (qa_nil)))) (qss_one (qs_ret (qe_joinT (qe_str) (qa_cons (qe_lc (own := [("token", 3)]) (g := gName 3) rfl sc21.nd (qi_any (qv 1)) (blkOk_by (N := ["vocabulary", "tokens", "pieces", "token"]) (sc := defScope (top 21)) (by decide +kernel)) (fun _ _ _ _ _ => pg_name (i := 3) sc21.nd rfl (by first | exact .inl rfl | exact .inr rfl)) (tg_name (by simp)) (gm_name) (fun _ _ _ _ _ => qts_nil) (fun _ _ _ _ _ => qe_at hr.r (qv 2) (qv 3))) (qa_nil)))))))) fun _ _ _ _ _ h => h
def r__are_texts : TSd := dSeq (dIfS (dOrT (dNotT (dTest (dCB isiD (dCons (dVar 0) (dCons (dC (.ty "tuple")) (dNil)))))) (dNotT (dTest (dAll (dWalk (dVar 0)) (dGN 1) (dCall 1 sp_are_small_letters (dCons (dVar 1) (dNil))) [1])))) (dRet (dC (.bl false))) (dNext)) (dRet (dChain (cmpD false) (cmpD false) (dC (.int 1)) (dLenSet (dBM isStr joinTD (dC (.str "")) (dCons (dVar 0) (dNil)))) (dC (.int 6))))
def sp__are_texts : SpD := fun ds M Q E => r__are_texts { nx := fun _ M' => Q .non M', rt := Q } E (startD ["thing", "text"] ds) M
theorem ok__are_texts : FnD P w K mg base (W.Ts w) 4 W.a31 W.d31 1 ["thing"] sp__are_texts :=
  fnD (N := ["thing", "text"]) (ps := ["thing"]) W.D31.F W.T31.code sc31 (fun A outer s H E hr => qss_cons (qs_if (QW.t (qw_or (qt_not (qt_val (qe_cb (id := "isinstance") call_isi cd_isi (by rfl) W.m_isinstance bt_isinstance (qa_cons (qv 0) (qa_cons (qe_bltn (n := "tuple") (by rfl) W.m_tuple (by decide +kernel)) (qa_nil)))))) (qw_or1 (qt_not (qt_val (qe_all (own := [("text", 1)]) (g := gName 1) (by simp [Wd.Ts]) rfl hr.r (by rfl) W.m_all W.T31.tab rfl sc31.nd (blkOk_by (N := ["thing", "text"]) (sc := defScope (top 31)) (by decide +kernel)) rfl (by decide +kernel) (by decide +kernel) (qi_any (qv 0)) (fun _ _ _ _ _ _ _ => pg_name (i := 1) sc31.nd rfl (by first | exact .inl rfl | exact .inr rfl)) (tg_name (by simp)) (gm_name) (fun _ _ _ _ _ _ _ h1 h2 => have hz5 : RoomG _ _ := ⟨h1, h2.trans hr.g⟩; qe_call (ok_are_small_letters W) (hz5.mono (by decide)) (by rfl) W.D13.g W.D13.kp W.D13.b Dl.takes0 (qa_cons (qv 1) (qa_nil))))))))) (qss_one (qs_ret (qe_bl))) (qss_nil)) (qss_one (qs_ret (qe_chain op_leH op_leH od_leH od_leH (qe_int) (qe_lenSet rfl (by rfl) W.m_len (by rfl) W.m_set (qe_joinT (qe_str) (qa_cons (qv 0) (qa_nil)))) (qe_globI (by rfl) W.g_MOST_LETTERS))))) fun _ _ _ _ _ h => h
def r_next_merge : TSd := dSeq (dSet 2 (dNewT)) (dSeq (dFor (dWalk (dVar 0)) (dGN 3) (dFor (dZip (dCons (dVar 3) (dCons (dSl (dVar 3) (dPart (dC (.int 1))) (dNo)) (dNil)))) (dGTup 2 (dGCons (dGN 4) (dGCons (dGN 5) (dGNil)))) (dIfS (dTest (dOp notInD (dOp addD (dOp ixA (dVar 1) (dVar 4)) (dOp ixA (dVar 1) (dVar 5))) (dVar 1))) (dPutT (dVar 2) (dTup (dCons (dVar 4) (dCons (dVar 5) (dNil)))) (dOp addD (dGetT (dVar 2) (dTup (dCons (dVar 4) (dCons (dVar 5) (dNil)))) (dC (.int 0))) (dC (.int 1)))) (dNext)))) (dSeq (dSet 6 (dMaxV 0 (dVar 2))) (dSeq (dIfS (dTest (dOp (cmpD true) (dVar 6) (dC (.int 2)))) (dRet (dC .non)) (dNext)) (dRet (dCB minPD (dCons (dLockT 2 (dLc (dKeysT (dVar 2)) (dGN 7) (dTest (dOp (eqA false) (dOp ixLT (dVar 2) (dVar 7)) (dVar 6))) (dVar 7) [7])) (dNil)))))))
def sp_next_merge : SpD := fun ds M Q E => r_next_merge { nx := fun _ M' => Q .non M', rt := Q } E (startD ["rows", "pieces", "counts", "row", "i", "j", "greatest", "pair"] ds) M
theorem ok_next_merge : FnD P w K mg base (W.Ts w) 1 W.a25 W.d25 2 ["rows", "pieces"] sp_next_merge :=
  fnD (N := ["rows", "pieces", "counts", "row", "i", "j", "greatest", "pair"]) (ps := ["rows", "pieces"]) W.D25.F rfl sc25 (fun A outer s H E hr => qss_cons (qs_set (i := 2) sc25.nd rfl (by first | exact .inl rfl | exact .inr rfl) (qe_newT)) (qss_cons (qs_for passD rfl (qi_any (qv 0)) (qg_name (i := 3) sc25.nd rfl (by first | exact .inl rfl | exact .inr rfl)) (qss_one (qs_for passD rfl (qi_zip (by rfl) W.m_zip (qa_cons (qv 3) (qa_cons (qe_slice (qv 3) (qo_some (qe_int)) (qo_none)) (qa_nil)))) (qg_tupA rfl (qgs_cons (qg_name (i := 4) sc25.nd rfl (by first | exact .inl rfl | exact .inr rfl)) (qgs_cons (qg_name (i := 5) sc25.nd rfl (by first | exact .inl rfl | exact .inr rfl)) (qgs_nil)))) (qss_one (qs_if (qt_cmp (op_notInH hr.r) od_notIn (qe_add (qe_at hr.r (qv 1) (qv 4)) (qe_at hr.r (qv 1) (qv 5))) (qv 1) (by rfl)) (qss_one (qs_putTA hr.r (qv 2) (qe_tup (qa_cons (qv 4) (qa_cons (qv 5) (qa_nil)))) (qe_add (qe_getT hr.r (qv 2) (qe_tup (qa_cons (qv 4) (qa_cons (qv 5) (qa_nil)))) (qe_int) ⟨by rfl, by rfl, by rfl, by rfl⟩) (qe_int)))) (qss_nil)))))) (qss_cons (qs_set (i := 6) sc25.nd rfl (by first | exact .inl rfl | exact .inr rfl) (qe_maxV rfl (by rfl) W.m_max (qv 2))) (qss_cons (qs_if (qt_cmp (op_ltH hr.r) od_ltH (qv 6) (qe_int) (nomark _)) (qss_one (qs_ret (qe_non))) (qss_nil)) (qss_one (qs_ret (qe_cb (id := "min") (cr_minPR rfl hr.r) cd_minP (by rfl) W.m_min bt_min (qa_cons (qe_lockT (qe_lc (own := [("pair", 7)]) (g := gName 7) rfl sc25.nd (qi_keysT (qv 2)) (blkOk_by (N := ["rows", "pieces", "counts", "row", "i", "j", "greatest", "pair"]) (sc := defScope (top 25)) (by decide +kernel)) (fun _ _ _ _ _ => pg_name (i := 7) sc25.nd rfl (by first | exact .inl rfl | exact .inr rfl)) (tg_name (by simp)) (gm_name) (fun _ _ _ _ _ => qts_one (qt_cmp (op_eqA hr.r) od_eqA (qe_atLT hr.r (qv 2) (qv 7)) (qv 6) (nomark _))) (fun _ _ _ _ _ => qv 7))) (qa_nil))))))))) fun _ _ _ _ _ h => h
def r_trained (cs : Nat → Addr) : TSd := dSeq (dIfS (dNotT (dTest (dCall 1 sp__are_texts (dCons (dVar 0) (dNil))))) (dRaise (cs 6) (dVar 0)) (dNext)) (dSeq (dIfS (dNotT (dTest (dCall 2 sp_is_integer_from (dCons (dVar 1) (dCons (dC (.int 0)) (dNil)))))) (dRaise (cs 3) (dVar 1)) (dNext)) (dSeq (dSet 2 (dBM isStr joinTD (dC (.str "")) (dCons (dSortSetX (dBM isStr joinTD (dC (.str "")) (dCons (dVar 0) (dNil)))) (dNil)))) (dSeq (dSet 3 (dLc (dWalk (dVar 0)) (dGN 7) (dYes) (dCall 2 sp__letter_tokens (dCons (dVar 2) (dCons (dVar 7) (dNil)))) [7])) (dSeq (dSet 4 (dLst (dNil))) (dSeq (dWhile (dTest (dOp (cmpD true) (dCB lenD (dCons (dVar 4) (dNil))) (dCB (max2D false) (dCons (dVar 1) (dCons (dC (.int 10)) (dNil)))))) (dSeq (dSet 5 (dOp addD (dOp addD (dC (.int 1)) (dCB lenD (dCons (dVar 2) (dNil)))) (dCB lenD (dCons (dVar 4) (dNil))))) (dSeq (dSet 6 (dCall 2 sp_next_merge (dCons (dVar 3) (dCons (dCall 2 sp__pieces (dCons (dVar 2) (dCons (dVar 4) (dNil)))) (dNil))))) (dSeq (dIfS (dTest (dOp (isD false) (dVar 6) (dC .non))) (dBreak) (dNext)) (dSeq (dDrop (dBM isLst appendD (dVar 4) (dCons (dVar 6) (dNil)))) (dSet 3 (dLc (dWalk (dVar 3)) (dGN 8) (dYes) (dCall 3 sp__merged (dCons (dVar 8) (dCons (dVar 6) (dCons (dVar 5) (dNil))))) [8]))))))) (dRet (dTup (dCons (dC (.str "vocabulary")) (dCons (dVar 2) (dCons (dCB tupOfD (dCons (dVar 4) (dNil))) (dNil)))))))))))
def sp_trained (cs : Nat → Addr) : SpD := fun ds M Q E => r_trained cs { nx := fun _ M' => Q .non M', rt := Q } E (startD ["texts", "n", "letters", "rows", "merges", "made", "merge", "text", "row"] ds) M
theorem ok_trained : FnD P w K mg base (W.Ts w) 5 W.a22 W.d22 2 ["texts", "n"] (sp_trained W.cs) :=
  fnD (N := ["texts", "n", "letters", "rows", "merges", "made", "merge", "text", "row"]) (ps := ["texts", "n"]) W.D22.F rfl sc22 (fun A outer s H E hr => qss_cons (qs_if (qt_not (qt_val (qe_call (ok__are_texts W) (hr.mono (by decide)) (by rfl) W.D31.g W.D31.kp W.D31.b takesD (qa_cons (qv 0) (qa_nil))))) (qss_one (qs_raise rfl W.e6 hr takesD (qv 0) (by rfl))) (qss_nil)) (qss_cons (qs_if (qt_not (qt_val (qe_call (ok_is_integer_from W) (hr.mono (by decide)) (by rfl) W.D9.g W.D9.kp W.D9.b takesD (qa_cons (qv 1) (qa_cons (qe_int) (qa_nil)))))) (qss_one (qs_raise rfl W.e3 hr takesD (qv 1) (by rfl))) (qss_nil)) (qss_cons (qs_set (i := 2) sc22.nd rfl (by first | exact .inl rfl | exact .inr rfl) (qe_joinT (qe_str) (qa_cons (qe_sortSetX rfl (by rfl) W.m_sorted (by rfl) W.m_set (qe_joinT (qe_str) (qa_cons (qv 0) (qa_nil)))) (qa_nil)))) (qss_cons (qs_setLc (i := 3) (own := [("text", 7)]) (g := gName 7) rfl sc22.nd rfl rfl (sw_true rfl rfl rfl (by decide +kernel)) (qi_any (qv 0)) (blkOk_by (N := ["texts", "n", "letters", "rows", "merges", "made", "merge", "text", "row"]) (sc := defScope (top 22)) (by decide +kernel)) (fun _ _ _ _ _ => pg_name (i := 7) sc22.nd rfl (by first | exact .inl rfl | exact .inr rfl)) (tg_name (by simp)) (gm_name) (fun _ _ _ _ _ => qts_nil) (fun _ _ _ _ _ => qe_call (ok__letter_tokens W) (hr.mono (by decide)) (by rfl) W.D34.g W.D34.kp W.D34.b Dl.takes0 (qa_cons (qv 2) (qa_cons (qv 7) (qa_nil))))) (qss_cons (qs_set (i := 4) sc22.nd rfl (by first | exact .inl rfl | exact .inr rfl) (qe_lst (qa_nil))) (qss_cons (qs_while passD (qt_cmp (op_ltH hr.r) od_ltH (qe_cb (id := "len") cr_lenH cd_len (by rfl) W.m_len bt_len (qa_cons (qv 4) (qa_nil))) (qe_cb (id := "min") (call_min2 rfl) cd_min2 (by rfl) W.m_min bt_min (qa_cons (qv 1) (qa_cons (qe_globI (by rfl) W.g_MOST_MERGES) (qa_nil)))) (nomark _)) (qss_cons (qs_set (i := 5) sc22.nd rfl (by first | exact .inl rfl | exact .inr rfl) (qe_add (qe_add (qe_int) (qe_cb (id := "len") cr_lenH cd_len (by rfl) W.m_len bt_len (qa_cons (qv 2) (qa_nil)))) (qe_cb (id := "len") cr_lenH cd_len (by rfl) W.m_len bt_len (qa_cons (qv 4) (qa_nil))))) (qss_cons (qs_set (i := 6) sc22.nd rfl (by first | exact .inl rfl | exact .inr rfl) (qe_call (ok_next_merge W) (hr.mono (by decide)) (by rfl) W.D25.g W.D25.kp W.D25.b takesD (qa_cons (qv 3) (qa_cons (qe_call (ok__pieces W) (hr.mono (by decide)) (by rfl) W.D33.g W.D33.kp W.D33.b takesD (qa_cons (qv 2) (qa_cons (qv 4) (qa_nil)))) (qa_nil))))) (qss_cons (qs_if (qt_cmp op_isH (od_is false) (qv 6) (qe_non) (nomark _)) (qss_one (qs_break)) (qss_nil)) (qss_cons (qs_expr (qe_append (qv 4) (qa_cons (qv 6) (qa_nil)))) (qss_one (qs_setLc (i := 3) (own := [("row", 8)]) (g := gName 8) rfl sc22.nd rfl rfl (sw_true rfl rfl rfl (by decide +kernel)) (qi_any (qv 3)) (blkOk_by (N := ["texts", "n", "letters", "rows", "merges", "made", "merge", "text", "row"]) (sc := defScope (top 22)) (by decide +kernel)) (fun _ _ _ _ _ => pg_name (i := 8) sc22.nd rfl (by first | exact .inl rfl | exact .inr rfl)) (tg_name (by simp)) (gm_name) (fun _ _ _ _ _ => qts_nil) (fun _ _ _ _ _ => qe_call (ok__merged W) (hr.mono (by decide)) (by rfl) W.D35.g W.D35.kp W.D35.b Dl.takes0 (qa_cons (qv 8) (qa_cons (qv 6) (qa_cons (qv 5) (qa_nil)))))))))))) (qss_one (qs_ret (qe_tup (qa_cons (qe_str) (qa_cons (qv 2) (qa_cons (qe_cty (T := "tuple") call_tuple_of cd_tup (by rfl) W.m_tuple bt_tuple (qa_cons (qv 4) (qa_nil))) (qa_nil))))))))))))) fun _ _ _ _ _ h => h
def r__law_deck : TSd := dSeq (dSet 2 (dVar 1)) (dSeq (dFor (dWalk (dSl (dVar 0) (dNo) (dPart (dC (.int 63))))) (dGN 3) (dSet 2 (dOp modD (dCB intOfD (dCons (dOp addD (dOp addD (dOp mulA (dVar 2) (dC (.int 47293))) (dOp modD (dCB intOfD (dCons (dVar 3) (dNil))) (dC (.int 2147483629)))) (dC (.int 61))) (dNil))) (dC (.int 2147483563))))) (dRet (dDisp [(dC (.str "left"), dRev (dCB lstOfD (dCons (dSl (dVar 0) (dNo) (dPart (dC (.int 63)))) (dNil)))), (dC (.str "mixed"), dVar 2), (dC (.str "draws"), dC (.int 0))])))
def sp__law_deck : SpD := fun ds M Q E => r__law_deck { nx := fun _ M' => Q .non M', rt := Q } E (startD ["script", "seed", "mixed", "cell"] ds) M
theorem ok__law_deck : FnD P w K mg base (W.Ts w) 1 W.a37 W.d37 2 ["script", "seed"] sp__law_deck :=
  fnD (N := ["script", "seed", "mixed", "cell"]) (ps := ["script", "seed"]) W.D37.F rfl sc37 (fun A outer s H E hr => qss_cons (qs_set (i := 2) sc37.nd rfl (by first | exact .inl rfl | exact .inr rfl) (qv 1)) (qss_cons (qs_for passD rfl (qi_any (qe_slice (qv 0) (qo_none) (qo_some (qe_int)))) (qg_name (i := 3) sc37.nd rfl (by first | exact .inl rfl | exact .inr rfl)) (qss_one (qs_set (i := 2) sc37.nd rfl (by first | exact .inl rfl | exact .inr rfl) (qe_mod (qe_cty (T := "int") call_int1 cd_int (by rfl) W.m_int bt_int (qa_cons (qe_add (qe_add (qe_mulA (qv 2) (qe_int)) (qe_mod (qe_cty (T := "int") call_int1 cd_int (by rfl) W.m_int bt_int (qa_cons (qv 3) (qa_nil))) (qe_int))) (qe_int)) (qa_nil))) (qe_int))))) (qss_one (qs_ret (qe_disp (trs := [(dC (.str "left"), dRev (dCB lstOfD (dCons (dSl (dVar 0) (dNo) (dPart (dC (.int 63)))) (dNil)))), (dC (.str "mixed"), dVar 2), (dC (.str "draws"), dC (.int 0))]) (pps_cons (qe_str) (qe_rev (qe_cty (T := "list") (cr_lstOf hr.r.hd) cd_lst (by rfl) W.m_list bt_list (qa_cons (qe_slice (qv 0) (qo_none) (qo_some (qe_int))) (qa_nil)))) (pps_cons (qe_str) (qv 2) (pps_cons (qe_str) (qe_int) (pps_nil))))))))) fun _ _ _ _ _ h => h
def r__law_draw : TSd := dSeq (dPut (dVar 0) (dC (.str "draws")) (dOp addD (dOp ixA (dVar 0) (dC (.str "draws"))) (dC (.int 1)))) (dSeq (dIfS (dTest (dOp (eqA true) (dOp ixA (dVar 0) (dC (.str "left"))) (dLst (dNil)))) (dSeq (dSet 2 (dBM0 isLst popD (dOp ixA (dVar 0) (dC (.str "left"))))) (dSeq (dIfS (dTest (dOp geD (dVar 2) (dOp powD (dC (.int 10)) (dC (.int 18))))) (dSeq (dDrop (dBM isLst appendD (dOp ixA (dVar 0) (dC (.str "left"))) (dCons (dOp fdivWD (dVar 2) (dCB (max2D true) (dCons (dC (.int 2)) (dCons (dVar 1) (dNil))))) (dNil)))) (dRet (dOp modD (dCB intOfD (dCons (dVar 2) (dNil))) (dVar 1)))) (dNext)) (dPut (dVar 0) (dC (.str "mixed")) (dOp modD (dCB intOfD (dCons (dOp addD (dOp addD (dOp mulA (dOp ixA (dVar 0) (dC (.str "mixed"))) (dC (.int 39373))) (dOp modD (dCB intOfD (dCons (dVar 2) (dNil))) (dC (.int 2147483629)))) (dC (.int 53))) (dNil))) (dC (.int 2147483587)))))) (dNext)) (dSeq (dSet 3 (dOp modD (dCB intOfD (dCons (dOp addD (dOp ixA (dVar 0) (dC (.str "mixed"))) (dOp mulA (dC (.int 31337)) (dOp ixA (dVar 0) (dC (.str "draws"))))) (dNil))) (dC (.int 2147483647)))) (dSeq (dSet 3 (dOp modD (dCB intOfD (dCons (dOp addD (dOp addD (dOp mulA (dVar 3) (dVar 3)) (dOp mulA (dC (.int 48271)) (dOp ixA (dVar 0) (dC (.str "draws"))))) (dC (.int 59))) (dNil))) (dC (.int 2147483629)))) (dSeq (dSet 3 (dOp modD (dCB intOfD (dCons (dOp addD (dOp mulA (dVar 3) (dC (.int 69621))) (dC (.int 77))) (dNil))) (dC (.int 2147483563)))) (dRet (dOp modD (dCB intOfD (dCons (dOp fdivWD (dVar 3) (dC (.int 64))) (dNil))) (dVar 1)))))))
def sp__law_draw : SpD := fun ds M Q E => r__law_draw { nx := fun _ M' => Q .non M', rt := Q } E (startD ["deck", "many", "cell", "figure"] ds) M
theorem ok__law_draw : FnD P w K mg base (W.Ts w) 1 W.a38 W.d38 2 ["deck", "many"] sp__law_draw :=
  fnD (N := ["deck", "many", "cell", "figure"]) (ps := ["deck", "many"]) W.D38.F rfl sc38 (fun A outer s H E hr => qss_cons (qs_putA hr.r (qv 0) (qe_str) (qe_add (qe_at hr.r (qv 0) (qe_str)) (qe_int))) (qss_cons (qs_if (qt_cmp (op_neA hr.r) od_neA (qe_at hr.r (qv 0) (qe_str)) (qe_lst (qa_nil)) (nomark _)) (qss_cons (qs_set (i := 2) sc38.nd rfl (by first | exact .inl rfl | exact .inr rfl) (qe_pop0 (qe_at hr.r (qv 0) (qe_str)))) (qss_cons (qs_if (qt_cmp (op_rI0 op_ge) od_ge (qv 2) (qe_pow (qe_int) (qe_int)) (nomark _)) (qss_cons (qs_expr (qe_append (qe_at hr.r (qv 0) (qe_str)) (qa_cons (qe_fdivW (qv 2) (qe_cb (id := "max") (call_max2 rfl) cd_max2 (by rfl) W.m_max bt_max (qa_cons (qe_int) (qa_cons (qv 1) (qa_nil))))) (qa_nil)))) (qss_one (qs_ret (qe_mod (qe_cty (T := "int") call_int1 cd_int (by rfl) W.m_int bt_int (qa_cons (qv 2) (qa_nil))) (qv 1))))) (qss_nil)) (qss_one (qs_putA hr.r (qv 0) (qe_str) (qe_mod (qe_cty (T := "int") call_int1 cd_int (by rfl) W.m_int bt_int (qa_cons (qe_add (qe_add (qe_mulA (qe_at hr.r (qv 0) (qe_str)) (qe_int)) (qe_mod (qe_cty (T := "int") call_int1 cd_int (by rfl) W.m_int bt_int (qa_cons (qv 2) (qa_nil))) (qe_int))) (qe_int)) (qa_nil))) (qe_int)))))) (qss_nil)) (qss_cons (qs_set (i := 3) sc38.nd rfl (by first | exact .inl rfl | exact .inr rfl) (qe_mod (qe_cty (T := "int") call_int1 cd_int (by rfl) W.m_int bt_int (qa_cons (qe_add (qe_at hr.r (qv 0) (qe_str)) (qe_mulA (qe_int) (qe_at hr.r (qv 0) (qe_str)))) (qa_nil))) (qe_int))) (qss_cons (qs_set (i := 3) sc38.nd rfl (by first | exact .inl rfl | exact .inr rfl) (qe_mod (qe_cty (T := "int") call_int1 cd_int (by rfl) W.m_int bt_int (qa_cons (qe_add (qe_add (qe_mulA (qv 3) (qv 3)) (qe_mulA (qe_int) (qe_at hr.r (qv 0) (qe_str)))) (qe_int)) (qa_nil))) (qe_int))) (qss_cons (qs_set (i := 3) sc38.nd rfl (by first | exact .inl rfl | exact .inr rfl) (qe_mod (qe_cty (T := "int") call_int1 cd_int (by rfl) W.m_int bt_int (qa_cons (qe_add (qe_mulA (qv 3) (qe_int)) (qe_int)) (qa_nil))) (qe_int))) (qss_one (qs_ret (qe_mod (qe_cty (T := "int") call_int1 cd_int (by rfl) W.m_int bt_int (qa_cons (qe_fdivW (qv 3) (qe_int)) (qa_nil))) (qv 1))))))))) fun _ _ _ _ _ h => h
def r__law_pick : TSd := dRet (dOp ixA (dVar 1) (dCall 2 sp__law_draw (dCons (dVar 0) (dCons (dCB lenD (dCons (dVar 1) (dNil))) (dNil)))))
def sp__law_pick : SpD := fun ds M Q E => r__law_pick { nx := fun _ M' => Q .non M', rt := Q } E (startD ["deck", "some"] ds) M
theorem ok__law_pick : FnD P w K mg base (W.Ts w) 2 W.a39 W.d39 2 ["deck", "some"] sp__law_pick :=
  fnD (N := ["deck", "some"]) (ps := ["deck", "some"]) W.D39.F rfl sc39 (fun A outer s H E hr => qss_one (qs_ret (qe_at hr.r (qv 1) (qe_call (ok__law_draw W) (hr.mono (by decide)) (by rfl) W.D38.g W.D38.kp W.D38.b takesD (qa_cons (qv 0) (qa_cons (qe_cb (id := "len") cr_lenH cd_len (by rfl) W.m_len bt_len (qa_cons (qv 1) (qa_nil))) (qa_nil))))))) fun _ _ _ _ _ h => h
end
end Z03
set_option Elab.async false
set_option linter.all false
set_option maxRecDepth 100000
set_option maxHeartbeats 4000000
namespace Z03
open PySem PySem.Spec PyProof.Rows L2 GxR Gn Dl
section
variable {P : Program} {w : World} {K : PySem.W.Frag} {mg : Str → Option Value} {base : Heap} (W : Wd K mg base)
def r__law_letters : TSd := dSeq (dPar 2 3 (dCons (dCB lstOfD (dCons (dC (.str "abcxyz")) (dNil))) (dCons (dC (.str "")) (dNil)))) (dSeq (dFor (dRange1 (dCons (dOp addD (dC (.int 1)) (dCall 2 sp__law_draw (dCons (dVar 0) (dCons (dVar 1) (dNil))))) (dNil))) (dGN 4) (dSet 3 (dOp addD (dVar 3) (dBM isLst popAtD (dVar 2) (dCons (dCall 2 sp__law_draw (dCons (dVar 0) (dCons (dCB lenD (dCons (dVar 2) (dNil))) (dNil)))) (dNil)))))) (dRet (dVar 3)))
def sp__law_letters : SpD := fun ds M Q E => r__law_letters { nx := fun _ M' => Q .non M', rt := Q } E (startD ["deck", "most", "left", "found", "turn"] ds) M
theorem ok__law_letters : FnD P w K mg base (W.Ts w) 2 W.a40 W.d40 2 ["deck", "most"] sp__law_letters :=
  fnD (N := ["deck", "most", "left", "found", "turn"]) (ps := ["deck", "most"]) W.D40.F rfl sc40 (fun A outer s H E hr => qss_cons (qs_par (i := 2) (j := 3) rfl sc40.nd rfl rfl (by decide) rfl rfl (qa_cons (qe_cty (T := "list") (cr_lstOf hr.r.hd) cd_lst (by rfl) W.m_list bt_list (qa_cons (qe_str) (qa_nil))) (qa_cons (qe_str) (qa_nil))) (by rfl)) (qss_cons (qs_for passD rfl (qi_range1 (by rfl) W.m_range (qa_cons (qe_add (qe_int) (qe_call (ok__law_draw W) (hr.mono (by decide)) (by rfl) W.D38.g W.D38.kp W.D38.b takesD (qa_cons (qv 0) (qa_cons (qv 1) (qa_nil))))) (qa_nil))) (qg_name (i := 4) sc40.nd rfl (by first | exact .inl rfl | exact .inr rfl)) (qss_one (qs_set (i := 3) sc40.nd rfl (by first | exact .inl rfl | exact .inr rfl) (qe_add (qv 3) (qe_popAt (qv 2) (qa_cons (qe_call (ok__law_draw W) (hr.mono (by decide)) (by rfl) W.D38.g W.D38.kp W.D38.b takesD (qa_cons (qv 0) (qa_cons (qe_cb (id := "len") cr_lenH cd_len (by rfl) W.m_len bt_len (qa_cons (qv 2) (qa_nil))) (qa_nil)))) (qa_nil))))))) (qss_one (qs_ret (qv 3))))) fun _ _ _ _ _ h => h
def r__law_drawn_text : TSd := dSeq (dSet 3 (dC (.str ""))) (dSeq (dFor (dRange1 (dCons (dCall 2 sp__law_draw (dCons (dVar 0) (dCons (dC (.int 12)) (dNil)))) (dNil))) (dGN 4) (dSeq (dSet 5 (dCall 2 sp__law_pick (dCons (dVar 0) (dCons (dCB lstOfD (dCons (dVar 1) (dNil))) (dNil))))) (dSeq (dIfS (dAndT (dTest (dOp (eqA true) (dVar 3) (dC (.str "")))) (dTest (dOp (eqA false) (dCall 2 sp__law_draw (dCons (dVar 0) (dCons (dC (.int 3)) (dNil)))) (dC (.int 0))))) (dSeq (dSet 6 (dCall 2 sp__law_draw (dCons (dVar 0) (dCons (dCB lenD (dCons (dVar 3) (dNil))) (dNil))))) (dSet 5 (dSl (dVar 3) (dPart (dVar 6)) (dPart (dOp addD (dVar 6) (dC (.int 5))))))) (dNext)) (dIfS (dTest (dOp (cmpD false) (dOp addD (dCB lenD (dCons (dVar 3) (dNil))) (dCB lenD (dCons (dVar 5) (dNil)))) (dVar 2))) (dSet 3 (dOp addD (dVar 3) (dVar 5))) (dNext))))) (dRet (dVar 3)))
def sp__law_drawn_text : SpD := fun ds M Q E => r__law_drawn_text { nx := fun _ M' => Q .non M', rt := Q } E (startD ["deck", "letters", "most", "found", "turn", "part", "at"] ds) M
theorem ok__law_drawn_text : FnD P w K mg base (W.Ts w) 3 W.a41 W.d41 3 ["deck", "letters", "most"] sp__law_drawn_text :=
  fnD (N := ["deck", "letters", "most", "found", "turn", "part", "at"]) (ps := ["deck", "letters", "most"]) W.D41.F rfl sc41 (fun A outer s H E hr => qss_cons (qs_set (i := 3) sc41.nd rfl (by first | exact .inl rfl | exact .inr rfl) (qe_str)) (qss_cons (qs_for passD rfl (qi_range1 (by rfl) W.m_range (qa_cons (qe_call (ok__law_draw W) (hr.mono (by decide)) (by rfl) W.D38.g W.D38.kp W.D38.b takesD (qa_cons (qv 0) (qa_cons (qe_int) (qa_nil)))) (qa_nil))) (qg_name (i := 4) sc41.nd rfl (by first | exact .inl rfl | exact .inr rfl)) (qss_cons (qs_set (i := 5) sc41.nd rfl (by first | exact .inl rfl | exact .inr rfl) (qe_call (ok__law_pick W) (hr.mono (by decide)) (by rfl) W.D39.g W.D39.kp W.D39.b takesD (qa_cons (qv 0) (qa_cons (qe_cty (T := "list") (cr_lstOf hr.r.hd) cd_lst (by rfl) W.m_list bt_list (qa_cons (qv 1) (qa_nil))) (qa_nil))))) (qss_cons (qs_if (QW.t (qw_and (qt_cmp (op_neA hr.r) od_neA (qv 3) (qe_str) (nomark _)) (qw_and1 (qt_cmp (op_eqA hr.r) od_eqA (qe_call (ok__law_draw W) (hr.mono (by decide)) (by rfl) W.D38.g W.D38.kp W.D38.b takesD (qa_cons (qv 0) (qa_cons (qe_int) (qa_nil)))) (qe_int) (nomark _))))) (qss_cons (qs_set (i := 6) sc41.nd rfl (by first | exact .inl rfl | exact .inr rfl) (qe_call (ok__law_draw W) (hr.mono (by decide)) (by rfl) W.D38.g W.D38.kp W.D38.b takesD (qa_cons (qv 0) (qa_cons (qe_cb (id := "len") cr_lenH cd_len (by rfl) W.m_len bt_len (qa_cons (qv 3) (qa_nil))) (qa_nil))))) (qss_one (qs_set (i := 5) sc41.nd rfl (by first | exact .inl rfl | exact .inr rfl) (qe_slice (qv 3) (qo_some (qv 6)) (qo_some (qe_add (qv 6) (qe_int))))))) (qss_nil)) (qss_one (qs_if (qt_cmp op_leH od_leH (qe_add (qe_cb (id := "len") cr_lenH cd_len (by rfl) W.m_len bt_len (qa_cons (qv 3) (qa_nil))) (qe_cb (id := "len") cr_lenH cd_len (by rfl) W.m_len bt_len (qa_cons (qv 5) (qa_nil)))) (qv 2) (nomark _)) (qss_one (qs_set (i := 3) sc41.nd rfl (by first | exact .inl rfl | exact .inr rfl) (qe_add (qv 3) (qv 5)))) (qss_nil)))))) (qss_one (qs_ret (qv 3))))) fun _ _ _ _ _ h => h
def r__law_merged : TSd := dSeq (dPar 3 4 (dCons (dLst (dNil)) (dCons (dC (.int 0)) (dNil)))) (dSeq (dWhile (dTest (dOp (cmpD true) (dVar 4) (dCB lenD (dCons (dVar 0) (dNil))))) (dIfS (dAndT (dTest (dOp (cmpD true) (dOp addD (dVar 4) (dC (.int 1))) (dCB lenD (dCons (dVar 0) (dNil))))) (dTest (dOp (eqA false) (dTup (dCons (dOp ixA (dVar 0) (dVar 4)) (dCons (dOp ixA (dVar 0) (dOp addD (dVar 4) (dC (.int 1)))) (dNil)))) (dVar 1)))) (dSeq (dDrop (dBM isLst appendD (dVar 3) (dCons (dVar 2) (dNil)))) (dSet 4 (dOp addD (dVar 4) (dC (.int 2))))) (dSeq (dDrop (dBM isLst appendD (dVar 3) (dCons (dOp ixA (dVar 0) (dVar 4)) (dNil)))) (dSet 4 (dOp addD (dVar 4) (dC (.int 1))))))) (dRet (dVar 3)))
def sp__law_merged : SpD := fun ds M Q E => r__law_merged { nx := fun _ M' => Q .non M', rt := Q } E (startD ["tokens", "pair", "new", "found", "at"] ds) M
theorem ok__law_merged : FnD P w K mg base (W.Ts w) 1 W.a42 W.d42 3 ["tokens", "pair", "new"] sp__law_merged :=
  fnD (N := ["tokens", "pair", "new", "found", "at"]) (ps := ["tokens", "pair", "new"]) W.D42.F rfl sc42 (fun A outer s H E hr => qss_cons (qs_par (i := 3) (j := 4) rfl sc42.nd rfl rfl (by decide) rfl rfl (qa_cons (qe_lst (qa_nil)) (qa_cons (qe_int) (qa_nil))) (by rfl)) (qss_cons (qs_while passD (qt_cmp (op_ltH hr.r) od_ltH (qv 4) (qe_cb (id := "len") cr_lenH cd_len (by rfl) W.m_len bt_len (qa_cons (qv 0) (qa_nil))) (nomark _)) (qss_one (qs_if (QW.t (qw_and (qt_cmp (op_ltH hr.r) od_ltH (qe_add (qv 4) (qe_int)) (qe_cb (id := "len") cr_lenH cd_len (by rfl) W.m_len bt_len (qa_cons (qv 0) (qa_nil))) (nomark _)) (qw_and1 (qt_cmp (op_eqA hr.r) od_eqA (qe_tup (qa_cons (qe_at hr.r (qv 0) (qv 4)) (qa_cons (qe_at hr.r (qv 0) (qe_add (qv 4) (qe_int))) (qa_nil)))) (qv 1) (nomark _))))) (qss_cons (qs_expr (qe_append (qv 3) (qa_cons (qv 2) (qa_nil)))) (qss_one (qs_set (i := 4) sc42.nd rfl (by first | exact .inl rfl | exact .inr rfl) (qe_add (qv 4) (qe_int))))) (qss_cons (qs_expr (qe_append (qv 3) (qa_cons (qe_at hr.r (qv 0) (qv 4)) (qa_nil)))) (qss_one (qs_set (i := 4) sc42.nd rfl (by first | exact .inl rfl | exact .inr rfl) (qe_add (qv 4) (qe_int)))))))) (qss_one (qs_ret (qv 3))))) fun _ _ _ _ _ h => h
def r__law_tokens : TSd := dSeq (dAsg (dVar 0) (dGTup 3 (dGCons (dGN 2) (dGCons (dGN 3) (dGCons (dGN 4) (dGNil)))))) (dSeq (dSet 5 (dLc (dWalk (dVar 1)) (dGN 8) (dYes) (dOp addD (dC (.int 1)) (dBM isStr indexD (dVar 3) (dCons (dVar 8) (dNil)))) [8])) (dSeq (dFor (dEnumA (dCons (dVar 4) (dNil))) (dGTup 2 (dGCons (dGN 6) (dGCons (dGN 7) (dGNil)))) (dSet 5 (dCall 3 sp__law_merged (dCons (dVar 5) (dCons (dVar 7) (dCons (dOp addD (dOp addD (dC (.int 1)) (dCB lenD (dCons (dVar 3) (dNil)))) (dVar 6)) (dNil))))))) (dRet (dCB tupOfD (dCons (dVar 5) (dNil))))))
def sp__law_tokens : SpD := fun ds M Q E => r__law_tokens { nx := fun _ M' => Q .non M', rt := Q } E (startD ["vocabulary", "text", "word", "letters", "merges", "found", "at", "pair", "x"] ds) M
theorem ok__law_tokens : FnD P w K mg base (W.Ts w) 2 W.a43 W.d43 2 ["vocabulary", "text"] sp__law_tokens :=
  fnD (N := ["vocabulary", "text", "word", "letters", "merges", "found", "at", "pair", "x"]) (ps := ["vocabulary", "text"]) W.D43.F rfl sc43 (fun A outer s H E hr => qss_cons (qs_asg (qv 0) (qg_tupA rfl (qgs_cons (qg_name (i := 2) sc43.nd rfl (by first | exact .inl rfl | exact .inr rfl)) (qgs_cons (qg_name (i := 3) sc43.nd rfl (by first | exact .inl rfl | exact .inr rfl)) (qgs_cons (qg_name (i := 4) sc43.nd rfl (by first | exact .inl rfl | exact .inr rfl)) (qgs_nil)))))) (qss_cons (qs_setLc (i := 5) (own := [("x", 8)]) (g := gName 8) rfl sc43.nd rfl rfl (sw_true rfl rfl rfl (by decide +kernel)) (qi_any (qv 1)) (blkOk_by (N := ["vocabulary", "text", "word", "letters", "merges", "found", "at", "pair", "x"]) (sc := defScope (top 43)) (by decide +kernel)) (fun _ _ _ _ _ => pg_name (i := 8) sc43.nd rfl (by first | exact .inl rfl | exact .inr rfl)) (tg_name (by simp)) (gm_name) (fun _ _ _ _ _ => qts_nil) (fun _ _ _ _ _ => qe_add (qe_int) (qe_index (qv 3) (qa_cons (qv 8) (qa_nil))))) (qss_cons (qs_for passD rfl (qi_enumA (by rfl) W.m_enumerate (qa_cons (qv 4) (qa_nil))) (qg_tupA rfl (qgs_cons (qg_name (i := 6) sc43.nd rfl (by first | exact .inl rfl | exact .inr rfl)) (qgs_cons (qg_name (i := 7) sc43.nd rfl (by first | exact .inl rfl | exact .inr rfl)) (qgs_nil)))) (qss_one (qs_set (i := 5) sc43.nd rfl (by first | exact .inl rfl | exact .inr rfl) (qe_call (ok__law_merged W) (hr.mono (by decide)) (by rfl) W.D42.g W.D42.kp W.D42.b takesD (qa_cons (qv 5) (qa_cons (qv 7) (qa_cons (qe_add (qe_add (qe_int) (qe_cb (id := "len") cr_lenH cd_len (by rfl) W.m_len bt_len (qa_cons (qv 3) (qa_nil)))) (qv 6)) (qa_nil)))))))) (qss_one (qs_ret (qe_cty (T := "tuple") call_tuple_of cd_tup (by rfl) W.m_tuple bt_tuple (qa_cons (qv 5) (qa_nil)))))))) fun _ _ _ _ _ h => h
def r__law_trained : TSd := dSeq (dSet 2 (dBM isStr joinTD (dC (.str "")) (dCons (dSortSetX (dBM isStr joinTD (dC (.str "")) (dCons (dVar 0) (dNil)))) (dNil)))) (dSeq (dAsg (dTup (dCons (dOp addD (dLst (dCons (dC (.str "")) (dNil))) (dCB lstOfD (dCons (dVar 2) (dNil)))) (dCons (dTup (dNil)) (dNil)))) (dGTup 2 (dGCons (dGN 3) (dGCons (dGN 4) (dGNil))))) (dSeq (dSet 5 (dLc (dWalk (dVar 0)) (dGN 12) (dYes) (dLc (dWalk (dVar 12)) (dGN 13) (dYes) (dOp addD (dC (.int 1)) (dBM isStr indexD (dVar 2) (dCons (dVar 13) (dNil)))) [13]) [12])) (dSeq (dFor (dRange1 (dCons (dCB (max2D false) (dCons (dVar 1) (dCons (dC (.int 10)) (dNil)))) (dNil))) (dGN 6) (dSeq (dSet 7 (dNewT)) (dSeq (dFor (dWalk (dVar 5)) (dGN 8) (dFor (dRange1 (dCons (dOp subD (dCB lenD (dCons (dVar 8) (dNil))) (dC (.int 1))) (dNil))) (dGN 9) (dSeq (dSet 10 (dTup (dCons (dOp ixA (dVar 8) (dVar 9)) (dCons (dOp ixA (dVar 8) (dOp addD (dVar 9) (dC (.int 1)))) (dNil))))) (dIfS (dTest (dOp notInD (dOp addD (dOp ixA (dVar 3) (dOp ixA (dVar 10) (dC (.int 0)))) (dOp ixA (dVar 3) (dOp ixA (dVar 10) (dC (.int 1))))) (dVar 3))) (dPutT (dVar 7) (dVar 10) (dOp addD (dGetT (dVar 7) (dVar 10) (dC (.int 0))) (dC (.int 1)))) (dNext))))) (dSeq (dSet 11 (dCB maxHD (dCons (dOp addD (dLockT 7 (dLc (dKeysT (dVar 7)) (dGN 10) (dYes) (dOp ixLT (dVar 7) (dVar 10)) [10])) (dLst (dCons (dC (.int 0)) (dNil)))) (dNil)))) (dSeq (dIfS (dTest (dOp (cmpD true) (dVar 11) (dC (.int 2)))) (dBreak) (dNext)) (dSeq (dSet 10 (dCB minPD (dCons (dLockT 7 (dLc (dKeysT (dVar 7)) (dGN 14) (dTest (dOp (eqA false) (dOp ixLT (dVar 7) (dVar 14)) (dVar 11))) (dVar 14) [14])) (dNil)))) (dSeq (dDrop (dBM isLst appendD (dVar 3) (dCons (dOp addD (dOp ixA (dVar 3) (dOp ixA (dVar 10) (dC (.int 0)))) (dOp ixA (dVar 3) (dOp ixA (dVar 10) (dC (.int 1))))) (dNil)))) (dSeq (dSet 4 (dOp addD (dVar 4) (dTup (dCons (dVar 10) (dNil))))) (dSet 5 (dLc (dWalk (dVar 5)) (dGN 8) (dYes) (dCall 3 sp__law_merged (dCons (dVar 8) (dCons (dVar 10) (dCons (dOp subD (dCB lenD (dCons (dVar 3) (dNil))) (dC (.int 1))) (dNil))))) [8])))))))))) (dRet (dTup (dCons (dC (.str "vocabulary")) (dCons (dVar 2) (dCons (dVar 4) (dNil)))))))))
def sp__law_trained : SpD := fun ds M Q E => r__law_trained { nx := fun _ M' => Q .non M', rt := Q } E (startD ["texts", "n", "letters", "some", "merges", "rows", "turn", "counts", "row", "at", "pair", "most", "text", "x", "it"] ds) M
theorem ok__law_trained : FnD P w K mg base (W.Ts w) 2 W.a44 W.d44 2 ["texts", "n"] sp__law_trained :=
  fnD (N := ["texts", "n", "letters", "some", "merges", "rows", "turn", "counts", "row", "at", "pair", "most", "text", "x", "it"]) (ps := ["texts", "n"]) W.D44.F rfl sc44 (fun A outer s H E hr => qss_cons (qs_set (i := 2) sc44.nd rfl (by first | exact .inl rfl | exact .inr rfl) (qe_joinT (qe_str) (qa_cons (qe_sortSetX rfl (by rfl) W.m_sorted (by rfl) W.m_set (qe_joinT (qe_str) (qa_cons (qv 0) (qa_nil)))) (qa_nil)))) (qss_cons (qs_asg (qe_tup (qa_cons (qe_add (qe_lst (qa_cons (qe_str) (qa_nil))) (qe_cty (T := "list") (cr_lstOf hr.r.hd) cd_lst (by rfl) W.m_list bt_list (qa_cons (qv 2) (qa_nil)))) (qa_cons (qe_tup (qa_nil)) (qa_nil)))) (qg_tupA rfl (qgs_cons (qg_name (i := 3) sc44.nd rfl (by first | exact .inl rfl | exact .inr rfl)) (qgs_cons (qg_name (i := 4) sc44.nd rfl (by first | exact .inl rfl | exact .inr rfl)) (qgs_nil))))) (qss_cons (qs_setLc (i := 5) (own := [("text", 12)]) (g := gName 12) rfl sc44.nd rfl rfl (sw_true rfl rfl rfl (by decide +kernel)) (qi_any (qv 0)) (blkOk_by (N := ["texts", "n", "letters", "some", "merges", "rows", "turn", "counts", "row", "at", "pair", "most", "text", "x", "it"]) (sc := defScope (top 44)) (by decide +kernel)) (fun _ _ _ _ _ => pg_name (i := 12) sc44.nd rfl (by first | exact .inl rfl | exact .inr rfl)) (tg_name (by simp)) (gm_name) (fun _ _ _ _ _ => qts_nil) (fun _ _ _ _ _ => qe_lc (own := [("x", 13)]) (g := gName 13) rfl sc44.nd (qi_any (qv 12)) (blkOk_by (by kernel_rfl)) (fun _ _ _ _ _ => pg_name (i := 13) sc44.nd rfl (by first | exact .inl rfl | exact .inr rfl)) (tg_name (by simp)) (gm_name) (fun _ _ _ _ _ => qts_nil) (fun _ _ _ _ _ => qe_add (qe_int) (qe_index (qv 2) (qa_cons (qv 13) (qa_nil)))))) (qss_cons (qs_for passD rfl (qi_range1 (by rfl) W.m_range (qa_cons (qe_cb (id := "min") (call_min2 rfl) cd_min2 (by rfl) W.m_min bt_min (qa_cons (qv 1) (qa_cons (qe_int) (qa_nil)))) (qa_nil))) (qg_name (i := 6) sc44.nd rfl (by first | exact .inl rfl | exact .inr rfl)) (qss_cons (qs_set (i := 7) sc44.nd rfl (by first | exact .inl rfl | exact .inr rfl) (qe_newT)) (qss_cons (qs_for passD rfl (qi_any (qv 5)) (qg_name (i := 8) sc44.nd rfl (by first | exact .inl rfl | exact .inr rfl)) (qss_one (qs_for passD rfl (qi_range1 (by rfl) W.m_range (qa_cons (qe_sub (qe_cb (id := "len") cr_lenH cd_len (by rfl) W.m_len bt_len (qa_cons (qv 8) (qa_nil))) (qe_int)) (qa_nil))) (qg_name (i := 9) sc44.nd rfl (by first | exact .inl rfl | exact .inr rfl)) (qss_cons (qs_set (i := 10) sc44.nd rfl (by first | exact .inl rfl | exact .inr rfl) (qe_tup (qa_cons (qe_at hr.r (qv 8) (qv 9)) (qa_cons (qe_at hr.r (qv 8) (qe_add (qv 9) (qe_int))) (qa_nil))))) (qss_one (qs_if (qt_cmp (op_notInH hr.r) od_notIn (qe_add (qe_at hr.r (qv 3) (qe_at hr.r (qv 10) (qe_int))) (qe_at hr.r (qv 3) (qe_at hr.r (qv 10) (qe_int)))) (qv 3) (by rfl)) (qss_one (qs_putTA hr.r (qv 7) (qv 10) (qe_add (qe_getT hr.r (qv 7) (qv 10) (qe_int) ⟨by rfl, by rfl, by rfl, by rfl⟩) (qe_int)))) (qss_nil))))))) (qss_cons (qs_set (i := 11) sc44.nd rfl (by first | exact .inl rfl | exact .inr rfl) (qe_cb (id := "max") (cr_maxH rfl) cd_maxH (by rfl) W.m_max bt_max (qa_cons (qe_add (qe_lockT (qe_lc (own := [("pair", 10)]) (g := gName 10) rfl sc44.nd (qi_keysT (qv 7)) (blkOk_by (N := ["texts", "n", "letters", "some", "merges", "rows", "turn", "counts", "row", "at", "pair", "most", "text", "x", "it"]) (sc := defScope (top 44)) (by decide +kernel)) (fun _ _ _ _ _ => pg_name (i := 10) sc44.nd rfl (by first | exact .inl rfl | exact .inr rfl)) (tg_name (by simp)) (gm_name) (fun _ _ _ _ _ => qts_nil) (fun _ _ _ _ _ => qe_atLT hr.r (qv 7) (qv 10)))) (qe_lst (qa_cons (qe_int) (qa_nil)))) (qa_nil)))) (qss_cons (qs_if (qt_cmp (op_ltH hr.r) od_ltH (qv 11) (qe_int) (nomark _)) (qss_one (qs_break)) (qss_nil)) (qss_cons (qs_set (i := 10) sc44.nd rfl (by first | exact .inl rfl | exact .inr rfl) (qe_cb (id := "min") (cr_minPR rfl hr.r) cd_minP (by rfl) W.m_min bt_min (qa_cons (qe_lockT (qe_lc (own := [("it", 14)]) (g := gName 14) rfl sc44.nd (qi_keysT (qv 7)) (blkOk_by (N := ["texts", "n", "letters", "some", "merges", "rows", "turn", "counts", "row", "at", "pair", "most", "text", "x", "it"]) (sc := defScope (top 44)) (by decide +kernel)) (fun _ _ _ _ _ => pg_name (i := 14) sc44.nd rfl (by first | exact .inl rfl | exact .inr rfl)) (tg_name (by simp)) (gm_name) (fun _ _ _ _ _ => qts_one (qt_cmp (op_eqA hr.r) od_eqA (qe_atLT hr.r (qv 7) (qv 14)) (qv 11) (nomark _))) (fun _ _ _ _ _ => qv 14))) (qa_nil)))) (qss_cons (qs_expr (qe_append (qv 3) (qa_cons (qe_add (qe_at hr.r (qv 3) (qe_at hr.r (qv 10) (qe_int))) (qe_at hr.r (qv 3) (qe_at hr.r (qv 10) (qe_int)))) (qa_nil)))) (qss_cons (qs_set (i := 4) sc44.nd rfl (by first | exact .inl rfl | exact .inr rfl) (qe_add (qv 4) (qe_tup (qa_cons (qv 10) (qa_nil))))) (qss_one (qs_setLc (i := 5) (own := [("row", 8)]) (g := gName 8) rfl sc44.nd rfl rfl (sw_true rfl rfl rfl (by decide +kernel)) (qi_any (qv 5)) (blkOk_by (N := ["texts", "n", "letters", "some", "merges", "rows", "turn", "counts", "row", "at", "pair", "most", "text", "x", "it"]) (sc := defScope (top 44)) (by decide +kernel)) (fun _ _ _ _ _ => pg_name (i := 8) sc44.nd rfl (by first | exact .inl rfl | exact .inr rfl)) (tg_name (by simp)) (gm_name) (fun _ _ _ _ _ => qts_nil) (fun _ _ _ _ _ => qe_call (ok__law_merged W) (hr.mono (by decide)) (by rfl) W.D42.g W.D42.kp W.D42.b Dl.takes0 (qa_cons (qv 8) (qa_cons (qv 10) (qa_cons (qe_sub (qe_cb (id := "len") cr_lenH cd_len (by rfl) W.m_len bt_len (qa_cons (qv 3) (qa_nil))) (qe_int)) (qa_nil))))))))))))))) (qss_one (qs_ret (qe_tup (qa_cons (qe_str) (qa_cons (qv 2) (qa_cons (qv 4) (qa_nil))))))))))) fun _ _ _ _ _ h => h
def r_law (cs : Nat → Addr) : TSd := dSeq (dSet 1 (dCall 2 sp__law_deck (dCons (dVar 0) (dCons (dC (.int 14408003)) (dNil))))) (dSeq (dFor (dRange1 (dCons (dC (.int 2)) (dNil))) (dGN 2) (dSeq (dSet 3 (dCall 2 sp__law_letters (dCons (dVar 1) (dCons (dC (.int 6)) (dNil))))) (dSeq (dSet 5 (dCB tupOfD (dCons (dLc (dRange1 (dCons (dOp addD (dC (.int 1)) (dCall 2 sp__law_draw (dCons (dVar 1) (dCons (dC (.int 5)) (dNil))))) (dNil))) (dGN 4) (dYes) (dCall 3 sp__law_drawn_text (dCons (dVar 1) (dCons (dVar 3) (dCons (dC (.int 60)) (dNil))))) [4]) (dNil)))) (dSeq (dSet 5 (dIf (dTest (dOp (eqA true) (dBM isStr joinTD (dC (.str "")) (dCons (dVar 5) (dNil))) (dC (.str "")))) (dVar 5) (dOp addD (dVar 5) (dTup (dCons (dOp mulS (dSl (dVar 3) (dNo) (dPart (dC (.int 1)))) (dOp addD (dC (.int 1)) (dCall 2 sp__law_draw (dCons (dVar 1) (dCons (dC (.int 9)) (dNil)))))) (dNil)))))) (dSeq (dSet 6 (dCall 2 sp__law_pick (dCons (dVar 1) (dCons (dLst (dCons (dC (.int 2)) (dCons (dC (.int 4)) (dCons (dC (.int 7)) (dCons (dC (.int 10)) (dCons (dC (.int 1)) (dCons (dC (.int 0)) (dCons (dCall 2 sp__law_draw (dCons (dVar 1) (dCons (dC (.int 11)) (dNil)))) (dCons (dC (.int 11)) (dCons (dOp powD (dC (.int 10)) (dC (.int 29))) (dNil))))))))))) (dNil))))) (dSeq (dSet 7 (dCall 2 sp__law_trained (dCons (dVar 5) (dCons (dVar 6) (dNil))))) (dSeq (dSet 8 (dCall 2 (sp_trained cs) (dCons (dVar 5) (dCons (dVar 6) (dNil))))) (dSeq (dIfS (dOrT (dTest (dOp (eqA true) (dCB reprD (dCons (dTup (dCons (dVar 8) (dCons (dCallW 2 [1, 0] (sp_trained cs) (dCons (dVar 6) (dCons (dVar 5) (dNil)))) (dNil)))) (dNil))) (dCB reprD (dCons (dTup (dCons (dVar 7) (dCons (dVar 7) (dNil)))) (dNil))))) (dTest (dOp (isD true) (dCall 1 sp_is_vocabulary (dCons (dVar 8) (dNil))) (dC (.bl true))))) (dRet (dC (.bl false))) (dNext)) (dSeq (dIfS (dTest (dOp (eqA true) (dCall 1 (sp_size cs) (dCons (dVar 8) (dNil))) (dOp addD (dOp addD (dC (.int 1)) (dCB lenD (dCons (dOp ixA (dVar 7) (dC (.int 1))) (dNil)))) (dCB lenD (dCons (dOp ixA (dVar 7) (dC (.int 2))) (dNil)))))) (dRet (dC (.bl false))) (dNext)) (dSeq (dSet 9 (dCall 2 sp__law_draw (dCons (dVar 1) (dCons (dOp addD (dCB (max2D false) (dCons (dVar 6) (dCons (dC (.int 10)) (dNil)))) (dC (.int 1))) (dNil))))) (dSeq (dIfS (dTest (dOp (eqA true) (dCB reprD (dCons (dCall 2 (sp_trained cs) (dCons (dVar 5) (dCons (dVar 9) (dNil)))) (dNil))) (dCB reprD (dCons (dOp addD (dSl (dVar 7) (dNo) (dPart (dC (.int 2)))) (dTup (dCons (dSl (dOp ixA (dVar 7) (dC (.int 2))) (dNo) (dPart (dVar 9))) (dNil)))) (dNil))))) (dRet (dC (.bl false))) (dNext)) (dSeq (dPar 10 11 (dCons (dOp addD (dCB lstOfD (dCons (dVar 5) (dNil))) (dLst (dCons (dC (.str "")) (dNil)))) (dCons (dLst (dNil)) (dNil)))) (dSeq (dFor (dRange1 (dCons (dOp addD (dCB lenD (dCons (dVar 5) (dNil))) (dC (.int 1))) (dNil))) (dGN 4) (dDrop (dBM isLst appendD (dVar 11) (dCons (dBM isLst popAtD (dVar 10) (dCons (dCall 2 sp__law_draw (dCons (dVar 1) (dCons (dCB lenD (dCons (dVar 10) (dNil))) (dNil)))) (dNil))) (dNil))))) (dSeq (dIfS (dTest (dOp (eqA true) (dCB reprD (dCons (dCall 2 (sp_trained cs) (dCons (dCB tupOfD (dCons (dVar 11) (dNil))) (dCons (dVar 6) (dNil)))) (dNil))) (dCB reprD (dCons (dVar 7) (dNil))))) (dRet (dC (.bl false))) (dNext)) (dFor (dWalk (dVar 5)) (dGN 12) (dSeq (dSet 13 (dCall 2 (sp_to_tokens cs) (dCons (dVar 8) (dCons (dVar 12) (dNil))))) (dIfS (dOrT (dTest (dOp (eqA true) (dCB reprD (dCons (dVar 13) (dNil))) (dCB reprD (dCons (dCall 2 sp__law_tokens (dCons (dVar 7) (dCons (dVar 12) (dNil)))) (dNil))))) (dTest (dOp (eqA true) (dCall 2 (sp_to_text cs) (dCons (dVar 8) (dCons (dVar 13) (dNil)))) (dVar 12)))) (dRet (dC (.bl false))) (dNext)))))))))))))))))) (dRet (dC (.bl true))))
def sp_law (cs : Nat → Addr) : SpD := fun ds M Q E => r_law cs { nx := fun _ M' => Q .non M', rt := Q } E (startD ["script", "deck", "turn", "letters", "at", "texts", "n", "due", "told", "fewer", "left", "some", "text", "tokens"] ds) M
theorem ok_law : FnD P w K mg base (W.Ts w) 9 W.a45 W.d45 1 ["script"] (sp_law W.cs) :=
  fnD (N := ["script", "deck", "turn", "letters", "at", "texts", "n", "due", "told", "fewer", "left", "some", "text", "tokens"]) (ps := ["script"]) W.D45.F rfl sc45 (fun A outer s H E hr => qss_cons (qs_set (i := 1) sc45.nd rfl (by first | exact .inl rfl | exact .inr rfl) (qe_call (ok__law_deck W) (hr.mono (by decide)) (by rfl) W.D37.g W.D37.kp W.D37.b takesD (qa_cons (qv 0) (qa_cons (qe_int) (qa_nil))))) (qss_cons (qs_for passD rfl (qi_range1 (by rfl) W.m_range (qa_cons (qe_int) (qa_nil))) (qg_name (i := 2) sc45.nd rfl (by first | exact .inl rfl | exact .inr rfl)) (qss_cons (qs_set (i := 3) sc45.nd rfl (by first | exact .inl rfl | exact .inr rfl) (qe_call (ok__law_letters W) (hr.mono (by decide)) (by rfl) W.D40.g W.D40.kp W.D40.b takesD (qa_cons (qv 1) (qa_cons (qe_int) (qa_nil))))) (qss_cons (qs_set (i := 5) sc45.nd rfl (by first | exact .inl rfl | exact .inr rfl) (qe_cty (T := "tuple") call_tuple_of cd_tup (by rfl) W.m_tuple bt_tuple (qa_cons (qe_lc (own := [("at", 4)]) (g := gName 4) rfl sc45.nd (qi_range1 (by rfl) W.m_range (qa_cons (qe_add (qe_int) (qe_call (ok__law_draw W) (hr.mono (by decide)) (by rfl) W.D38.g W.D38.kp W.D38.b takesD (qa_cons (qv 1) (qa_cons (qe_int) (qa_nil))))) (qa_nil))) (blkOk_by (N := ["script", "deck", "turn", "letters", "at", "texts", "n", "due", "told", "fewer", "left", "some", "text", "tokens"]) (sc := defScope (top 45)) (by decide +kernel)) (fun _ _ _ _ _ => pg_name (i := 4) sc45.nd rfl (by first | exact .inl rfl | exact .inr rfl)) (tg_name (by simp)) (gm_name) (fun _ _ _ _ _ => qts_nil) (fun _ _ _ _ _ => qe_call (ok__law_drawn_text W) (hr.mono (by decide)) (by rfl) W.D41.g W.D41.kp W.D41.b Dl.takes0 (qa_cons (qv 1) (qa_cons (qv 3) (qa_cons (qe_int) (qa_nil)))))) (qa_nil)))) (qss_cons (qs_set (i := 5) sc45.nd rfl (by first | exact .inl rfl | exact .inr rfl) (qe_if (qt_cmp (op_neA hr.r) od_neA (qe_joinT (qe_str) (qa_cons (qv 5) (qa_nil))) (qe_str) (nomark _)) (qv 5) (qe_add (qv 5) (qe_tup (qa_cons (qe_mulS (qe_slice (qv 3) (qo_none) (qo_some (qe_int))) (qe_add (qe_int) (qe_call (ok__law_draw W) (hr.mono (by decide)) (by rfl) W.D38.g W.D38.kp W.D38.b takesD (qa_cons (qv 1) (qa_cons (qe_int) (qa_nil)))))) (qa_nil)))))) (qss_cons (qs_set (i := 6) sc45.nd rfl (by first | exact .inl rfl | exact .inr rfl) (qe_call (ok__law_pick W) (hr.mono (by decide)) (by rfl) W.D39.g W.D39.kp W.D39.b takesD (qa_cons (qv 1) (qa_cons (qe_lst (qa_cons (qe_int) (qa_cons (qe_int) (qa_cons (qe_int) (qa_cons (qe_int) (qa_cons (qe_int) (qa_cons (qe_int) (qa_cons (qe_call (ok__law_draw W) (hr.mono (by decide)) (by rfl) W.D38.g W.D38.kp W.D38.b takesD (qa_cons (qv 1) (qa_cons (qe_int) (qa_nil)))) (qa_cons (qe_int) (qa_cons (qe_pow (qe_int) (qe_int)) (qa_nil))))))))))) (qa_nil))))) (qss_cons (qs_set (i := 7) sc45.nd rfl (by first | exact .inl rfl | exact .inr rfl) (qe_call (ok__law_trained W) (hr.mono (by decide)) (by rfl) W.D44.g W.D44.kp W.D44.b takesD (qa_cons (qv 5) (qa_cons (qv 6) (qa_nil))))) (qss_cons (qs_set (i := 8) sc45.nd rfl (by first | exact .inl rfl | exact .inr rfl) (qe_call (ok_trained W) (hr.mono (by decide)) (by rfl) W.D22.g W.D22.kp W.D22.b takesD (qa_cons (qv 5) (qa_cons (qv 6) (qa_nil))))) (qss_cons (qs_if (QW.t (qw_or (qt_cmp (op_neA hr.r) od_neA (qe_cb (id := "repr") (cr_reprG hr) cd_repr (by rfl) W.m_repr bt_repr (qa_cons (qe_tup (qa_cons (qv 8) (qa_cons (qe_callW (is := [1, 0]) (ok_trained W) (hr.mono (by decide)) (by rfl) W.D22.g W.D22.kp (kb_two W.D22.F (ks := ["n", "texts"]) (is := [1, 0])) takesD (qk_cons (qv 6) (qk_cons (qv 5) (qk_nil)))) (qa_nil)))) (qa_nil))) (qe_cb (id := "repr") (cr_reprG hr) cd_repr (by rfl) W.m_repr bt_repr (qa_cons (qe_tup (qa_cons (qv 7) (qa_cons (qv 7) (qa_nil)))) (qa_nil))) (nomark _)) (qw_or1 (qt_cmp op_isNotH (od_is true) (qe_call (ok_is_vocabulary W) (hr.mono (by decide)) (by rfl) W.D18.g W.D18.kp W.D18.b takesD (qa_cons (qv 8) (qa_nil))) (qe_bl) (nomark _))))) (qss_one (qs_ret (qe_bl))) (qss_nil)) (qss_cons (qs_if (qt_cmp (op_neA hr.r) od_neA (qe_call (ok_size W) (hr.mono (by decide)) (by rfl) W.D19.g W.D19.kp W.D19.b takesD (qa_cons (qv 8) (qa_nil))) (qe_add (qe_add (qe_int) (qe_cb (id := "len") cr_lenH cd_len (by rfl) W.m_len bt_len (qa_cons (qe_at hr.r (qv 7) (qe_int)) (qa_nil)))) (qe_cb (id := "len") cr_lenH cd_len (by rfl) W.m_len bt_len (qa_cons (qe_at hr.r (qv 7) (qe_int)) (qa_nil)))) (nomark _)) (qss_one (qs_ret (qe_bl))) (qss_nil)) (qss_cons (qs_set (i := 9) sc45.nd rfl (by first | exact .inl rfl | exact .inr rfl) (qe_call (ok__law_draw W) (hr.mono (by decide)) (by rfl) W.D38.g W.D38.kp W.D38.b takesD (qa_cons (qv 1) (qa_cons (qe_add (qe_cb (id := "min") (call_min2 rfl) cd_min2 (by rfl) W.m_min bt_min (qa_cons (qv 6) (qa_cons (qe_int) (qa_nil)))) (qe_int)) (qa_nil))))) (qss_cons (qs_if (qt_cmp (op_neA hr.r) od_neA (qe_cb (id := "repr") (cr_reprG hr) cd_repr (by rfl) W.m_repr bt_repr (qa_cons (qe_call (ok_trained W) (hr.mono (by decide)) (by rfl) W.D22.g W.D22.kp W.D22.b takesD (qa_cons (qv 5) (qa_cons (qv 9) (qa_nil)))) (qa_nil))) (qe_cb (id := "repr") (cr_reprG hr) cd_repr (by rfl) W.m_repr bt_repr (qa_cons (qe_add (qe_slice (qv 7) (qo_none) (qo_some (qe_int))) (qe_tup (qa_cons (qe_slice (qe_at hr.r (qv 7) (qe_int)) (qo_none) (qo_some (qv 9))) (qa_nil)))) (qa_nil))) (nomark _)) (qss_one (qs_ret (qe_bl))) (qss_nil)) (qss_cons (qs_par (i := 10) (j := 11) rfl sc45.nd rfl rfl (by decide) rfl rfl (qa_cons (qe_add (qe_cty (T := "list") (cr_lstOf hr.r.hd) cd_lst (by rfl) W.m_list bt_list (qa_cons (qv 5) (qa_nil))) (qe_lst (qa_cons (qe_str) (qa_nil)))) (qa_cons (qe_lst (qa_nil)) (qa_nil))) (by rfl)) (qss_cons (qs_for passD rfl (qi_range1 (by rfl) W.m_range (qa_cons (qe_add (qe_cb (id := "len") cr_lenH cd_len (by rfl) W.m_len bt_len (qa_cons (qv 5) (qa_nil))) (qe_int)) (qa_nil))) (qg_name (i := 4) sc45.nd rfl (by first | exact .inl rfl | exact .inr rfl)) (qss_one (qs_expr (qe_append (qv 11) (qa_cons (qe_popAt (qv 10) (qa_cons (qe_call (ok__law_draw W) (hr.mono (by decide)) (by rfl) W.D38.g W.D38.kp W.D38.b takesD (qa_cons (qv 1) (qa_cons (qe_cb (id := "len") cr_lenH cd_len (by rfl) W.m_len bt_len (qa_cons (qv 10) (qa_nil))) (qa_nil)))) (qa_nil))) (qa_nil)))))) (qss_cons (qs_if (qt_cmp (op_neA hr.r) od_neA (qe_cb (id := "repr") (cr_reprG hr) cd_repr (by rfl) W.m_repr bt_repr (qa_cons (qe_call (ok_trained W) (hr.mono (by decide)) (by rfl) W.D22.g W.D22.kp W.D22.b takesD (qa_cons (qe_cty (T := "tuple") call_tuple_of cd_tup (by rfl) W.m_tuple bt_tuple (qa_cons (qv 11) (qa_nil))) (qa_cons (qv 6) (qa_nil)))) (qa_nil))) (qe_cb (id := "repr") (cr_reprG hr) cd_repr (by rfl) W.m_repr bt_repr (qa_cons (qv 7) (qa_nil))) (nomark _)) (qss_one (qs_ret (qe_bl))) (qss_nil)) (qss_one (qs_for passD rfl (qi_any (qv 5)) (qg_name (i := 12) sc45.nd rfl (by first | exact .inl rfl | exact .inr rfl)) (qss_cons (qs_set (i := 13) sc45.nd rfl (by first | exact .inl rfl | exact .inr rfl) (qe_call (ok_to_tokens W) (hr.mono (by decide)) (by rfl) W.D20.g W.D20.kp W.D20.b takesD (qa_cons (qv 8) (qa_cons (qv 12) (qa_nil))))) (qss_one (qs_if (QW.t (qw_or (qt_cmp (op_neA hr.r) od_neA (qe_cb (id := "repr") (cr_reprG hr) cd_repr (by rfl) W.m_repr bt_repr (qa_cons (qv 13) (qa_nil))) (qe_cb (id := "repr") (cr_reprG hr) cd_repr (by rfl) W.m_repr bt_repr (qa_cons (qe_call (ok__law_tokens W) (hr.mono (by decide)) (by rfl) W.D43.g W.D43.kp W.D43.b takesD (qa_cons (qv 7) (qa_cons (qv 12) (qa_nil)))) (qa_nil))) (nomark _)) (qw_or1 (qt_cmp (op_neA hr.r) od_neA (qe_call (ok_to_text W) (hr.mono (by decide)) (by rfl) W.D21.g W.D21.kp W.D21.b takesD (qa_cons (qv 8) (qa_cons (qv 13) (qa_nil)))) (qv 12) (nomark _))))) (qss_one (qs_ret (qe_bl))) (qss_nil)))))))))))))))))))) (qss_one (qs_ret (qe_bl))))) fun _ _ _ _ _ h => h
end
end Z03
set_option Elab.async false
set_option linter.all false
set_option maxRecDepth 100000
set_option maxHeartbeats 4000000
set_option Elab.async false
set_option linter.all false
set_option maxRecDepth 100000
set_option maxHeartbeats 1000000
namespace Z03
open PySem PySem.Spec PyProof.Rows L2 GxR Gn Dl
def okI : D → Bool
  | .int n => decide (0 ≤ n)
  | _ => false
theorem kb_int : kitB "int" "int" = some true ∧ kitB "int" "bool" = some false ∧ kitB "int" "tuple" = some false := by decide +kernel
theorem kb_bool : kitB "bool" "int" = some true ∧ kitB "bool" "bool" = some true ∧ kitB "bool" "tuple" = some false := by decide +kernel
theorem kb_oth : ∀ k ∈ ["NoneType", "str", "tuple", "list", "dict"], kitB k "int" = some false ∧ kitB k "tuple" = some (decide (k = "tuple")) := by decide +kernel
theorem kind_mem {d : D} {M : Mem} {k : String} (h : kindD d M = some k) : (∃ n, d = .int n) ∧ k = "int" ∨ (∃ b, d = .bl b) ∧ k = "bool" ∨ okI d = false ∧ k ∈ ["NoneType", "str", "tuple", "list", "dict"] := by
  cases d with
  | int n => cases h; exact .inl ⟨⟨n, rfl⟩, rfl⟩
  | bl b => cases h; exact .inr (.inl ⟨⟨b, rfl⟩, rfl⟩)
  | non => cases h; exact .inr (.inr ⟨rfl, by decide⟩)
  | str x => cases h; exact .inr (.inr ⟨rfl, by decide⟩)
  | tup ds => cases h; exact .inr (.inr ⟨rfl, by decide⟩)
  | obj i =>
    refine .inr (.inr ⟨rfl, ?_⟩)
    simp only [kindD] at h
    cases e : M[i]? with
    | none => rw [e] at h; simp at h
    | some c =>
      rw [e] at h
      cases c <;> simp at h <;> subst h <;> decide
  | _ => cases h
/-- data whose kinds are told in M -/
def Kn (M : Mem) (d : D) : Prop := ∃ k, kindD d M = some k
theorem Kn.app {M : Mem} {d : D} (h : Kn M d) (G : Mem) : Kn (M ++ G) d := by
  obtain ⟨k, h⟩ := h
  refine ⟨k, ?_⟩
  cases d with
  | obj i =>
    simp only [kindD] at h ⊢
    cases e : M[i]? with
    | none => rw [e] at h; simp at h
    | some c =>
      have hi := (List.getElem?_eq_some_iff.mp e).1
      rw [List.getElem?_append_left hi, e]
      rw [e] at h
      exact h
  | _ => exact h
inductive HK (M : Mem) : D → Prop
  | base {d : D} (h : Kn M d) (n : ∀ ds, d ≠ .tup ds) : HK M d
  | tup {ds : List D} (h : ∀ x ∈ ds, HK M x) : HK M (.tup ds)
theorem HK.kn {M : Mem} {d : D} (h : HK M d) : Kn M d := by
  cases h with
  | base h _ => exact h
  | tup _ => exact ⟨"tuple", rfl⟩
theorem HK.app {M : Mem} {d : D} (h : HK M d) (G : Mem) : HK (M ++ G) d := by
  induction h with
  | base h n => exact .base (h.app G) n
  | tup _ ih => exact .tup ih
theorem HK.of {M : Mem} {ds : List D} (h : HK M (.tup ds)) : ∀ x ∈ ds, HK M x := by
  cases h with
  | base h n => exact absurd rfl (n ds)
  | tup h => exact h
theorem kind_tup {d : D} {M : Mem} {k : String} (h : kindD d M = some k) (hn : ∀ ds, d ≠ .tup ds) : kitB k "tuple" = some false := by
  rcases kind_mem h with ⟨⟨n, rfl⟩, rfl⟩ | ⟨⟨b, rfl⟩, rfl⟩ | ⟨ho, hm⟩
  · exact kb_int.2.2
  · exact kb_bool.2.2
  · rw [(kb_oth k hm).2]
    have : k ≠ "tuple" := fun z => by
      subst z
      cases d with
      | tup ds => exact hn ds rfl
      | obj i =>
        simp only [kindD] at h
        cases e : M[i]? with
        | none => rw [e] at h; simp at h
        | some c =>
          rw [e] at h
          cases c <;> simp at h
      | _ => simp [kindD] at h
    simp [this]
theorem kb_tt : kitB "tuple" "tuple" = some true := by decide +kernel
def isI : D → Bool
  | .int _ => true
  | _ => false
def okF (l : Int) : D → Bool
  | .int n => decide (l ≤ n)
  | _ => false
def tupN (m : Int) : D → Bool
  | .tup ds => decide ((ds.length : Int) = m)
  | _ => false
section
variable {d : D} {M : Mem} {Q : KD} {E : KE'} {m l w : Int}
theorem p_int_any (hk : Kn M d) (h : Q (.bl (isI d)) M) : sp_is_integer [d] M Q E := by
  obtain ⟨k, hk⟩ := hk
  rcases kind_mem hk with ⟨⟨n, rfl⟩, rfl⟩ | ⟨⟨b, rfl⟩, rfl⟩ | ⟨ho, hm⟩
  · simp [sp_is_integer, r_is_integer, kindD, kb_int.1, kb_int.2.1]
    exact h
  · simp [sp_is_integer, r_is_integer, kindD, kb_bool.1, kb_bool.2.1]
    exact h
  · have e : isI d = false := by
      cases d with
      | int n => cases hk; simp at hm
      | _ => rfl
    simp [sp_is_integer, r_is_integer]
    rw [e] at h
    exact ⟨k, hk, .inl ⟨(kb_oth k hm).1, h⟩⟩
theorem isI_int (h : isI d = true) : ∃ n, d = .int n := by
  cases d with
  | int n => exact ⟨n, rfl⟩
  | _ => cases h
theorem p_from_any (hk : Kn M d) (h : Q (.bl (okF l d)) M) : sp_is_integer_from [d, .int l] M Q E := by
  simp [sp_is_integer_from, r_is_integer_from]
  refine p_int_any hk ?_
  cases e : isI d with
  | false =>
    have : okF l d = false := by cases d <;> first | rfl | cases e
    rw [this] at h
    exact .inl ⟨rfl, h⟩
  | true =>
    obtain ⟨n, rfl⟩ := isI_int e
    exact .inr ⟨rfl, intD_int.mpr ⟨trivial, h⟩⟩
theorem p_tupleof_any (hk : Kn M d) (h : Q (.bl (tupN m d)) M) : sp_is_tuple_of [d, .int m] M Q E := by
  obtain ⟨k, hk⟩ := hk
  by_cases ht : ∃ ds, d = .tup ds
  · obtain ⟨ds, rfl⟩ := ht
    simp [sp_is_tuple_of, r_is_tuple_of, kindD, kb_tt]
    exact h
  · have hn : ∀ ds, d ≠ .tup ds := fun ds z => ht ⟨ds, z⟩
    have hf : tupN m d = false := by cases d <;> first | rfl | exact absurd rfl (hn _)
    simp [sp_is_tuple_of, r_is_tuple_of]
    rw [hf] at h
    exact ⟨k, hk, .inl ⟨kind_tup hk hn, h⟩⟩
/-- all items of a tuple, by a test on each -/
theorem all_any {gd : TGd} {te : TEd} {vs : List Nat} {S : Sl} {ds : List D} (p : D → Bool) (el : ∀ a ∈ ds, ∀ (G : Mem) (Q' : KD), (∀ G', Q' (.bl (p a)) (M ++ G ++ G')) → gd a (wipeD S vs) (M ++ G) fun S1 M1 => te S1 M1 Q' E00) (h : ∀ G, Q (.bl (ds.all p)) (M ++ G)) :
    allD gd te vs (fun _ => True) Q S ds M := by
  have := allD_of (gd := gd) (te := te) (vs := vs) (alive := fun _ => True) (Q := Q) (S := S) (fun d : D => d) p ds M (fun _ => trivial) el h []
  simpa using this
end
end Z03
set_option Elab.async false
set_option linter.all false
set_option maxRecDepth 100000
set_option maxHeartbeats 1000000
set_option Elab.async false
set_option linter.all false
set_option maxRecDepth 100000
set_option maxHeartbeats 1000000
namespace Z03
open PySem PySem.Spec PyProof.Rows L2 GxR Gn Dl
def Ek (M : Mem) (d : D) : Prop := ∃ n p, pyM M n d = some p ∧ SeqAt.shaped p = true
section
end
end Z03
set_option Elab.async false
set_option linter.all false
set_option maxRecDepth 100000
set_option maxHeartbeats 4000000
namespace Z03
open PySem PySem.Spec PyProof.Rows L2 GxR Gn Dl
inductive Stp where
  | power (e : Nat)
  | greatest (n : Nat)
  | share (a b : Nat)
  | ban (ts : List Int)
  | seen (a b : Nat)
  | least (n : Nat)
def Stp.d : Stp → D
  | .power e => .tup [.str "power", .int e]
  | .greatest n => .tup [.str "greatest", .int n]
  | .share a b => .tup [.str "share", .int a, .int b]
  | .ban ts => .tup [.str "ban", vI ts]
  | .seen a b => .tup [.str "seen", .int a, .int b]
  | .least n => .tup [.str "least", .int n]
def TokOk (many : Int) (ts : List Int) : Prop := ∀ t ∈ ts, 0 ≤ t ∧ t < many
open Classical in
/-! what a step makes -/
/-! weights -/
end Z03
set_option Elab.async false
set_option linter.all false
set_option maxRecDepth 100000
set_option maxHeartbeats 4000000
set_option Elab.async false
set_option linter.all false
set_option maxRecDepth 100000
set_option maxHeartbeats 4000000
set_option Elab.async false
set_option linter.all false
set_option maxRecDepth 100000
set_option maxHeartbeats 4000000
namespace Z03
open PySem PySem.Spec PyProof.Rows L2 GxR Gn Dl
def Sq (w : Int) (m : List (List Int)) : Prop := (m.length : Int) = w ∧ ∀ r ∈ m, (r.length : Int) = w
def lyD (L : List (List (List Int))) : D := .tup (L.map mI)
structure Net where
  many : Int
  w : Int
  embeds : List (List Int)
  places : List (List Int)
  layers : List (List (List (List Int)))
  outs : List (List Int)
structure Net.Ok (N : Net) : Prop where
  m2 : 2 ≤ N.many
  w1 : 1 ≤ N.w
  el : (N.embeds.length : Int) = N.many
  ew : ∀ r ∈ N.embeds, (r.length : Int) = N.w
  p1 : N.places ≠ []
  pw : ∀ r ∈ N.places, (r.length : Int) = N.w
  ly : ∀ L ∈ N.layers, L.length = 4 ∧ ∀ m ∈ L, Sq N.w m
  ol : (N.outs.length : Int) = N.many
  ow : ∀ r ∈ N.outs, (r.length : Int) = N.w
def Net.d (N : Net) : D := .tup [.str "net", .int N.many, .int N.w, mI N.embeds, mI N.places, .tup (N.layers.map lyD), mI N.outs]
end Z03
set_option Elab.async false
set_option linter.all false
set_option maxRecDepth 100000
set_option maxHeartbeats 4000000
namespace Z03
open PySem PySem.Spec PyProof.Rows L2 GxR Gn Dl
def Fr (i j : Nat) (M M' : Mem) : Prop := M.length ≤ M'.length ∧ ∀ k, k < M.length → k ≠ i → k ≠ j → M'[k]? = M[k]?
theorem Fr.refl (i j : Nat) (M : Mem) : Fr i j M M := ⟨Nat.le_refl _, fun _ _ _ _ => rfl⟩
theorem Fr.tr {i j : Nat} {M M1 M2 : Mem} (a : Fr i j M M1) (b : Fr i j M1 M2) : Fr i j M M2 :=
  ⟨Nat.le_trans a.1 b.1, fun k h1 h2 h3 => (b.2 k (Nat.lt_of_lt_of_le h1 a.1) h2 h3).trans (a.2 k h1 h2 h3)⟩
theorem Fr.app (i j : Nat) (M G : Mem) : Fr i j M (M ++ G) := ⟨by simp, fun k h _ _ => List.getElem?_append_left h⟩
theorem Fr.set1 (i j : Nat) (M : Mem) (c : Cell) : Fr i j M (M.set i c) := ⟨by simp, fun k h a b => by rw [List.getElem?_set_ne (Ne.symm a)]⟩
theorem Fr.set2 (i j : Nat) (M : Mem) (c : Cell) : Fr i j M (M.set j c) := ⟨by simp, fun k h a b => by rw [List.getElem?_set_ne (Ne.symm b)]⟩
def dkv (j : Nat) (m k : Int) : List (L2.Key × D) := [(Sum.inr "left", .obj j), (Sum.inr "mixed", .int m), (Sum.inr "draws", .int k)]
@[simp] theorem dkv_left (j : Nat) (m k : Int) : valD (dkv j m k) (.inr "left") = some (.obj j) := rfl
@[simp] theorem dkv_mixed (j : Nat) (m k : Int) : valD (dkv j m k) (.inr "mixed") = some (.int m) := rfl
@[simp] theorem dkv_draws (j : Nat) (m k : Int) : valD (dkv j m k) (.inr "draws") = some (.int k) := rfl
@[simp] theorem dkv_putm (j : Nat) (m k x : Int) : putKD (dkv j m k) (.inr "mixed") (.int x) = dkv j x k := rfl
@[simp] theorem dkv_putd (j : Nat) (m k x : Int) : putKD (dkv j m k) (.inr "draws") (.int x) = dkv j m x := rfl
theorem dkv_len (j : Nat) (m k : Int) : (dkv j m k).length < sizeLine := by
  show 3 < sizeLine
  decide
structure DkAt (i j : Nat) (f : Nat) (ns : List Int) (m k : Int) (M : Mem) : Prop where
  d : M[i]? = some (.dK (dkv j m k))
  l : M[j]? = some (.lst (ns.map D.int))
  ne : i ≠ j
  m0 : 0 ≤ m
  m1 : m < 2147483648
  k0 : 0 ≤ k
  k1 : k + f ≤ 1000000000000
  nl : ns.length ≤ 64
def Dk (i j f : Nat) (M : Mem) : Prop := ∃ ns m k, DkAt i j f ns m k M
theorem Dk.app {i j f : Nat} {M : Mem} (h : Dk i j f M) (G : Mem) : Dk i j f (M ++ G) := by
  obtain ⟨ns, m, k, h⟩ := h
  have hi := (List.getElem?_eq_some_iff.mp h.d).1
  have hj := (List.getElem?_eq_some_iff.mp h.l).1
  exact ⟨ns, m, k, by rw [List.getElem?_append_left hi]; exact h.d, by rw [List.getElem?_append_left hj]; exact h.l, h.ne, h.m0, h.m1, h.k0, h.k1, h.nl⟩
theorem Dk.le {i j f g : Nat} {M : Mem} (h : Dk i j f M) (hg : g ≤ f) : Dk i j g M := by
  obtain ⟨ns, m, k, h⟩ := h
  exact ⟨ns, m, k, h.d, h.l, h.ne, h.m0, h.m1, h.k0, by have := h.k1; omega, h.nl⟩
/-- the second half of a draw, from the mixed number alone -/
theorem draw_arith {many m k : Int} (h0 : 0 < many) (m0 : 0 ≤ m) (m1 : m < 2147483648) (k0 : 0 ≤ k) (k1 : k ≤ 1000000000000) (P : Int → Prop) (hq : ∀ r, 0 ≤ r → r < many → P r) :
    CMulW 31337 k ∧
    CMulW ((m + 31337 * k).fmod 2147483647) ((m + 31337 * k).fmod 2147483647) ∧
      CMulW 48271 k ∧
        CMulW (((m + 31337 * k).fmod 2147483647 * (m + 31337 * k).fmod 2147483647 + 48271 * k + 59).fmod 2147483629) 69621 ∧
          CDivA ((((m + 31337 * k).fmod 2147483647 * (m + 31337 * k).fmod 2147483647 + 48271 * k + 59).fmod 2147483629 * 69621 + 77).fmod 2147483563) 64 ∧
            ¬many = 0 ∧
              P ((((((m + 31337 * k).fmod 2147483647 * (m + 31337 * k).fmod 2147483647 + 48271 * k + 59).fmod 2147483629 * 69621 + 77).fmod 2147483563).fdiv 64).fmod many) := by
  have p1 : ∀ a : Int, 0 ≤ a.fmod 2147483647 ∧ a.fmod 2147483647 < 2147483647 := fun a => ⟨Int.fmod_nonneg_of_pos a (by decide), Int.fmod_lt_of_pos a (by decide)⟩
  have p2 : ∀ a : Int, 0 ≤ a.fmod 2147483629 ∧ a.fmod 2147483629 < 2147483629 := fun a => ⟨Int.fmod_nonneg_of_pos a (by decide), Int.fmod_lt_of_pos a (by decide)⟩
  refine ⟨cmul_of (B := 31337) (C := 1000000000000) (by omega) (by omega), ?_⟩
  have q1 := p1 (m + 31337 * k)
  generalize (m + 31337 * k).fmod 2147483647 = a1 at q1 ⊢
  refine ⟨cmul_of (B := 2147483647) (C := 2147483647) (by omega) (by omega), cmul_of (B := 48271) (C := 1000000000000) (by omega) (by omega), ?_⟩
  have q2 := p2 (a1 * a1 + 48271 * k + 59)
  generalize (a1 * a1 + 48271 * k + 59).fmod 2147483629 = a2 at q2 ⊢
  refine ⟨cmul_of (B := 2147483647) (C := 69621) (by omega) (by omega), ⟨by decide, by decide⟩, by omega, ?_⟩
  exact hq _ (Int.fmod_nonneg_of_pos _ h0) (Int.fmod_lt_of_pos _ h0)
theorem p__law_drawW {i j f : Nat} {many : Int} {M : Mem} {Q : KD} {E : KE'} (h : Dk i j (f + 1) M) (h0 : 0 < many) (h1 : many < 2 ^ 1000) (hq : ∀ r M', 0 ≤ r → r < many → Dk i j f M' → Fr i j M M' → Q (.int r) M') : sp__law_draw [.obj i, .int many] M Q E := by
  obtain ⟨ns, m, k, h⟩ := h
  have hi := (List.getElem?_eq_some_iff.mp h.d).1
  have hj := (List.getElem?_eq_some_iff.mp h.l).1
  have hne : j ≠ i := fun e => h.ne e.symm
  have k1 := h.k1
  simp [sp__law_draw, r__law_draw, h.d]
  refine ⟨dkv_len _ _ _, ?_⟩
  rw [List.getElem?_set_self hi]
  simp
  obtain ⟨M1, e1⟩ : ∃ M1, M1 = M.set i (.dK (dkv j m (k + 1))) ++ [Cell.lst []] := ⟨_, rfl⟩
  have f1 : Fr i j M M1 := by rw [e1]; exact (Fr.set1 i j M _).tr (Fr.app i j _ _)
  have d1 : M1[i]? = some (.dK (dkv j m (k + 1))) := by rw [e1, List.getElem?_append_left (by simpa using hi), List.getElem?_set_self hi]
  have l1 : M1[j]? = some (.lst (ns.map D.int)) := by rw [e1, List.getElem?_append_left (by simpa using hj), List.getElem?_set_ne h.ne]; exact h.l
  have n1 : M1[M.length]? = some (.lst []) := by rw [e1]; simp
  rw [← e1]
  clear e1
  refine eqD_lst0 l1 n1 ?_
  rcases List.eq_nil_or_concat ns with rfl | ⟨ns0, c, rfl⟩
  · simp [d1]
    exact draw_arith h0 h.m0 h.m1 (by have := h.k0; omega) (by omega) (fun r => Q (.int r) M1) fun r r0 r1 => hq r M1 r0 r1 ⟨[], m, k + 1, d1, l1, h.ne, h.m0, h.m1, by have := h.k0; omega, by omega, by simp⟩ f1
  · have hj1 : j < M1.length := Nat.lt_of_lt_of_le hj f1.1
    have hi1 : i < M1.length := Nat.lt_of_lt_of_le hi f1.1
    simp [d1, isLst, l1]
    have hc : CPow 10 18 := by unfold CPow; decide
    refine ⟨hc, ?_⟩
    have nl := h.nl
    have nl0 : ns0.length + 1 ≤ 64 := by simpa using nl
    obtain ⟨M2, e2⟩ : ∃ M2, M2 = M1.set j (.lst (ns0.map D.int)) := ⟨_, rfl⟩
    have f2 : Fr i j M M2 := by rw [e2]; exact f1.tr (Fr.set2 i j M1 _)
    have d2 : M2[i]? = some (.dK (dkv j m (k + 1))) := by rw [e2, List.getElem?_set_ne hne]; exact d1
    have l2 : M2[j]? = some (.lst (ns0.map D.int)) := by rw [e2, List.getElem?_set_self hj1]
    have hi2 : i < M2.length := Nat.lt_of_lt_of_le hi f2.1
    have hj2 : j < M2.length := Nat.lt_of_lt_of_le hj f2.1
    rw [← e2]
    clear e2
    simp only [d2]
    by_cases hcc : c < 1000000000000000000
    · refine .inl ⟨hcc, ?_⟩
      simp [d2]
      have p0 : ∀ a : Int, 0 ≤ a.fmod 2147483587 ∧ a.fmod 2147483587 < 2147483587 := fun a => ⟨Int.fmod_nonneg_of_pos a (by decide), Int.fmod_lt_of_pos a (by decide)⟩
      have m0 := h.m0
      have m1 := h.m1
      have kk := h.k0
      refine ⟨cmul_of (B := 2147483648) (C := 39373) (by omega) (by omega), dkv_len _ _ _, ?_⟩
      rw [List.getElem?_set_self hi2]
      simp
      have q0 := p0 (m * 39373 + c.fmod 2147483629 + 53)
      generalize (m * 39373 + c.fmod 2147483629 + 53).fmod 2147483587 = m' at q0 ⊢
      have d3 : (M2.set i (.dK (dkv j m' (k + 1))))[i]? = some (.dK (dkv j m' (k + 1))) := List.getElem?_set_self hi2
      have l3 : (M2.set i (.dK (dkv j m' (k + 1))))[j]? = some (.lst (ns0.map D.int)) := by rw [List.getElem?_set_ne h.ne]; exact l2
      have f3 : Fr i j M (M2.set i (.dK (dkv j m' (k + 1)))) := f2.tr (Fr.set1 i j M2 _)
      rw [d3]
      simp [hi2]
      exact draw_arith h0 q0.1 (by omega) (by omega) (by omega) (fun r => Q (.int r) _) fun r r0 r1 => hq r _ r0 r1 ⟨ns0, m', k + 1, d3, l3, h.ne, q0.1, by omega, by omega, by omega, by omega⟩ f3
    · refine .inr ⟨by omega, ?_⟩
      simp [l2]
      have hb : CDivA c (if 2 < many then many else 2) := by
        split
        · rename_i h2
          obtain ⟨k, rfl⟩ : ∃ k : Nat, many = k := ⟨many.toNat, by omega⟩
          exact cdiv_of (b := 1000) (by omega) (by exact_mod_cast h1)
        · exact ⟨by decide, by decide⟩
      refine ⟨hb, small_le (n := ns0.length + 1) (by omega), by omega, ?_⟩
      refine hq _ _ (Int.fmod_nonneg_of_pos _ h0) (Int.fmod_lt_of_pos _ h0) ⟨ns0 ++ [c.fdiv (if 2 < many then many else 2)], m, k + 1, ?_, ?_, h.ne, h.m0, h.m1, by have := h.k0; omega, by omega, by simp; omega⟩ (f2.tr (Fr.set2 i j M2 _))
      · rw [List.getElem?_set_ne hne]; exact d2
      · rw [List.getElem?_set_self hj2]; simp
theorem p__law_draw {i j f : Nat} {many : Int} {M : Mem} {Q : KD} {E : KE'} (h : Dk i j (f + 1) M) (h0 : 0 < many) (h1 : many < 1000000000) (hq : ∀ r M', 0 ≤ r → r < many → Dk i j f M' → Fr i j M M' → Q (.int r) M') : sp__law_draw [.obj i, .int many] M Q E :=
  p__law_drawW h h0 (Int.lt_trans h1 (by decide)) hq
end Z03
set_option Elab.async false
set_option linter.all false
set_option maxRecDepth 100000
set_option maxHeartbeats 4000000
namespace Z03
open PySem PySem.Spec PyProof.Rows L2 GxR Gn Dl
theorem cutL_map (ns : List Int) (lo hi : Option Int) : cutL (ns.map D.int) lo hi = (cutL ns lo hi).map D.int := by
  unfold cutL
  rw [List.length_map, List.map_take, List.map_drop]
theorem cutL_len {α : Type} (xs : List α) (lo hi : Option Int) : (cutL xs lo hi).length ≤ xs.length := by
  unfold cutL
  rw [List.length_take, List.length_drop]
  omega
theorem atI_in {α : Type} {xs : List α} {r : Int} (h0 : 0 ≤ r) (h1 : r < xs.length) : ∃ v, atI xs r = some v ∧ v ∈ xs := by
  obtain ⟨n, rfl⟩ : ∃ n : Nat, r = n := ⟨r.toNat, by omega⟩
  have hn : n < xs.length := by omega
  exact ⟨xs[n], atI_nat (List.getElem?_eq_getElem hn), List.getElem_mem hn⟩
/-- a comprehension that draws: each turn spends at most c draws -/
theorem lcD_draw {α : Type} {i j c : Nat} {gd : TGd} {te : TEd} {vs : List Nat} {alive : Mem → Prop} {Q : KD} {S : Sl} (dd : α → D) (P : D → Prop) (M0 : Mem) (n : Nat) (ni : n ≠ i) (nj : n ≠ j) (hn0 : M0.length ≤ n) (al : ∀ M, Fr i j M0 M → alive M) : ∀ (as : List α) (acc : List D) (f : Nat) (M : Mem),
    Dk i j (f + c * as.length) M → Fr i j M0 M → M[n]? = some (.lst acc) → (∀ d ∈ acc, P d) → acc.length + as.length ≤ sizeLine →
    (∀ a ∈ as, ∀ (g : Nat) (M : Mem) (Q' : KD), Dk i j (g + c) M → Fr i j M0 M → (∀ d M', P d → Dk i j g M' → Fr i j M M' → Q' d M') → gd (dd a) (wipeD S vs) M fun S1 M1 => te S1 M1 Q' E00) →
    (∀ ds M', (∀ d ∈ ds, P d) → ds.length = acc.length + as.length → Dk i j f M' → Fr i j M0 M' → M'[n]? = some (.lst ds) → Q (.obj n) M') →
    lcD gd dYes te vs n alive Q S (as.map dd) M
  | [], acc, f, M, D0, F0, hn, hp, hz, el, h => ⟨al M F0, h acc M hp (by simp) (by simpa using D0) F0 hn⟩
  | a :: as, acc, f, M, D0, F0, hn, hp, hz, el, h => by
    refine ⟨al M F0, ?_⟩
    simp only [dYes, if_true]
    have e0 : f + c * (a :: as).length = (f + c * as.length) + c := by rw [List.length_cons, Nat.mul_succ, Nat.add_assoc]
    rw [e0] at D0
    have hl := (List.getElem?_eq_some_iff.mp hn).1
    refine el a (by simp) _ M _ D0 F0 fun d M' pd D1 F1 => ⟨acc, (F1.2 n hl ni nj).trans hn, by simp at hz; omega, ?_⟩
    have hl' : n < M'.length := Nat.lt_of_lt_of_le hl F1.1
    have F2 : Fr i j M0 (M'.set n (.lst (acc ++ [d]))) := by
      refine ⟨by rw [List.length_set]; exact Nat.le_trans F0.1 F1.1, fun k h1 h2 h3 => ?_⟩
      rw [List.getElem?_set_ne (by omega)]
      exact (F0.tr F1).2 k h1 h2 h3
    have D2 : Dk i j (f + c * as.length) (M'.set n (.lst (acc ++ [d]))) := by
      obtain ⟨ns, m, k, q⟩ := D1
      exact ⟨ns, m, k, by rw [List.getElem?_set_ne ni]; exact q.d, by rw [List.getElem?_set_ne nj]; exact q.l, q.ne, q.m0, q.m1, q.k0, q.k1, q.nl⟩
    refine lcD_draw dd P M0 n ni nj hn0 al as (acc ++ [d]) f _ D2 F2 (List.getElem?_set_self hl') (fun x hx => ?_) (by simp at hz ⊢; omega) (fun b hb => el b (List.mem_cons_of_mem _ hb)) (fun ds M2 p1 p2 => h ds M2 p1 (by simp at p2 ⊢; omega))
    rcases List.mem_append.mp hx with hx | hx
    · exact hp x hx
    · rw [List.mem_singleton.mp hx]; exact pd
end Z03
set_option Elab.async false
set_option linter.all false
set_option maxRecDepth 100000
set_option maxHeartbeats 4000000
namespace Z03
open PySem PySem.Spec PyProof.Rows L2 GxR Gn Dl
theorem rngD_map (lo : Int) (n : Nat) : rngD lo n = (List.range n).map fun i => D.int (lo + (i : Nat)) := rfl
/-- the place of a fresh list is neither of the deck's -/
theorem Dk.out {i j f : Nat} {M : Mem} (h : Dk i j f M) : M.length ≠ i ∧ M.length ≠ j := by
  obtain ⟨ns, m, k, h⟩ := h
  have hi := (List.getElem?_eq_some_iff.mp h.d).1
  have hj := (List.getElem?_eq_some_iff.mp h.l).1
  omega
/-- a whole comprehension that draws -/
theorem lcD_drawn {α : Type} {i j c f : Nat} {gd : TGd} {te : TEd} {vs : List Nat} {alive : Mem → Prop} {Q : KD} {S : Sl} (dd : α → D) (P : D → Prop) (as : List α) (M : Mem) (al : ∀ M', Fr i j M M' → alive M')
    (D0 : Dk i j (f + c * as.length) M) (hz : as.length ≤ 1000)
    (el : ∀ a ∈ as, ∀ (g : Nat) (M1 : Mem) (Q' : KD), Dk i j (g + c) M1 → Fr i j M M1 → (∀ d M', P d → Dk i j g M' → Fr i j M1 M' → Q' d M') → gd (dd a) (wipeD S vs) M1 fun S1 M1 => te S1 M1 Q' E00)
    (h : ∀ ds M', (∀ d ∈ ds, P d) → ds.length = as.length → Dk i j f M' → Fr i j M M' → M'[M.length]? = some (.lst ds) → Q (.obj M.length) M') :
    lcD gd dYes te vs M.length alive Q S (as.map dd) (M ++ [.lst []]) := by
  refine lcD_draw (i := i) (j := j) (c := c) dd P M M.length D0.out.1 D0.out.2 (Nat.le_refl _) al as [] f _ (D0.app _) (Fr.app _ _ _ _) (by simp) (by simp) (small_le (by simpa using hz)) el fun ds M' p1 p2 p3 p4 p5 => h ds M' p1 (by simpa using p2) p3 p4 p5
end Z03
set_option Elab.async false
set_option linter.all false
set_option maxRecDepth 100000
set_option maxHeartbeats 4000000
namespace Z03
open PySem PySem.Spec PyProof.Rows L2 GxR Gn Dl
/-- a drawn network -/
structure NetB (N : Net) : Prop where
  O : N.Ok
  m5 : N.many ≤ 6
  w3 : N.w ≤ 3
  eb : ∀ r ∈ N.embeds, Bd 5 r
  pl : N.places.length ≤ 4
  pb : ∀ r ∈ N.places, Bd 5 r
  ll : N.layers.length ≤ 2
  lb : ∀ L ∈ N.layers, ∀ m ∈ L, ∀ r ∈ m, Bd 5 r
  ob : ∀ r ∈ N.outs, Bd 5 r
end Z03
set_option Elab.async false
set_option linter.all false
set_option maxRecDepth 100000
set_option maxHeartbeats 4000000
namespace Z03
open PySem PySem.Spec PyProof.Rows L2 GxR Gn Dl
def Ext (M M' : Mem) : Prop := ∃ G, M' = M ++ G
theorem Ext.refl (M : Mem) : Ext M M := ⟨[], by simp⟩
theorem Ext.tr {M M1 M2 : Mem} (a : Ext M M1) (b : Ext M1 M2) : Ext M M2 := by
  obtain ⟨G, rfl⟩ := a
  obtain ⟨H, rfl⟩ := b
  exact ⟨G ++ H, by simp⟩
theorem Ext.app (M G : Mem) : Ext M (M ++ G) := ⟨G, rfl⟩
theorem Ext.at {M M' : Mem} (a : Ext M M') {n : Nat} {c : Cell} (h : M[n]? = some c) : M'[n]? = some c := by
  obtain ⟨G, rfl⟩ := a
  rw [List.getElem?_append_left (List.getElem?_eq_some_iff.mp h).1]
  exact h
theorem Ext.q {M M' : Mem} {P : Mem → Prop} (a : Ext M M') (h : ∀ G, P (M ++ G)) : ∀ G, P (M' ++ G) := by
  obtain ⟨H, rfl⟩ := a
  intro G
  rw [List.append_assoc]
  exact h _
theorem lcD_ex {α : Type} {gd : TGd} {te : TEd} {vs : List Nat} {alive : Mem → Prop} {Q : KD} {S : Sl} (dd f : α → D) (as : List α) (M : Mem) (al : ∀ M', Ext M M' → alive M')
    (el : ∀ a ∈ as, ∀ (M1 : Mem) (Q' : KD), Ext M M1 → (∀ G', Q' (f a) (M1 ++ G')) → gd (dd a) (wipeD S vs) M1 fun S1 M2 => te S1 M2 Q' E00) (hz : as.length ≤ 1000)
    (h : ∀ M', Ext M M' → M'[M.length]? = some (.lst (as.map f)) → Q (.obj M.length) M') :
    lcD gd dYes te vs M.length alive Q S (as.map dd) (M ++ [.lst []]) :=
  lcD_of dd f as M (fun G => al _ (Ext.app M G)) (fun a ha G Q' k => el a ha _ Q' (Ext.app M G) k) (small_le hz) fun G => h _ (Ext.app M _) at_end
end Z03
set_option Elab.async false
set_option linter.all false
set_option maxRecDepth 100000
set_option maxHeartbeats 4000000
set_option Elab.async false
set_option linter.all false
set_option maxRecDepth 100000
set_option maxHeartbeats 4000000
set_option Elab.async false
set_option linter.all false
set_option maxRecDepth 100000
set_option maxHeartbeats 4000000
set_option Elab.async false
set_option linter.all false
set_option maxRecDepth 100000
set_option maxHeartbeats 4000000
namespace Z03
open PySem PySem.Spec PyProof.Rows L2 GxR Gn Dl
/-- a datum that walks over ds -/
def Sq2 (M : Mem) (d : D) (ds : List D) : Prop := d = .tup ds ∨ ∃ n, d = .obj n ∧ M[n]? = some (.lst ds)
end Z03
set_option Elab.async false
set_option linter.all false
set_option maxRecDepth 100000
set_option maxHeartbeats 4000000
namespace Z03
open PySem PySem.Spec PyProof.Rows L2 GxR Gn Dl
/-- all below n stays -/
def Lo (n : Nat) (M M' : Mem) : Prop := M.length ≤ M'.length ∧ ∀ k, k < n → M'[k]? = M[k]?
theorem Lo.refl (n : Nat) (M : Mem) : Lo n M M := ⟨Nat.le_refl _, fun _ _ => rfl⟩
theorem Lo.tr {n : Nat} {M M1 M2 : Mem} (a : Lo n M M1) (b : Lo n M1 M2) : Lo n M M2 := ⟨Nat.le_trans a.1 b.1, fun k h => (b.2 k h).trans (a.2 k h)⟩
theorem Lo.set {n p : Nat} (M : Mem) (c : Cell) (hp : n ≤ p) : Lo n M (M.set p c) := ⟨by simp, fun k hk => by rw [List.getElem?_set_ne (by omega)]⟩
theorem Sq2.lo {n : Nat} {M M' : Mem} {d : D} {ds : List D} (h : Sq2 M d ds) (hn : M.length ≤ n) (x : Lo n M M') : Sq2 M' d ds := h.elim .inl fun ⟨k, e, h⟩ => .inr ⟨k, e, by rw [x.2 k (Nat.lt_of_lt_of_le (List.getElem?_eq_some_iff.mp h).1 hn)]; exact h⟩
end Z03
set_option Elab.async false
set_option linter.all false
set_option maxRecDepth 100000
set_option maxHeartbeats 4000000
set_option Elab.async false
set_option linter.all false
set_option maxRecDepth 100000
set_option maxHeartbeats 4000000
namespace Z03
open PySem PySem.Spec PyProof.Rows L2 GxR Gn Dl
def LyOk (w : Nat) (Ls : List (List (List (List Int)))) : Prop := ∀ L ∈ Ls, L.length = 4 ∧ ∀ m ∈ L, m.length = w ∧ ∀ r ∈ m, Bd 5 r ∧ r.length = w
theorem NetB.ly {N : Net} {w : Nat} (B : NetB N) (hw : N.w = w) : LyOk w N.layers := fun L hL => ⟨(B.O.ly L hL).1, fun m hm => by
    have q := (B.O.ly L hL).2 m hm
    exact ⟨by have := q.1; omega, fun r hr => ⟨B.lb L hL m hm r hr, by have := q.2 r hr; omega⟩⟩⟩
end Z03
set_option Elab.async false
set_option linter.all false
set_option maxRecDepth 100000
set_option maxHeartbeats 4000000
set_option Elab.async false
set_option linter.all false
set_option maxRecDepth 100000
set_option maxHeartbeats 4000000
set_option Elab.async false
set_option linter.all false
set_option maxRecDepth 100000
set_option maxHeartbeats 4000000
set_option Elab.async false
set_option linter.all false
set_option maxRecDepth 100000
set_option maxHeartbeats 4000000
set_option Elab.async false
set_option linter.all false
set_option maxRecDepth 100000
set_option maxHeartbeats 4000000
set_option Elab.async false
set_option linter.all false
set_option maxRecDepth 100000
set_option maxHeartbeats 4000000
set_option Elab.async false
set_option linter.all false
set_option maxRecDepth 100000
set_option maxHeartbeats 4000000
namespace Z03
open PySem PySem.Spec PyProof.Rows L2 GxR Gn Dl
theorem abs_lt {n B : Int} (h : -B ≤ n ∧ n ≤ B) (hB : B < 100000000) : n.natAbs < 100000000 := by omega
end Z03
set_option Elab.async false
set_option linter.all false
set_option maxRecDepth 100000
set_option maxHeartbeats 4000000
set_option Elab.async false
set_option linter.all false
set_option maxRecDepth 100000
set_option maxHeartbeats 4000000
namespace Z03
open PySem PySem.Spec PyProof.Rows L2 GxR Gn Dl
def Ld (M M' : Mem) : Prop := M.length ≤ M'.length ∧ ∀ k, k < M.length → M'[k]? = M[k]?
theorem Ld.refl (M : Mem) : Ld M M := ⟨Nat.le_refl _, fun _ _ => rfl⟩
theorem Ld.tr {A B C : Mem} (h : Ld A B) (k : Ld B C) : Ld A C := ⟨Nat.le_trans h.1 k.1, fun n hn => (k.2 n (Nat.lt_of_lt_of_le hn h.1)).trans (h.2 n hn)⟩
theorem Ext.ld {M M' : Mem} (h : Ext M M') : Ld M M' := by
  obtain ⟨G, rfl⟩ := h
  exact ⟨by simp, fun k hk => List.getElem?_append_left hk⟩
theorem Ld.app {M M' : Mem} (h : Ld M M') (G : Mem) : Ld M (M' ++ G) := h.tr (Ext.app M' G).ld
theorem Ld.set {M M' : Mem} (h : Ld M M') {k : Nat} (hk : M.length ≤ k) (c : Cell) : Ld M (M'.set k c) := ⟨by rw [List.length_set]; exact h.1, fun n hn => by
  rw [List.getElem?_set_ne (by omega)]
  exact h.2 n hn⟩
theorem Ld.at {M M' : Mem} (h : Ld M M') {n : Nat} {c : Cell} (e : M[n]? = some c) : M'[n]? = some c := (h.2 n (List.getElem?_eq_some_iff.mp e).1).trans e
theorem Dk.ld {i j f : Nat} {M M' : Mem} (h : Dk i j f M) (l : Ld M M') : Dk i j f M' := by
  obtain ⟨ns, m, k, q⟩ := h
  exact ⟨ns, m, k, l.at q.d, l.at q.l, q.ne, q.m0, q.m1, q.k0, q.k1, q.nl⟩
end Z03
set_option Elab.async false
set_option linter.all false
set_option maxRecDepth 100000
set_option maxHeartbeats 4000000
set_option Elab.async false
set_option linter.all false
set_option maxRecDepth 100000
set_option maxHeartbeats 4000000
set_option Elab.async false
set_option linter.all false
set_option maxRecDepth 100000
set_option maxHeartbeats 4000000
set_option Elab.async false
set_option linter.all false
set_option maxRecDepth 100000
set_option maxHeartbeats 4000000
set_option Elab.async false
set_option linter.all false
set_option maxRecDepth 100000
set_option maxHeartbeats 4000000
namespace Z03
open PySem PySem.Spec PyProof.Rows L2 GxR Gn Dl
theorem Fr.set3 {i j k : Nat} {M0 M : Mem} {c : Cell} (h : Fr i j M0 M) (hk : M0.length ≤ k) : Fr i j M0 (M.set k c) := by
  refine ⟨by rw [List.length_set]; exact h.1, fun l h1 h2 h3 => ?_⟩
  rw [List.getElem?_set_ne (by omega)]
  exact h.2 l h1 h2 h3
theorem Dk.set {i j f k : Nat} {M : Mem} {c : Cell} (h : Dk i j f M) (hi : k ≠ i) (hj : k ≠ j) : Dk i j f (M.set k c) := by
  obtain ⟨ns, m, q, h⟩ := h
  exact ⟨ns, m, q, by rw [List.getElem?_set_ne hi]; exact h.d, by rw [List.getElem?_set_ne hj]; exact h.l, h.ne, h.m0, h.m1, h.k0, h.k1, h.nl⟩
end Z03
set_option Elab.async false
set_option linter.all false
set_option maxRecDepth 100000
set_option maxHeartbeats 4000000
namespace Z03
open PySem PySem.Spec PyProof.Rows L2 GxR Gn Dl
def Stp.pw : Stp → Nat
  | .power e => e
  | _ => 1
end Z03
set_option Elab.async false
set_option linter.all false
set_option maxRecDepth 100000
set_option maxHeartbeats 4000000
namespace Z03.Wn
open PySem PySem.Spec PyProof.Rows L2 GxR Gn Dl
structure WOk (w : Nat) (ws : List Int) : Prop where
  len : ws.length = w
  bd : ∀ x ∈ ws, 0 ≤ x ∧ x ≤ 1000
  pos : 0 < ws.sum
end Z03.Wn
set_option Elab.async false
set_option linter.all false
set_option maxRecDepth 100000
set_option maxHeartbeats 4000000
namespace Z03.Wn
open PySem PySem.Spec PyProof.Rows L2 GxR Gn Dl
abbrev Ent := List Int × List Int
structure Win where
  many : Int
  k : Int
  ents : List Ent
  dflt : List Int
def entD (e : Ent) : D := .tup [vI e.1, vI e.2]
def Win.d (W : Win) : D := .tup [.str "window", .int W.many, .int W.k, .tup (W.ents.map entD), vI W.dflt]
/-- an entry -/
def EOk (many k : Nat) (e : Ent) : Prop := (TokOk many e.1 ∧ e.1.length ≤ k) ∧ WOk many e.2
structure WinB (W : Win) : Prop where
  ex : ∃ m k : Nat, W.many = m ∧ W.k = k ∧ 2 ≤ m ∧ m ≤ 8 ∧ k ≤ 3 ∧ (∀ e ∈ W.ents, EOk m k e) ∧ WOk m W.dflt
  few : W.ents.length ≤ 200
  asc : (W.ents.map (·.1)).Pairwise fun x y => HT.lexLt x y = true
end Z03.Wn
set_option Elab.async false
set_option linter.all false
set_option maxRecDepth 100000
set_option maxHeartbeats 4000000
namespace Z03.Wn
open PySem PySem.Spec PyProof.Rows L2 GxR Gn Dl
/-- what is known of the entries so far -/
structure KvB (m k : Nat) (kvs : List Ent) : Prop where
  ok : ∀ e ∈ kvs, EOk m k e
  nd : (kvs.map (·.1)).Nodup
end Z03.Wn
set_option Elab.async false
set_option linter.all false
set_option maxRecDepth 100000
set_option maxHeartbeats 4000000
set_option Elab.async false
set_option linter.all false
set_option maxRecDepth 100000
set_option maxHeartbeats 4000000
set_option Elab.async false
set_option linter.all false
set_option maxRecDepth 100000
set_option maxHeartbeats 4000000
namespace Z03.Wn
open PySem PySem.Spec PyProof.Rows L2 GxR Gn Dl
def lastI (k : Nat) (ts : List Int) : List Int := ts.drop (ts.length - k)
def lookE (es : List Ent) (last : List Int) : Option (List Int) := (es.find? fun e => decide (e.1 = last)).map (·.2)
def lookW (W : Win) (ts : List Int) : List Int := (lookE W.ents (lastI W.k.toNat ts)).getD W.dflt
end Z03.Wn
set_option Elab.async false
set_option linter.all false
set_option maxRecDepth 100000
set_option maxHeartbeats 4000000
namespace Z03.Wn
open PySem PySem.Spec PyProof.Rows L2 GxR Gn Dl
theorem WinB.k0 {W : Win} (B : WinB W) : 0 ≤ W.k := by
  obtain ⟨m, k, em, ek, _⟩ := B.ex
  omega
end Z03.Wn
set_option Elab.async false
set_option linter.all false
set_option maxRecDepth 100000
set_option maxHeartbeats 4000000
namespace Z03.Wn
open PySem PySem.Spec PyProof.Rows L2 GxR Gn Dl
theorem look_mem {kvs : List Ent} {last r : List Int} (h : lookE kvs last = some r) : (last, r) ∈ kvs := by
  unfold lookE at h
  cases hf : kvs.find? fun e => decide (e.1 = last) with
  | none => rw [hf] at h; cases h
  | some e =>
    rw [hf] at h
    cases h
    have h1 := List.find?_some hf
    have h2 := List.mem_of_find?_eq_some hf
    have h3 : e.1 = last := by simpa using h1
    rw [← h3]
    exact h2
theorem KvB.drop {m k : Nat} {kvs : List Ent} (B : KvB m k kvs) (p : Ent → Bool) : KvB m k (kvs.filter p) :=
  ⟨fun e he => B.ok e (List.mem_filter.mp he).1, B.nd.sublist (List.Sublist.map _ List.filter_sublist)⟩
theorem look_ok {W : Win} (B : WinB W) (ts : List Int) : WOk W.many.toNat (lookW W ts) := by
  obtain ⟨m, k, em, ek, m2, m8, k3, he, hd⟩ := B.ex
  have e : W.many.toNat = m := by omega
  rw [e]
  unfold lookW
  cases hl : lookE W.ents (lastI W.k.toNat ts) with
  | none => exact hd
  | some r => exact (he _ (look_mem hl)).2
theorem abs_lt {n B : Int} (h : -B ≤ n ∧ n ≤ B) (hB : B < 100000000) : n.natAbs < 100000000 := by omega
theorem sz_w {m : Nat} {ws : List Int} (h : WOk m ws) (hm : m ≤ 8) : Sz 99 1 (pI ws) := (Sz.pI (m := 8) (fun n hn => abs_lt (B := 1000) (by have := h.bd n hn; omega) (by decide)) (by rw [h.len]; exact hm)).mono (by decide) (by decide)
theorem WinB.m8 {W : Win} (B : WinB W) : W.many.toNat ≤ 8 := by
  obtain ⟨m, k, em, ek, m2, m8, k3, he, hd⟩ := B.ex
  omega
theorem WinB.sz {W : Win} (B : WinB W) (ts : List Int) : Sz 99 1 (pI (lookW W ts)) := sz_w (look_ok B ts) B.m8
end Z03.Wn
set_option Elab.async false
set_option linter.all false
set_option maxRecDepth 100000
set_option maxHeartbeats 4000000
set_option Elab.async false
set_option linter.all false
set_option maxRecDepth 100000
set_option maxHeartbeats 4000000
set_option Elab.async false
set_option linter.all false
set_option maxRecDepth 100000
set_option maxHeartbeats 4000000
set_option Elab.async false
set_option linter.all false
set_option maxRecDepth 100000
set_option maxHeartbeats 4000000
set_option Elab.async false
set_option linter.all false
set_option maxRecDepth 100000
set_option maxHeartbeats 4000000
set_option Elab.async false
set_option linter.all false
set_option maxRecDepth 100000
set_option maxHeartbeats 4000000
set_option Elab.async false
set_option linter.all false
set_option maxRecDepth 100000
set_option maxHeartbeats 4000000
set_option Elab.async false
set_option linter.all false
set_option maxRecDepth 100000
set_option maxHeartbeats 4000000
set_option Elab.async false
set_option linter.all false
set_option maxRecDepth 100000
set_option maxHeartbeats 4000000
set_option Elab.async false
set_option linter.all false
set_option maxRecDepth 100000
set_option maxHeartbeats 4000000
namespace Z03
open PySem PySem.Spec PyProof.Rows L2 GxR Gn Dl
theorem Ld.fr {i j : Nat} {M M' : Mem} (h : Ld M M') : Fr i j M M' := ⟨h.1, fun k hk _ _ => h.2 k hk⟩
theorem Fr.at {i j n : Nat} {M M' : Mem} {c : Cell} (h : Fr i j M M') (hi : n ≠ i) (hj : n ≠ j) (e : M[n]? = some c) : M'[n]? = some c := (h.2 n (List.getElem?_eq_some_iff.mp e).1 hi hj).trans e
section
end
end Z03
set_option Elab.async false
set_option linter.all false
set_option maxRecDepth 100000
set_option maxHeartbeats 4000000
set_option Elab.async false
set_option linter.all false
set_option maxRecDepth 100000
set_option maxHeartbeats 4000000
set_option Elab.async false
set_option linter.all false
set_option maxRecDepth 100000
set_option maxHeartbeats 4000000
set_option Elab.async false
set_option linter.all false
set_option maxRecDepth 100000
set_option maxHeartbeats 4000000
set_option Elab.async false
set_option linter.all false
set_option maxRecDepth 100000
set_option maxHeartbeats 4000000
set_option Elab.async false
set_option linter.all false
set_option maxRecDepth 100000
set_option maxHeartbeats 4000000
set_option Elab.async false
set_option linter.all false
set_option maxRecDepth 100000
set_option maxHeartbeats 4000000
set_option Elab.async false
set_option linter.all false
set_option maxRecDepth 100000
set_option maxHeartbeats 4000000
set_option Elab.async false
set_option linter.all false
set_option maxRecDepth 100000
set_option maxHeartbeats 4000000
set_option Elab.async false
set_option linter.all false
set_option maxRecDepth 100000
set_option maxHeartbeats 4000000
namespace Z03
open PySem PySem.Spec PyProof.Rows L2 GxR Gn Dl
section
variable {d : D} {many : Nat} {f : List Int → List Int}
variable {C : Nat → Addr} {ss : List Stp} {p : List Int} {o jk jr : Nat} {D0 : EndsD} {E : KE'}
def But (l : Nat) (M M' : Mem) : Prop := (∀ n, n ≠ l → n < M.length → M'[n]? = M[n]?) ∧ M.length ≤ M'.length
theorem But.at {l n : Nat} {M M' : Mem} {c : Cell} (h : But l M M') (hn : n ≠ l) (e : M[n]? = some c) : M'[n]? = some c := (h.1 n hn (List.getElem?_eq_some_iff.mp e).1).trans e
theorem But.set (l : Nat) (M : Mem) (c : Cell) : But l M (M.set l c) := ⟨fun n h _ => by rw [List.getElem?_set_ne (Ne.symm h)], by simp⟩
end
end Z03
set_option Elab.async false
set_option linter.all false
set_option maxRecDepth 100000
set_option maxHeartbeats 4000000
set_option Elab.async false
set_option linter.all false
set_option maxRecDepth 100000
set_option maxHeartbeats 4000000
namespace Z03
open PySem PySem.Spec PyProof.Rows L2 GxR Gn Dl
section
variable {d : D} {many : Nat} {f : List Int → List Int}
variable {C : Nat → Addr} {ss : List Stp} {p : List Int} {o jk jr most : Nat} {D0 : EndsD} {E : KE'}
theorem But.tr {l : Nat} {A B C : Mem} (a : But l A B) (b : But l B C) : But l A C := ⟨fun n h hn => (b.1 n h (Nat.lt_of_lt_of_le hn a.2)).trans (a.1 n h hn), Nat.le_trans a.2 b.2⟩
end
end Z03
set_option Elab.async false
set_option linter.all false
set_option maxRecDepth 100000
set_option maxHeartbeats 4000000
set_option Elab.async false
set_option linter.all false
set_option maxRecDepth 100000
set_option maxHeartbeats 4000000
namespace Z03
open PySem PySem.Spec PyProof.Rows L2 GxR Gn Dl
section
variable {d : D} {many : Nat} {f : List Int → List Int} {ss : List Stp} {p : List Int} {most : Nat} {D0 : EndsD} {E : KE'}
def But2 (i j : Nat) (M M' : Mem) : Prop := (∀ n, n ≠ i → n ≠ j → n < M.length → M'[n]? = M[n]?) ∧ M.length ≤ M'.length
theorem But2.refl (i j : Nat) (M : Mem) : But2 i j M M := ⟨fun _ _ _ _ => rfl, Nat.le_refl _⟩
theorem But2.tr {i j : Nat} {A B C : Mem} (a : But2 i j A B) (b : But2 i j B C) : But2 i j A C := ⟨fun n h1 h2 hn => (b.1 n h1 h2 (Nat.lt_of_lt_of_le hn a.2)).trans (a.1 n h1 h2 hn), Nat.le_trans a.2 b.2⟩
theorem But2.ld {i j : Nat} {M0 A B : Mem} (a : But2 i j A B) (h : Ld M0 A) (hi : M0.length ≤ i) (hj : M0.length ≤ j) : Ld M0 B :=
  ⟨Nat.le_trans h.1 a.2, fun n hn => (a.1 n (by omega) (by omega) (Nat.lt_of_lt_of_le hn h.1)).trans (h.2 n hn)⟩
end
end Z03
set_option Elab.async false
set_option linter.all false
set_option maxRecDepth 100000
set_option maxHeartbeats 4000000
set_option Elab.async false
set_option linter.all false
set_option maxRecDepth 100000
set_option maxHeartbeats 4000000
namespace Z03
open PySem PySem.Spec PyProof.Rows L2 GxR Gn Dl
def e1 (m : Nat) : List Int := 1 :: List.replicate (m - 1) 0
end Z03
set_option Elab.async false
set_option linter.all false
set_option maxRecDepth 100000
set_option maxHeartbeats 4000000
set_option Elab.async false
set_option linter.all false
set_option maxRecDepth 100000
set_option maxHeartbeats 1000000
set_option Elab.async false
set_option linter.all false
set_option maxRecDepth 100000
set_option maxHeartbeats 1000000
set_option Elab.async false
set_option linter.all false
set_option maxRecDepth 100000
set_option maxHeartbeats 1000000
namespace Z03
open PySem PySem.Spec PyProof.Rows L2 GxR Gn Dl
section
variable {d : D} {M : Mem} {Q : KD} {E : KE'} {m : Int}
theorem Ek.app (h : Ek M d) (hb : ∀ n p G, pyM M n d = some p → pyM (M ++ G) n d = some p) (G : Mem) : Ek (M ++ G) d := by
  obtain ⟨n, p, e, hs⟩ := h
  exact ⟨n, p, hb n p G e, hs⟩
end
end Z03
set_option Elab.async false
set_option linter.all false
set_option maxRecDepth 100000
set_option maxHeartbeats 1000000
set_option Elab.async false
set_option linter.all false
set_option maxRecDepth 100000
set_option maxHeartbeats 1000000
set_option Elab.async false
set_option linter.all false
set_option maxRecDepth 100000
set_option maxHeartbeats 4000000
set_option Elab.async false
set_option linter.all false
set_option maxRecDepth 100000
set_option maxHeartbeats 4000000
set_option Elab.async false
set_option linter.all false
set_option maxRecDepth 100000
set_option maxHeartbeats 4000000
set_option Elab.async false
set_option linter.all false
set_option maxRecDepth 100000
set_option maxHeartbeats 4000000
set_option Elab.async false
set_option linter.all false
set_option maxRecDepth 100000
set_option maxHeartbeats 4000000
set_option Elab.async false
set_option linter.all false
set_option maxRecDepth 100000
set_option maxHeartbeats 4000000
set_option Elab.async false
set_option linter.all false
set_option maxRecDepth 100000
set_option maxHeartbeats 4000000
set_option Elab.async false
set_option linter.all false
set_option maxRecDepth 100000
set_option maxHeartbeats 4000000
set_option Elab.async false
set_option linter.all false
set_option maxRecDepth 100000
set_option maxHeartbeats 4000000
set_option Elab.async false
set_option linter.all false
set_option maxRecDepth 100000
set_option maxHeartbeats 4000000
namespace Z03
open PySem PySem.Spec PyProof.Rows L2 GxR Gn Dl
theorem sz_dec {i : Int} {k : Nat} (h : i.natAbs < 10 ^ k) (hk : k ≤ 577) (h0 : 0 < k) : Sz (k + 2) 0 (.int i) := by
  refine ⟨?_, rfl, by rw [PyData.depth]; decide, ?_⟩
  · rw [PyData.showable]
    refine decide_eq_true ?_
    show (Int.natAbs i).log2 < 1920
    by_cases h0 : i.natAbs = 0
    · rw [h0]; decide
    · refine (Nat.log2_lt h0).mpr (Nat.lt_of_lt_of_le h ?_)
      exact Nat.le_trans (Nat.pow_le_pow_right (by decide) hk) (by decide +kernel)
  · rw [PyData.shown]
    have := int_text_length_le10 (a := i) (k := k) h0 h
    show (Str.ofString (toString i)).length ≤ k + 2
    rw [PySem.ofString_length]
    omega
end Z03
set_option Elab.async false
set_option linter.all false
set_option maxRecDepth 100000
set_option maxHeartbeats 4000000
set_option Elab.async false
set_option linter.all false
set_option maxRecDepth 100000
set_option maxHeartbeats 4000000
set_option Elab.async false
set_option linter.all false
set_option maxRecDepth 100000
set_option maxHeartbeats 4000000
set_option Elab.async false
set_option linter.all false
set_option maxRecDepth 100000
set_option maxHeartbeats 4000000
set_option Elab.async false
set_option linter.all false
set_option maxRecDepth 100000
set_option maxHeartbeats 4000000
set_option Elab.async false
set_option linter.all false
set_option maxRecDepth 100000
set_option maxHeartbeats 4000000
set_option Elab.async false
set_option linter.all false
set_option maxRecDepth 100000
set_option maxHeartbeats 1000000
namespace Z03
open PySem PySem.Spec PyProof.Rows L2 GxR Gn Dl
def Wr (t : D → Mem → KD → KE' → Prop) (a : D) (M : Mem) : Prop := ∀ (G : Mem) (Q : KD) (E : KE'), (∀ G', Q (.bl false) (M ++ G ++ G')) → t a (M ++ G) Q E
theorem Wr.app {t : D → Mem → KD → KE' → Prop} {a : D} {M : Mem} (h : Wr t a M) (G : Mem) : Wr t a (M ++ G) := fun G1 Q E k => by
  have := h (G ++ G1) Q E (by simpa [List.append_assoc] using k)
  simpa [List.append_assoc] using this
def cl : Nat → Nat
  | 0 => 15 | 1 => 16 | 2 => 17 | _ => 18
section
variable {d : D} {many : Nat} {f : List Int → List Int} {C : Nat → Addr} {ss : List Stp} {p : List Int} {most : Nat} {a b c e : D} {o0 o1 o2 o3 o4 : Bool} {M : Mem} {Q : KD} {E : KE'}
theorem Kn.int {n : Int} : Kn M (.int n) := ⟨"int", rfl⟩
end
end Z03
set_option Elab.async false
set_option linter.all false
set_option maxRecDepth 100000
set_option maxHeartbeats 1000000
namespace Z03
open PySem PySem.Spec PyProof.Rows L2 GxR Gn Dl
structure Sy (n d : Nat) (p : PyData) : Prop where
  sz : Sz n d p
  low : ∀ c ∈ p.shown.cps.toList, c < 16 ^ 8
  cl : p.canLay0 = true
theorem Sy.mono {n n' d d' : Nat} {p : PyData} (h : Sy n d p) (hn : n ≤ n') (hd : d ≤ d') : Sy n' d' p := ⟨h.sz.mono hn hd, h.low, h.cl⟩
theorem e16 : (16 : Nat) ^ 8 = 4294967296 := by decide
theorem Sy.int {i : Int} (h : i.natAbs < 100000000) : Sy 10 0 (.int i) := by
  refine ⟨Sz.int h, fun c hc => ?_, by rw [PyData.canLay0]⟩
  by_cases hx : c ≠ 45 ∧ (c < 48 ∨ 57 < c)
  · exact absurd hc (shown_int_free' hx i)
  · rw [e16]; omega
def chkY (n d : Nat) (p : PyData) : Bool := PyData.showable p && !p.hasDict && decide (p.depth ≤ d) && decide (p.shown.length ≤ n) && p.shown.cps.toList.all (fun c => decide (c < 16 ^ 8)) && p.canLay0
theorem Sy.of {n d : Nat} {p : PyData} (h : chkY n d p = true) : Sy n d p := by
  unfold chkY at h
  simp only [Bool.and_eq_true, Bool.not_eq_true', decide_eq_true_eq, List.all_eq_true] at h
  obtain ⟨⟨⟨⟨⟨h1, h2⟩, h3⟩, h4⟩, h5⟩, h6⟩ := h
  exact ⟨⟨h1, h2, h3, h4⟩, h5, h6⟩
/-- items in a row: n is their length with what stands between -/
inductive SyL (d : Nat) : Nat → List PyData → Prop
  | nil : SyL d 0 []
  | cons {n m : Nat} {p : PyData} {ps : List PyData} (h : Sy n d p) (hs : SyL d m ps) : SyL d (n + 2 + m) (p :: ps)
theorem SyL.all {d : Nat} : ∀ {n : Nat} {ps : List PyData}, SyL d n ps → PyData.showableAll ps = true ∧ PyData.hasDictAll ps = false ∧ PyData.depthAll ps ≤ d ∧ PyData.canLayAll0 ps = true ∧ (∀ t ∈ PyData.shownAll ps, ∀ c ∈ t.cps.toList, c < 16 ^ 8) ∧ (Str.join ", " (PyData.shownAll ps)).length ≤ n
  | _, _, .nil => ⟨by simp [PyData.showableAll], by simp [PyData.hasDictAll], by simp [PyData.depthAll], by simp [PyData.canLayAll0], by simp [PyData.shownAll], by rw [PyData.shownAll]; exact Nat.zero_le _⟩
  | _, _, .cons (n := n) (m := m) (p := p) (ps := r) q hs => by
    obtain ⟨a, b, c, e, f, g⟩ := SyL.all hs
    rw [PyData.showableAll, PyData.hasDictAll, PyData.depthAll, PyData.shownAll, PyData.canLayAll0, q.sz.sh, q.sz.nd, q.cl, a, b, e]
    refine ⟨rfl, rfl, Nat.max_le.mpr ⟨q.sz.dp, c⟩, rfl, fun t ht => ?_, ?_⟩
    · rcases List.mem_cons.mp ht with rfl | ht
      · exact q.low
      · exact f t ht
    · have hq := q.sz.ln
      cases hr : PyData.shownAll r with
      | nil =>
        show p.shown.length ≤ _
        omega
      | cons y z =>
        rw [hr] at g
        show (p.shown ++ ", " ++ Str.join ", " (y :: z)).length ≤ _
        rw [str_app_len, str_app_len]
        have e : ((", " : Str)).length = 2 := rfl
        omega
theorem SyL.mono {d d' n : Nat} {ps : List PyData} (h : SyL d n ps) (hd : d ≤ d') : SyL d' n ps := by
  induction h with
  | nil => exact .nil
  | cons h _ ih => exact .cons (h.mono (Nat.le_refl _) hd) ih
theorem join_low {ts : List Str} (f : ∀ t ∈ ts, ∀ c ∈ t.cps.toList, c < 16 ^ 8) : ∀ c ∈ (Str.join ", " ts).cps.toList, c < 16 ^ 8 := fun c hc => by
  rcases (mem_join _ _ _).mp hc with ⟨t, ht1, hc⟩ | ⟨_, hc⟩
  · exact f t ht1 c hc
  · have : (", " : Str).cps.toList = [44, 32] := by decide
    rw [this] at hc
    simp at hc
    rw [e16]
    omega
theorem SyL.tup {d n : Nat} {ps : List PyData} (h : SyL d n ps) : Sy (n + 3) (d + 1) (.tuple ps) := by
  obtain ⟨a, b, c, e, f, g⟩ := h.all
  obtain ⟨tl, ht⟩ : ∃ tl : Str, (if (PyData.shownAll ps).length == 1 then ",)" else ")" : String) = tl ∧ tl.length ≤ 2 ∧ ∀ c ∈ tl.cps.toList, c = 41 ∨ c = 44 := by
    refine ⟨_, rfl, ?_⟩
    split
    · have : ((",)" : String) : Str).cps.toList = [44, 41] := by decide
      rw [this]; simp; decide
    · have : (((")" : String) : Str)).cps.toList = [41] := by decide
      rw [this]; simp; decide
  refine ⟨⟨by rw [PyData.showable]; exact a, by rw [PyData.hasDict]; exact b, by rw [PyData.depth]; omega, ?_⟩, fun c hc => ?_, by rw [PyData.canLay0]; exact e⟩
  · rw [PyData.shown]
    unfold tupleText
    rw [str_app_len, str_app_len, ht.1]
    have h3 : ((("(" : Str))).length = 1 := rfl
    have := ht.2.1
    omega
  · rw [PyData.shown] at hc
    unfold tupleText at hc
    rw [cps_toList_append, cps_toList_append, ht.1] at hc
    have h1 : ("(" : Str).cps.toList = [40] := by decide
    rw [h1] at hc
    rcases List.mem_append.mp hc with hc | hc
    · rcases List.mem_append.mp hc with hc | hc
      · simp at hc; rw [e16]; omega
      · exact join_low f c hc
    · have := ht.2.2 c hc
      rw [e16]; omega
theorem SyL.lst {d n : Nat} {ps : List PyData} (h : SyL d n ps) : Sy (n + 3) (d + 1) (.list ps) := by
  obtain ⟨a, b, c, e, f, g⟩ := h.all
  refine ⟨⟨by rw [PyData.showable]; exact a, by rw [PyData.hasDict]; exact b, by rw [PyData.depth]; omega, ?_⟩, fun c hc => ?_, by rw [PyData.canLay0]; exact e⟩
  · rw [PyData.shown, listText_eq_join, str_app_len, str_app_len]
    have h3 : ((("[" : Str))).length = 1 := rfl
    have h5 : ((("]" : Str))).length = 1 := rfl
    omega
  · rw [PyData.shown, listText_eq_join, cps_toList_append, cps_toList_append] at hc
    have h1 : ("[" : Str).cps.toList = [91] := by decide
    have h2 : ("]" : Str).cps.toList = [93] := by decide
    rw [h1, h2] at hc
    rcases List.mem_append.mp hc with hc | hc
    · rcases List.mem_append.mp hc with hc | hc
      · simp at hc; rw [e16]; omega
      · exact join_low f c hc
    · simp at hc; rw [e16]; omega
/-- such a datum in a memory; b: how deep its lists lie -/
structure Py (M : Mem) (b n dp : Nat) (d : D) (p : PyData) : Prop where
  pm : ∀ k, pyM M (k + b) d = some p
  sy : Sy n dp p
  hk : HK M d
structure PyL (M : Mem) (b n dp : Nat) (ds : List D) (ps : List PyData) : Prop where
  pm : ∀ k, pyMs M (k + b) ds = some ps
  sy : SyL dp n ps
  hk : ∀ x ∈ ds, HK M x
section
variable {M : Mem} {b n m dp k : Nat} {d : D} {p : PyData} {ds es : List D} {ps qs : List PyData}
theorem Py.mono {n' dp' : Nat} (h : Py M b n dp d p) (hn : n ≤ n') (hd : dp ≤ dp') : Py M b n' dp' d p := ⟨h.pm, h.sy.mono hn hd, h.hk⟩
theorem PyL.nil : PyL M b 0 dp [] [] := ⟨fun k => by rw [pyMs], .nil, fun x hx => by cases hx⟩
theorem PyL.cons (h : Py M b n dp d p) (hs : PyL M b m dp ds ps) : PyL M b (n + 2 + m) dp (d :: ds) (p :: ps) :=
  ⟨fun k => by rw [pyMs, h.pm k, hs.pm k], .cons h.sy hs.sy, fun x hx => (List.mem_cons.mp hx).elim (fun e => e ▸ h.hk) (hs.hk x)⟩
theorem pyMs_app (M : Mem) (k : Nat) : ∀ {ds es : List D} {ps qs : List PyData}, pyMs M k ds = some ps → pyMs M k es = some qs → pyMs M k (ds ++ es) = some (ps ++ qs)
  | [], _, _, _, h1, h2 => by rw [pyMs] at h1; cases h1; exact h2
  | d :: ds, es, ps, qs, h1, h2 => by
    rw [pyMs] at h1
    split at h1
    · rename_i p r e1 e2
      cases h1
      rw [List.cons_append, pyMs, e1, pyMs_app M k e2 h2]
      rfl
    · cases h1
theorem SyL.app {d : Nat} : ∀ {n m : Nat} {ps qs : List PyData}, SyL d n ps → SyL d m qs → SyL d (n + m) (ps ++ qs)
  | _, m, _, qs, .nil, h => by rw [Nat.zero_add]; exact h
  | _, m, _, qs, .cons (n := a) (m := b) h hs, h2 => by
    rw [show a + 2 + b + m = a + 2 + (b + m) by omega]
    exact .cons h (SyL.app hs h2)
theorem PyL.app (h : PyL M b n dp ds ps) (h2 : PyL M b m dp es qs) : PyL M b (n + m) dp (ds ++ es) (ps ++ qs) :=
  ⟨fun k => pyMs_app M _ (h.pm k) (h2.pm k), h.sy.app h2.sy, fun x hx => (List.mem_append.mp hx).elim (h.hk x) (h2.hk x)⟩
theorem PyL.map {α : Type} {f : α → D} {g : α → PyData} : ∀ {as : List α}, (∀ a ∈ as, Py M b n dp (f a) (g a)) → PyL M b (as.length * (n + 2)) dp (as.map f) (as.map g)
  | [], _ => by rw [List.length_nil, Nat.zero_mul]; exact .nil
  | a :: as, h => by
    have := PyL.cons (h a List.mem_cons_self) (PyL.map (as := as) fun x hx => h x (List.mem_cons_of_mem _ hx))
    rw [List.length_cons, Nat.succ_mul, Nat.add_comm]
    exact this
theorem Py.tup (h : PyL M b n dp ds ps) : Py M b (n + 3) (dp + 1) (.tup ds) (.tuple ps) := ⟨fun k => by rw [pyM, h.pm k]; rfl, h.sy.tup, .tup h.hk⟩
theorem Py.obj {i : Nat} (e : M[i]? = some (.lst ds)) (h : PyL M b n dp ds ps) : Py M (b + 1) (n + 3) (dp + 1) (.obj i) (.list ps) :=
  ⟨fun k => by
    rw [← Nat.add_assoc, pyM, e]
    show (pyMs M (k + b) ds).map _ = _
    rw [h.pm k]
    rfl, h.sy.lst, .base ⟨"list", by simp [kindD, e]⟩ fun ds e => by cases e⟩
theorem Py.int {i : Int} (h : i.natAbs < 100000000) : Py M b 10 dp (.int i) (.int i) := ⟨fun k => by rw [pyM], (Sy.int h).mono (Nat.le_refl _) (Nat.zero_le _), .base ⟨"int", rfl⟩ fun ds e => by cases e⟩
theorem Py.bl {v : Bool} : Py M b 10 dp (.bl v) (.bool v) := ⟨fun k => by rw [pyM], (Sy.of (d := 0) (by cases v <;> decide +kernel)).mono (Nat.le_refl _) (Nat.zero_le _), .base ⟨"bool", rfl⟩ fun ds e => by cases e⟩
theorem Py.non : Py M b 10 dp .non .none := ⟨fun k => by rw [pyM], (Sy.of (d := 0) (by decide +kernel)).mono (Nat.le_refl _) (Nat.zero_le _), .base ⟨"NoneType", rfl⟩ fun ds e => by cases e⟩
theorem Py.str {x : Str} (h : chkY 20 0 (.str x) = true) : Py M b 20 dp (.str x) (.str x) := ⟨fun k => by rw [pyM], (Sy.of h).mono (Nat.le_refl _) (Nat.zero_le _), .base ⟨"str", rfl⟩ fun ds e => by cases e⟩
theorem Py.vI {ts : List Int} (h : ∀ x ∈ ts, x.natAbs < 100000000) : Py M b (ts.length * 12 + 3) (dp + 1) (vI ts) (pI ts) := Py.tup (PyL.map (f := D.int) (g := PyData.int) fun a ha => Py.int (h a ha))
/-- what is shown of a datum -/
def Shw (M : Mem) (d : D) (t : Str) : Prop := (∃ n p, pyM M n d = some p ∧ PyData.showable p = true ∧ p.hasDict = false ∧ p.depth ≤ 60 ∧ p.shown.length ≤ sizeLine ∧ t = p.shown) ∨ (∃ i, d = .obj i ∧ M[i]? = some (.dK []) ∧ t = (PyData.dict []).shown) ∨
  ∃ i, d = .tup [.tup [], .obj i] ∧ M[i]? = some (.dK []) ∧ t = (PyData.tuple [.tuple [], .dict []]).shown
structure TxtOk (t : Str) : Prop where
  len : t.length ≤ 200000
  ok : ∀ c ∈ t.cps.toList, c < 16 ^ 8
theorem Py.shw (h : Py M b n dp d p) (hn : n ≤ 200000) (hd : dp ≤ 60) : Shw M d p.shown :=
  .inl ⟨0 + b, p, h.pm 0, h.sy.sz.sh, h.sy.sz.nd, Nat.le_trans h.sy.sz.dp hd, by have := h.sy.sz.ln; rw [sizeLine_eq]; omega, rfl⟩
theorem Sy.txt (h : Sy n dp p) (hn : n ≤ 200000) : TxtOk p.shown := ⟨Nat.le_trans h.sz.ln hn, h.low⟩
/-- a wrong value, and its text -/
def Odd (i j : Nat) (bad : D → Mem → Prop) (M : Mem) (d : D) : Prop := ∃ t, TxtOk t ∧ ∀ M', Fr i j M M' → Shw M' d t ∧ bad d M'
theorem Odd.fr {i j : Nat} {bad : D → Mem → Prop} {M M' : Mem} {d : D} (F : Fr i j M M') (h : Odd i j bad M d) : Odd i j bad M' d := by
  obtain ⟨t, ht, k⟩ := h
  exact ⟨t, ht, fun M2 F2 => k M2 (F.tr F2)⟩
theorem Odd.of {i j : Nat} {bad : D → Mem → Prop} (hn : n ≤ 200000) (hd : dp ≤ 60) (h : ∀ M', Fr i j M M' → Py M' b n dp d p ∧ bad d M') : Odd i j bad M d :=
  ⟨p.shown, (h M (Fr.refl _ _ _)).1.sy.txt hn, fun M' F => ⟨Py.shw (h M' F).1 hn hd, (h M' F).2⟩⟩
end
end Z03
set_option Elab.async false
set_option linter.all false
set_option maxRecDepth 100000
set_option maxHeartbeats 1000000
namespace Z03
open PySem PySem.Spec PyProof.Rows L2 GxR Gn Dl
section
variable {M : Mem} {b n m dp k many most : Nat} {d : D} {p : PyData} {ds es : List D} {Q : KD} {E : KE'} {i j nd : Nat}
theorem ek_all {M : Mem} {n : Nat} : ∀ {es : List D} {ps : List PyData}, pyMs M n es = some ps → PyData.canLayAll0 ps = true → PyData.depthAll ps ≤ 64 → ∀ x ∈ es, Ek M x
  | [], _, _, _, _, x, hx => by cases hx
  | d :: es, ps, e, hc, hd, x, hx => by
    rw [pyMs] at e
    split at e
    · rename_i p r e1 e2
      cases e
      rw [PyData.canLayAll0, Bool.and_eq_true] at hc
      rw [PyData.depthAll] at hd
      have := Nat.le_max_left p.depth (PyData.depthAll r)
      have := Nat.le_max_right p.depth (PyData.depthAll r)
      rcases List.mem_cons.mp hx with rfl | hx
      · exact ⟨n, p, e1, by unfold SeqAt.shaped; rw [hc.1, Bool.true_and]; exact decide_eq_true (by omega)⟩
      · exact ek_all e2 hc.2 (by omega) x hx
    · cases e
theorem Ek.items (h : Ek M (.tup es)) : ∀ x ∈ es, Ek M x := by
  obtain ⟨n, p, e, hs⟩ := h
  rw [pyM] at e
  obtain ⟨ps, e1, rfl⟩ := Option.map_eq_some_iff.mp e
  have h1 := SeqAt.canLay_of_shaped hs
  have h2 := SeqAt.depth_of_shaped hs
  rw [PyData.canLay0] at h1
  rw [PyData.depth] at h2
  exact ek_all e1 h1 (by omega)
end
end Z03
set_option Elab.async false
set_option linter.all false
set_option maxRecDepth 100000
set_option maxHeartbeats 1000000
set_option Elab.async false
set_option linter.all false
set_option maxRecDepth 100000
set_option maxHeartbeats 1000000
namespace Z03
open PySem PySem.Spec PyProof.Rows L2 GxR Gn Dl
section
variable {M : Mem} {b n m dp k many most size : Nat} {d : D} {p : PyData} {ds es : List D} {Q : KD} {E : KE'} {i j nl nd f : Nat} {ps : List Int}
theorem Fr.lst {i j n : Nat} {M M' : Mem} {c : Cell} (F : Fr i j M M') (hi : n ≠ i) (hj : n ≠ j) (e : M[n]? = some c) : M'[n]? = some c := F.at hi hj e
end
end Z03
set_option Elab.async false
set_option linter.all false
set_option maxRecDepth 100000
set_option maxHeartbeats 1000000
set_option Elab.async false
set_option linter.all false
set_option maxRecDepth 100000
set_option maxHeartbeats 1000000
namespace Z03
open PySem PySem.Spec PyProof.Rows L2 GxR Gn Dl
structure Nm (i j f q : Nat) (M0 : Mem) (ds : List D) (M : Mem) : Prop where
  qq : M[q]? = some (.lst ds)
  dk : Dk i j f M
  fr : Fr q q M0 M
section
variable {i j f q : Nat} {M0 M : Mem} {ds : List D} {E : KE'} {D0 : EndsD}
theorem Nm.at (I : Nm i j f q M0 ds M) {G : Mem} : (M ++ G)[q]? = some (.lst ds) := by
  rw [List.getElem?_append_left (List.getElem?_eq_some_iff.mp I.qq).1]; exact I.qq
variable {s0 s1 s6 s7 : Option D} {m k : Nat} {es dd : List D}
end
end Z03
set_option Elab.async false
set_option linter.all false
set_option maxRecDepth 100000
set_option maxHeartbeats 1000000
set_option Elab.async false
set_option linter.all false
set_option maxRecDepth 100000
set_option maxHeartbeats 1000000
set_option Elab.async false
set_option linter.all false
set_option maxRecDepth 100000
set_option maxHeartbeats 1000000
set_option Elab.async false
set_option linter.all false
set_option maxRecDepth 100000
set_option maxHeartbeats 1000000
set_option Elab.async false
set_option linter.all false
set_option maxRecDepth 100000
set_option maxHeartbeats 4000000
set_option Elab.async false
set_option linter.all false
set_option maxRecDepth 100000
set_option maxHeartbeats 4000000
set_option Elab.async false
set_option linter.all false
set_option maxRecDepth 100000
set_option maxHeartbeats 4000000
set_option Elab.async false
set_option linter.all false
set_option maxRecDepth 100000
set_option maxHeartbeats 4000000
set_option Elab.async false
set_option linter.all false
set_option maxRecDepth 100000
set_option maxHeartbeats 4000000
namespace Z03
open PySem PySem.Spec PyProof.Rows L2 GxR Gn Dl
theorem deck_go {scr seed : D} {M : Mem} {alive : Mem → Prop} {Dd : EndsD} {E : KE'} (al : alive M) : ∀ (cs : List Int) (m : Int) (x : Option D), 0 ≤ m → m < 2147483648 →
    (∀ m' x', 0 ≤ m' → m' < 2147483648 → Dd.nx [some scr, some seed, some (.int m'), x'] M) →
    forD (dGN 3) (dSet 2 (dOp modD (dCB Dl.intOfD (dCons (dOp addD (dOp addD (dOp mulA (dVar 2) (dC (.int 47293))) (dOp modD (dCB Dl.intOfD (dCons (dVar 3) (dNil))) (dC (.int 2147483629)))) (dC (.int 61))) (dNil))) (dC (.int 2147483563)))) alive Dd E (cs.map D.int) [some scr, some seed, some (.int m), x] M
  | [], m, x, h0, h1, h => ⟨al, h m x h0 h1⟩
  | c :: cs, m, x, h0, h1, h => by
    refine ⟨al, ?_⟩
    simp
    refine ⟨cmul_of (B := 2147483648) (C := 47293) (by omega) (by omega), ?_⟩
    have p0 : ∀ a : Int, 0 ≤ a.fmod 2147483563 ∧ a.fmod 2147483563 < 2147483563 := fun a => ⟨Int.fmod_nonneg_of_pos a (by decide), Int.fmod_lt_of_pos a (by decide)⟩
    have q0 := p0 (m * 47293 + c.fmod 2147483629 + 61)
    exact deck_go al cs _ _ q0.1 (by omega) h
theorem p__law_deck {ns : List Int} {seed : Int} {Q : KD} {E : KE'} (hl : ns.length ≤ 63) (s0 : 0 ≤ seed) (s1 : seed < 2147483648) (hq : ∀ i j M', Dk i j 1000000 M' → Q (.obj i) M') : sp__law_deck [.scr ns, .int seed] [] Q E := by
  simp [sp__law_deck, r__law_deck]
  rw [cutL_map]
  refine deck_go (by rfl) _ seed none s0 s1 fun m' x' h0 h1 => ?_
  simp
  refine ⟨dkv 4 m' 0, rfl, by show 3 ≤ 15; decide, hq 1 4 _ ⟨(cutL ns none (some 63)).reverse, m', 0, rfl, ?_, by decide, h0, h1, by decide, by decide, ?_⟩⟩
  · rw [cutL_map, ← List.map_reverse]
    rfl
  · rw [List.length_reverse]
    have := cutL_len ns none (some 63)
    omega
theorem p__law_pick_l {i j f : Nat} {ds : List D} {n : Nat} {M : Mem} {Q : KD} {E : KE'} (h : Dk i j (f + 1) M) (hn : M[n]? = some (.lst ds)) (h0 : 0 < ds.length) (h1 : ds.length < 1000) (ni : n ≠ i) (nj : n ≠ j) (hq : ∀ d M', d ∈ ds → Dk i j f M' → Fr i j M M' → Q d M') : sp__law_pick [.obj i, .obj n] M Q E := by
  have hl := (List.getElem?_eq_some_iff.mp hn).1
  simp [sp__law_pick, r__law_pick, hn]
  refine p__law_draw h (by omega) (by omega) fun r M' r0 r1 D1 f1 => ?_
  have hn' : M'[n]? = some (.lst ds) := (f1.2 n hl ni nj).trans hn
  obtain ⟨v, e, hv⟩ := atI_in r0 r1
  exact (ixA_objI hn').mpr ⟨v, e, hq v M' hv D1 f1⟩
end Z03
set_option Elab.async false
set_option linter.all false
set_option maxRecDepth 100000
set_option maxHeartbeats 4000000
set_option Elab.async false
set_option linter.all false
set_option maxRecDepth 100000
set_option maxHeartbeats 4000000
set_option Elab.async false
set_option linter.all false
set_option maxRecDepth 100000
set_option maxHeartbeats 4000000
set_option Elab.async false
set_option linter.all false
set_option maxRecDepth 100000
set_option maxHeartbeats 4000000
set_option Elab.async false
set_option linter.all false
set_option maxRecDepth 100000
set_option maxHeartbeats 4000000
set_option Elab.async false
set_option linter.all false
set_option maxRecDepth 100000
set_option maxHeartbeats 4000000
set_option Elab.async false
set_option linter.all false
set_option maxRecDepth 100000
set_option maxHeartbeats 4000000
set_option Elab.async false
set_option linter.all false
set_option maxRecDepth 100000
set_option maxHeartbeats 4000000
set_option Elab.async false
set_option linter.all false
set_option maxRecDepth 100000
set_option maxHeartbeats 4000000
set_option Elab.async false
set_option linter.all false
set_option maxRecDepth 100000
set_option maxHeartbeats 4000000
set_option Elab.async false
set_option linter.all false
set_option maxRecDepth 100000
set_option maxHeartbeats 4000000
set_option Elab.async false
set_option linter.all false
set_option maxRecDepth 100000
set_option maxHeartbeats 4000000
set_option Elab.async false
set_option linter.all false
set_option maxRecDepth 100000
set_option maxHeartbeats 4000000
set_option Elab.async false
set_option linter.all false
set_option maxRecDepth 100000
set_option maxHeartbeats 4000000
set_option Elab.async false
set_option linter.all false
set_option maxRecDepth 100000
set_option maxHeartbeats 4000000
set_option Elab.async false
set_option linter.all false
set_option maxRecDepth 100000
set_option maxHeartbeats 4000000
set_option Elab.async false
set_option linter.all false
set_option maxRecDepth 100000
set_option maxHeartbeats 4000000
set_option Elab.async false
set_option linter.all false
set_option maxRecDepth 100000
set_option maxHeartbeats 4000000
set_option Elab.async false
set_option linter.all false
set_option maxRecDepth 100000
set_option maxHeartbeats 4000000
set_option Elab.async false
set_option linter.all false
set_option maxRecDepth 100000
set_option maxHeartbeats 4000000
set_option Elab.async false
set_option linter.all false
set_option maxRecDepth 100000
set_option maxHeartbeats 1000000
namespace Z03
open PySem PySem.Spec PyProof.Rows L2 GxR Gn Dl Wn
section
variable {d : D} {M : Mem} {Q : KD} {E : KE'} {m l w k : Int}
section
variable {ds : List D} {a : Nat}
theorem atI_nat {v : D} (h : ds[a]? = some v) : atI ds (a : Int) = some v := by
  have hl := (List.getElem?_eq_some_iff.mp h).1
  have e : L2.ixN ds.length (a : Int) = some a := by
    unfold L2.ixN
    simp
    omega
  unfold L2.atI
  rw [e]
  exact h
end
end
end Z03
set_option Elab.async false
set_option linter.all false
set_option maxRecDepth 100000
set_option maxHeartbeats 1000000
set_option Elab.async false
set_option linter.all false
set_option maxRecDepth 100000
set_option maxHeartbeats 1000000
namespace Z03
open PySem PySem.Spec PyProof.Rows L2 GxR Gn Dl
/-- tuples of not too many items -/
inductive Sm : D → Prop
  | base {d : D} (h : ∀ ds, d ≠ .tup ds) : Sm d
  | tup {ds : List D} (h : ds.length ≤ 1000) (hs : ∀ x ∈ ds, Sm x) : Sm (.tup ds)
theorem Sm.len {d : D} (h : Sm d) : ∀ ds, d = .tup ds → ds.length ≤ 1000 := fun ds e => by
  cases h with
  | base h => exact absurd e (h ds)
  | tup h _ => cases e; exact h
theorem Sm.of {ds : List D} (h : Sm (.tup ds)) : ∀ x ∈ ds, Sm x := by
  cases h with
  | base h => exact absurd rfl (h ds)
  | tup _ hs => exact hs
section
end
end Z03
set_option Elab.async false
set_option linter.all false
set_option maxRecDepth 100000
set_option maxHeartbeats 1000000
set_option Elab.async false
set_option linter.all false
set_option maxRecDepth 100000
set_option maxHeartbeats 1000000
set_option Elab.async false
set_option linter.all false
set_option maxRecDepth 100000
set_option maxHeartbeats 1000000
namespace Z03
open PySem PySem.Spec PyProof.Rows L2 GxR Gn Dl
/-- all stays but the cells i, j and those of qs -/
def F3 (i j : Nat) (q : List Nat) (M M' : Mem) : Prop := M.length ≤ M'.length ∧ ∀ k, k < M.length → k ≠ i → k ≠ j → k ∉ q → M'[k]? = M[k]?
theorem Fr.f3 {i j : Nat} {q : List Nat} {M M' : Mem} (h : Fr i j M M') : F3 i j q M M' := ⟨h.1, fun k a b c _ => h.2 k a b c⟩
theorem F3.refl (i j : Nat) (q : List Nat) (M : Mem) : F3 i j q M M := ⟨Nat.le_refl _, fun _ _ _ _ _ => rfl⟩
theorem F3.tr {i j : Nat} {q : List Nat} {M M1 M2 : Mem} (a : F3 i j q M M1) (b : F3 i j q M1 M2) : F3 i j q M M2 := ⟨Nat.le_trans a.1 b.1, fun k h x y z => (b.2 k (Nat.lt_of_lt_of_le h a.1) x y z).trans (a.2 k h x y z)⟩
theorem F3.at {i j n : Nat} {q : List Nat} {M M' : Mem} {c : Cell} (h : F3 i j q M M') (hi : n ≠ i) (hj : n ≠ j) (hq : n ∉ q) (e : M[n]? = some c) : M'[n]? = some c := (h.2 n (List.getElem?_eq_some_iff.mp e).1 hi hj hq).trans e
theorem F3.set {i j n : Nat} {q : List Nat} {M : Mem} {c : Cell} (h : n ∈ q) : F3 i j q M (M.set n c) := ⟨by simp, fun k _ _ _ h2 => by rw [List.getElem?_set_ne (fun e => h2 (by rw [← e]; exact h))]⟩
mutual
/-- kk: the signs of its ints; tp: tuples within tuples; dp: its depth; n: its text's length -/
inductive Tyv (i j : Nat) (q : List Nat) (M : Mem) : Nat → Nat → Nat → Nat → D → Prop
  | int {k kk tp dp n : Nat} {x : Int} (h : x.natAbs < 10 ^ k) (hk : k ≤ kk) (hn : k + 2 ≤ n) : Tyv i j q M kk tp dp n (.int x)
  | pl {kk tp dp n : Nat} {d : D} {p : PyData} (h : ∀ M', F3 i j q M M' → AnyE M' d p) (hs : p.showable = true) (hd : p.depth ≤ dp) (hn : p.shown.length ≤ n) (nt : (∀ ds, d ≠ .tup ds) ∧ ∀ x, d ≠ .int x) : Tyv i j q M kk tp dp n d
  | tup {kk tp tp' dp dp' n m : Nat} {ds : List D} (h : Tys i j q M kk tp' dp' m ds) (ht : tp' + 1 ≤ tp) (hd : dp' + 1 ≤ dp) (hn : m + 3 ≤ n) (hw : ds.length ≤ kk) : Tyv i j q M kk tp dp n (.tup ds)
inductive Tys (i j : Nat) (q : List Nat) (M : Mem) : Nat → Nat → Nat → Nat → List D → Prop
  | nil {kk tp dp n : Nat} : Tys i j q M kk tp dp n []
  | cons {kk tp dp a m n : Nat} {d : D} {ds : List D} (h : Tyv i j q M kk tp dp a d) (hs : Tys i j q M kk tp dp m ds) (hn : a + 2 + m ≤ n) : Tys i j q M kk tp dp n (d :: ds)
end
section
variable {i j : Nat} {q : List Nat} {M M' : Mem}
theorem int_txt {x : Int} {kk : Nat} (h : x.natAbs < 10 ^ kk) (hk : kk ≤ 500) : (PyData.int x).showable = true ∧ (PyData.int x).depth = 0 ∧ (PyData.int x).shown.length ≤ kk + 2 := by
  by_cases h0 : kk = 0
  · subst h0
    have : x = 0 := by omega
    subst this
    exact ⟨by decide +kernel, by rw [PyData.depth], by decide +kernel⟩
  · have s := sz_dec (k := kk) h (by omega) (by omega)
    exact ⟨s.sh, by rw [PyData.depth], s.ln⟩
/-- its picture -/
structure Pic (i j : Nat) (q : List Nat) (M : Mem) (dp n : Nat) (d : D) (p : PyData) : Prop where
  h : ∀ M', F3 i j q M M' → AnyE M' d p
  sh : p.showable = true
  dp : p.depth ≤ dp
  ln : p.shown.length ≤ n
structure Pics (i j : Nat) (q : List Nat) (M : Mem) (dp n : Nat) (ds : List D) (ps : List PyData) : Prop where
  h : ∀ M', F3 i j q M M' → AnyEs M' ds ps
  sh : PyData.showableAll ps = true
  dp : PyData.depthAll ps ≤ dp
  ln : (Str.join ", " (PyData.shownAll ps)).length ≤ n
theorem Pics.cons {dp a m : Nat} {d : D} {ds : List D} {p : PyData} {ps : List PyData} (h : Pic i j q M dp a d p) (hs : Pics i j q M dp m ds ps) : Pics i j q M dp (a + 2 + m) (d :: ds) (p :: ps) := by
  refine ⟨fun M' F => .cons (h.h M' F) (hs.h M' F), by rw [PyData.showableAll, h.sh, hs.sh]; rfl, by rw [PyData.depthAll]; exact Nat.max_le.mpr ⟨h.dp, hs.dp⟩, ?_⟩
  rw [PyData.shownAll]
  have e1 := h.ln
  have e2 := hs.ln
  cases hr : PyData.shownAll ps with
  | nil =>
    show p.shown.length ≤ _
    omega
  | cons y z =>
    rw [hr] at e2
    show (p.shown ++ ", " ++ Str.join ", " (y :: z)).length ≤ _
    rw [str_app_len, str_app_len]
    have e : ((", " : Str)).length = 2 := rfl
    omega
theorem Pics.tup {dp n : Nat} {ds : List D} {ps : List PyData} (h : Pics i j q M dp n ds ps) : Pic i j q M (dp + 1) (n + 3) (.tup ds) (.tuple ps) := by
  have hd := h.dp
  have hl := h.ln
  refine ⟨fun M' F => .tup (h.h M' F), by rw [PyData.showable]; exact h.sh, by rw [PyData.depth]; omega, ?_⟩
  rw [PyData.shown]
  unfold tupleText
  rw [str_app_len, str_app_len]
  have h3 : ((("(" : Str))).length = 1 := rfl
  have h2 : ((if (PyData.shownAll ps).length == 1 then ",)" else ")" : String) : Str).length ≤ 2 := by split <;> decide
  omega
theorem Pics.lst {dp n m : Nat} {ds : List D} {ps : List PyData} (h : Pics i j q M dp n ds ps) (hi : m ≠ i) (hj : m ≠ j) (hq : m ∉ q) (e : M[m]? = some (.lst ds)) : Pic i j q M (dp + 1) (n + 3) (.obj m) (.list ps) := by
  have hd := h.dp
  have hl := h.ln
  refine ⟨fun M' F => .lst (F.at hi hj hq e) (h.h M' F), by rw [PyData.showable]; exact h.sh, by rw [PyData.depth]; omega, ?_⟩
  rw [PyData.shown, listText_eq_join, str_app_len, str_app_len]
  have h3 : ((("[" : Str))).length = 1 := rfl
  have h5 : ((("]" : Str))).length = 1 := rfl
  omega
mutual
theorem Tyv.pic : ∀ {kk tp dp n : Nat} {d : D}, Tyv i j q M kk tp dp n d → kk ≤ 500 → ∃ p, Pic i j q M dp n d p
  | kk, tp, dp, n, _, .int h hk hn, h5 => by
    obtain ⟨a, b, c⟩ := int_txt h (by omega)
    exact ⟨_, fun _ _ => .int, a, by omega, by omega⟩
  | kk, tp, dp, n, _, .pl h hs hd hn _, _ => ⟨_, h, hs, hd, hn⟩
  | kk, tp, dp, n, _, .tup h _ hd hn _, h5 => by
    obtain ⟨ps, t0⟩ := Tys.pic h h5
    have t := t0.tup
    exact ⟨_, t.h, t.sh, Nat.le_trans t.dp hd, Nat.le_trans t.ln hn⟩
theorem Tys.pic : ∀ {kk tp dp n : Nat} {ds : List D}, Tys i j q M kk tp dp n ds → kk ≤ 500 → ∃ ps, Pics i j q M dp n ds ps
  | kk, tp, dp, n, _, .nil, _ => ⟨[], fun _ _ => .nil, by simp [PyData.showableAll], by simp [PyData.depthAll], by rw [PyData.shownAll]; exact Nat.zero_le _⟩
  | kk, tp, dp, n, _, .cons h hs hn, h5 => by
    obtain ⟨p, a⟩ := Tyv.pic h h5
    obtain ⟨ps, b⟩ := Tys.pic hs h5
    have t := Pics.cons a b
    exact ⟨_, t.h, t.sh, t.dp, Nat.le_trans t.ln hn⟩
end
mutual
theorem Tyv.f3 (F : F3 i j q M M') : ∀ {kk tp dp n : Nat} {d : D}, Tyv i j q M kk tp dp n d → Tyv i j q M' kk tp dp n d
  | _, _, _, _, _, .int h hk hn => .int h hk hn
  | _, _, _, _, _, .pl h hs hd hn nt => .pl (fun M2 F2 => h M2 (F.tr F2)) hs hd hn nt
  | _, _, _, _, _, .tup h ht hd hn hw => .tup (Tys.f3 F h) ht hd hn hw
theorem Tys.f3 (F : F3 i j q M M') : ∀ {kk tp dp n : Nat} {ds : List D}, Tys i j q M kk tp dp n ds → Tys i j q M' kk tp dp n ds
  | _, _, _, _, _, .nil => .nil
  | _, _, _, _, _, .cons h hs hn => .cons (Tyv.f3 F h) (Tys.f3 F hs) hn
end
mutual
theorem Tyv.mono : ∀ {kk tp dp n : Nat} {d : D}, Tyv i j q M kk tp dp n d → ∀ {kk' tp' dp' n' : Nat}, kk ≤ kk' → tp ≤ tp' → dp ≤ dp' → n ≤ n' → Tyv i j q M kk' tp' dp' n' d
  | _, _, _, _, _, .int h hk hn, _, _, _, _, h1, h0, h2, h3 => .int h (by omega) (by omega)
  | _, _, _, _, _, .pl h hs hd hn nt, _, _, _, _, h1, h0, h2, h3 => .pl h hs (Nat.le_trans hd h2) (by omega) nt
  | _, _, _, _, _, .tup h ht hd hn hw, _, _, _, _, h1, h0, h2, h3 => .tup (Tys.mono h h1 (Nat.le_refl _) (Nat.le_refl _) (Nat.le_refl _)) (by omega) (by omega) (by omega) (by omega)
theorem Tys.mono : ∀ {kk tp dp n : Nat} {ds : List D}, Tys i j q M kk tp dp n ds → ∀ {kk' tp' dp' n' : Nat}, kk ≤ kk' → tp ≤ tp' → dp ≤ dp' → n ≤ n' → Tys i j q M kk' tp' dp' n' ds
  | _, _, _, _, _, .nil, _, _, _, _, h1, h0, h2, h3 => .nil
  | _, _, _, _, _, .cons h hs hn, _, _, _, _, h1, h0, h2, h3 => .cons (Tyv.mono h h1 h0 h2 (Nat.le_refl _)) (Tys.mono hs h1 h0 h2 (Nat.le_refl _)) (by omega)
end
theorem Tyv.fr (F : Fr i j M M') {kk tp dp n : Nat} {d : D} (h : Tyv i j q M kk tp dp n d) : Tyv i j q M' kk tp dp n d := h.f3 F.f3
theorem Tys.fr (F : Fr i j M M') {kk tp dp n : Nat} {ds : List D} (h : Tys i j q M kk tp dp n ds) : Tys i j q M' kk tp dp n ds := h.f3 F.f3
variable {kk tp dp n m : Nat} {ds es : List D} {d : D}
theorem Tys.app (h : Tys i j q M kk tp dp n ds) : ∀ {es : List D} {m : Nat}, Tys i j q M kk tp dp m es → Tys i j q M kk tp dp (n + m) (ds ++ es) := by
  revert n
  induction ds with
  | nil => intro n h es m h2; exact h2.mono (Nat.le_refl _) (Nat.le_refl _) (Nat.le_refl _) (by omega)
  | cons d ds ih =>
    intro n h es m h2
    cases h with
    | cons h hs hn => exact .cons h (ih hs h2) (by omega)
theorem Tys.take (h : Tys i j q M kk tp dp n ds) : ∀ k, Tys i j q M kk tp dp n (ds.take k) := by
  revert n
  induction ds with
  | nil => intro n h k; rw [List.take_nil]; exact .nil
  | cons d ds ih =>
    intro n h k
    cases k with
    | zero => exact .nil
    | succ k =>
      cases h with
      | cons h hs hn => exact .cons h (ih hs k) hn
theorem Tys.drop (h : Tys i j q M kk tp dp n ds) : ∀ k, Tys i j q M kk tp dp n (ds.drop k) := by
  revert n
  induction ds with
  | nil => intro n h k; rw [List.drop_nil]; exact .nil
  | cons d ds ih =>
    intro n h k
    cases k with
    | zero => exact h
    | succ k =>
      cases h with
      | cons h hs hn => exact (ih hs k).mono (Nat.le_refl _) (Nat.le_refl _) (Nat.le_refl _) (by omega)
theorem Tys.len (h : Tys i j q M kk tp dp n ds) : 2 * ds.length ≤ n := by
  revert n
  induction ds with
  | nil => intro n h; simp
  | cons d ds ih =>
    intro n h
    cases h with
    | cons h hs hn =>
      have := ih hs
      rw [List.length_cons]
      omega
theorem any_kind {M : Mem} {d : D} {p : PyData} (h : AnyE M d p) : Kn M d := by
  cases h with
  | non => exact ⟨"NoneType", rfl⟩
  | bl => exact ⟨"bool", rfl⟩
  | int => exact ⟨"int", rfl⟩
  | str => exact ⟨"str", rfl⟩
  | tup => exact ⟨"tuple", rfl⟩
  | lst e _ => exact ⟨"list", by simp [kindD, e]⟩
  | dct e _ => exact ⟨"dict", by simp [kindD, e]⟩
mutual
theorem Tyv.hk : ∀ {kk tp dp n : Nat} {d : D}, Tyv i j q M kk tp dp n d → HK M d
  | _, _, _, _, _, .int h hk hn => .base ⟨"int", rfl⟩ fun ds e => by cases e
  | _, _, _, _, _, .pl h hs hd hn nt => .base (any_kind (h M (F3.refl _ _ _ _))) nt.1
  | _, _, _, _, _, .tup h _ hd hn _ => .tup (Tys.hk h)
theorem Tys.hk : ∀ {kk tp dp n : Nat} {ds : List D}, Tys i j q M kk tp dp n ds → ∀ x ∈ ds, HK M x
  | _, _, _, _, _, .nil, x, hx => by cases hx
  | _, _, _, _, _, .cons h hs hn, x, hx => (List.mem_cons.mp hx).elim (fun e => e ▸ Tyv.hk h) (Tys.hk hs x)
end
def chkT (dp n : Nat) (p : PyData) : Bool := p.showable && decide (p.depth ≤ dp) && decide (p.shown.length ≤ n)
theorem Tyv.of {p : PyData} (h : ∀ M', F3 i j q M M' → AnyE M' d p) (hc : chkT dp n p = true) (nt : (∀ ds, d ≠ .tup ds) ∧ ∀ x, d ≠ .int x) : Tyv i j q M kk tp dp n d := by
  unfold chkT at hc
  simp only [Bool.and_eq_true, decide_eq_true_eq] at hc
  exact .pl h hc.1.1 hc.1.2 hc.2 nt
theorem Tyv.bl {b : Bool} (hn : 5 ≤ n) : Tyv i j q M kk tp dp n (.bl b) := (Tyv.of (dp := 0) (n := 5) (p := .bool b) (fun _ _ => .bl) (by cases b <;> decide +kernel) ⟨(fun _ e => by cases e), (fun _ e => by cases e)⟩).mono (Nat.le_refl _) (Nat.le_refl _) (Nat.zero_le _) hn
theorem Tyv.non (hn : 5 ≤ n) : Tyv i j q M kk tp dp n .non := (Tyv.of (dp := 0) (n := 5) (p := .none) (fun _ _ => .non) (by decide +kernel) ⟨(fun _ e => by cases e), (fun _ e => by cases e)⟩).mono (Nat.le_refl _) (Nat.le_refl _) (Nat.zero_le _) hn
theorem Tyv.str {x : Str} (hc : chkT 0 n (.str x) = true) : Tyv i j q M kk tp dp n (.str x) := (Tyv.of (dp := 0) (n := n) (p := .str x) (fun _ _ => .str) hc ⟨(fun _ e => by cases e), (fun _ e => by cases e)⟩).mono (Nat.le_refl _) (Nat.le_refl _) (Nat.zero_le _) (Nat.le_refl _)
theorem kv_pic {m : Nat} {ds : List D} {ps : List PyData} {l : Int} (h : Pics i j q M dp n ds ps) (hl : l.natAbs < 10 ^ 4) (hi : m ≠ i) (hj : m ≠ j) (hq : m ∉ q) (e : M[m]? = some (.lst ds)) {m2 : Nat} (hi2 : m2 ≠ i) (hj2 : m2 ≠ j) (hq2 : m2 ∉ q) (e2 : M[m2]? = some (.dK [(.inr "key", .obj m), (.inl 1, .int l)])) :
    Pic i j q M (dp + 2) (n + 30) (.obj m2) (.dict [(.str "key", .list ps), (.int 1, .int l)]) := by
  have P := h.lst hi hj hq e
  obtain ⟨s1, d1, l1⟩ := int_txt (x := l) (kk := 4) hl (by omega)
  have k1 : chkT 0 5 (.str "key") = true := by decide +kernel
  have k2 : chkT 0 1 (.int 1) = true := by decide +kernel
  unfold chkT at k1 k2
  simp only [Bool.and_eq_true, decide_eq_true_eq] at k1 k2
  have p1 := P.dp
  have p2 := P.ln
  have p3 := P.sh
  refine ⟨fun M' F => .dct (F.at hi2 hj2 hq2 e2) (.cons (P.h M' F) (.cons .int .nil)), ?_, ?_, ?_⟩
  · rw [PyData.showable, PyData.showableKv, PyData.showableKv, PyData.showableKv]
    simp [k1.1.1, k2.1.1, p3, s1]
  · rw [PyData.depth, PyData.depthKv, PyData.depthKv, PyData.depthKv, d1]
    have := k1.1.2
    have := k2.1.2
    omega
  · rw [PyData.shown, PyData.shownKv, PyData.shownKv, PyData.shownKv]
    unfold dictText
    have e3 : ((": " : Str)).length = 2 := rfl
    have e4 : ((", " : Str)).length = 2 := rfl
    have e5 : ((("{" : Str))).length = 1 := rfl
    have e6 : ((("}" : Str))).length = 1 := rfl
    have := k1.2
    have := k2.2
    simp only [Str.join, str_app_len]
    omega
theorem Tys.dct {m m2 a : Nat} {l : Int} (h : Tys i j q M kk tp dp a ds) (h5 : kk ≤ 500) (hl : l.natAbs < 10 ^ 4) (hi : m ≠ i) (hj : m ≠ j) (hq : m ∉ q) (e : M[m]? = some (.lst ds)) (hi2 : m2 ≠ i) (hj2 : m2 ≠ j) (hq2 : m2 ∉ q) (e2 : M[m2]? = some (.dK [(.inr "key", .obj m), (.inl 1, .int l)])) (hn : a + 30 ≤ n) : Tyv i j q M kk tp (dp + 2) n (.obj m2) := by
  obtain ⟨ps, t0⟩ := h.pic h5
  have t := kv_pic t0 hl hi hj hq e hi2 hj2 hq2 e2
  exact .pl t.h t.sh t.dp (Nat.le_trans t.ln hn) ⟨(fun _ e => by cases e), (fun _ e => by cases e)⟩
theorem Tys.lst {m a : Nat} (h : Tys i j q M kk tp dp a ds) (h5 : kk ≤ 500) (hi : m ≠ i) (hj : m ≠ j) (hq : m ∉ q) (e : M[m]? = some (.lst ds)) (hn : a + 3 ≤ n) : Tyv i j q M kk tp (dp + 1) n (.obj m) := by
  obtain ⟨ps, t0⟩ := h.pic h5
  have t := t0.lst hi hj hq e
  exact .pl t.h t.sh t.dp (Nat.le_trans t.ln hn) ⟨(fun _ e => by cases e), (fun _ e => by cases e)⟩
end
end Z03
set_option Elab.async false
set_option linter.all false
set_option maxRecDepth 100000
set_option maxHeartbeats 1000000
namespace Z03
open PySem PySem.Spec PyProof.Rows L2 GxR Gn Dl
section
variable {i j f : Nat} {q : List Nat} {M M' : Mem} {kk tp dp n m : Nat} {x y z : D} {Q : KD} {E : KE'}
theorem Tyv.s {v : Str} (h : chkT 0 60 (.str v) = true) : Tyv i j q M 41 tp dp 60 (.str v) := Tyv.str h
theorem Tyv.b {b : Bool} : Tyv i j q M 41 tp dp 60 (.bl b) := Tyv.bl (by omega)
theorem Tyv.o : Tyv i j q M 41 tp dp 60 .non := Tyv.non (by omega)
variable {D0 : EndsD} {s2 s3 s4 : Option D} {l : Nat}
end
end Z03
set_option Elab.async false
set_option linter.all false
set_option maxRecDepth 100000
set_option maxHeartbeats 1000000
namespace Z03
open PySem PySem.Spec PyProof.Rows L2 GxR Gn Dl
section
variable {i j f : Nat} {q : List Nat} {M M' : Mem} {kk tp dp n m : Nat} {x y z : D} {Q : KD} {E : KE'} {l w a : Nat} {ds : List D} {D0 : EndsD} {s3 s4 : Option D} {d : D}
def Res (i j f : Nat) (q : List Nat) (M : Mem) (kk tp dp n : Nat) (Q : KD) : Prop := ∀ x M', Tyv i j q M' kk tp dp n x → Dk i j f M' → Fr i j M M' → Q x M'
theorem Res.fr {M1 : Mem} {k1 t1 d1 n1 : Nat} (h : Res i j f q M kk tp dp n Q) (F : Fr i j M M1) (hk : k1 ≤ kk) (ht : t1 ≤ tp) (hd : d1 ≤ dp) (hn : n1 ≤ n) : Res i j f q M1 k1 t1 d1 n1 Q := fun x M' hx D' F' => h x M' (hx.mono hk ht hd hn) D' (F.tr F')
end
end Z03
set_option Elab.async false
set_option linter.all false
set_option maxRecDepth 100000
set_option maxHeartbeats 1000000
set_option Elab.async false
set_option linter.all false
set_option maxRecDepth 100000
set_option maxHeartbeats 1000000
namespace Z03
open PySem PySem.Spec PyProof.Rows L2 GxR Gn Dl
def Fv (tp dp n : Nat) (d : D) : Prop := ∀ (i j : Nat) (q : List Nat) (M : Mem), Tyv i j q M 110 tp dp n d
def Fvs (tp dp n : Nat) (ds : List D) : Prop := ∀ (i j : Nat) (q : List Nat) (M : Mem), Tys i j q M 110 tp dp n ds
section
variable {tp dp n m tp' dp' n' : Nat} {d : D} {ds es : List D}
theorem Fv.up (h : Fv tp dp n d) (h1 : tp ≤ tp' := by omega) (h2 : dp ≤ dp' := by omega) (h3 : n ≤ n' := by omega) : Fv tp' dp' n' d := fun i j q M => (h i j q M).mono (Nat.le_refl _) h1 h2 h3
theorem Fvs.up (h : Fvs tp dp n ds) (h1 : tp ≤ tp' := by omega) (h2 : dp ≤ dp' := by omega) (h3 : n ≤ n' := by omega) : Fvs tp' dp' n' ds := fun i j q M => (h i j q M).mono (Nat.le_refl _) h1 h2 h3
theorem Fv.int {x : Int} (h : x.natAbs < 10000) : Fv 0 0 6 (.int x) := fun i j q M => .int (k := 4) h (by omega) (by omega)
theorem Fv.str {x : Str} (h : chkT 0 n (.str x) = true) : Fv 0 0 n (.str x) := fun i j q M => Tyv.str h
theorem Fv.bl {b : Bool} : Fv 0 0 5 (.bl b) := fun i j q M => .bl (by omega)
theorem Fvs.nil : Fvs tp dp 0 [] := fun i j q M => .nil
theorem Fvs.cons (h : Fv tp dp n d) (hs : Fvs tp dp m ds) : Fvs tp dp (n + 2 + m) (d :: ds) := fun i j q M => .cons (h i j q M) (hs i j q M) (Nat.le_refl _)
theorem Fvs.app (h : Fvs tp dp n ds) (hs : Fvs tp dp m es) : Fvs tp dp (n + m) (ds ++ es) := fun i j q M => (h i j q M).app (hs i j q M)
theorem Fv.tup (h : Fvs tp dp n ds) (hl : ds.length ≤ 110) : Fv (tp + 1) (dp + 1) (n + 3) (.tup ds) := fun i j q M => .tup (h i j q M) (Nat.le_refl _) (Nat.le_refl _) (Nat.le_refl _) hl
theorem Fvs.map {α : Type} {f : α → D} : ∀ {as : List α}, (∀ a ∈ as, Fv tp dp n (f a)) → Fvs tp dp ((n + 2) * as.length) (as.map f)
  | [], _ => (Fvs.nil (tp := tp) (dp := dp)).up
  | a :: as, h => (Fvs.cons (h a (by simp)) (Fvs.map fun b hb => h b (by simp [hb]))).up (Nat.le_refl _) (Nat.le_refl _) (by rw [List.length_cons, Nat.mul_succ]; omega)
theorem Fv.mapT {α : Type} {f : α → D} {as : List α} {k : Nat} (h : ∀ a ∈ as, Fv tp dp n (f a)) (hk : as.length ≤ k) (h110 : k ≤ 110) : Fv (tp + 1) (dp + 1) ((n + 2) * k + 3) (.tup (as.map f)) :=
  (Fv.tup (Fvs.map h) (by simp; omega)).up (Nat.le_refl _) (Nat.le_refl _) (by have := Nat.mul_le_mul_left (n + 2) hk; omega)
theorem Fv.vI {ns : List Int} {k : Nat} (h : ∀ x ∈ ns, x.natAbs < 10000) (hk : ns.length ≤ k) (h110 : k ≤ 110) : Fv 1 1 (8 * k + 3) (Dl.vI ns) := Fv.mapT (fun x hx => Fv.int (h x hx)) hk h110
theorem Fv.mI {rows : List (List Int)} {k w : Nat} (h : ∀ r ∈ rows, r.length ≤ w ∧ Bd 5 r) (hk : rows.length ≤ k) (h110 : k ≤ 110) (hw : w ≤ 110) : Fv 2 2 ((8 * w + 5) * k + 3) (mI rows) :=
  Fv.mapT (fun r hr => Fv.vI (fun x hx => by have := (h r hr).2 x hx; omega) (h r hr).1 hw) hk h110
structure NetF (N : Net) : Prop where
  B : NetB N
  em : ∀ r ∈ N.embeds, r.length ≤ 3 ∧ Bd 5 r
  le : N.embeds.length ≤ 6
  pl : ∀ r ∈ N.places, r.length ≤ 3 ∧ Bd 5 r
  ou : ∀ r ∈ N.outs, r.length ≤ 3 ∧ Bd 5 r
  lo : N.outs.length ≤ 6
  ly : ∀ L ∈ N.layers, L.length = 4 ∧ ∀ m ∈ L, m.length ≤ 3 ∧ ∀ r ∈ m, r.length ≤ 3 ∧ Bd 5 r
theorem NetB.f {N : Net} (B : NetB N) : NetF N where
  B := B
  em := fun r hr => ⟨by have := B.O.ew r hr; have := B.w3; omega, B.eb r hr⟩
  le := by have := B.O.el; have := B.m5; omega
  pl := fun r hr => ⟨by have := B.O.pw r hr; have := B.w3; omega, B.pb r hr⟩
  ou := fun r hr => ⟨by have := B.O.ow r hr; have := B.w3; omega, B.ob r hr⟩
  lo := by have := B.O.ol; have := B.m5; omega
  ly := fun L hL => ⟨(B.O.ly L hL).1, fun m hm => ⟨by have := ((B.O.ly L hL).2 m hm).1; have := B.w3; omega, fun r hr => ⟨by have := ((B.O.ly L hL).2 m hm).2 r hr; have := B.w3; omega, B.lb L hL m hm r hr⟩⟩⟩
theorem Fv.ly {L : List (List (List Int))} (h4 : L.length ≤ 4) (h : ∀ m ∈ L, m.length ≤ 3 ∧ ∀ r ∈ m, r.length ≤ 3 ∧ Bd 5 r) : Fv 3 3 371 (lyD L) :=
  Fv.mapT (k := 4) (fun m hm => Fv.mI (k := 3) (w := 3) (h m hm).2 (h m hm).1 (by omega) (by omega)) h4 (by omega)
theorem Fv.ent {e : Wn.Ent} {m k : Nat} (h : Wn.EOk m k e) (hm : m ≤ 8) (hk : k ≤ 3) : Fv 2 2 101 (Wn.entD e) := by
  have h1 : Fv 1 1 27 (Dl.vI e.1) := Fv.vI (k := 3) (fun x hx => by have := h.1.1 x hx; omega) (by have := h.1.2; omega) (by omega)
  have h2 : Fv 1 1 67 (Dl.vI e.2) := Fv.vI (k := 8) (fun x hx => by have := h.2.bd x hx; omega) (by have := h.2.len; omega) (by omega)
  exact (Fv.tup (Fvs.cons h1 (Fvs.cons h2 Fvs.nil)) (by simp)).up
structure WinF (W : Wn.Win) : Prop where
  B : Wn.WinB W
  many : 2 ≤ W.many ∧ W.many ≤ 8
  k : 0 ≤ W.k ∧ W.k ≤ 3
  few : W.ents.length ≤ 100
  ents : ∀ e ∈ W.ents, Fv 2 2 101 (Wn.entD e)
  dl : (W.dflt.length : Int) = W.many
  db : ∀ x ∈ W.dflt, x.natAbs < 10000
theorem Wn.WinB.f {W : Wn.Win} (B : Wn.WinB W) (hf : W.ents.length ≤ 100) : WinF W := by
  obtain ⟨m, k, e1, e2, h2, h8, h3, he, hd⟩ := B.ex
  exact ⟨B, by omega, by omega, hf, fun e h => Fv.ent (he e h) (by omega) (by omega), by rw [hd.len]; omega, fun x hx => by have := hd.bd x hx; omega⟩
theorem WinF.el {W : Wn.Win} (F : WinF W) : Fv 4 5 11000 (.tup (W.ents.map Wn.entD)) := (Fv.mapT (k := 100) F.ents F.few (by omega)).up
end
end Z03
set_option Elab.async false
set_option linter.all false
set_option maxRecDepth 100000
set_option maxHeartbeats 4000000
set_option Elab.async false
set_option linter.all false
set_option maxRecDepth 100000
set_option maxHeartbeats 1000000
set_option Elab.async false
set_option linter.all false
set_option maxRecDepth 100000
set_option maxHeartbeats 1000000
set_option Elab.async false
set_option linter.all false
set_option maxRecDepth 100000
set_option maxHeartbeats 1000000
set_option Elab.async false
set_option linter.all false
set_option maxRecDepth 100000
set_option maxHeartbeats 4000000
set_option Elab.async false
set_option linter.all false
set_option maxRecDepth 100000
set_option maxHeartbeats 4000000
set_option Elab.async false
set_option linter.all false
set_option maxRecDepth 100000
set_option maxHeartbeats 4000000
set_option Elab.async false
set_option linter.all false
set_option maxRecDepth 100000
set_option maxHeartbeats 4000000
set_option Elab.async false
set_option linter.all false
set_option maxRecDepth 100000
set_option maxHeartbeats 4000000
set_option Elab.async false
set_option linter.all false
set_option maxRecDepth 100000
set_option maxHeartbeats 4000000
set_option Elab.async false
set_option linter.all false
set_option maxRecDepth 100000
set_option maxHeartbeats 4000000
set_option Elab.async false
set_option linter.all false
set_option maxRecDepth 100000
set_option maxHeartbeats 4000000
set_option Elab.async false
set_option linter.all false
set_option maxRecDepth 100000
set_option maxHeartbeats 4000000
set_option Elab.async false
set_option linter.all false
set_option maxRecDepth 100000
set_option maxHeartbeats 4000000
set_option Elab.async false
set_option linter.all false
set_option maxRecDepth 100000
set_option maxHeartbeats 4000000
set_option Elab.async false
set_option linter.all false
set_option maxRecDepth 100000
set_option maxHeartbeats 4000000
set_option Elab.async false
set_option linter.all false
set_option maxRecDepth 100000
set_option maxHeartbeats 4000000
set_option Elab.async false
set_option linter.all false
set_option maxRecDepth 100000
set_option maxHeartbeats 4000000
set_option Elab.async false
set_option linter.all false
set_option maxRecDepth 100000
set_option maxHeartbeats 4000000
set_option Elab.async false
set_option linter.all false
set_option maxRecDepth 100000
set_option maxHeartbeats 4000000
set_option Elab.async false
set_option linter.all false
set_option maxRecDepth 100000
set_option maxHeartbeats 4000000
set_option Elab.async false
set_option linter.all false
set_option maxRecDepth 100000
set_option maxHeartbeats 4000000
set_option Elab.async false
set_option linter.all false
set_option maxRecDepth 100000
set_option maxHeartbeats 4000000
set_option Elab.async false
set_option linter.all false
set_option maxRecDepth 100000
set_option maxHeartbeats 4000000
set_option Elab.async false
set_option linter.all false
set_option maxRecDepth 100000
set_option maxHeartbeats 4000000
set_option Elab.async false
set_option linter.all false
set_option maxRecDepth 100000
set_option maxHeartbeats 4000000
set_option Elab.async false
set_option linter.all false
set_option maxRecDepth 100000
set_option maxHeartbeats 4000000
set_option Elab.async false
set_option linter.all false
set_option maxRecDepth 100000
set_option maxHeartbeats 4000000
set_option Elab.async false
set_option linter.all false
set_option maxRecDepth 100000
set_option maxHeartbeats 4000000
set_option Elab.async false
set_option linter.all false
set_option maxRecDepth 100000
set_option maxHeartbeats 4000000
set_option Elab.async false
set_option linter.all false
set_option maxRecDepth 100000
set_option maxHeartbeats 4000000
set_option Elab.async false
set_option linter.all false
set_option maxRecDepth 100000
set_option maxHeartbeats 4000000
set_option Elab.async false
set_option linter.all false
set_option maxRecDepth 100000
set_option maxHeartbeats 4000000
set_option Elab.async false
set_option linter.all false
set_option maxRecDepth 100000
set_option maxHeartbeats 4000000
set_option Elab.async false
set_option linter.all false
set_option maxRecDepth 100000
set_option maxHeartbeats 4000000
set_option Elab.async false
set_option linter.all false
set_option maxRecDepth 100000
set_option maxHeartbeats 4000000
set_option Elab.async false
set_option linter.all false
set_option maxRecDepth 100000
set_option maxHeartbeats 4000000
set_option Elab.async false
set_option linter.all false
set_option maxRecDepth 100000
set_option maxHeartbeats 4000000
set_option Elab.async false
set_option linter.all false
set_option maxRecDepth 100000
set_option maxHeartbeats 4000000
set_option Elab.async false
set_option linter.all false
set_option maxRecDepth 100000
set_option maxHeartbeats 4000000
set_option Elab.async false
set_option linter.all false
set_option maxRecDepth 100000
set_option maxHeartbeats 4000000
set_option Elab.async false
set_option linter.all false
set_option maxRecDepth 100000
set_option maxHeartbeats 4000000
set_option Elab.async false
set_option linter.all false
set_option maxRecDepth 100000
set_option maxHeartbeats 4000000
set_option Elab.async false
set_option linter.all false
set_option maxRecDepth 100000
set_option maxHeartbeats 4000000
set_option Elab.async false
set_option linter.all false
set_option maxRecDepth 100000
set_option maxHeartbeats 4000000
set_option Elab.async false
set_option linter.all false
set_option maxRecDepth 100000
set_option maxHeartbeats 4000000
set_option Elab.async false
set_option linter.all false
set_option maxRecDepth 100000
set_option maxHeartbeats 4000000
set_option Elab.async false
set_option linter.all false
set_option maxRecDepth 100000
set_option maxHeartbeats 4000000
set_option Elab.async false
set_option linter.all false
set_option maxRecDepth 100000
set_option maxHeartbeats 4000000
set_option Elab.async false
set_option linter.all false
set_option maxRecDepth 100000
set_option maxHeartbeats 4000000
set_option Elab.async false
set_option linter.all false
set_option maxRecDepth 100000
set_option maxHeartbeats 4000000
set_option Elab.async false
set_option linter.all false
set_option maxRecDepth 100000
set_option maxHeartbeats 4000000
set_option Elab.async false
set_option linter.all false
set_option maxRecDepth 100000
set_option maxHeartbeats 4000000
set_option Elab.async false
set_option linter.all false
set_option maxRecDepth 100000
set_option maxHeartbeats 4000000
set_option Elab.async false
set_option linter.all false
set_option maxRecDepth 100000
set_option maxHeartbeats 4000000
set_option Elab.async false
set_option linter.all false
set_option maxRecDepth 100000
set_option maxHeartbeats 4000000
set_option Elab.async false
set_option linter.all false
set_option maxRecDepth 100000
set_option maxHeartbeats 4000000
set_option Elab.async false
set_option linter.all false
set_option maxRecDepth 100000
set_option maxHeartbeats 4000000
set_option Elab.async false
set_option linter.all false
set_option maxRecDepth 100000
set_option maxHeartbeats 4000000
set_option Elab.async false
set_option linter.all false
set_option maxRecDepth 100000
set_option maxHeartbeats 4000000
set_option Elab.async false
set_option linter.all false
set_option maxRecDepth 100000
set_option maxHeartbeats 4000000
set_option Elab.async false
set_option linter.all false
set_option maxRecDepth 100000
set_option maxHeartbeats 4000000
set_option Elab.async false
set_option linter.all false
set_option maxRecDepth 100000
set_option maxHeartbeats 4000000
set_option Elab.async false
set_option linter.all false
set_option maxRecDepth 100000
set_option maxHeartbeats 4000000
set_option Elab.async false
set_option linter.all false
set_option maxRecDepth 100000
set_option maxHeartbeats 4000000
set_option Elab.async false
set_option linter.all false
set_option maxRecDepth 100000
set_option maxHeartbeats 4000000
set_option Elab.async false
set_option linter.all false
set_option maxRecDepth 100000
set_option maxHeartbeats 4000000
set_option Elab.async false
set_option linter.all false
set_option maxRecDepth 100000
set_option maxHeartbeats 4000000
set_option Elab.async false
set_option linter.all false
set_option maxRecDepth 100000
set_option maxHeartbeats 4000000
set_option Elab.async false
set_option linter.all false
set_option maxRecDepth 100000
set_option maxHeartbeats 4000000
set_option Elab.async false
set_option linter.all false
set_option maxRecDepth 100000
set_option maxHeartbeats 1000000
set_option Elab.async false
set_option linter.all false
set_option maxRecDepth 100000
set_option maxHeartbeats 1000000
set_option Elab.async false
set_option linter.all false
set_option maxRecDepth 100000
set_option maxHeartbeats 1000000
set_option Elab.async false
set_option linter.all false
set_option maxRecDepth 100000
set_option maxHeartbeats 1000000
set_option Elab.async false
set_option linter.all false
set_option maxRecDepth 100000
set_option maxHeartbeats 1000000
set_option Elab.async false
set_option linter.all false
set_option maxRecDepth 100000
set_option maxHeartbeats 4000000
set_option Elab.async false
set_option linter.all false
set_option maxRecDepth 100000
set_option maxHeartbeats 4000000
set_option Elab.async false
set_option linter.all false
set_option maxRecDepth 100000
set_option maxHeartbeats 4000000
set_option Elab.async false
set_option linter.all false
set_option maxRecDepth 100000
set_option maxHeartbeats 4000000
set_option Elab.async false
set_option linter.all false
set_option maxRecDepth 100000
set_option maxHeartbeats 4000000
set_option Elab.async false
set_option linter.all false
set_option maxRecDepth 100000
set_option maxHeartbeats 4000000
set_option Elab.async false
set_option linter.all false
set_option maxRecDepth 100000
set_option maxHeartbeats 4000000
set_option Elab.async false
set_option linter.all false
set_option maxRecDepth 100000
set_option maxHeartbeats 4000000
set_option Elab.async false
set_option linter.all false
set_option maxRecDepth 100000
set_option maxHeartbeats 4000000
set_option Elab.async false
set_option linter.all false
set_option maxRecDepth 100000
set_option maxHeartbeats 4000000
set_option Elab.async false
set_option linter.all false
set_option maxRecDepth 100000
set_option maxHeartbeats 4000000
set_option Elab.async false
set_option linter.all false
set_option maxRecDepth 100000
set_option maxHeartbeats 4000000
set_option Elab.async false
set_option linter.all false
set_option maxRecDepth 100000
set_option maxHeartbeats 4000000
set_option Elab.async false
set_option linter.all false
set_option maxRecDepth 100000
set_option maxHeartbeats 4000000
set_option Elab.async false
set_option linter.all false
set_option maxRecDepth 100000
set_option maxHeartbeats 4000000
set_option Elab.async false
set_option linter.all false
set_option maxRecDepth 100000
set_option maxHeartbeats 4000000
set_option Elab.async false
set_option linter.all false
set_option maxRecDepth 100000
set_option maxHeartbeats 1000000
set_option Elab.async false
set_option linter.all false
set_option maxRecDepth 100000
set_option maxHeartbeats 1000000
set_option Elab.async false
set_option linter.all false
set_option maxRecDepth 100000
set_option maxHeartbeats 1000000
set_option Elab.async false
set_option linter.all false
set_option maxRecDepth 100000
set_option maxHeartbeats 1000000
set_option Elab.async false
set_option linter.all false
set_option maxRecDepth 100000
set_option maxHeartbeats 1000000
set_option Elab.async false
set_option linter.all false
set_option maxRecDepth 100000
set_option maxHeartbeats 1000000
set_option Elab.async false
set_option linter.all false
set_option maxRecDepth 100000
set_option maxHeartbeats 1000000
set_option Elab.async false
set_option linter.all false
set_option maxRecDepth 100000
set_option maxHeartbeats 1000000
set_option Elab.async false
set_option linter.all false
set_option maxRecDepth 100000
set_option maxHeartbeats 1000000
set_option Elab.async false
set_option linter.all false
set_option maxRecDepth 100000
set_option maxHeartbeats 1000000
set_option Elab.async false
set_option linter.all false
set_option maxRecDepth 100000
set_option maxHeartbeats 1000000
set_option Elab.async false
set_option linter.all false
set_option maxRecDepth 100000
set_option maxHeartbeats 4000000
set_option Elab.async false
set_option linter.all false
set_option maxRecDepth 100000
set_option maxHeartbeats 4000000
set_option Elab.async false
set_option linter.all false
set_option maxRecDepth 100000
set_option maxHeartbeats 4000000
set_option Elab.async false
set_option linter.all false
set_option maxRecDepth 100000
set_option maxHeartbeats 4000000
set_option Elab.async false
set_option linter.all false
set_option maxRecDepth 100000
set_option maxHeartbeats 4000000
set_option Elab.async false
set_option linter.all false
set_option maxRecDepth 100000
set_option maxHeartbeats 4000000
set_option Elab.async false
set_option linter.all false
set_option maxRecDepth 100000
set_option maxHeartbeats 4000000
set_option Elab.async false
set_option linter.all false
set_option maxRecDepth 100000
set_option maxHeartbeats 4000000
set_option Elab.async false
set_option linter.all false
set_option maxRecDepth 100000
set_option maxHeartbeats 4000000
set_option Elab.async false
set_option linter.all false
set_option maxRecDepth 100000
set_option maxHeartbeats 4000000
set_option Elab.async false
set_option linter.all false
set_option maxRecDepth 100000
set_option maxHeartbeats 4000000
set_option Elab.async false
set_option linter.all false
set_option maxRecDepth 100000
set_option maxHeartbeats 4000000
set_option Elab.async false
set_option linter.all false
set_option maxRecDepth 100000
set_option maxHeartbeats 4000000
set_option Elab.async false
set_option linter.all false
set_option maxRecDepth 100000
set_option maxHeartbeats 4000000
set_option Elab.async false
set_option linter.all false
set_option maxRecDepth 100000
set_option maxHeartbeats 4000000
set_option Elab.async false
set_option linter.all false
set_option maxRecDepth 100000
set_option maxHeartbeats 4000000
set_option Elab.async false
set_option linter.all false
set_option maxRecDepth 100000
set_option maxHeartbeats 4000000
set_option Elab.async false
set_option linter.all false
set_option maxRecDepth 100000
set_option maxHeartbeats 4000000
set_option Elab.async false
set_option linter.all false
set_option maxRecDepth 100000
set_option maxHeartbeats 4000000
set_option Elab.async false
set_option linter.all false
set_option maxRecDepth 100000
set_option maxHeartbeats 4000000
set_option Elab.async false
set_option linter.all false
set_option maxRecDepth 100000
set_option maxHeartbeats 4000000
set_option Elab.async false
set_option linter.all false
set_option maxRecDepth 100000
set_option maxHeartbeats 4000000
set_option Elab.async false
set_option linter.all false
set_option maxRecDepth 100000
set_option maxHeartbeats 4000000
set_option Elab.async false
set_option linter.all false
set_option maxRecDepth 100000
set_option maxHeartbeats 4000000
set_option Elab.async false
set_option linter.all false
set_option maxRecDepth 100000
set_option maxHeartbeats 4000000
set_option Elab.async false
set_option linter.all false
set_option maxRecDepth 100000
set_option maxHeartbeats 1000000
set_option Elab.async false
set_option linter.all false
set_option maxRecDepth 100000
set_option maxHeartbeats 1000000
set_option Elab.async false
set_option linter.all false
set_option maxRecDepth 100000
set_option maxHeartbeats 1000000
set_option Elab.async false
set_option linter.all false
set_option maxRecDepth 100000
set_option maxHeartbeats 1000000
set_option Elab.async false
set_option linter.all false
set_option maxRecDepth 100000
set_option maxHeartbeats 1000000
namespace Z03
open PySem PySem.Spec PyProof.Rows L2 GxR Gn Dl
theorem chr_ge (q c : Nat) : 1 ≤ (PySem.Builtin.Str.reprChar q c).length := by
  unfold PySem.Builtin.Str.reprChar
  dsimp only
  repeat' split
  all_goals simp only [List.length_append, List.length_cons, List.length_nil]
  all_goals omega
theorem fold_ge (q : Nat) : ∀ (l : List Nat) (acc : Array Nat), acc.size + l.length ≤ (l.foldl (fun out c => out ++ (PySem.Builtin.Str.reprChar q c).toArray) acc).size
  | [], acc => Nat.le_refl _
  | c :: r, acc => by
    have ih := fold_ge q r (acc ++ (PySem.Builtin.Str.reprChar q c).toArray)
    have := chr_ge q c
    simp only [List.foldl_cons, List.length_cons]
    simp only [Array.size_append, List.size_toArray] at ih
    omega
theorem txt_ge (x : Str) : x.length + 2 ≤ (reprText x).length := by
  unfold reprText
  show _ ≤ ((x.cps.foldl (fun out c => out ++ (PySem.Builtin.Str.reprChar (reprQuote x) c).toArray) #[reprQuote x]).push (reprQuote x)).size
  rw [Array.size_push, ← Array.foldl_toList]
  have := fold_ge (reprQuote x) x.cps.toList #[reprQuote x]
  have e1 : (#[reprQuote x] : Array Nat).size = 1 := rfl
  have e : x.cps.toList.length = x.length := by simp [Str.length]
  omega
/-- sizes of a value of any kind -/
inductive Sz2 : D → Prop
  | base {d : D} (h : ∀ ds, d ≠ .tup ds) (hs : ∀ z, d = .str z → z.length ≤ 3990) : Sz2 d
  | tup {ds : List D} (hl : ds.length ≤ 1000) (h : ∀ x ∈ ds, Sz2 x) : Sz2 (.tup ds)
theorem Sz2.str {z : Str} (h : Sz2 (.str z)) : z.length ≤ 3990 := by
  cases h with
  | base _ hs => exact hs z rfl
theorem Sz2.len {ds : List D} (h : Sz2 (.tup ds)) : ds.length ≤ 1000 := by
  cases h with
  | base n _ => exact absurd rfl (n ds)
  | tup hl _ => exact hl
theorem Sz2.of {ds : List D} (h : Sz2 (.tup ds)) : ∀ x ∈ ds, Sz2 x := by
  cases h with
  | base n _ => exact absurd rfl (n ds)
  | tup _ h => exact h
section
variable {i j : Nat} {q : List Nat} {M : Mem}
mutual
theorem Tyv.sz2 : ∀ {kk tp dp n : Nat} {d : D}, Tyv i j q M kk tp dp n d → kk ≤ 1000 → n ≤ 3992 → Sz2 d
  | _, _, _, _, _, .tup h _ _ _ hl, hk, hn => .tup (by omega) (h.sz2 hk (by omega))
  | _, _, _, _, _, .int _ _ _, _, _ => .base (fun _ e => by cases e) (fun _ e => by cases e)
  | _, _, _, _, _, .pl h _ _ hp nt, hk, hn => .base nt.1 fun z e => by
    subst e
    have := h M (F3.refl _ _ _ _)
    cases this
    have := txt_ge z
    have e : (PyData.str z).shown = reprText z := by rw [PyData.shown]
    rw [e] at hp
    omega
theorem Tys.sz2 : ∀ {kk tp dp n : Nat} {ds : List D}, Tys i j q M kk tp dp n ds → kk ≤ 1000 → n ≤ 3992 → ∀ x ∈ ds, Sz2 x
  | _, _, _, _, _, .nil, _, _ => fun x hx => by cases hx
  | _, _, _, _, _, .cons h hs _, hk, hn => fun x hx => by
    rcases List.mem_cons.mp hx with rfl | hx
    · exact h.sz2 hk (by omega)
    · exact hs.sz2 hk (by omega) x hx
end
end
def lowC (c : Nat) : Bool := decide (97 ≤ c) && decide (c ≤ 122)
def lowB (z : Str) : Bool := z.cps.toList.all lowC
def smB : D → Bool
  | .str z => lowB z
  | _ => false
def vLt : D → Bool
  | .str z => lowB z && (decide (1 ≤ z.length ∧ z.length ≤ 6) && decide (Zn.dcnt (Zn.sgn z) z.length = z.length))
  | _ => false
theorem kb_ss : kitB "str" "str" = some true := by decide +kernel
theorem kb_so : ∀ k ∈ ["int", "bool", "NoneType", "tuple", "list", "dict"], kitB k "str" = some false := by decide +kernel
theorem kind_str {d : D} {M : Mem} {k : String} (h : kindD d M = some k) (hn : ∀ z, d ≠ .str z) : kitB k "str" = some false := by
  refine kb_so k ?_
  cases d with
  | int n => cases h; decide
  | bl b => cases h; decide
  | non => cases h; decide
  | str x => exact absurd rfl (hn x)
  | tup ds => cases h; decide
  | obj i =>
    simp only [kindD] at h
    cases e : M[i]? with
    | none => rw [e] at h; simp at h
    | some c =>
      rw [e] at h
      cases c <;> simp at h <;> subst h <;> decide
  | _ => cases h
theorem sgn_len (z : Str) : (Zn.sgn z).length = z.length := by
  unfold Zn.sgn
  rw [List.length_map]
  simp [Str.length]
theorem sgD_eq (z : Str) : sgD z = (Zn.sgn z).map D.str := by
  unfold sgD Zn.sgn
  rw [List.map_map]
  rfl
theorem ch_low (c : Nat) : (!decide ([c] < [97])) = decide (97 ≤ c) ∧ (!decide ([122] < [c])) = decide (c ≤ 122) := by
  have e (a b : Nat) : ([a] < [b]) ↔ a < b := by rw [List.cons_lt_cons_iff]; simp
  constructor
  · rw [← decide_not, decide_eq_decide, e]
    omega
  · rw [← decide_not, decide_eq_decide, e]
    omega
section
variable {d : D} {M : Mem} {Q : KD} {E : KE'} {m l w : Int}
def ch1 : D → Bool
  | .str z => match z.cps.toList with
    | [c] => lowC c
    | _ => false
  | _ => false
theorem all_ch (z : Str) : (sgD z).all ch1 = lowB z := by
  unfold sgD lowB
  rw [List.all_map]
  rfl
theorem cmp_a (c : Nat) : cmpD false (.str "a") (.str ⟨#[c]⟩) M Q ↔ Q (.bl (decide (97 ≤ c))) M := by
  show Q (.bl (!decide ([c] < [97]))) M ↔ _
  rw [(ch_low c).1]
theorem cmp_z (c : Nat) : cmpD false (.str ⟨#[c]⟩) (.str "z") M Q ↔ Q (.bl (decide (c ≤ 122))) M := by
  show Q (.bl (!decide ([122] < [c]))) M ↔ _
  rw [(ch_low c).2]
theorem p_small (hk : Kn M d) (h : ∀ G, Q (.bl (smB d)) (M ++ G)) : sp_are_small_letters [d] M Q E := by
  obtain ⟨k, hk⟩ := hk
  by_cases hs : ∃ z, d = .str z
  · obtain ⟨z, rfl⟩ := hs
    simp [sp_are_small_letters, r_are_small_letters, kindD, kb_ss, seqD]
    refine all_any ch1 (fun a ha G Q' k => ?_) (fun G => by have := h G; rw [show smB (.str z) = lowB z from rfl, ← all_ch] at this; exact this)
    unfold sgD at ha
    obtain ⟨c, hc, rfl⟩ := List.mem_map.mp ha
    have k0 := k []
    rw [List.append_nil] at k0
    have e1 : ch1 (.str ⟨#[c]⟩) = (decide (97 ≤ c) && decide (c ≤ 122)) := rfl
    rw [e1] at k0
    simp [cmp_a, cmp_z, -cmpD_str]
    cases e1 : decide (97 ≤ c) with
    | false =>
      rw [e1, Bool.false_and] at k0
      have : ¬ 97 ≤ c := of_decide_eq_false e1
      exact .inl ⟨by omega, k0⟩
    | true =>
      rw [e1, Bool.true_and] at k0
      exact .inr ⟨of_decide_eq_true e1, k0⟩
  · have hn : ∀ z, d ≠ .str z := fun z e => hs ⟨z, e⟩
    have hf : smB d = false := by cases d <;> first | rfl | exact absurd rfl (hn _)
    have h0 := h []
    rw [hf, List.append_nil] at h0
    simp [sp_are_small_letters, r_are_small_letters]
    exact ⟨k, hk, .inl ⟨kind_str hk hn, h0⟩⟩
end
end Z03
set_option Elab.async false
set_option linter.all false
set_option maxRecDepth 100000
set_option maxHeartbeats 1000000
namespace Z03
open PySem PySem.Spec PyProof.Rows L2 GxR Gn Dl
section
variable {d : D} {M : Mem} {Q : KD} {E : KE'} {m l w : Int}
theorem p_letters (hk : Kn M d) (hz : Sz2 d) (h : ∀ G, Q (.bl (vLt d)) (M ++ G)) : sp__are_letters [d] M Q E := by
  simp [sp__are_letters, r__are_letters]
  refine p_small hk fun G => ?_
  cases es : smB d with
  | false =>
    have hf : vLt d = false := by cases d <;> first | rfl | (simp [vLt, show lowB _ = false from es])
    have h0 := h G
    rw [hf] at h0
    simpa using h0
  | true =>
    obtain ⟨z, rfl⟩ : ∃ z, d = .str z := by cases d <;> first | exact ⟨_, rfl⟩ | cases es
    have hl : lowB z = true := es
    have h9 := hz.str
    have h0 := h G
    have e0 : vLt (.str z) = (decide (1 ≤ z.length ∧ z.length ≤ 6) && decide (Zn.dcnt (Zn.sgn z) z.length = z.length)) := by simp [vLt, hl]
    rw [e0] at h0
    have sz : z.length ≤ sizeLine := by rw [sizeLine_eq]; omega
    simp [sz]
    rw [sgn_len]
    by_cases h1 : 1 ≤ z.length
    · by_cases h6 : z.length ≤ 6
      · rw [decide_eq_true (⟨h1, h6⟩ : 1 ≤ z.length ∧ z.length ≤ 6), Bool.true_and] at h0
        refine .inr ⟨by omega, .inr ⟨by omega, by omega, ?_⟩⟩
        rw [decide_eq_decide.mpr (show ((Zn.dcnt (Zn.sgn z) z.length : Nat) : Int) = (z.length : Nat) ↔ Zn.dcnt (Zn.sgn z) z.length = z.length from by omega)]
        exact h0
      · rw [decide_eq_false (fun x : 1 ≤ z.length ∧ z.length ≤ 6 => h6 x.2), Bool.false_and] at h0
        exact .inr ⟨by omega, .inl ⟨by omega, h0⟩⟩
    · rw [decide_eq_false (fun x : 1 ≤ z.length ∧ z.length ≤ 6 => h1 x.1), Bool.false_and] at h0
      exact .inl ⟨by omega, h0⟩
end
end Z03
set_option Elab.async false
set_option linter.all false
set_option maxRecDepth 100000
set_option maxHeartbeats 1000000
namespace Z03
open PySem PySem.Spec PyProof.Rows L2 GxR Gn Dl
def pD (p : Int × Int) : D := .tup [.int p.1, .int p.2]
def PsOk : Nat → List (Int × Int) → Prop
  | _, [] => True
  | n, p :: r => (0 ≤ p.1 ∧ p.1 < n) ∧ (0 ≤ p.2 ∧ p.2 < n) ∧ PsOk (n + 1) r
def stp (l : List Str) (p : Int × Int) : Str := l.getD p.1.toNat Str.empty ++ l.getD p.2.toNat Str.empty
def pcs : List Str → List (Int × Int) → List Str
  | l, [] => l
  | l, p :: r => pcs (l ++ [stp l p]) r
theorem pcs_len : ∀ (ps : List (Int × Int)) (l : List Str), (pcs l ps).length = l.length + ps.length
  | [], l => rfl
  | p :: r, l => by
    show (pcs (l ++ [stp l p]) r).length = _
    rw [pcs_len r]
    simp
    omega
theorem at_str {l : List Str} {i : Int} (h0 : 0 ≤ i) (h1 : i < l.length) : atI (l.map D.str) i = some (.str (l.getD i.toNat Str.empty)) := by
  obtain ⟨n, rfl⟩ := Int.eq_ofNat_of_zero_le h0
  have hn : n < l.length := by omega
  refine atI_nat ?_
  rw [List.getElem?_map, List.getElem?_eq_getElem hn]
  simp [List.getElem?_eq_getElem hn]
theorem getD_le {l : List Str} {L : Nat} (h : ∀ x ∈ l, x.length ≤ L) (i : Nat) : (l.getD i Str.empty).length ≤ L := by
  rw [List.getD_eq_getElem?_getD]
  cases e : l[i]? with
  | none => exact Nat.zero_le _
  | some x => exact h x (List.mem_of_getElem? e)
theorem stp_le {l : List Str} {L : Nat} (h : ∀ x ∈ l, x.length ≤ L) (p : Int × Int) : (stp l p).length ≤ 2 * L := by
  unfold stp
  rw [Str.length_append]
  have a := getD_le h p.1.toNat
  have b := getD_le h p.2.toNat
  omega
theorem Ext.set {M0 M : Mem} {k : Nat} (h : Ext M0 M) (hk : M0.length ≤ k) (c : Cell) : Ext M0 (M.set k c) := by
  obtain ⟨G, rfl⟩ := h
  exact ⟨G.set (k - M0.length) c, List.set_append_right _ _ hk⟩
section
variable {d : D} {M : Mem} {Q : KD} {E : KE'} {m l w : Int} {D0 : EndsD}
def pcB : TSd := dDrop (dBM isLst appendD (dVar 2) (dCons (dOp addD (dOp ixA (dVar 2) (dVar 3)) (dOp ixA (dVar 2) (dVar 4))) (dNil)))
def pcG : TGd := dGTup 2 (dGCons (dGN 3) (dGCons (dGN 4) (dGNil)))
theorem pieces_eq : r__pieces = dSeq (dSet 2 (dLst (dCons (dC (.str "")) (dStar (dVar 0) (dNil))))) (dSeq (dFor (dWalk (dVar 1)) pcG pcB) (dRet (dVar 2))) := rfl
abbrev pS (a b : D) (k : Nat) (s3 s4 : Option D) : Sl := [some a, some b, some (.obj k), s3, s4]
theorem pcs_go {a b : D} {k : Nat} {M0 : Mem} (hk : M0.length ≤ k) : ∀ (ps : List (Int × Int)) (l : List Str) (L : Nat) (M : Mem) (s3 s4 : Option D), M[k]? = some (.lst (l.map D.str)) → Ext M0 M → PsOk l.length ps → (∀ x ∈ l, x.length ≤ L) → L * 2 ^ ps.length ≤ 2 ^ 20 → l.length + ps.length ≤ 1000 →
    (∀ M' s3 s4, Ext M0 M' → M'[k]? = some (.lst ((pcs l ps).map D.str)) → D0.nx (pS a b k s3 s4) M') → forD pcG pcB (fun _ => True) D0 E (ps.map pD) (pS a b k s3 s4) M
  | [], l, L, M, s3, s4, hM, hE, _, _, _, _, h => ⟨trivial, h M s3 s4 hE hM⟩
  | p :: r, l, L, M, s3, s4, hM, hE, ho, hL, h20, hl, h => by
    refine ⟨trivial, ?_⟩
    obtain ⟨⟨i0, i1⟩, ⟨j0, j1⟩, ho⟩ := ho
    have hp : 1 ≤ 2 ^ r.length := Nat.one_le_two_pow
    have e20 : L * 2 ^ (p :: r).length = 2 * L * 2 ^ r.length := by
      rw [List.length_cons, Nat.pow_succ, Nat.mul_comm (2 ^ r.length) 2, ← Nat.mul_assoc, Nat.mul_comm L 2]
    rw [e20] at h20
    have hLL : 2 * L ≤ 2 ^ 20 := Nat.le_trans (by simpa using Nat.mul_le_mul_left (2 * L) hp) h20
    have h2 := getD_le hL p.1.toNat
    have h3 := getD_le hL p.2.toNat
    have hsz : sizeLine = 16777216 := sizeLine_eq
    have hkM : k < M.length := (List.getElem?_eq_some_iff.mp hM).1
    have eA := at_str i0 i1
    have eB := at_str j0 j1
    obtain ⟨xa, exa⟩ : ∃ xa, xa = l.getD p.1.toNat Str.empty := ⟨_, rfl⟩
    obtain ⟨xb, exb⟩ : ∃ xb, xb = l.getD p.2.toNat Str.empty := ⟨_, rfl⟩
    have es : stp l p = xa ++ xb := by rw [exa, exb]; rfl
    rw [← exa] at eA h2
    rw [← exb] at eB h3
    simp [pcG, pcB, pD, pS, dGTup, hM, ixA, ixD, eA, eB, addD]
    simp at hl
    refine ⟨⟨k, _, rfl, hM⟩, by omega, by omega, ?_⟩
    show forD pcG pcB (fun _ => True) D0 E (r.map pD) (pS a b k _ _) _
    refine pcs_go hk r (l ++ [stp l p]) (2 * L) _ _ _ ?_ (hE.set hk _) (by simpa using ho) (fun y hy => ?_) h20 (by simp; omega) h
    · rw [List.getElem?_set_self hkM]
      simp [es]
    · rcases List.mem_append.mp hy with hy | hy
      · have := hL y hy; omega
      · rw [List.mem_singleton.mp hy]
        exact stp_le hL p
def bas (z : Str) : List Str := Str.empty :: Zn.sgn z
theorem bas_le (z : Str) : ∀ x ∈ bas z, x.length ≤ 1 := fun x hx => by
  rcases List.mem_cons.mp hx with rfl | hx
  · exact Nat.zero_le _
  · unfold Zn.sgn at hx
    obtain ⟨c, _, rfl⟩ := List.mem_map.mp hx
    exact Nat.le_refl 1
theorem bas_len (z : Str) : (bas z).length = 1 + z.length := by
  unfold bas
  rw [List.length_cons, sgn_len]
  omega
theorem p_pieces {z : Str} {ps : List (Int × Int)} (hz : z.length ≤ 900) (hp : ps.length ≤ 20) (ho : PsOk (1 + z.length) ps) (h : ∀ k M', Ext M M' → M.length ≤ k → M'[k]? = some (.lst ((pcs (bas z) ps).map D.str)) → Q (.obj k) M') :
    sp__pieces [.str z, .tup (ps.map pD)] M Q E := by
  have hsz : sizeLine = 16777216 := sizeLine_eq
  have hs : z.cps.size = z.length := rfl
  have hd : (sgD z).length = z.length := by rw [sgD_eq, List.length_map, sgn_len]
  show r__pieces _ _ _ _
  rw [pieces_eq]
  simp
  refine ⟨by omega, by omega, ?_⟩
  have e0 : (M ++ [Cell.lst (D.str "" :: sgD z)])[M.length]? = some (.lst ((bas z).map D.str)) := by
    simp [bas, sgD_eq]
    rfl
  have h2p : 2 ^ ps.length ≤ 2 ^ 20 := Nat.pow_le_pow_right (by omega) hp
  exact pcs_go (Nat.le_refl M.length) ps (bas z) 1 _ none none e0 (Ext.app _ _) (by rw [bas_len]; exact ho) (bas_le z) (by simpa using h2p) (by rw [bas_len]; omega) fun M' s3 s4 x e => by
    have := h _ _ x (Nat.le_refl _) e
    simpa [pS] using this
end
end Z03
set_option Elab.async false
set_option linter.all false
set_option maxRecDepth 100000
set_option maxHeartbeats 1000000
namespace Z03
open PySem PySem.Spec PyProof.Rows L2 GxR Gn Dl
def mrI (m : Int) : D → Bool
  | .int a => decide (1 ≤ a) && decide (a < m)
  | _ => false
def merB (m : Int) : D → Bool
  | .tup ds => decide (ds.length = 2) && ds.all (mrI m)
  | _ => false
def mersB : Int → List D → Bool
  | _, [] => true
  | m, d :: r => merB m d && mersB (m + 1) r
def prD : List D → List (Int × Int)
  | [] => []
  | .tup [.int a, .int b] :: r => (a, b) :: prD r
  | _ :: r => prD r
theorem merB_form {m : Int} {d : D} (h : merB m d = true) : ∃ p : Int × Int, d = pD p ∧ (1 ≤ p.1 ∧ p.1 < m) ∧ 1 ≤ p.2 ∧ p.2 < m := by
  cases d with
  | tup ds =>
    unfold merB at h
    rw [Bool.and_eq_true] at h
    obtain ⟨h1, h2⟩ := h
    have h1 := of_decide_eq_true h1
    match ds, h1 with
    | [a, b], _ =>
      simp at h2
      obtain ⟨ha, hb⟩ := h2
      cases a with
      | int a => cases b with
        | int b =>
          simp [mrI] at ha hb
          exact ⟨(a, b), rfl, ha, hb⟩
        | _ => cases hb
      | _ => cases ha
  | _ => cases h
theorem mersB_form : ∀ {m : Nat} {ms : List D}, mersB m ms = true → ms = (prD ms).map pD ∧ PsOk m (prD ms) ∧ (prD ms).length = ms.length
  | m, [], _ => ⟨rfl, trivial, rfl⟩
  | m, d :: r, h => by
    unfold mersB at h
    rw [Bool.and_eq_true] at h
    obtain ⟨p, rfl, h1, h2⟩ := merB_form h.1
    obtain ⟨e, o, l⟩ := mersB_form (m := m + 1) (ms := r) (by simpa using h.2)
    have ep : prD (pD p :: r) = p :: prD r := rfl
    rw [ep]
    refine ⟨?_, ⟨⟨by omega, h1.2⟩, ⟨by omega, h2.2⟩, o⟩, by simp [l]⟩
    rw [List.map_cons, ← e]
def finB (z : Str) (ms : List D) : Bool := decide (Zn.dcnt (pcs (bas z) (prD ms)) (pcs (bas z) (prD ms)).length = (pcs (bas z) (prD ms)).length)
def mgB (z : Str) : D → Bool
  | .tup ms => decide (ms.length ≤ 10) && (mersB (1 + z.length : Nat) ms && finB z ms)
  | _ => false
def stO : D → Str
  | .str z => z
  | _ => Str.empty
def vocB : D → Bool
  | .tup [w, b, m] => isTxD "vocabulary" w && (vLt b && mgB (stO b) m)
  | _ => false
def enF (n : Nat) (ds : List D) : List D := (ds.zipIdx n).map fun p => .tup [.int (p.2 : Nat), p.1]
theorem enum_eq (ds : List D) : enumD ds = enF 0 ds := rfl
theorem enF_cons (n : Nat) (d : D) (ds : List D) : enF n (d :: ds) = .tup [.int (n : Nat), d] :: enF (n + 1) ds := by
  unfold enF
  rw [List.zipIdx_cons, List.map_cons]
section
variable {d : D} {M : Mem} {Q : KD} {E : KE'} {m l w : Int} {D0 : EndsD}
theorem tupN_tup (h : tupN m d = true) : ∃ ds, d = .tup ds ∧ (ds.length : Int) = m := by
  cases d with
  | tup ds => exact ⟨ds, rfl, of_decide_eq_true h⟩
  | _ => cases h
theorem okF_int {l : Int} (h : okF l d = true) : ∃ n, d = .int n ∧ l ≤ n := by
  cases d with
  | int n => exact ⟨n, rfl, of_decide_eq_true h⟩
  | _ => cases h
theorem p_merge (hk : HK M d) (h : ∀ G, Q (.bl (merB m d)) (M ++ G)) : sp__is_merge [d, .int m] M Q E := by
  simp [sp__is_merge, r__is_merge]
  refine p_tupleof_any hk.kn ?_
  cases e : tupN 2 d with
  | false =>
    have hf : merB m d = false := by
      cases d with
      | tup ds =>
        have : ¬ ds.length = 2 := by simp [tupN] at e; omega
        simp [merB, this]
      | _ => rfl
    have h0 := h []
    rw [hf, List.append_nil] at h0
    exact .inl ⟨rfl, h0⟩
  | true =>
    obtain ⟨ds, rfl, hl⟩ := tupN_tup e
    refine .inr ⟨rfl, ?_⟩
    have em : merB m (.tup ds) = ds.all (mrI m) := by simp [merB, show ds.length = 2 from by omega]
    rw [em] at h
    simp [seqD]
    refine all_any (mrI m) (fun a ha G Q' k => ?_) h
    have k0 := k []
    rw [List.append_nil] at k0
    simp
    refine p_from_any ((hk.of a ha).app G).kn ?_
    cases eo : okF 1 a with
    | false =>
      have : mrI m a = false := by
        cases a with
        | int n => simp [mrI, okF] at eo ⊢; omega
        | _ => rfl
      rw [this] at k0
      exact .inl ⟨rfl, k0⟩
    | true =>
      obtain ⟨n, rfl, h1⟩ := okF_int eo
      have : mrI m (.int n) = decide (n < m) := by simp [mrI, h1]
      rw [this] at k0
      exact .inr ⟨rfl, k0⟩
def ma0 : TSd := dIfS (dOrT (dNotT (dTest (dCB isiD (dCons (dVar 1) (dCons (dC (.ty "tuple")) (dNil)))))) (dTest (dOp gtD (dCB lenD (dCons (dVar 1) (dNil))) (dC (.int 10))))) (dRet (dC (.bl false))) (dNext)
def maB : TSd := dIfS (dNotT (dTest (dCall 2 sp__is_merge (dCons (dVar 3) (dCons (dOp addD (dOp addD (dC (.int 1)) (dCB lenD (dCons (dVar 0) (dNil)))) (dVar 2)) (dNil)))))) (dRet (dC (.bl false))) (dNext)
def maG : TGd := (dGTup 2 (dGCons (dGN 2) (dGCons (dGN 3) (dGNil))))
def ma2 : TSd := dSet 4 (dCall 2 sp__pieces (dCons (dVar 0) (dCons (dVar 1) (dNil))))
def ma3 : TSd := dRet (dOp (eqA false) (dLenSet (dVar 4)) (dCB lenD (dCons (dVar 4) (dNil))))
theorem merges_eq : r__are_merges = dSeq ma0 (dSeq (dFor (dEnumA (dCons (dVar 1) (dNil))) maG maB) (dSeq ma2 ma3)) := rfl
abbrev mS (z : Str) (t : D) (s2 s3 s4 : Option D) : Sl := [some (.str z), some t, s2, s3, s4]
theorem ma_go {z : Str} {t : D} {s4 : Option D} (hz : z.length ≤ 900) : ∀ (ds : List D) (n : Nat) (M : Mem) (s2 s3 : Option D), (∀ e ∈ ds, HK M e) → (mersB (1 + z.length + n : Nat) ds = false → ∀ G, D0.rt (.bl false) (M ++ G)) → (mersB (1 + z.length + n : Nat) ds = true → ∀ G s2 s3, D0.nx (mS z t s2 s3 s4) (M ++ G)) →
    forD maG maB (fun _ => True) D0 E (enF n ds) (mS z t s2 s3 s4) M
  | [], n, M, s2, s3, _, _, h1 => ⟨trivial, by have := h1 rfl [] s2 s3; simpa using this⟩
  | e :: es, n, M, s2, s3, hk, h0, h1 => by
    rw [enF_cons]
    refine ⟨trivial, ?_⟩
    have hsz : sizeLine = 16777216 := sizeLine_eq
    simp [maG, maB, mS, dGTup]
    refine ⟨by omega, ?_⟩
    have em : (1 : Int) + (z.length : Nat) + (n : Nat) = ((1 + z.length + n : Nat) : Int) := by omega
    rw [em]
    refine p_merge (hk e (by simp)) fun G => ?_
    cases ee : merB ((1 + z.length + n : Nat) : Int) e with
    | false => exact .inl ⟨rfl, h0 (by simp only [mersB, ee, Bool.false_and]) G⟩
    | true =>
      refine .inr ⟨rfl, ?_⟩
      have e1 : mersB ((1 + z.length + n : Nat) : Int) (e :: es) = mersB ((1 + z.length + (n + 1) : Nat) : Int) es := by
        simp only [mersB, ee, Bool.true_and]
        congr 1
      rw [e1] at h0 h1
      refine ma_go hz es (n + 1) (M ++ G) _ _ (fun y hy => (hk y (by simp [hy])).app G) (fun z2 G2 => ?_) fun z2 G2 s2 s3 => ?_
      · rw [List.append_assoc]; exact h0 z2 _
      · rw [List.append_assoc]; exact h1 z2 _ _ _
theorem p_merges {z : Str} (hk : HK M d) (hz : z.length ≤ 900) (hs : Sz2 d) (h : ∀ M', Ext M M' → Q (.bl (mgB z d)) M') : sp__are_merges [.str z, d] M Q E := by
  obtain ⟨k, hk1⟩ := hk.kn
  show r__are_merges _ _ _ _
  rw [merges_eq]
  simp [ma0]
  refine ⟨k, hk1, ?_⟩
  by_cases htu : ∃ ds, d = .tup ds
  · obtain ⟨ds, rfl⟩ := htu
    have ek : kitB k "tuple" = some true := by cases hk1; exact kb_tt
    refine .inr ⟨ek, ?_⟩
    have hsz : sizeLine = 16777216 := sizeLine_eq
    have hl := hs.len
    simp [gtD]
    by_cases h10 : ds.length ≤ 10
    · refine .inl ⟨by omega, ?_⟩
      have em : mgB z (.tup ds) = (mersB (1 + z.length : Nat) ds && finB z ds) := by simp [mgB, h10]
      rw [em] at h
      rw [enum_eq]
      refine ma_go (t := .tup ds) (s4 := none) hz ds 0 M none none (hk.of) (fun z2 G => ?_) fun z2 G s2 s3 => ?_
      · have := h _ (Ext.app M G)
        rw [show mersB (1 + z.length : Nat) ds = false from z2, Bool.false_and] at this
        exact this
      · have z3 : mersB (1 + z.length : Nat) ds = true := z2
        rw [z3, Bool.true_and] at h
        obtain ⟨f1, f2, f3⟩ := mersB_form z3
        simp [ma2, mS]
        rw [f1]
        refine p_pieces hz (by rw [f3]; omega) f2 fun k M' x k0 hM => ?_
        simp [ma3, hM]
        refine ⟨_, rfl, by rw [pcs_len, bas_len, f3]; omega, ?_⟩
        have e9 : decide (((Zn.dcnt (pcs (bas z) (prD ds)) (pcs (bas z) (prD ds)).length : Nat) : Int) = ((pcs (bas z) (prD ds)).length : Nat)) = finB z ds := by
          unfold finB
          rw [decide_eq_decide]
          omega
        rw [e9]
        exact h M' ((Ext.app M G).tr x)
    · refine .inr ⟨by omega, ?_⟩
      have := h _ (Ext.refl M)
      simp [mgB, h10] at this
      exact this
  · have nt : ∀ ds, d ≠ .tup ds := fun ds z => htu ⟨ds, z⟩
    have hf : mgB z d = false := by cases d <;> first | rfl | exact absurd rfl (nt _)
    have := h _ (Ext.refl M)
    rw [hf] at this
    exact .inl ⟨kind_tup hk1 nt, this⟩
end
end Z03
set_option Elab.async false
set_option linter.all false
set_option maxRecDepth 100000
set_option maxHeartbeats 1000000
namespace Z03
open PySem PySem.Spec PyProof.Rows L2 GxR Gn Dl
section
end
end Z03
set_option Elab.async false
set_option linter.all false
set_option maxRecDepth 100000
set_option maxHeartbeats 1000000
namespace Z03
open PySem PySem.Spec PyProof.Rows L2 GxR Gn Dl
structure VocOk (d : D) (z : Str) (ps : List (Int × Int)) : Prop where
  e : d = .tup [.str "vocabulary", .str z, .tup (ps.map pD)]
  v : vocB d = true
  o : PsOk (1 + z.length) ps
  z1 : 1 ≤ z.length ∧ z.length ≤ 6
  lo : lowB z = true
  l : ps.length ≤ 10
def vps (z : Str) (ps : List (Int × Int)) : List Str := pcs (bas z) ps
theorem vps_len (z : Str) (ps : List (Int × Int)) : (vps z ps).length = 1 + z.length + ps.length := by
  unfold vps
  rw [pcs_len, bas_len]
section
variable {d t : D} {M : Mem} {Q : KD} {E : KE'} {m l w : Int} {D0 : EndsD} {C : Nat → Addr} {z : Str} {ps : List (Int × Int)}
theorem VocOk.hk (V : VocOk d z ps) (M : Mem) : HK M d := by
  rw [V.e]
  refine .tup fun x hx => ?_
  simp at hx
  rcases hx with rfl | rfl | rfl
  · exact .base ⟨_, rfl⟩ (fun _ e => by cases e)
  · exact .base ⟨_, rfl⟩ (fun _ e => by cases e)
  · refine .tup fun x hx => ?_
    obtain ⟨p, _, rfl⟩ := List.mem_map.mp hx
    refine .tup fun x hx => ?_
    simp at hx
    rcases hx with rfl | rfl <;> exact .base ⟨_, rfl⟩ (fun _ e => by cases e)
theorem VocOk.sz (V : VocOk d z ps) : Sz2 d := by
  rw [V.e]
  have := V.z1
  have := V.l
  have hv : ("vocabulary" : Str).length ≤ 3990 := by decide
  refine .tup (by simp) fun x hx => ?_
  simp at hx
  rcases hx with rfl | rfl | rfl
  · exact .base (fun _ e => by cases e) (fun _ e => by cases e; exact hv)
  · exact .base (fun _ e => by cases e) (fun _ e => by cases e; omega)
  · refine .tup (by simp; omega) fun x hx => ?_
    obtain ⟨p, _, rfl⟩ := List.mem_map.mp hx
    refine .tup (by simp) fun x hx => ?_
    simp at hx
    rcases hx with rfl | rfl <;> exact .base (fun _ e => by cases e) (fun _ e => by cases e)
theorem p_size_of (V : VocOk d z ps) (h : Q (.int (1 + z.length + ps.length : Nat)) M) : sp__size_of [d] M Q E := by
  have hsz : sizeLine = 16777216 := sizeLine_eq
  have := V.z1
  rw [V.e]
  simp [sp__size_of, r__size_of, ixA, ixD]
  refine ⟨.str z, rfl, (by omega : z.length ≤ sizeLine), ?_⟩
  simp [addD]
  refine ⟨.tup (ps.map pD), rfl, ?_⟩
  simp
  simpa using h
theorem p_pieces_of (V : VocOk d z ps) (h : ∀ k M', Ext M M' → M.length ≤ k → M'[k]? = some (.lst ((vps z ps).map D.str)) → Q (.obj k) M') : sp_pieces_of [d] M Q E := by
  rw [V.e]
  simp [sp_pieces_of, r_pieces_of, dGTup]
  have := V.z1
  exact p_pieces (by omega) (by have := V.l; omega) V.o h
end
end Z03
set_option Elab.async false
set_option linter.all false
set_option maxRecDepth 100000
set_option maxHeartbeats 1000000
namespace Z03
open PySem PySem.Spec PyProof.Rows L2 GxR Gn Dl
theorem chr_low {c : Nat} (h : lowC c = true) : PySem.Builtin.Str.reprChar 39 c = [c] ∧ c ≠ 39 ∧ c < 1114112 := by
  have a : ∀ c ∈ List.range' 97 26, PySem.Builtin.Str.reprChar 39 c = [c] := by decide +kernel
  simp [lowC] at h
  exact ⟨a c (by simp [List.mem_range'_1]; omega), by omega, by omega⟩
theorem fold_low : ∀ (l : List Nat) (acc : Array Nat), (∀ c ∈ l, lowC c = true) → (l.foldl (fun out c => out ++ (PySem.Builtin.Str.reprChar 39 c).toArray) acc).toList = acc.toList ++ l
  | [], acc, _ => by simp
  | c :: r, acc, h => by
    rw [List.foldl_cons, (chr_low (h c (by simp))).1, fold_low r _ fun x hx => h x (by simp [hx])]
    simp
theorem low_txt {z : Str} (h : lowB z = true) : (reprText z).cps.toList = 39 :: (z.cps.toList ++ [39]) := by
  have h' : ∀ c ∈ z.cps.toList, lowC c = true := List.all_eq_true.mp h
  have q : reprQuote z = 39 := by
    unfold reprQuote
    have : z.cps.contains 39 = false := by
      rw [Bool.eq_false_iff]
      intro hc
      rw [Array.contains_iff_mem] at hc
      exact (chr_low (h' 39 (by simpa using hc))).2.1 rfl
    rw [this]
    rfl
  unfold reprText
  rw [q]
  show ((z.cps.foldl (fun out c => out ++ (PySem.Builtin.Str.reprChar 39 c).toArray) #[39]).push 39).toList = _
  rw [Array.toList_push, ← Array.foldl_toList, fold_low _ _ h']
  rfl
theorem sy_low {z : Str} {L : Nat} (h : lowB z = true) (hL : z.length ≤ L) : Sy (L + 2) 0 (.str z) := by
  have h' : ∀ c ∈ z.cps.toList, lowC c = true := List.all_eq_true.mp h
  have e : (PyData.str z).shown.cps.toList = 39 :: (z.cps.toList ++ [39]) := by
    rw [PyData.shown]
    exact low_txt h
  have el : (PyData.str z).shown.length = z.length + 2 := by
    show (PyData.str z).shown.cps.size = z.cps.size + 2
    rw [← Array.length_toList, e]
    simp
  refine ⟨⟨by rw [PyData.showable], by rw [PyData.hasDict], by rw [PyData.depth]; omega, by omega⟩, fun c hc => ?_, ?_⟩
  · rw [e] at hc
    simp at hc
    rcases hc with rfl | hc | rfl
    · decide
    · have := (chr_low (h' c (by simpa using hc))).2.2
      omega
    · decide
  · rw [PyData.canLay0]
    show z.cps.all _ = true
    rw [← Array.all_toList, List.all_eq_true]
    intro c hc
    exact decide_eq_true (chr_low (h' c hc)).2.2
def Lw (L : Nat) (l : List Str) : Prop := ∀ x ∈ l, lowB x = true ∧ x.length ≤ L
theorem low_app {x y : Str} (hx : lowB x = true) (hy : lowB y = true) : lowB (x ++ y) = true := by
  unfold lowB at hx hy ⊢
  have : (x ++ y).cps.toList = x.cps.toList ++ y.cps.toList := by
    show (x.cps ++ y.cps).toList = _
    exact Array.toList_append
  rw [this, List.all_append, hx, hy]
  rfl
theorem low_nil : lowB Str.empty = true := by decide
theorem low_sgn {z : Str} (h : lowB z = true) : Lw 1 (Zn.sgn z) := fun x hx => by
  unfold Zn.sgn at hx
  obtain ⟨c, hc, rfl⟩ := List.mem_map.mp hx
  have := List.all_eq_true.mp h c hc
  exact ⟨by simp [lowB, this], Nat.le_refl 1⟩
theorem low_bas {z : Str} (h : lowB z = true) : Lw 1 (bas z) := fun x hx => by
  rcases List.mem_cons.mp hx with rfl | hx
  · exact ⟨low_nil, Nat.zero_le _⟩
  · exact low_sgn h x hx
theorem Lw.getD {L : Nat} {l : List Str} (h : Lw L l) (n : Nat) : lowB (l.getD n Str.empty) = true ∧ (l.getD n Str.empty).length ≤ L := by
  rw [List.getD_eq_getElem?_getD]
  cases e : l[n]? with
  | none => exact ⟨low_nil, Nat.zero_le _⟩
  | some x => exact h x (List.mem_of_getElem? e)
section
variable {M : Mem} {Q : KD} {E : KE'} {b L : Nat} {l : List Str} {x : Str}
theorem py_low (h : lowB x = true) (hL : x.length ≤ L) : Py M b (L + 2) 0 (.str x) (.str x) := ⟨fun k => by rw [pyM], sy_low h hL, .base ⟨"str", rfl⟩ fun ds e => by cases e⟩
theorem pyl_low (h : Lw L l) : PyL M b (l.length * (L + 4)) 0 (l.map D.str) (l.map PyData.str) := PyL.map (n := L + 2) fun a ha => py_low (h a ha).1 (h a ha).2
end
section
variable {i j f c : Nat} {M M0 : Mem} {Q : KD} {E : KE'} {D0 : EndsD}
theorem idx_ok {r : Int} {n : Nat} (h0 : 0 ≤ r) (h1 : r < n) : seqIndex? r n = some r.toNat := by
  unfold seqIndex?
  dsimp only
  have a : ¬ r < 0 := by omega
  rw [if_neg a, if_pos (by simp [h0, h1])]
end
end Z03
set_option Elab.async false
set_option linter.all false
set_option maxRecDepth 100000
set_option maxHeartbeats 1000000
namespace Z03
open PySem PySem.Spec PyProof.Rows L2 GxR Gn Dl
section
variable {i j f c : Nat} {M M0 : Mem} {Q : KD} {E : KE'} {D0 : EndsD}
def MsB (ms : List (Int × Int)) : Prop := ∀ p ∈ ms, (0 ≤ p.1 ∧ p.1 < 1000) ∧ 0 ≤ p.2 ∧ p.2 < 1000
def vocD (w z : Str) (ms : List (Int × Int)) : D := .tup [.str w, .str z, .tup (ms.map pD)]
theorem Dk.lt (h : Dk i j f M) : i < M.length ∧ j < M.length := by
  obtain ⟨ns, m, k, h⟩ := h
  exact ⟨(List.getElem?_eq_some_iff.mp h.d).1, (List.getElem?_eq_some_iff.mp h.l).1⟩
end
end Z03
set_option Elab.async false
set_option linter.all false
set_option maxRecDepth 100000
set_option maxHeartbeats 1000000
namespace Z03
open PySem PySem.Spec PyProof.Rows L2 GxR Gn Dl
def Cs (L : Nat) (x : Str) : Prop := (∀ c ∈ x.cps.toList, c < 16 ^ 8) ∧ x.length ≤ L
theorem Cs.app {x y : Str} {L K N : Nat} (hx : Cs L x) (hy : Cs K y) (hN : L + K ≤ N) : Cs N (x ++ y) := by
  refine ⟨fun c hc => ?_, by rw [Str.length_append]; have := hx.2; have := hy.2; omega⟩
  have : (x ++ y).cps.toList = x.cps.toList ++ y.cps.toList := by
    show (x.cps ++ y.cps).toList = _
    exact Array.toList_append
  rw [this] at hc
  rcases List.mem_append.mp hc with h | h
  · exact hx.1 c h
  · exact hy.1 c h
theorem Cs.cut {x : Str} {L : Nat} (h : Cs L x) (lo hi : Option Int) : Cs L (cutS x lo hi) := by
  refine ⟨fun c hc => h.1 c ?_, Nat.le_trans (L2.cutS_length _ _ _) h.2⟩
  unfold L2.cutS at hc
  simp at hc
  exact by
    have := List.mem_of_mem_drop (List.mem_of_mem_take hc)
    simpa using this
theorem Fv.cs {x : Str} (h : Cs 12 x) : Fv 0 0 122 (.str x) := Fv.str (by
  have := PySem.StrLaws.reprText_len x h.1
  have h2 := h.2
  have e : (PyData.str x).shown = reprText x := by rw [PyData.shown]
  have e2 : (PyData.str x).showable = true := by rw [PyData.showable]
  have e3 : (PyData.str x).depth = 0 := by rw [PyData.depth]
  unfold chkT
  rw [e, e2, e3, decide_eq_true (show (reprText x).length ≤ 122 by omega)]
  rfl)
theorem MsB.app {ms ns : List (Int × Int)} (h : MsB ms) (k : MsB ns) : MsB (ms ++ ns) := fun p hp => (List.mem_append.mp hp).elim (h p) (k p)
theorem f3 {a b c : D} (ha : Fv 0 0 122 a) (hb : Fv 0 0 122 b) (hc : Fv 2 2 320 c) : Fv 4 5 600 (.tup [a, b, c]) := by
  have ha : Fv 2 2 122 a := ha.up
  have hb : Fv 2 2 122 b := hb.up
  have : Fv 3 3 573 (.tup [a, b, c]) := Fv.tup (Fvs.cons ha (Fvs.cons hb (Fvs.cons hc Fvs.nil))) (by simp)
  exact this.up
section
end
end Z03
set_option Elab.async false
set_option linter.all false
set_option maxRecDepth 100000
set_option maxHeartbeats 1000000
namespace Z03
open PySem PySem.Spec PyProof.Rows L2 GxR Gn Dl
section
variable {i j f : Nat} {M M' : Mem} {kk tp dp n : Nat} {Q : KD} {E : KE'} {D0 : EndsD} {C : Nat → Addr} {x d t : D} {ds : List D} {z : Str} {ps : List (Int × Int)}
variable {s0 s1 s2 s3 s4 s5 s6 s7 s8 s9 : Option D}
/-- a thing that is tried -/
def Th (i j : Nat) (M : Mem) (x : D) : Prop := ∃ kk tp dp n, Tyv i j [] M kk tp dp n x ∧ kk ≤ 400 ∧ dp ≤ 60 ∧ n ≤ 3992
theorem Th.fr (F : Fr i j M M') (h : Th i j M x) : Th i j M' x := by
  obtain ⟨kk, tp, dp, n, t, a, b, c⟩ := h
  exact ⟨kk, tp, dp, n, t.fr F, a, b, c⟩
theorem Th.hk (h : Th i j M x) : HK M x := by obtain ⟨kk, tp, dp, n, t, _⟩ := h; exact t.hk
theorem Th.sz (h : Th i j M x) : Sz2 x := by obtain ⟨kk, tp, dp, n, t, a, b, c⟩ := h; exact t.sz2 (by omega) c
theorem py_repr {b n dp : Nat} {d : D} {p : PyData} (h : Py M b n dp d p) (hn : n ≤ 200000) (hd : dp ≤ 60) (ht : (∃ ds, d = .tup ds) ∨ ∃ m, d = .obj m) (q : Q (.str p.shown) M) : reprD [d] M Q := by
  have := h.sy.sz
  refine ⟨0 + b, p, h.pm 0, this.sh, this.nd, Nat.le_trans this.dp hd, by have := this.ln; rw [sizeLine_eq]; omega, by rcases ht with ⟨_, rfl⟩ | ⟨_, rfl⟩ <;> trivial, q⟩
theorem Lw.mono {L K : Nat} {l : List Str} (h : Lw L l) (hk : L ≤ K) : Lw K l := fun x hx => ⟨(h x hx).1, Nat.le_trans (h x hx).2 hk⟩
theorem pcs_low : ∀ (ps : List (Int × Int)) (l : List Str) (L : Nat), Lw L l → Lw (L * 2 ^ ps.length) (pcs l ps)
  | [], l, L, h => by simpa [pcs] using h
  | p :: r, l, L, h => by
    have := pcs_low r (l ++ [stp l p]) (2 * L) fun y hy => by
      rcases List.mem_append.mp hy with hy | hy
      · exact ⟨(h y hy).1, by have := (h y hy).2; omega⟩
      · rw [List.mem_singleton.mp hy]
        exact ⟨low_app (h.getD _).1 (h.getD _).1, stp_le (fun x hx => (h x hx).2) p⟩
    rw [List.length_cons, Nat.pow_succ, show L * (2 ^ r.length * 2) = 2 * L * 2 ^ r.length from by rw [Nat.mul_comm (2 ^ r.length) 2, ← Nat.mul_assoc, Nat.mul_comm L 2]]
    exact this
theorem VocOk.low (V : VocOk d z ps) : Lw 1024 (vps z ps) := by
  have := pcs_low ps (bas z) 1 (low_bas V.lo)
  have h2 : 2 ^ ps.length ≤ 2 ^ 10 := Nat.pow_le_pow_right (by omega) V.l
  exact this.mono (by omega)
theorem VocOk.len (V : VocOk d z ps) : (vps z ps).length ≤ 17 := by
  rw [vps_len]
  have := V.z1
  have := V.l
  omega
def Tk (M : Mem) (t : D) : Prop := ∃ p, ∀ M', Ext M M' → Py M' 1 20 1 t p
theorem Tk.kn (h : Tk M t) (x : Ext M M') : Kn M' t := by
  obtain ⟨p, h⟩ := h
  exact (h M' x).hk.kn
end
end Z03
set_option Elab.async false
set_option linter.all false
set_option maxRecDepth 100000
set_option maxHeartbeats 1000000
set_option Elab.async false
set_option linter.all false
set_option maxRecDepth 100000
set_option maxHeartbeats 1000000
namespace Z03
open PySem PySem.Spec PyProof.Rows L2 GxR Gn Dl
theorem dcnt_nd {xs : List Str} (h : xs.Nodup) : ∀ i, i ≤ xs.length → Zn.dcnt xs i = i
  | 0, _ => rfl
  | i + 1, hi => by
    have ih := dcnt_nd h i (by omega)
    unfold Zn.dcnt
    have e1 : xs.getD i Str.empty = xs[i] := by simp [List.getD_eq_getElem?_getD, List.getElem?_eq_getElem (show i < xs.length by omega)]
    have no : (xs.take i).any (· == xs.getD i Str.empty) = false := by
      rw [e1]
      cases hb : (xs.take i).any (· == xs[i]) with
      | false => rfl
      | true =>
        obtain ⟨y, hy, ey⟩ := List.any_eq_true.mp hb
        obtain ⟨j, hj, ej⟩ := List.getElem_of_mem hy
        rw [List.length_take] at hj
        rw [List.getElem_take] at ej
        have e2 : xs[j] = xs[i] := ej.trans (eq_of_beq ey)
        exact absurd e2 (List.pairwise_iff_getElem.mp h j i (by omega) (by omega) (by omega))
    rw [no, ih]
    rfl
def chS (c : Nat) : Str := ⟨#[c]⟩
theorem sgn_map (z : Str) : Zn.sgn z = z.cps.toList.map chS := rfl
theorem chS_inj {a b : Nat} (h : chS a = chS b) : a = b := by
  have : (chS a).cps.toList = (chS b).cps.toList := by rw [h]
  simpa [chS] using this
theorem sgn_nd {z : Str} (h : z.cps.toList.Nodup) : (Zn.sgn z).Nodup := by
  rw [sgn_map, List.nodup_iff_pairwise_ne, List.pairwise_map]
  exact (List.nodup_iff_pairwise_ne.mp h).imp fun n e => n (chS_inj e)
theorem bas_nd {z : Str} (h : z.cps.toList.Nodup) : (bas z).Nodup := by
  refine List.nodup_cons.mpr ⟨fun hm => ?_, sgn_nd h⟩
  rw [sgn_map] at hm
  obtain ⟨c, _, e⟩ := List.mem_map.mp hm
  have : (chS c).cps.toList = Str.empty.cps.toList := by rw [e]
  simp [chS, Str.empty] at this
theorem pcs_snoc : ∀ (ps : List (Int × Int)) (l : List Str) (p : Int × Int), pcs l (ps ++ [p]) = pcs l ps ++ [stp (pcs l ps) p]
  | [], l, p => rfl
  | q :: r, l, p => by
    show pcs (l ++ [stp l q]) (r ++ [p]) = _
    rw [pcs_snoc r]
    rfl
def Ps1 : Nat → List (Int × Int) → Prop
  | _, [] => True
  | n, p :: r => (1 ≤ p.1 ∧ p.1 < n) ∧ (1 ≤ p.2 ∧ p.2 < n) ∧ Ps1 (n + 1) r
theorem Ps1.snoc : ∀ {ps : List (Int × Int)} {n : Nat} {p : Int × Int}, Ps1 n ps → (1 ≤ p.1 ∧ p.1 < (n + ps.length : Nat)) → (1 ≤ p.2 ∧ p.2 < (n + ps.length : Nat)) → Ps1 n (ps ++ [p])
  | [], n, p, _, h1, h2 => ⟨h1, h2, trivial⟩
  | q :: r, n, p, h, h1, h2 => ⟨h.1, h.2.1, Ps1.snoc h.2.2 (by simp at h1 ⊢; omega) (by simp at h2 ⊢; omega)⟩
theorem Ps1.ok : ∀ {ps : List (Int × Int)} {n : Nat}, Ps1 n ps → PsOk n ps
  | [], _, _ => trivial
  | p :: r, n, h => ⟨⟨by have := h.1; omega, h.1.2⟩, ⟨by have := h.2.1; omega, h.2.1.2⟩, h.2.2.ok⟩
theorem Ps1.mers : ∀ {ps : List (Int × Int)} {n : Nat}, Ps1 n ps → mersB n (ps.map pD) = true
  | [], _, _ => rfl
  | p :: r, n, h => by
    have a := h.1
    have b := h.2.1
    show (merB n (pD p) && mersB (n + 1) (r.map pD)) = true
    have := h.2.2.mers
    rw [show ((n : Int) + 1) = ((n + 1 : Nat) : Int) from rfl, this, Bool.and_true]
    simp [merB, pD, mrI]
    omega
theorem prD_map : ∀ ps : List (Int × Int), prD (ps.map pD) = ps
  | [] => rfl
  | p :: r => by
    show p :: prD (r.map pD) = p :: r
    rw [prD_map r]
structure Vc (z : Str) (ms : List (Int × Int)) : Prop where
  lo : lowB z = true
  l : 1 ≤ z.length ∧ z.length ≤ 6
  nd : z.cps.toList.Nodup
  m : ms.length ≤ 10
  p : Ps1 (1 + z.length) ms
  nd2 : (vps z ms).Nodup
theorem Vc.ok {z : Str} {ms : List (Int × Int)} (V : Vc z ms) : VocOk (vocD "vocabulary" z ms) z ms := by
  refine ⟨rfl, ?_, V.p.ok, V.l, V.lo, V.m⟩
  have h1 : vLt (.str z) = true := by
    have hl := V.l
    have : Zn.dcnt (Zn.sgn z) z.length = z.length := dcnt_nd (sgn_nd V.nd) z.length (by rw [sgn_len]; exact Nat.le_refl _)
    simp [vLt, V.lo, this, hl]
  have h2 : mgB z (.tup (ms.map pD)) = true := by
    have a := V.p.mers
    have b : finB z (ms.map pD) = true := by
      unfold finB
      rw [prD_map]
      exact decide_eq_true (dcnt_nd V.nd2 _ (Nat.le_refl _))
    show (decide ((ms.map pD).length ≤ 10) && (mersB (1 + z.length : Nat) (ms.map pD) && finB z (ms.map pD))) = true
    rw [a, b, decide_eq_true (by rw [List.length_map]; exact V.m)]
    rfl
  show (isTxD "vocabulary" (.str "vocabulary") && (vLt (.str z) && mgB z (.tup (ms.map pD)))) = true
  rw [h1, h2]
  rfl
section
variable {i j f c most many : Nat} {M M0 : Mem} {Q : KD} {E : KE'} {D0 : EndsD}
def ltB : TSd := dSet 3 (dOp addD (dVar 3) (dBM isLst popAtD (dVar 2) (dCons (dCall 2 sp__law_draw (dCons (dVar 0) (dCons (dCB lenD (dCons (dVar 2) (dNil))) (dNil)))) (dNil))))
theorem letters_eq : r__law_letters = dSeq (dPar 2 3 (dCons (dCB lstOfD (dCons (dC (.str "abcxyz")) (dNil))) (dCons (dC (.str "")) (dNil)))) (dSeq (dFor (dRange1 (dCons (dOp addD (dC (.int 1)) (dCall 2 sp__law_draw (dCons (dVar 0) (dCons (dVar 1) (dNil))))) (dNil))) (dGN 4) ltB) (dRet (dVar 3))) := rfl
abbrev lS (i most c : Nat) (z : Str) (s4 : Option D) : Sl := [some (.obj i), some (.int most), some (.obj c), some (.str z), s4]
def chD (c : Nat) : D := .str (chS c)
theorem app_cps (a b : Str) : (a ++ b).cps.toList = a.cps.toList ++ b.cps.toList := by
  show (a.cps ++ b.cps).toList = _
  exact Array.toList_append
theorem lt_go : ∀ (ds : List D) (left : List Nat) (z : Str) (M : Mem) (s4 : Option D), M0.length ≤ c → Fr i j M0 M → Dk i j (f + ds.length) M → M[c]? = some (.lst (left.map chD)) → c ≠ i → c ≠ j → ds.length ≤ left.length → left.length ≤ 100 → (∀ x ∈ left, lowC x = true) → (z.cps.toList ++ left).Nodup → lowB z = true → z.length + ds.length ≤ 100 →
    (∀ M' z' s4, Fr i j M0 M' → Dk i j f M' → lowB z' = true → z'.length = z.length + ds.length → z'.cps.toList.Nodup → D0.nx (lS i most c z' s4) M') → forD (dGN 4) ltB (fun _ => True) D0 E ds (lS i most c z s4) M
  | [], left, z, M, s4, h0, hF, hD, hM, hi, hj, hl, hl2, hw, hnd, hz, hzl, h => ⟨trivial, h M z s4 hF hD hz rfl (List.nodup_append.mp hnd).1⟩
  | d :: ds, left, z, M, s4, h0, hF, hD, hM, hi, hj, hl, hl2, hw, hnd, hz, hzl, h => by
    refine ⟨trivial, ?_⟩
    have hsz : sizeLine = 16777216 := sizeLine_eq
    simp at hl hzl
    simp [lS, ltB, hM]
    refine ⟨⟨c, _, rfl, hM⟩, ?_⟩
    refine p__law_draw (f := f + ds.length) hD (by omega) (by omega) fun r M1 r0 r1 hD1 hF1 => ?_
    have hM1 := hF1.at hi hj hM
    have hr : r.toNat < left.length := by omega
    have hx := hw left[r.toNat] (List.getElem_mem hr)
    refine ⟨c, left.map chD, r, r.toNat, chD left[r.toNat], rfl, rfl, hM1, by omega, by omega, idx_ok r0 (by simpa using r1), by simp [hr], ?_⟩
    have h1 : (chS left[r.toNat]).length = 1 := rfl
    simp [chD]
    refine ⟨by omega, ?_⟩
    have e9 : (left.map fun c => D.str (chS c)).eraseIdx r.toNat = (left.eraseIdx r.toNat).map chD := by
      rw [List.eraseIdx_eq_take_drop_succ, List.eraseIdx_eq_take_drop_succ, List.map_append, List.map_take, List.map_drop]
      rfl
    have hc1 := (List.getElem?_eq_some_iff.mp hM1).1
    have lc : lowB (chS left[r.toNat]) = true := by simp [lowB, chS, hx]
    refine lt_go ds (left.eraseIdx r.toNat) _ _ _ h0 ((hF.tr hF1).set3 h0) (hD1.set hi hj) (by rw [List.getElem?_set_self hc1, ← e9]; rfl) hi hj (by rw [List.length_eraseIdx_of_lt hr]; omega) (by rw [List.length_eraseIdx_of_lt hr]; omega) (fun y hy => hw y (List.mem_of_mem_eraseIdx hy)) ?_ (low_app hz lc) (by rw [Str.length_append]; omega) fun M' z' s4 a b c d e => h M' z' s4 a b c ?_ e
    · rw [app_cps]
      have : (chS left[r.toNat]).cps.toList = [left[r.toNat]] := rfl
      rw [this, List.append_assoc]
      have pm : left.Perm ([left[r.toNat]] ++ left.eraseIdx r.toNat) := by
        have e : left = left.take r.toNat ++ left[r.toNat] :: left.drop (r.toNat + 1) := by simp
        rw [List.eraseIdx_eq_take_drop_succ]
        conv => lhs; rw [e]
        exact List.perm_middle
      exact (List.Perm.nodup_iff (pm.append_left z.cps.toList)).mp hnd
    · rw [Str.length_append] at d
      simp
      omega
theorem p_lets (hm : 1 ≤ most ∧ most ≤ 6) (hD : Dk i j (f + 7) M) (h : ∀ z M', lowB z = true → (1 ≤ z.length ∧ z.length ≤ 6) → z.cps.toList.Nodup → Dk i j f M' → Fr i j M M' → Q (.str z) M') : sp__law_letters [.obj i, .int most] M Q E := by
  show r__law_letters _ _ _ _
  rw [letters_eq]
  have hsz : sizeLine = 16777216 := sizeLine_eq
  have es : sgD "abcxyz" = [97, 98, 99, 120, 121, 122].map chD := by
    have : ("abcxyz" : Str).cps.toList = [97, 98, 99, 120, 121, 122] := by decide +kernel
    unfold sgD
    rw [this]
    rfl
  simp [lstOfD]
  refine ⟨by rw [hsz]; decide, ?_⟩
  refine ⟨_, _, ⟨rfl, rfl⟩, ?_⟩
  refine p__law_draw (f := f + 6) (many := (most : Int)) (hD.app _) (by omega) (by omega) fun r M1 r0 r1 hD1 hF1 => ?_
  obtain ⟨n, rfl⟩ := Int.eq_ofNat_of_zero_le r0
  simp
  refine ⟨by omega, by omega, ?_⟩
  have ez : (Str.ofString "" : Str) = Str.empty := by decide
  have el : (rngD 0 ((1 : Int) + n).toNat).length = n + 1 := by rw [rngD_map, List.length_map, List.length_range]; omega
  have hn : n ≤ 5 := by omega
  rw [ez]
  refine lt_go (M0 := M) (c := M.length) (f := f) _ [97, 98, 99, 120, 121, 122] Str.empty M1 none (Nat.le_refl _) ((Fr.app i j M _).tr hF1) (by rw [el]; exact hD1.le (by omega)) ?_ hD.out.1 hD.out.2 (by rw [el]; simp; omega) (by simp) (by decide) (by decide) low_nil (by rw [el]; show 0 + _ ≤ _; omega) fun M' z' s4 a b c d e => ?_
  · rw [← es]
    exact hF1.at hD.out.1 hD.out.2 (by simp)
  · rw [el] at d
    simp [lS]
    exact h z' M' c (by have : Str.empty.length = 0 := rfl; omega) e b a
theorem any_mem (l : List Str) (x : Str) : ((l.map PyData.str).any fun z => PyData.eqv z (.str x)) = decide (x ∈ l) := by
  induction l with
  | nil => rfl
  | cons a l ih =>
    rw [List.map_cons, List.any_cons, ih]
    have e : PyData.eqv (.str a) (.str x) = decide (x = a) := by
      rw [PyData.eqv, Bool.eq_iff_iff, beq_iff_eq, decide_eq_true_iff]
      exact eq_comm
    rw [e]
    rw [Bool.eq_iff_iff]
    simp
theorem notin_lo {k L : Nat} {l : List Str} {x : Str} (hl : Lw L l) (h : lowB x = true) (hM : M[k]? = some (.lst (l.map D.str))) (q : Q (.bl (!decide (x ∈ l))) M) : notInD (.str x) (.obj k) M Q := by
  have p1 := py_low (M := M) (b := 0) h (Nat.le_refl x.length)
  have p2 := pyl_low (M := M) (b := 0) hl
  have d1 := p1.sy.sz.dp
  have d2 := p2.sy.all
  refine .inl ⟨0, _, k, _, _, rfl, hM, p1.pm 0, p2.pm 0, ?_, ?_, by rw [any_mem]; exact q⟩
  · unfold SeqAt.shaped
    rw [p1.sy.cl, Bool.true_and]
    exact decide_eq_true (by omega)
  · unfold SeqAt.shaped
    rw [show PyData.canLay0 (.list (l.map PyData.str)) = true from by rw [PyData.canLay0]; exact d2.2.2.2.1, Bool.true_and, PyData.depth]
    exact decide_eq_true (by have := d2.2.2.1; omega)
end
end Z03
set_option Elab.async false
set_option linter.all false
set_option maxRecDepth 100000
set_option maxHeartbeats 1000000
namespace Z03
open PySem PySem.Spec PyProof.Rows L2 GxR Gn Dl
def OfZ (z t : Str) : Prop := ∀ c ∈ t.cps.toList, c ∈ z.cps.toList
theorem OfZ.app {z a b : Str} (h : OfZ z a) (k : OfZ z b) : OfZ z (a ++ b) := fun c hc => by
  rw [app_cps] at hc
  exact (List.mem_append.mp hc).elim (h c) (k c)
theorem OfZ.cut {z a : Str} (h : OfZ z a) (lo hi : Option Int) : OfZ z (cutS a lo hi) := fun c hc => by
  unfold L2.cutS at hc
  simp at hc
  have := List.mem_of_mem_drop (List.mem_of_mem_take hc)
  exact h c (by simpa using this)
theorem OfZ.low {z a : Str} (h : OfZ z a) (hz : lowB z = true) : lowB a = true :=
  List.all_eq_true.mpr fun c hc => List.all_eq_true.mp hz c (h c hc)
section
variable {i j f c : Nat} {M M0 : Mem} {Q : KD} {E : KE'} {D0 : EndsD} {z : Str}
def dtB : TSd := dSeq (dSet 5 (dCall 2 sp__law_pick (dCons (dVar 0) (dCons (dCB lstOfD (dCons (dVar 1) (dNil))) (dNil))))) (dSeq (dIfS (dAndT (dTest (dOp (eqA true) (dVar 3) (dC (.str "")))) (dTest (dOp (eqA false) (dCall 2 sp__law_draw (dCons (dVar 0) (dCons (dC (.int 3)) (dNil)))) (dC (.int 0))))) (dSeq (dSet 6 (dCall 2 sp__law_draw (dCons (dVar 0) (dCons (dCB lenD (dCons (dVar 3) (dNil))) (dNil))))) (dSet 5 (dSl (dVar 3) (dPart (dVar 6)) (dPart (dOp addD (dVar 6) (dC (.int 5))))))) (dNext)) (dIfS (dTest (dOp (cmpD false) (dOp addD (dCB lenD (dCons (dVar 3) (dNil))) (dCB lenD (dCons (dVar 5) (dNil)))) (dVar 2))) (dSet 3 (dOp addD (dVar 3) (dVar 5))) (dNext)))
theorem text_eq : r__law_drawn_text = dSeq (dSet 3 (dC (.str ""))) (dSeq (dFor (dRange1 (dCons (dCall 2 sp__law_draw (dCons (dVar 0) (dCons (dC (.int 12)) (dNil)))) (dNil))) (dGN 4) dtB) (dRet (dVar 3))) := rfl
abbrev xtS (i : Nat) (z : Str) (most : Int) (t : Str) (s4 s5 s6 : Option D) : Sl := [some (.obj i), some (.str z), some (.int most), some (.str t), s4, s5, s6]
theorem dt_one (hz : 1 ≤ z.length ∧ z.length ≤ 6) {t : Str} {s4 s5 s6 : Option D} (hD : Dk i j (f + 3) M) (ht : OfZ z t) (hl : t.length ≤ 60) (h : ∀ M' t' s5 s6, Fr i j M M' → Dk i j f M' → OfZ z t' → t'.length ≤ 60 → D0.nx (xtS i z 60 t' s4 s5 s6) M') : dtB D0 E (xtS i z 60 t s4 s5 s6) M := by
  have hsz : sizeLine = 16777216 := sizeLine_eq
  have hc : z.cps.size = z.length := rfl
  have lt := hD.lt
  simp [dtB, xtS, lstOfD]
  refine ⟨by omega, ?_⟩
  have el : (sgD z).length = z.length := by rw [sgD_eq, List.length_map, sgn_len]
  refine p__law_pick_l (f := f + 2) (hD.app _) (ds := sgD z) (by simp) (by omega) (by omega) (by omega) (by omega) fun d M1 hd D1 F1 => ?_
  obtain ⟨c, hcz, rfl⟩ : ∃ c ∈ z.cps.toList, d = .str (chS c) := by
    unfold sgD at hd
    obtain ⟨c, hc, rfl⟩ := List.mem_map.mp hd
    exact ⟨c, hc, rfl⟩
  have oc : OfZ z (chS c) := fun x hx => by
    have : x = c := by simpa [chS] using hx
    rw [this]
    exact hcz
  have F01 := (Fr.app i j M [Cell.lst (sgD z)]).tr F1
  have tail : ∀ (p : Str) M' s6, Fr i j M M' → Dk i j f M' → OfZ z p → p.length ≤ 60 → (dIfS (dTest (dOp (cmpD false) (dOp addD (dCB lenD (dCons (dVar 3) (dNil))) (dCB lenD (dCons (dVar 5) (dNil)))) (dVar 2))) (dSet 3 (dOp addD (dVar 3) (dVar 5))) (dNext)) D0 E (xtS i z 60 t s4 (some (.str p)) s6) M' := fun p M' s6 F' D' op lp => by
    simp [xtS]
    refine ⟨by omega, by omega, ?_⟩
    by_cases hle : t.length + p.length ≤ 60
    · exact .inr ⟨by omega, by omega, h _ _ _ _ F' D' (ht.app op) (by rw [Str.length_append]; omega)⟩
    · exact .inl ⟨by omega, h _ _ _ _ F' D' ht hl⟩
  have c1 : (chS c).length ≤ 60 := by show 1 ≤ 60; omega
  by_cases h0 : t = Str.ofString ""
  · refine .inl ⟨h0, ?_⟩
    simpa [xtS] using tail _ M1 s6 F01 (D1.le (by omega)) oc c1
  · refine .inr ⟨h0, ?_⟩
    refine p__law_draw (f := f + 1) D1 (by omega) (by omega) fun r M2 r0 r1 D2 F2 => ?_
    refine eqA_int.mpr ?_
    have lt0 : 0 < t.length := by
      rcases Nat.eq_zero_or_pos t.length with e | e
      · exfalso
        apply h0
        have : t.cps = #[] := Array.eq_empty_of_size_eq_zero e
        cases t
        simp at this
        subst this
        rfl
      · exact e
    by_cases hr : r = 0
    · refine .inr ⟨by simp [hr], by omega, ?_⟩
      refine p__law_draw (f := f) D2 (by omega) (by omega) fun u M3 u0 u1 D3 F3 => ?_
      simp
      refine ⟨by omega, ?_⟩
      have tl := tail (cutS t (some u) (some (u + 5))) M3 (some (.int u)) ((F01.tr F2).tr F3) D3 (ht.cut _ _) (Nat.le_trans (L2.cutS_length _ _ _) hl)
      simp [xtS] at tl
      exact tl.2
    · refine .inl ⟨by simp [hr], ?_⟩
      simpa [xtS] using tail _ M2 s6 (F01.tr F2) (D2.le (by omega)) oc c1
theorem dt_go (hz : 1 ≤ z.length ∧ z.length ≤ 6) : ∀ (ds : List D) (t : Str) (M : Mem) (s4 s5 s6 : Option D), Fr i j M0 M → Dk i j (f + 3 * ds.length) M → OfZ z t → t.length ≤ 60 →
    (∀ M' t' s4 s5 s6, Fr i j M0 M' → Dk i j f M' → OfZ z t' → t'.length ≤ 60 → D0.nx (xtS i z 60 t' s4 s5 s6) M') → forD (dGN 4) dtB (fun _ => True) D0 E ds (xtS i z 60 t s4 s5 s6) M
  | [], t, M, s4, s5, s6, hF, hD, ht, hl, h => ⟨trivial, h M t s4 s5 s6 hF hD ht hl⟩
  | d :: ds, t, M, s4, s5, s6, hF, hD, ht, hl, h => by
    refine ⟨trivial, ?_⟩
    exact dt_one (f := f + 3 * ds.length) (s4 := some d) hz (hD.le (by simp; omega)) ht hl fun M' t' s5 s6 F' D' ht' hl' => dt_go hz ds t' M' _ s5 s6 (hF.tr F') D' ht' hl' h
theorem p_text (hz : 1 ≤ z.length ∧ z.length ≤ 6) (hD : Dk i j (f + 40) M) (h : ∀ t M', OfZ z t → t.length ≤ 60 → Dk i j f M' → Fr i j M M' → Q (.str t) M') : sp__law_drawn_text [.obj i, .str z, .int 60] M Q E := by
  show r__law_drawn_text _ _ _ _
  rw [text_eq]
  simp
  refine p__law_draw (f := f + 39) hD (by omega) (by omega) fun r M1 r0 r1 D1 F1 => ?_
  obtain ⟨n, rfl⟩ := Int.eq_ofNat_of_zero_le r0
  simp
  have el : (rngD 0 n).length = n := by rw [rngD_map, List.length_map, List.length_range]
  have hn : n ≤ 12 := by omega
  refine ⟨by omega, ?_⟩
  refine dt_go (M0 := M) (f := f) hz (rngD 0 n) (Str.ofString "") M1 none none none F1 (D1.le (by rw [el]; omega)) (fun c hc => by
    have e : (Str.ofString "").cps.toList = [] := by decide
    rw [e] at hc
    cases hc) (Nat.zero_le _) fun M' t' s4 s5 s6 F' D' ht' hl' => ?_
  simp [xtS]
  exact h t' M' ht' hl' D' F'
end
end Z03
set_option Elab.async false
set_option linter.all false
set_option maxRecDepth 100000
set_option maxHeartbeats 1000000
namespace Z03
open PySem PySem.Spec PyProof.Rows L2 GxR Gn Dl
theorem eqv_ints : ∀ a b : List Int, PyData.eqvAll (a.map .int) (b.map .int) = decide (a = b)
  | [], [] => by rw [List.map_nil, PyData.eqvAll]; rfl
  | [], b :: bs => by rw [List.map_nil, List.map_cons, PyData.eqvAll]; rfl
  | a :: as, [] => by rw [List.map_nil, List.map_cons, PyData.eqvAll]; rfl
  | a :: as, b :: bs => by
    rw [List.map_cons, List.map_cons, PyData.eqvAll, eqv_ints as bs, PyData.eqv]
    by_cases h : a = b
    · subst h; simp
    · simp [h]
theorem eqv_pI (a b : List Int) : PyData.eqv (pI a) (pI b) = decide (a = b) := by
  unfold pI
  rw [PyData.eqv]
  exact eqv_ints a b
theorem eqA_vI {neg : Bool} {a b : List Int} {M : Mem} {Q : KD} (h : Q (.bl (if neg then !decide (a = b) else decide (a = b))) M) : eqA neg (vI a) (vI b) M Q := by
  show eqD neg (vI a) (vI b) M Q
  refine eqD_of (Pu.vI a) (Pu.vI b) ((Pn.pI a).sh (by omega)) ((Pn.pI b).sh (by omega)) ?_
  rw [show PyData.eqv (.tuple (a.map .int)) (.tuple (b.map .int)) = decide (a = b) from eqv_pI a b]
  exact h
def ixZ (z : Str) (c : Nat) : Int := 1 + (z.cps.toList.idxOf c : Nat)
def ltk (z t : Str) : List Int := t.cps.toList.map (ixZ z)
def mrg (p : Int × Int) (m : Int) : List Int → List Int
  | [] => []
  | [a] => [a]
  | a :: b :: r => if a = p.1 ∧ b = p.2 then m :: mrg p m r else a :: mrg p m (b :: r)
def tkf : Nat → List (Int × Int) → List Int → List Int
  | _, [], l => l
  | n, p :: r, l => tkf (n + 1) r (mrg p (n : Nat) l)
def toks (z : Str) (ms : List (Int × Int)) (t : Str) : List Int := tkf (1 + z.length) ms (ltk z t)
theorem mrg_yes {p : Int × Int} {m a b : Int} {r : List Int} (h : a = p.1 ∧ b = p.2) : mrg p m (a :: b :: r) = m :: mrg p m r := by
  rw [mrg]
  exact if_pos h
theorem mrg_no {p : Int × Int} {m a b : Int} {r : List Int} (h : ¬ (a = p.1 ∧ b = p.2)) : mrg p m (a :: b :: r) = a :: mrg p m (b :: r) := by
  rw [mrg]
  exact if_neg h
theorem mrg_len (p : Int × Int) (m : Int) : ∀ l : List Int, (mrg p m l).length ≤ l.length
  | [] => Nat.le_refl _
  | [a] => Nat.le_refl _
  | a :: b :: r => by
    unfold mrg
    split
    · have := mrg_len p m r
      simp
      omega
    · have := mrg_len p m (b :: r)
      simp at this ⊢
      omega
theorem mrg_bd {B : Int} (p : Int × Int) {m : Int} (hm : 0 ≤ m ∧ m < B) : ∀ {l : List Int}, (∀ x ∈ l, 0 ≤ x ∧ x < B) → ∀ x ∈ mrg p m l, 0 ≤ x ∧ x < B
  | [], h => h
  | [a], h => h
  | a :: b :: r, h => by
    unfold mrg
    split
    · intro x hx
      rcases List.mem_cons.mp hx with rfl | hx
      · exact hm
      · exact mrg_bd p hm (fun y hy => h y (by simp [hy])) x hx
    · intro x hx
      rcases List.mem_cons.mp hx with rfl | hx
      · exact h x (by simp)
      · exact mrg_bd p hm (fun y hy => h y (List.mem_cons_of_mem _ hy)) x hx
theorem tkf_len : ∀ (ps : List (Int × Int)) (n : Nat) (l : List Int), (tkf n ps l).length ≤ l.length
  | [], n, l => Nat.le_refl _
  | p :: r, n, l => Nat.le_trans (tkf_len r (n + 1) _) (mrg_len p _ l)
theorem tkf_bd : ∀ (ps : List (Int × Int)) (n B : Nat) (l : List Int), n + ps.length ≤ B → (∀ x ∈ l, 0 ≤ x ∧ x < (B : Int)) → ∀ x ∈ tkf n ps l, 0 ≤ x ∧ x < (B : Int)
  | [], n, B, l, hB, h => h
  | p :: r, n, B, l, hB, h => tkf_bd r (n + 1) B _ (by simp at hB; omega) (mrg_bd p (by simp at hB; omega) h)
theorem ltk_bd {z t : Str} (h : OfZ z t) : ∀ x ∈ ltk z t, 0 ≤ x ∧ x < ((1 + z.length : Nat) : Int) := fun x hx => by
  obtain ⟨c, hc, rfl⟩ := List.mem_map.mp hx
  have := List.idxOf_lt_length_iff.mpr (h c hc)
  have e : z.cps.toList.length = z.length := by simp [Str.length]
  unfold ixZ
  omega
theorem ltk_len (z t : Str) : (ltk z t).length = t.length := by
  unfold ltk
  rw [List.length_map]
  simp [Str.length]
theorem toks_len (z : Str) (ms : List (Int × Int)) (t : Str) : (toks z ms t).length ≤ t.length := by
  have := tkf_len ms (1 + z.length) (ltk z t)
  rw [ltk_len] at this
  exact this
theorem toks_bd {z t : Str} (h : OfZ z t) (ms : List (Int × Int)) : ∀ x ∈ toks z ms t, 0 ≤ x ∧ x < ((1 + z.length + ms.length : Nat) : Int) :=
  tkf_bd ms (1 + z.length) _ _ (Nat.le_refl _) fun x hx => by have := ltk_bd h x hx; omega
section
variable {c : Nat} {M M0 : Mem} {Q : KD} {E : KE'} {D0 : EndsD} {z t : Str} {p : Int × Int} {m : Int} {ts : List Int}
theorem cut2 (ts : List Int) (k : Nat) : cutL (ts.map D.int) (some (k : Int)) (some ((k : Int) + 2)) = ((ts.drop k).take 2).map D.int := by
  rw [cutL_map]
  congr 1
  unfold cutL
  have a : HT.sIx ts.length 0 (some (k : Int)) = min k ts.length := by
    unfold HT.sIx
    simp
    omega
  have b : HT.sIx ts.length ts.length (some ((k : Int) + 2)) = min (k + 2) ts.length := by
    show (if ((k : Int) + 2) < 0 then (((k : Int) + 2) + (ts.length : Nat)).toNat else min ((k : Int) + 2).toNat ts.length) = _
    rw [if_neg (by omega)]
    omega
  rw [a, b]
  by_cases h : k ≤ ts.length
  · rw [Nat.min_eq_left h]
    by_cases h2 : k + 2 ≤ ts.length
    · rw [Nat.min_eq_left h2]
      congr 1
      omega
    · rw [Nat.min_eq_right (by omega)]
      rw [List.take_of_length_le (by rw [List.length_drop]; omega), List.take_of_length_le (by rw [List.length_drop]; omega)]
  · have e1 : min k ts.length = ts.length := by omega
    have e2 : ts.drop ts.length = [] := List.drop_of_length_le (Nat.le_refl _)
    have e3 : ts.drop k = [] := List.drop_of_length_le (by omega)
    rw [e1, e2, e3]
    simp
def pmC : TTd := dTest (dOp (cmpD true) (dVar 4) (dCB lenD (dCons (dVar 0) (dNil))))
def pmB : TSd := dIfS (dTest (dOp (eqA false) (dSl (dVar 0) (dPart (dVar 4)) (dPart (dOp addD (dVar 4) (dC (.int 2))))) (dVar 1))) (dSeq (dDrop (dBM isLst appendD (dVar 3) (dCons (dVar 2) (dNil)))) (dAug 4 (Dl.intD (fun _ _ => True) fun i j => .int (i + j)) (dC (.int 2)))) (dSeq (dDrop (dBM isLst appendD (dVar 3) (dCons (dOp ixA (dVar 0) (dVar 4)) (dNil)))) (dAug 4 (Dl.intD (fun _ _ => True) fun i j => .int (i + j)) (dC (.int 1))))
theorem merged_eq : r__merged = dSeq (dSet 3 (dLst (dNil))) (dSeq (dSet 4 (dC (.int 0))) (dSeq (dWhile pmC pmB) (dRet (dCB tupOfD (dCons (dVar 3) (dNil)))))) := rfl
abbrev pmS (a0 : D) (p : Int × Int) (m : Int) (c : Nat) (at_ : Int) : Sl := [some a0, some (pD p), some (.int m), some (.obj c), some (.int at_)]
theorem mrg_at {k : Nat} (hk : k < ts.length) : (∃ b, ts[k]? = some p.1 ∧ ts[k + 1]? = some b ∧ b = p.2 ∧ (ts.drop k).take 2 = [p.1, p.2] ∧ mrg p m (ts.drop k) = m :: mrg p m (ts.drop (k + 2))) ∨ ∃ a, ts[k]? = some a ∧ (ts.drop k).take 2 ≠ [p.1, p.2] ∧ mrg p m (ts.drop k) = a :: mrg p m (ts.drop (k + 1)) := by
  have e1 : ts.drop k = ts[k] :: ts.drop (k + 1) := List.drop_eq_getElem_cons hk
  have g1 : ts[k]? = some ts[k] := List.getElem?_eq_getElem hk
  by_cases h2 : k + 1 < ts.length
  · have e2 : ts.drop (k + 1) = ts[k + 1] :: ts.drop (k + 2) := List.drop_eq_getElem_cons h2
    have g2 : ts[k + 1]? = some ts[k + 1] := List.getElem?_eq_getElem h2
    by_cases he : ts[k] = p.1 ∧ ts[k + 1] = p.2
    · refine .inl ⟨ts[k + 1], by rw [g1, he.1], g2, he.2, ?_, ?_⟩
      · rw [e1, e2, he.1, he.2]
        rfl
      · rw [e1, e2]
        exact mrg_yes he
    · refine .inr ⟨ts[k], g1, ?_, ?_⟩
      · rw [e1, e2]
        intro e
        have e : [ts[k], ts[k + 1]] = [p.1, p.2] := e
        have h1 := (List.cons.inj e).1
        have h3 := (List.cons.inj (List.cons.inj e).2).1
        exact he ⟨h1, h3⟩
      · rw [e1, e2]
        exact mrg_no he
  · refine .inr ⟨ts[k], g1, ?_, ?_⟩
    · rw [e1, List.drop_of_length_le (i := k + 1) (by omega)]
      intro e
      have := congrArg List.length e
      simp at this
    · rw [e1, List.drop_of_length_le (i := k + 1) (by omega)]
      rfl
structure MgI (ts : List Int) (p : Int × Int) (m : Int) (M0 : Mem) (c k : Nat) (acc : List Int) (M : Mem) : Prop where
  e : Ext M0 M
  g : M[c]? = some (.lst (acc.map D.int))
  ke : k ≤ ts.length
  l : acc.length ≤ k
  q : acc ++ mrg p m (ts.drop k) = mrg p m ts
theorem MgI.put {k : Nat} {acc : List Int} (I : MgI ts p m M0 c k acc M) (hc : M0.length ≤ c) {x : Int} {k' : Nat} (hk : k < k') (hk2 : k' ≤ ts.length) (hq : mrg p m (ts.drop k) = x :: mrg p m (ts.drop k')) : MgI ts p m M0 c k' (acc ++ [x]) (M.set c (.lst (acc.map D.int ++ [.int x]))) where
  e := I.e.set hc _
  g := by rw [List.getElem?_set_self (List.getElem?_eq_some_iff.mp I.g).1]; simp
  ke := hk2
  l := by have := I.l; simp; omega
  q := by rw [← I.q, hq]; simp
theorem p_merged (h30 : ts.length ≤ 100) (h : ∀ M', Ext M M' → Q (vI (mrg p m ts)) M') : sp__merged [vI ts, pD p, .int m] M Q E := by
  show r__merged _ _ _ _
  rw [merged_eq]
  have hsz : sizeLine = 16777216 := sizeLine_eq
  simp
  refine ⟨fun n S M' => ∃ (k : Nat) (acc : List Int), S = pmS (vI ts) p m M.length (k : Int) ∧ MgI ts p m M M.length k acc M' ∧ n = ts.length - k, ⟨ts.length, 0, [], rfl, ⟨Ext.app M _, by simp, Nat.zero_le _, Nat.zero_le _, rfl⟩, rfl⟩, ?_⟩
  rintro n S M' ⟨k, acc, rfl, I, rfl⟩
  have hl := I.l
  have hk := I.ke
  simp [pmC, pmS, vI]
  by_cases hlt : k < ts.length
  · refine .inr ⟨hlt, ?_⟩
    simp [pmB, pmS]
    rw [cut2]
    refine eqA_vI (a := (ts.drop k).take 2) (b := [p.1, p.2]) ?_
    rcases mrg_at (p := p) (m := m) hlt with ⟨b, g1, g2, rfl, ht, hq⟩ | ⟨a, g1, ht, hq⟩
    · rw [if_neg Bool.false_ne_true, decide_eq_true ht]
      refine .inr ⟨rfl, ?_⟩
      simp [I.g, dAug]
      have h2 := (List.getElem?_eq_some_iff.mp g2).1
      exact ⟨⟨_, _, rfl, I.g⟩, by omega, ts.length - (k + 2), by omega, k + 2, by omega, ⟨acc ++ [m], I.put (Nat.le_refl _) (by omega) (by omega) hq⟩, rfl⟩
    · rw [if_neg Bool.false_ne_true, decide_eq_false ht]
      refine .inl ⟨rfl, ?_⟩
      simp [I.g, dAug]
      have ga : (ts.map D.int)[k]? = some (.int a) := by rw [List.getElem?_map, g1]; rfl
      exact ⟨⟨_, _, rfl, I.g⟩, _, atI_nat ga, by omega, ts.length - (k + 1), by omega, k + 1, by omega, ⟨acc ++ [a], I.put (Nat.le_refl _) (by omega) (by omega) hq⟩, rfl⟩
  · refine .inl ⟨by omega, ?_⟩
    have e : acc = mrg p m ts := by
      have := I.q
      rw [List.drop_of_length_le (by omega)] at this
      simpa [mrg] using this
    simp [I.g]
    rw [e]
    exact h M' I.e
def lmC : TTd := dTest (dOp (cmpD true) (dVar 4) (dCB lenD (dCons (dVar 0) (dNil))))
def lmB : TSd := dIfS (dAndT (dTest (dOp (cmpD true) (dOp addD (dVar 4) (dC (.int 1))) (dCB lenD (dCons (dVar 0) (dNil))))) (dTest (dOp (eqA false) (dTup (dCons (dOp ixA (dVar 0) (dVar 4)) (dCons (dOp ixA (dVar 0) (dOp addD (dVar 4) (dC (.int 1)))) (dNil)))) (dVar 1)))) (dSeq (dDrop (dBM isLst appendD (dVar 3) (dCons (dVar 2) (dNil)))) (dSet 4 (dOp addD (dVar 4) (dC (.int 2))))) (dSeq (dDrop (dBM isLst appendD (dVar 3) (dCons (dOp ixA (dVar 0) (dVar 4)) (dNil)))) (dSet 4 (dOp addD (dVar 4) (dC (.int 1)))))
theorem lmerged_eq : r__law_merged = dSeq (dPar 3 4 (dCons (dLst (dNil)) (dCons (dC (.int 0)) (dNil)))) (dSeq (dWhile lmC lmB) (dRet (dVar 3))) := rfl
theorem p_lmergedF {q : Nat} (hq : M[q]? = some (.lst (ts.map D.int))) (h30 : ts.length ≤ 100) (h : ∀ M', Ext M M' → M'[M.length]? = some (.lst ((mrg p m ts).map D.int)) → Q (.obj M.length) M') : sp__law_merged [.obj q, pD p, .int m] M Q E := by
  show r__law_merged _ _ _ _
  rw [lmerged_eq]
  have hsz : sizeLine = 16777216 := sizeLine_eq
  simp
  refine ⟨_, _, ⟨rfl, rfl⟩, ?_⟩
  refine ⟨fun n S M' => ∃ (k : Nat) (acc : List Int), S = pmS (.obj q) p m M.length (k : Int) ∧ MgI ts p m M M.length k acc M' ∧ n = ts.length - k, ⟨ts.length, 0, [], rfl, ⟨Ext.app M _, by simp, Nat.zero_le _, Nat.zero_le _, rfl⟩, rfl⟩, ?_⟩
  rintro n S M' ⟨k, acc, rfl, I, rfl⟩
  have hl := I.l
  have hk := I.ke
  have hqM := I.e.at hq
  simp [lmC, pmS, hqM]
  by_cases hlt : k < ts.length
  · refine .inr ⟨hlt, ?_⟩
    simp [lmB, pmS, hqM]
    have g1 : ts[k]? = some ts[k] := List.getElem?_eq_getElem hlt
    have ga : (ts.map D.int)[k]? = some (.int ts[k]) := by rw [List.getElem?_map, g1]; rfl
    have e1 : ts.drop k = ts[k] :: ts.drop (k + 1) := List.drop_eq_getElem_cons hlt
    by_cases h2 : k + 1 < ts.length
    · have g2 : ts[k + 1]? = some ts[k + 1] := List.getElem?_eq_getElem h2
      have gb : (ts.map D.int)[k + 1]? = some (.int ts[k + 1]) := by rw [List.getElem?_map, g2]; rfl
      have e2 : ts.drop (k + 1) = ts[k + 1] :: ts.drop (k + 2) := List.drop_eq_getElem_cons h2
      refine .inr ⟨by omega, _, atI_nat ga, _, atI_nat gb, by omega, ?_⟩
      refine eqA_vI (a := [ts[k], ts[k + 1]]) (b := [p.1, p.2]) ?_
      rw [if_neg Bool.false_ne_true]
      by_cases he : ts[k] = p.1 ∧ ts[k + 1] = p.2
      · have hq2 : mrg p m (ts.drop k) = m :: mrg p m (ts.drop (k + 2)) := by rw [e1, e2]; exact mrg_yes he
        rw [decide_eq_true (by rw [he.1, he.2])]
        exact .inr ⟨rfl, ⟨_, _, rfl, I.g⟩, _, I.g, by rw [List.length_map]; omega, ts.length - (k + 2), by omega, k + 2, by omega, ⟨acc ++ [m], I.put (Nat.le_refl _) (by omega) (by omega) hq2⟩, rfl⟩
      · have hq2 : mrg p m (ts.drop k) = ts[k] :: mrg p m (ts.drop (k + 1)) := by rw [e1, e2]; exact mrg_no he
        rw [decide_eq_false (fun e => he ⟨(List.cons.inj e).1, (List.cons.inj (List.cons.inj e).2).1⟩)]
        exact .inl ⟨rfl, ⟨_, _, rfl, I.g⟩, (ixA_objI hqM).mpr ⟨_, atI_nat ga, _, I.g, by rw [List.length_map]; omega, ts.length - (k + 1), by omega, k + 1, by omega, ⟨acc ++ [ts[k]], I.put (Nat.le_refl _) (by omega) (by omega) hq2⟩, rfl⟩⟩
    · have hq2 : mrg p m (ts.drop k) = ts[k] :: mrg p m (ts.drop (k + 1)) := by
        rw [e1, List.drop_of_length_le (i := k + 1) (by omega)]
        rfl
      exact .inl ⟨by omega, ⟨_, _, rfl, I.g⟩, _, atI_nat ga, _, I.g, by rw [List.length_map]; omega, ts.length - (k + 1), by omega, k + 1, by omega, ⟨acc ++ [ts[k]], I.put (Nat.le_refl _) (by omega) (by omega) hq2⟩, rfl⟩
  · refine .inl ⟨by omega, ?_⟩
    have e : acc = mrg p m ts := by
      have := I.q
      rw [List.drop_of_length_le (by omega)] at this
      simpa [mrg] using this
    exact h M' I.e (by rw [I.g, e])
theorem p_lmerged {q : Nat} (hq : M[q]? = some (.lst (ts.map D.int))) (h30 : ts.length ≤ 100) (h : ∀ c M', Ext M M' → M'[c]? = some (.lst ((mrg p m ts).map D.int)) → Q (.obj c) M') : sp__law_merged [.obj q, pD p, .int m] M Q E := p_lmergedF hq h30 fun M' x e => h _ M' x e
end
end Z03
set_option Elab.async false
set_option linter.all false
set_option maxRecDepth 100000
set_option maxHeartbeats 1000000
namespace Z03
open PySem PySem.Spec PyProof.Rows L2 GxR Gn Dl
section
variable {d : D} {c : Nat} {M M0 : Mem} {Q : KD} {E : KE'} {D0 : EndsD} {z t : Str} {ps : List (Int × Int)}
theorem sgD_map (t : Str) : sgD t = t.cps.toList.map fun c => D.str (chS c) := rfl
theorem cps_len (t : Str) : t.cps.toList.length = t.length := by simp [Str.length]
theorem ix_mem {a : Str} {x : Nat} {M : Mem} {Q : KD} (h : x ∈ a.cps.toList) (q : Q (.int (a.cps.toList.idxOf x : Nat)) M) : indexD (.str a) [.str (chS x)] M Q := ⟨a, x, rfl, rfl, h, q⟩
theorem p_ltk (ht : OfZ z t) (hl : t.length ≤ 60) (h : ∀ M', Ext M M' → Q (vI (ltk z t)) M') : sp__letter_tokens [.str z, .str t] M Q E := by
  simp [sp__letter_tokens, r__letter_tokens, seqD]
  rw [sgD_map]
  refine lcD_ex (fun c => D.str (chS c)) (fun c => D.int (ixZ z c)) t.cps.toList M (fun _ _ => trivial) (fun a ha M1 Q' x q => ?_) (by rw [cps_len]; omega) fun M1 x hM1 => ?_
  · simp [wipeD]
    refine ix_mem (ht a ha) ?_
    have := q []
    rw [List.append_nil] at this
    exact this
  · simp [tupOfD, hM1]
    have := h M1 x
    unfold vI ltk at this
    simpa [Function.comp_def] using this
def toB : TSd := dSet 5 (dCall 3 sp__merged (dCons (dVar 5) (dCons (dVar 7) (dCons (dOp addD (dOp addD (dC (.int 1)) (dCB lenD (dCons (dVar 3) (dNil)))) (dVar 6)) (dNil)))))
def toG : TGd := (dGTup 2 (dGCons (dGN 6) (dGCons (dGN 7) (dGNil))))
theorem tokens_eq : r_tokens_of = dSeq (dAsg (dVar 0) (dGTup 3 (dGCons (dGN 2) (dGCons (dGN 3) (dGCons (dGN 4) (dGNil)))))) (dSeq (dSet 5 (dCall 2 sp__letter_tokens (dCons (dVar 3) (dCons (dVar 1) (dNil))))) (dSeq (dFor (dEnumA (dCons (dVar 4) (dNil))) toG toB) (dRet (dVar 5)))) := rfl
abbrev kS (d : D) (t w z : Str) (m : D) (tk : D) (s6 s7 : Option D) : Sl := [some d, some (.str t), some (.str w), some (.str z), some m, some tk, s6, s7]
theorem to_go {m : D} {w : Str} (hz : z.length ≤ 6) : ∀ (ps : List (Int × Int)) (n : Nat) (l : List Int) (M : Mem) (s6 s7 : Option D), l.length ≤ 100 → n + ps.length ≤ 100 → (∀ M' s6 s7, Ext M M' → D0.nx (kS d t w z m (vI (tkf (1 + z.length + n) ps l)) s6 s7) M') → forD toG toB (fun _ => True) D0 E (enF n (ps.map pD)) (kS d t w z m (vI l) s6 s7) M
  | [], n, l, M, s6, s7, hl, hn, h => ⟨trivial, h M s6 s7 (Ext.refl M)⟩
  | p :: r, n, l, M, s6, s7, hl, hn, h => by
    rw [List.map_cons, enF_cons]
    refine ⟨trivial, ?_⟩
    have hsz : sizeLine = 16777216 := sizeLine_eq
    simp [toG, toB, kS, dGTup]
    refine ⟨by omega, ?_⟩
    have em : (1 : Int) + (z.length : Nat) + (n : Nat) = ((1 + z.length + n : Nat) : Int) := by omega
    rw [em]
    refine p_merged hl fun M1 x1 => ?_
    refine to_go hz r (n + 1) _ M1 _ _ (Nat.le_trans (mrg_len _ _ _) hl) (by simp at hn; omega) fun M' s6 s7 x => ?_
    exact h M' s6 s7 (x1.tr x)
theorem p_tokens (V : VocOk d z ps) (ht : OfZ z t) (hl : t.length ≤ 60) (h : ∀ M', Ext M M' → Q (vI (toks z ps t)) M') : sp_tokens_of [d, .str t] M Q E := by
  show r_tokens_of _ _ _ _
  rw [tokens_eq, V.e]
  have hz := V.z1
  have hp := V.l
  simp [dGTup]
  refine p_ltk ht hl fun M1 x1 => ?_
  rw [enum_eq]
  refine to_go (w := Str.ofString "vocabulary") (by omega) ps 0 (ltk z t) M1 none none (by rw [ltk_len]; omega) (by omega) fun M' s6 s7 x => ?_
  simp [kS]
  exact h M' (x1.tr x)
def ltB' : TSd := dSet 5 (dCall 3 sp__law_merged (dCons (dVar 5) (dCons (dVar 7) (dCons (dOp addD (dOp addD (dC (.int 1)) (dCB lenD (dCons (dVar 3) (dNil)))) (dVar 6)) (dNil)))))
theorem ltokens_eq : r__law_tokens = dSeq (dAsg (dVar 0) (dGTup 3 (dGCons (dGN 2) (dGCons (dGN 3) (dGCons (dGN 4) (dGNil)))))) (dSeq (dSet 5 (dLc (dWalk (dVar 1)) (dGN 8) (dYes) (dOp addD (dC (.int 1)) (dBM isStr indexD (dVar 3) (dCons (dVar 8) (dNil)))) [8])) (dSeq (dFor (dEnumA (dCons (dVar 4) (dNil))) toG ltB') (dRet (dCB tupOfD (dCons (dVar 5) (dNil)))))) := rfl
abbrev qS (d : D) (t w z : Str) (m : D) (tk : D) (s6 s7 s8 : Option D) : Sl := [some d, some (.str t), some (.str w), some (.str z), some m, some tk, s6, s7, s8]
theorem lt_goL {m : D} {w : Str} {s8 : Option D} (hz : z.length ≤ 6) : ∀ (ps : List (Int × Int)) (n : Nat) (l : List Int) (q : Nat) (M : Mem) (s6 s7 : Option D), M[q]? = some (.lst (l.map D.int)) → l.length ≤ 100 → n + ps.length ≤ 100 → (∀ q' M' s6 s7, Ext M M' → M'[q']? = some (.lst ((tkf (1 + z.length + n) ps l).map D.int)) → D0.nx (qS d t w z m (.obj q') s6 s7 s8) M') → forD toG ltB' (fun _ => True) D0 E (enF n (ps.map pD)) (qS d t w z m (.obj q) s6 s7 s8) M
  | [], n, l, q, M, s6, s7, hq, hl, hn, h => ⟨trivial, h q M s6 s7 (Ext.refl M) hq⟩
  | p :: r, n, l, q, M, s6, s7, hq, hl, hn, h => by
    rw [List.map_cons, enF_cons]
    refine ⟨trivial, ?_⟩
    have hsz : sizeLine = 16777216 := sizeLine_eq
    simp [toG, ltB', qS, dGTup]
    refine ⟨by omega, ?_⟩
    have em : (1 : Int) + (z.length : Nat) + (n : Nat) = ((1 + z.length + n : Nat) : Int) := by omega
    rw [em]
    refine p_lmerged hq hl fun c M1 x1 hM1 => ?_
    refine lt_goL hz r (n + 1) _ c M1 _ _ hM1 (Nat.le_trans (mrg_len _ _ _) hl) (by simp at hn; omega) fun q' M' s6 s7 x hM' => ?_
    exact h q' M' s6 s7 (x1.tr x) hM'
theorem p_ltokens (V : VocOk d z ps) (ht : OfZ z t) (hl : t.length ≤ 60) (h : ∀ M', Ext M M' → Q (vI (toks z ps t)) M') : sp__law_tokens [d, .str t] M Q E := by
  show r__law_tokens _ _ _ _
  rw [ltokens_eq, V.e]
  have hz := V.z1
  have hp := V.l
  simp [dGTup, seqD]
  rw [sgD_map]
  refine lcD_ex (fun c => D.str (chS c)) (fun c => D.int (ixZ z c)) t.cps.toList M (fun _ _ => trivial) (fun a ha M1 Q' x q => ?_) (by rw [cps_len]; omega) fun M1 x1 hM1 => ?_
  · simp [wipeD]
    refine ix_mem (ht a ha) ?_
    have := q []
    rw [List.append_nil] at this
    exact this
  · rw [enum_eq]
    have hM2 : M1[M.length]? = some (.lst ((ltk z t).map D.int)) := by
      rw [hM1]
      unfold ltk
      rw [List.map_map]
      rfl
    refine lt_goL (w := Str.ofString "vocabulary") (by omega) ps 0 (ltk z t) M.length M1 none none hM2 (by rw [ltk_len]; omega) (by omega) fun q' M' s6 s7 x hM' => ?_
    simp [qS, tupOfD, hM']
    exact h M' (x1.tr x)
def tpc (z : Str) (ps : List (Int × Int)) (n : Int) : Str := (vps z ps).getD n.toNat Str.empty
def ttx (z : Str) (ps : List (Int × Int)) (l : List Int) : Str := Txt.join "" (l.map (tpc z ps))
theorem sum_le {L : Nat} : ∀ {ws : List Str}, (∀ x ∈ ws, x.length ≤ L) → (ws.map (·.length)).sum ≤ ws.length * L
  | [], _ => Nat.zero_le _
  | w :: ws, h => by
    have a := h w (by simp)
    have b := sum_le (ws := ws) fun x hx => h x (by simp [hx])
    rw [List.map_cons, List.sum_cons, List.length_cons, Nat.succ_mul]
    omega
end
end Z03
set_option Elab.async false
set_option linter.all false
set_option maxRecDepth 100000
set_option maxHeartbeats 1000000
namespace Z03
open PySem PySem.Spec PyProof.Rows L2 GxR Gn Dl
def adj : List Int → List (Int × Int)
  | a :: b :: r => (a, b) :: adj (b :: r)
  | _ => []
def freshB (ws : List Str) (p : Int × Int) : Bool := !decide (stp ws p ∈ ws)
def occ (ws : List Str) (rows : List (List Int)) : List (Int × Int) := rows.flatMap fun r => (adj r).filter (freshB ws)
abbrev Tal := List ((Int × Int) × Nat)
def bmp : Tal → Int × Int → Tal
  | [], p => [(p, 1)]
  | (q, n) :: r, p => if q = p then (q, n + 1) :: r else (q, n) :: bmp r p
structure TOk (t : Tal) (ps : List (Int × Int)) : Prop where
  nd : (t.map (·.1)).Nodup
  e : ∀ p n, (p, n) ∈ t ↔ (p ∈ ps ∧ n = ps.count p)
theorem bmp_keys (p : Int × Int) : ∀ t : Tal, (bmp t p).map (·.1) = if p ∈ t.map (·.1) then t.map (·.1) else t.map (·.1) ++ [p]
  | [] => rfl
  | (q, n) :: r => by
    by_cases h : q = p
    · subst h
      simp [bmp]
    · have ih := bmp_keys p r
      simp only [bmp, if_neg h, List.map_cons, List.mem_cons, ih]
      by_cases hm : p ∈ r.map (·.1)
      · rw [if_pos hm, if_pos (.inr hm)]
      · rw [if_neg hm, if_neg (fun z => z.elim (fun e => h e.symm) hm)]
        rfl
theorem bmp_mem (p : Int × Int) : ∀ (t : Tal), (t.map (·.1)).Nodup → ∀ q n, (q, n) ∈ bmp t p ↔ ((q ≠ p ∧ (q, n) ∈ t) ∨ (q = p ∧ ((∃ m, (p, m) ∈ t ∧ n = m + 1) ∨ (p ∉ t.map (·.1) ∧ n = 1))))
  | [], hn, q, n => by
    simp [bmp]
  | (q0, n0) :: r, hn, q, n => by
    rw [List.map_cons] at hn
    obtain ⟨n1, n2⟩ := List.nodup_cons.mp hn
    have ih := bmp_mem p r n2 q n
    by_cases h : q0 = p
    · subst h
      simp only [bmp, if_true, List.mem_cons, List.map_cons]
      constructor
      · rintro (e | e)
        · injection e with e1 e2
          exact .inr ⟨e1, .inl ⟨n0, by simp, e2⟩⟩
        · refine .inl ⟨fun z => n1 (z ▸ List.mem_map.mpr ⟨_, e, rfl⟩), .inr e⟩
      · rintro (⟨h1, h2 | h2⟩ | ⟨rfl, ⟨m, h1 | h1, h2⟩ | ⟨h1, h2⟩⟩)
        · injection h2 with h2 _
          exact absurd h2 h1
        · exact .inr h2
        · injection h1 with _ h1
          subst h1 h2
          exact .inl rfl
        · exact absurd (List.mem_map.mpr ⟨_, h1, rfl⟩) n1
        · exact absurd (.inl trivial) h1
    · simp only [bmp, if_neg h, List.mem_cons, List.map_cons, ih]
      constructor
      · rintro (e | ⟨h1, h2⟩ | ⟨h1, ⟨m, h2, h3⟩ | ⟨h2, h3⟩⟩)
        · injection e with e1 e2
          subst e1 e2
          exact .inl ⟨h, .inl rfl⟩
        · exact .inl ⟨h1, .inr h2⟩
        · exact .inr ⟨h1, .inl ⟨m, .inr h2, h3⟩⟩
        · exact .inr ⟨h1, .inr ⟨fun z => z.elim (fun e => h e.symm) h2, h3⟩⟩
      · rintro (⟨h1, h2 | h2⟩ | ⟨h1, ⟨m, h2 | h2, h3⟩ | ⟨h2, h3⟩⟩)
        · exact .inl h2
        · exact .inr (.inl ⟨h1, h2⟩)
        · injection h2 with h2 _
          exact absurd h2.symm h
        · exact .inr (.inr ⟨h1, .inl ⟨m, h2, h3⟩⟩)
        · exact .inr (.inr ⟨h1, .inr ⟨fun z => h2 (.inr z), h3⟩⟩)
theorem TOk.bmp {t : Tal} {ps : List (Int × Int)} (T : TOk t ps) (p : Int × Int) : TOk (bmp t p) (ps ++ [p]) := by
  have hk : p ∈ t.map (·.1) ↔ p ∈ ps := ⟨fun h => by
    obtain ⟨⟨q, n⟩, h1, h2⟩ := List.mem_map.mp h
    dsimp only at h2
    subst h2
    exact ((T.e _ _).mp h1).1, fun h => List.mem_map.mpr ⟨(p, ps.count p), (T.e _ _).mpr ⟨h, rfl⟩, rfl⟩⟩
  refine ⟨?_, fun q n => ?_⟩
  · rw [bmp_keys]
    split
    · exact T.nd
    · rename_i h
      exact List.nodup_append.mpr ⟨T.nd, by simp, fun x hx y hy => by
        rw [List.mem_singleton.mp hy]
        exact fun e => h (e ▸ hx)⟩
  · rw [bmp_mem p t T.nd q n, List.mem_append, List.mem_singleton, List.count_append]
    by_cases h : q = p
    · subst h
      have c1 : List.count q [q] = 1 := by simp
      rw [c1]
      constructor
      · rintro (⟨h1, _⟩ | ⟨_, ⟨m, h1, h2⟩ | ⟨h1, h2⟩⟩)
        · exact absurd rfl h1
        · have := (T.e _ _).mp h1
          exact ⟨.inr rfl, by omega⟩
        · have h3 : q ∉ ps := mt hk.mpr h1
          exact ⟨.inr rfl, by rw [List.count_eq_zero.mpr h3, h2]⟩
      · rintro ⟨_, h2⟩
        refine .inr ⟨rfl, ?_⟩
        by_cases hq : q ∈ ps
        · exact .inl ⟨ps.count q, (T.e _ _).mpr ⟨hq, rfl⟩, h2⟩
        · refine .inr ⟨mt hk.mp hq, ?_⟩
          rw [List.count_eq_zero.mpr hq] at h2
          exact h2
    · have c0 : List.count q [p] = 0 := List.count_eq_zero.mpr (by simpa using h)
      rw [c0, Nat.add_zero]
      constructor
      · rintro (⟨_, h1⟩ | ⟨h1, _⟩)
        · have := (T.e _ _).mp h1
          exact ⟨.inl this.1, this.2⟩
        · exact absurd h1 h
      · rintro ⟨h1 | h1, h2⟩
        · exact .inl ⟨h, (T.e _ _).mpr ⟨h1, h2⟩⟩
        · exact absurd h1 h
theorem TOk.nil : TOk [] [] := ⟨List.nodup_nil, fun p n => by simp⟩
theorem TOk.all {t : Tal} {ps : List (Int × Int)} (T : TOk t ps) : ∀ qs, TOk (qs.foldl Z03.bmp t) (ps ++ qs)
  | [] => by simpa using T
  | q :: qs => by
    have := TOk.all (T.bmp q) qs
    simpa using this
theorem bmp_len (p : Int × Int) : ∀ t : Tal, (bmp t p).length ≤ t.length + 1
  | [] => by simp [bmp]
  | (q, n) :: r => by
    have := bmp_len p r
    simp only [bmp]
    split <;> simp <;> omega
/-- what the next merge is -/
def IsNx (os : List (Int × Int)) : Option (Int × Int) → Prop
  | none => ∀ p, os.count p < 2
  | some p => 2 ≤ os.count p ∧ ∀ q, os.count q ≤ os.count p ∧ (os.count q = os.count p → ¬ Zn.ltP q p)
theorem ltP_tot {p q : Int × Int} (h1 : ¬ Zn.ltP p q) (h2 : ¬ Zn.ltP q p) : p = q := by
  unfold Zn.ltP at *
  exact Prod.ext (by omega) (by omega)
theorem IsNx.det {os : List (Int × Int)} : ∀ {r s : Option (Int × Int)}, IsNx os r → IsNx os s → r = s
  | none, none, _, _ => rfl
  | none, some p, h, k => by have := h p; have := k.1; omega
  | some p, none, h, k => by have := k p; have := h.1; omega
  | some p, some q, h, k => by
    have a := (h.2 q).1
    have b := (k.2 p).1
    have e : os.count p = os.count q := by omega
    rw [ltP_tot ((k.2 p).2 e) ((h.2 q).2 e.symm)]
theorem IsNx.congr {os os' : List (Int × Int)} (h : ∀ p, os.count p = os'.count p) : ∀ {r : Option (Int × Int)}, IsNx os r → IsNx os' r
  | none, k => fun p => by rw [← h]; exact k p
  | some p, k => ⟨by rw [← h]; exact k.1, fun q => by rw [← h, ← h]; exact k.2 q⟩
/-- the greatest of the counts, and the least of the pairs that have it -/
theorem nx_none {t : Tal} {os : List (Int × Int)} (T : TOk t os) {m : Int} (h1 : t.map (·.2) = [] → m = 0) (h2 : ∀ j ∈ t.map (fun e => (e.2 : Int)), j ≤ m) (hm : m < 2) : IsNx os none := fun p => by
  by_cases h : p ∈ os
  · have := h2 (os.count p : Nat) (List.mem_map.mpr ⟨(p, os.count p), (T.e _ _).mpr ⟨h, rfl⟩, rfl⟩)
    omega
  · rw [List.count_eq_zero.mpr h]
    omega
theorem nx_some {t : Tal} {os : List (Int × Int)} (T : TOk t os) {m : Int} (hm : 2 ≤ m) (h2 : ∀ j ∈ t.map (fun e => (e.2 : Int)), j ≤ m) {p : Int × Int} (hp : p ∈ (t.filter fun e => decide ((e.2 : Int) = m)).map (·.1)) (hl : ∀ q ∈ (t.filter fun e => decide ((e.2 : Int) = m)).map (·.1), ¬ Zn.ltP q p) : IsNx os (some p) := by
  obtain ⟨⟨p', n⟩, h3, h4⟩ := List.mem_map.mp hp
  dsimp only at h4
  subst h4
  obtain ⟨h5, h6⟩ := List.mem_filter.mp h3
  have e6 : (n : Int) = m := by simpa using h6
  obtain ⟨h7, h8⟩ := (T.e _ _).mp h5
  refine ⟨by omega, fun q => ?_⟩
  by_cases hq : q ∈ os
  · have hm2 := (T.e q (os.count q)).mpr ⟨hq, rfl⟩
    have := h2 (os.count q : Nat) (List.mem_map.mpr ⟨_, hm2, rfl⟩)
    refine ⟨by omega, fun e => hl q (List.mem_map.mpr ⟨(q, os.count q), List.mem_filter.mpr ⟨hm2, ?_⟩, rfl⟩)⟩
    simp
    omega
  · have c0 := List.count_eq_zero.mpr hq
    exact ⟨by omega, fun e => by omega⟩
theorem nx_ne {t : Tal} {m : Int} (h : m ∈ t.map (fun e => (e.2 : Int))) : (t.filter fun e => decide ((e.2 : Int) = m)).map (·.1) ≠ [] := fun e => by
  obtain ⟨x, h1, h2⟩ := List.mem_map.mp h
  have : x.1 ∈ (t.filter fun e => decide ((e.2 : Int) = m)).map (·.1) := List.mem_map.mpr ⟨x, List.mem_filter.mpr ⟨h1, by simpa using h2⟩, rfl⟩
  rw [e] at this
  cases this
inductive Tr (z : Str) : List (List Int) → List (Int × Int) → Nat → List (Int × Int) → Prop
  | stop {rows ms} : Tr z rows ms 0 ms
  | none {rows ms k} : IsNx (occ (vps z ms) rows) none → Tr z rows ms k ms
  | step {rows ms k p out} : IsNx (occ (vps z ms) rows) (some p) → Tr z (rows.map (mrg p ((1 + z.length + ms.length : Nat) : Int))) (ms ++ [p]) k out → Tr z rows ms (k + 1) out
theorem Tr.det {z : Str} {rows : List (List Int)} {ms : List (Int × Int)} {k : Nat} {out : List (Int × Int)} (h : Tr z rows ms k out) : ∀ {out'}, Tr z rows ms k out' → out = out' := by
  induction h with
  | stop => intro out' h'; cases h' <;> rfl
  | none n1 =>
    intro out' h'
    cases h' with
    | stop => rfl
    | none _ => rfl
    | step n2 _ => exact absurd (IsNx.det n1 n2) (by intro e; cases e)
  | step n1 _ ih =>
    intro out' h'
    cases h' with
    | none n2 => exact absurd (IsNx.det n1 n2) (by intro e; cases e)
    | step n2 h2 =>
      cases IsNx.det n1 n2
      exact ih h2
theorem Tr.pre {z : Str} {rows : List (List Int)} {ms : List (Int × Int)} {k : Nat} {out : List (Int × Int)} (h : Tr z rows ms k out) : ∃ e, out = ms ++ e ∧ e.length ≤ k := by
  induction h with
  | stop => exact ⟨[], by simp, Nat.le_refl _⟩
  | none _ => exact ⟨[], by simp, Nat.zero_le _⟩
  | @step rows ms k p out _ _ ih =>
    obtain ⟨e, h1, h2⟩ := ih
    exact ⟨p :: e, by rw [h1]; simp, by simp; omega⟩
theorem Tr.less {z : Str} {rows : List (List Int)} {ms : List (Int × Int)} {k : Nat} {out : List (Int × Int)} (h : Tr z rows ms k out) : ∀ k', k' ≤ k → Tr z rows ms k' (out.take (ms.length + k')) := by
  induction h with
  | stop => intro k' hk; rw [List.take_of_length_le (by omega)]; cases Nat.le_zero.mp hk; exact .stop
  | none n1 => intro k' hk; rw [List.take_of_length_le (by omega)]; exact .none n1
  | @step rows ms k p out n1 h1 ih =>
    intro k' hk
    cases k' with
    | zero =>
      obtain ⟨e, e1, _⟩ := h1.pre
      rw [e1, List.append_assoc, Nat.add_zero, List.take_left]
      exact .stop
    | succ k' =>
      have := ih k' (by omega)
      rw [show (ms ++ [p]).length + k' = ms.length + (k' + 1) by simp; omega] at this
      exact .step n1 this
theorem mrg_nil (p : Int × Int) (m : Int) : mrg p m [] = [] := by unfold mrg; rfl
theorem occ_perm {ws : List Str} {rows rows' : List (List Int)} (h : rows'.Perm ([] :: rows)) (p : Int × Int) : (occ ws rows').count p = (occ ws rows).count p := by
  have := (h.flatMap_right fun r => (adj r).filter (freshB ws)).count_eq p
  rw [List.flatMap_cons] at this
  simpa [occ, adj] using this
theorem Tr.perm {z : Str} {rows : List (List Int)} {ms : List (Int × Int)} {k : Nat} {out : List (Int × Int)} (h : Tr z rows ms k out) : ∀ {rows'}, rows'.Perm ([] :: rows) → Tr z rows' ms k out := by
  induction h with
  | stop => intro rows' _; exact .stop
  | none n1 => intro rows' hp; exact .none (n1.congr fun p => (occ_perm hp p).symm)
  | @step rows ms k p out n1 h1 ih =>
    intro rows' hp
    refine .step (n1.congr fun p => (occ_perm hp p).symm) (ih ?_)
    have := hp.map (mrg p ((1 + z.length + ms.length : Nat) : Int))
    rw [List.map_cons, mrg_nil] at this
    exact this
def RwB (n : Nat) (rows : List (List Int)) : Prop := ∀ r ∈ rows, ∀ x ∈ r, 1 ≤ x ∧ x < (n : Int)
theorem adj_mem : ∀ {l : List Int} {p : Int × Int}, p ∈ adj l → p.1 ∈ l ∧ p.2 ∈ l
  | a :: b :: r, p, h => by
    rcases List.mem_cons.mp h with e | h
    · subst e; exact ⟨by simp, by simp⟩
    · have := adj_mem h
      exact ⟨List.mem_cons_of_mem _ this.1, List.mem_cons_of_mem _ this.2⟩
  | [], p, h => by cases h
  | [_], p, h => by cases h
theorem nx_mem {ws : List Str} {rows : List (List Int)} {p : Int × Int} (h : IsNx (occ ws rows) (some p)) : (∃ r ∈ rows, p.1 ∈ r ∧ p.2 ∈ r) ∧ stp ws p ∉ ws := by
  have hp : p ∈ occ ws rows := List.count_pos_iff.mp (by have := h.1; omega)
  obtain ⟨r, hr, hp⟩ := List.mem_flatMap.mp hp
  obtain ⟨h1, h2⟩ := List.mem_filter.mp hp
  exact ⟨⟨r, hr, adj_mem h1⟩, by simpa [freshB] using h2⟩
theorem Vc.snoc {z : Str} {ms : List (Int × Int)} (V : Vc z ms) {rows : List (List Int)} (B : RwB (1 + z.length + ms.length) rows) {p : Int × Int} (h : IsNx (occ (vps z ms) rows) (some p)) (hm : ms.length < 10) : Vc z (ms ++ [p]) := by
  obtain ⟨⟨r, hr, h1, h2⟩, h3⟩ := nx_mem h
  have b1 := B r hr _ h1
  have b2 := B r hr _ h2
  have e : vps z (ms ++ [p]) = vps z ms ++ [stp (vps z ms) p] := pcs_snoc _ _ _
  refine ⟨V.lo, V.l, V.nd, by simp; omega, V.p.snoc ⟨b1.1, by have := b1.2; omega⟩ ⟨b2.1, by have := b2.2; omega⟩, ?_⟩
  rw [e]
  exact List.nodup_append.mpr ⟨V.nd2, by simp, fun x hx y hy => by
    rw [List.mem_singleton.mp hy]
    exact fun e => h3 (e ▸ hx)⟩
theorem mrg_b1 {n : Nat} (p : Int × Int) {m : Int} (hm : 1 ≤ m ∧ m < (n : Int)) : ∀ {l : List Int}, (∀ x ∈ l, 1 ≤ x ∧ x < (n : Int)) → ∀ x ∈ mrg p m l, 1 ≤ x ∧ x < (n : Int) := by
  have go : ∀ (k : Nat) (l : List Int), l.length ≤ k → (∀ x ∈ l, 1 ≤ x ∧ x < (n : Int)) → ∀ x ∈ mrg p m l, 1 ≤ x ∧ x < (n : Int) := by
    intro k
    induction k with
    | zero =>
      intro l hl _ x hx
      rw [List.length_eq_zero_iff.mp (Nat.le_zero.mp hl), mrg_nil] at hx
      cases hx
    | succ k ih =>
      intro l hl h x hx
      match l with
      | [] => rw [mrg_nil] at hx; cases hx
      | [a] => have : mrg p m [a] = [a] := by unfold mrg; rfl
               rw [this] at hx; exact h x hx
      | a :: b :: r =>
        simp only [List.length_cons] at hl
        by_cases c : a = p.1 ∧ b = p.2
        · rw [mrg_yes c] at hx
          rcases List.mem_cons.mp hx with e | hx
          · rw [e]; exact hm
          · exact ih r (by omega) (fun y hy => h y (by simp [hy])) x hx
        · rw [mrg_no c] at hx
          rcases List.mem_cons.mp hx with e | hx
          · rw [e]; exact h a (by simp)
          · exact ih (b :: r) (by simp; omega) (fun y hy => h y (List.mem_cons_of_mem _ hy)) x hx
  intro l h
  exact go l.length l (Nat.le_refl _) h
theorem RwB.map {n : Nat} {rows : List (List Int)} (B : RwB n rows) (p : Int × Int) (h1 : 1 ≤ n) : RwB (n + 1) (rows.map (mrg p (n : Int))) := fun r hr => by
  obtain ⟨r0, h0, rfl⟩ := List.mem_map.mp hr
  exact mrg_b1 p ⟨by omega, by omega⟩ fun x hx => by
    have := B r0 h0 x hx
    omega
theorem Tr.vc {z : Str} {rows : List (List Int)} {ms : List (Int × Int)} {k : Nat} {out : List (Int × Int)} (h : Tr z rows ms k out) : Vc z ms → RwB (1 + z.length + ms.length) rows → ms.length + k ≤ 10 → Vc z out := by
  induction h with
  | stop => exact fun V _ _ => V
  | none _ => exact fun V _ _ => V
  | @step rows ms k p out n1 _ ih =>
    intro V B hk
    refine ih (V.snoc B n1 (by omega)) ?_ (by simp; omega)
    have := B.map p (by omega)
    simpa [Nat.add_assoc] using this
end Z03
set_option Elab.async false
set_option linter.all false
set_option maxRecDepth 100000
set_option maxHeartbeats 1000000
namespace Z03
open PySem PySem.Spec PyProof.Rows L2 GxR Gn Dl
def kp (p : Int × Int) : List Key := [Sum.inl p.1, Sum.inl p.2]
theorem kp_inj {p q : Int × Int} (h : kp p = kp q) : p = q := by
  unfold kp at h
  simp only [List.cons.injEq, Sum.inl.injEq, and_true] at h
  exact Prod.ext h.1 h.2
def dk (t : Tal) : List (List Key × D) := t.map fun e => (kp e.1, .int (e.2 : Nat))
def cntT (t : Tal) (p : Int × Int) : Nat := ((t.find? fun e => decide (e.1 = p)).map (·.2)).getD 0
theorem dec_kp (p q : Int × Int) : decide (kp p = kp q) = decide (p = q) := by
  by_cases h : p = q
  · subst h; simp
  · rw [decide_eq_false h, decide_eq_false fun z => h (kp_inj z)]
theorem find_dk (p : Int × Int) : ∀ t : Tal, (dk t).find? (fun kv => decide (kv.1 = kp p)) = (t.find? fun e => decide (e.1 = p)).map fun e => (kp e.1, D.int (e.2 : Nat))
  | [] => rfl
  | e :: t => by
    have ih := find_dk p t
    show List.find? _ ((kp e.1, D.int (e.2 : Nat)) :: dk t) = _
    rw [List.find?_cons, List.find?_cons, dec_kp, ih]
    cases decide (e.1 = p) <;> rfl
theorem val_dk (t : Tal) (p : Int × Int) : (valD (dk t) (kp p)).getD (.int 0) = .int (cntT t p : Nat) := by
  unfold valD cntT
  rw [find_dk]
  cases t.find? (fun e => decide (e.1 = p)) <;> rfl
theorem find_mem {t : Tal} (hn : (t.map (·.1)).Nodup) {e : (Int × Int) × Nat} (he : e ∈ t) : t.find? (fun x => decide (x.1 = e.1)) = some e := by
  induction t with
  | nil => cases he
  | cons x t ih =>
    rw [List.map_cons] at hn
    obtain ⟨n1, n2⟩ := List.nodup_cons.mp hn
    rw [List.find?_cons]
    rcases List.mem_cons.mp he with rfl | he
    · simp
    · have : x.1 ≠ e.1 := fun z => n1 (z ▸ List.mem_map.mpr ⟨e, he, rfl⟩)
      rw [decide_eq_false this]
      exact ih n2 he
theorem val_mem {t : Tal} (hn : (t.map (·.1)).Nodup) {e : (Int × Int) × Nat} (he : e ∈ t) : valD (dk t) (kp e.1) = some (.int (e.2 : Nat)) := by
  unfold valD
  rw [find_dk, find_mem hn he]
  rfl
theorem any_dk (p : Int × Int) (t : Tal) : ((dk t).any fun kv => decide (kv.1 = kp p)) = decide (p ∈ t.map (·.1)) := by
  induction t with
  | nil => rfl
  | cons e t ih =>
    show (decide (kp e.1 = kp p) || (dk t).any _) = _
    rw [ih, dec_kp, List.map_cons]
    by_cases h : e.1 = p
    · subst h; simp
    · have h' : ¬ p = e.1 := fun z => h z.symm
      simp [h, h']
theorem put_dk (p : Int × Int) : ∀ {t : Tal}, (t.map (·.1)).Nodup → putKD (dk t) (kp p) (.int ((cntT t p : Nat) + 1)) = dk (bmp t p) := by
  intro t hn
  unfold putKD
  rw [any_dk]
  by_cases hp : p ∈ t.map (·.1)
  · rw [if_pos (decide_eq_true hp)]
    have go : ∀ (t : Tal) (n : Nat), (t.map (·.1)).Nodup → p ∈ t.map (·.1) → (∀ e ∈ t, e.1 = p → e.2 = n) → (dk t).map (fun kv => if kv.1 = kp p then (kv.1, D.int ((n : Nat) + 1)) else kv) = dk (bmp t p) := by
      intro t
      induction t with
      | nil => intro n _ h _; cases h
      | cons e t ih =>
        intro n hn hp hc
        rw [List.map_cons] at hn hp
        obtain ⟨n1, n2⟩ := List.nodup_cons.mp hn
        by_cases h : e.1 = p
        · have rest : (dk t).map (fun kv => if kv.1 = kp p then (kv.1, D.int ((n : Nat) + 1)) else kv) = dk t := by
            rw [show dk t = (dk t).map id by simp]
            rw [List.map_map]
            refine List.map_congr_left fun kv hkv => ?_
            obtain ⟨x, hx, rfl⟩ := List.mem_map.mp hkv
            have : kp x.1 ≠ kp p := fun z => n1 (by rw [h, ← kp_inj z]; exact List.mem_map.mpr ⟨x, hx, rfl⟩)
            simp [this]
          have e2 := hc e (List.mem_cons_self ..) h
          obtain ⟨q, k⟩ := e
          dsimp only at h e2
          subst h e2
          show (if kp q = kp q then (kp q, D.int ((k : Nat) + 1)) else (kp q, D.int (k : Nat))) :: (dk t).map _ = _
          rw [rest, if_pos rfl]
          simp [bmp, dk]
        · have hp' : p ∈ t.map (·.1) := (List.mem_cons.mp hp).elim (fun z => absurd z.symm h) id
          have := ih n n2 hp' fun x hx => hc x (List.mem_cons_of_mem _ hx)
          obtain ⟨q, k⟩ := e
          dsimp only at h
          show (if kp q = kp p then (kp q, D.int ((n : Nat) + 1)) else (kp q, D.int (k : Nat))) :: (dk t).map _ = _
          rw [this, if_neg fun z => h (kp_inj z)]
          simp [bmp, dk, h]
    refine go t (cntT t p) hn hp fun e he h => ?_
    unfold cntT
    subst h
    rw [find_mem hn he]
    rfl
  · rw [if_neg (by simpa using hp)]
    have c0 : cntT t p = 0 := by
      unfold cntT
      rw [List.find?_eq_none.mpr fun x hx => by
        have : x.1 ≠ p := fun z => hp (z ▸ List.mem_map.mpr ⟨x, hx, rfl⟩)
        simp [this]]
      rfl
    rw [c0]
    have go : ∀ t : Tal, p ∉ t.map (·.1) → bmp t p = t ++ [(p, 1)] := by
      intro t
      induction t with
      | nil => intro _; rfl
      | cons e t ih =>
        intro h
        rw [List.map_cons, List.mem_cons] at h
        have h1 : e.1 ≠ p := fun z => h (.inl z.symm)
        obtain ⟨q, k⟩ := e
        dsimp only at h1
        simp only [bmp, if_neg h1, ih fun z => h (.inr z), List.cons_append]
    rw [go t hp]
    simp [dk]
theorem keys_kp (p : Int × Int) : keysD [.int p.1, .int p.2] = some (kp p) := by simp [keysD, Dl.keyOf, kp]
section
variable {M : Mem} {Q : KD} {E : KE'} {D0 : EndsD} {S : Sl}
/-- d.get(p, 0) + 1 -/
theorem get_dk {c : Nat} {t : Tal} (hc : M[c]? = some (.dT (dk t))) (p : Int × Int) (h : Q (.int (cntT t p : Nat)) M) : getT2 (.obj c) (pD p) (.int 0) M Q := by
  refine ⟨c, _, _, kp p, rfl, hc, rfl, keys_kp p, ?_⟩
  rw [val_dk]
  exact h
theorem setT_dk {c : Nat} {t : Tal} {K : Mem → Prop} (hc : M[c]? = some (.dT (dk t))) (hn : (t.map (·.1)).Nodup) (hl : t.length ≤ 1000) (p : Int × Int) (h : K (M.set c (.dT (dk (bmp t p))))) : setT (.obj c) (pD p) (.int ((cntT t p : Nat) + 1)) M K := by
  refine ⟨c, _, _, kp p, rfl, hc, rfl, keys_kp p, ?_, ?_⟩
  · have := sizeLine_eq
    show (dk t).length < sizeLine
    rw [show (dk t).length = t.length from List.length_map ..]
    omega
  · rw [put_dk p hn]
    exact h
/-- the walk over the locked dict: what has the count m -/
theorem fil_go {n j v g : Nat} {t : Tal} {m : Int} (hn : (t.map (·.1)).Nodup) (hS : S[j]? = some (some (.obj n))) (hg : S[g]? = some (some (.int m))) (hv : v < S.length) (hjv : j ≠ v) (hgv : g ≠ v) {A : Mem} (hA : A[n]? = some (.lkt (dk t))) :
    ∀ (r : Tal) (acc : List (Int × Int)), (∀ e ∈ r, e ∈ t) → acc.length + r.length ≤ 1000 → Q (.obj A.length) (A ++ [.lst ((acc ++ (r.filter fun e => decide ((e.2 : Int) = m)).map (·.1)).map pD)]) →
    lcD (dGN v) (dTest (dOp (eqA false) (dOp ixLT (dVar j) (dVar v)) (dVar g))) (dVar v) [v] A.length (fun _ => True) Q S (r.map fun e => .tup ((kp e.1).map kyD)) (A ++ [.lst (acc.map pD)])
  | [], acc, _, _, h => ⟨trivial, by simpa using h⟩
  | e :: r, acc, hr, hl, h => by
    have hlen : n < A.length := (List.getElem?_eq_some_iff.mp hA).1
    have hA' : (A ++ [Cell.lst (acc.map pD)])[n]? = some (.lkt (dk t)) := by rw [List.getElem?_append_left hlen]; exact hA
    have s1 : ((wipeD S [v]).set v (some (.tup ((kp e.1).map kyD))))[j]? = some (some (.obj n)) := by simp [wipeD, List.getElem?_set_ne (Ne.symm hjv), hS]
    have s2 : ((wipeD S [v]).set v (some (.tup ((kp e.1).map kyD))))[g]? = some (some (.int m)) := by simp [wipeD, List.getElem?_set_ne (Ne.symm hgv), hg]
    have s3 : ((wipeD S [v]).set v (some (.tup ((kp e.1).map kyD))))[v]? = some (some (.tup ((kp e.1).map kyD))) := by
      rw [List.getElem?_set_self]
      simp [wipeD, hv]
    have ek : (kp e.1).map kyD = [.int e.1.1, .int e.1.2] := rfl
    refine ⟨trivial, ?_⟩
    show ∃ b, _
    refine ⟨_, s1, _, s3, n, _, _, kp e.1, .int (e.2 : Nat), rfl, hA', rfl, ?_, val_mem hn (hr e (by simp)), ?_⟩
    · rw [ek]; exact keys_kp e.1
    · refine ⟨_, s2, ?_⟩
      refine (eqA_int (neg := false)).mpr ⟨_, rfl, ?_⟩
      have hsz := sizeLine_eq
      simp only [List.length_cons] at hl
      by_cases c : (e.2 : Int) = m
      · simp only [c, Bool.false_eq_true, if_false, decide_true, if_true]
        refine ⟨_, s3, acc.map pD, by simp, by simp; omega, ?_⟩
        have e1 : (A ++ [Cell.lst (acc.map pD)]).set A.length (.lst (acc.map pD ++ [D.tup ((kp e.1).map kyD)])) = A ++ [.lst ((acc ++ [e.1]).map pD)] := by
          rw [ek]
          simp [pD]
        rw [e1]
        refine fil_go hn hS hg hv hjv hgv hA r (acc ++ [e.1]) (fun x hx => hr x (List.mem_cons_of_mem _ hx)) (by simp; omega) ?_
        have : ((e :: r).filter fun e => decide ((e.2 : Int) = m)).map (·.1) = e.1 :: (r.filter fun e => decide ((e.2 : Int) = m)).map (·.1) := by simp [c]
        rw [this] at h
        simpa using h
      · simp only [c, Bool.false_eq_true, if_false, decide_false]
        refine fil_go hn hS hg hv hjv hgv hA r acc (fun x hx => hr x (List.mem_cons_of_mem _ hx)) (by omega) ?_
        have : ((e :: r).filter fun e => decide ((e.2 : Int) = m)).map (·.1) = (r.filter fun e => decide ((e.2 : Int) = m)).map (·.1) := by simp [c]
        rw [this] at h
        exact h
theorem p_fil {n j v g : Nat} {t : Tal} {m : Int} (hn : (t.map (·.1)).Nodup) (hl : t.length ≤ 1000) (hS : S[j]? = some (some (.obj n))) (hg : S[g]? = some (some (.int m))) (hv : v < S.length) (hjv : j ≠ v) (hgv : g ≠ v) (hM : M[n]? = some (.dT (dk t)))
    (h : Q (.obj M.length) (M ++ [.lst (((t.filter fun e => decide ((e.2 : Int) = m)).map (·.1)).map pD)])) :
    dLockT j (dLc (dKeysT (dVar j)) (dGN v) (dTest (dOp (eqA false) (dOp ixLT (dVar j) (dVar v)) (dVar g))) (dVar v) [v]) S M Q E := by
  have hlen : n < M.length := (List.getElem?_eq_some_iff.mp hM).1
  have hA : (M.set n (.lkt (dk t)))[n]? = some (.lkt (dk t)) := List.getElem?_set_self hlen
  refine ⟨n, _, hS, hM, ?_⟩
  show ∃ d, _
  refine ⟨_, hS, n, _, rfl, hA, ?_⟩
  have ek : (dk t).map (fun kv => D.tup (kv.1.map kyD)) = t.map fun e => .tup ((kp e.1).map kyD) := by simp [dk]
  rw [ek]
  refine fil_go (Q := fun v M' => M'[n]? = some (.lkt (dk t)) ∧ Q v (M'.set n (.dT (dk t)))) hn hS hg hv hjv hgv hA t [] (fun _ h => h) (by simpa using hl) ?_
  refine ⟨by rw [List.getElem?_append_left (by rw [List.length_set]; exact hlen)]; exact hA, ?_⟩
  have e2 : (M.set n (.lkt (dk t))).set n (.dT (dk t)) = M := by
    rw [List.set_set]
    exact List.ext_getElem? fun i => by
      by_cases hi : n = i
      · subst hi; rw [List.getElem?_set_self hlen, hM]
      · rw [List.getElem?_set_ne hi]
  rw [List.set_append_left _ _ (by rw [List.length_set]; exact hlen), e2, List.length_set]
  simpa using h
/-- the counts of the locked dict -/
theorem cnt_go {n j v : Nat} {t : Tal} (hn : (t.map (·.1)).Nodup) (hS : S[j]? = some (some (.obj n))) (hv : v < S.length) (hjv : j ≠ v) {A : Mem} (hA : A[n]? = some (.lkt (dk t))) :
    ∀ (r : Tal) (acc : List Int), (∀ e ∈ r, e ∈ t) → acc.length + r.length ≤ 1000 → Q (.obj A.length) (A ++ [.lst ((acc ++ r.map fun e => (e.2 : Int)).map D.int)]) →
    lcD (dGN v) dYes (dOp ixLT (dVar j) (dVar v)) [v] A.length (fun _ => True) Q S (r.map fun e => .tup ((kp e.1).map kyD)) (A ++ [.lst (acc.map D.int)])
  | [], acc, _, _, h => ⟨trivial, by simpa using h⟩
  | e :: r, acc, hr, hl, h => by
    have hlen : n < A.length := (List.getElem?_eq_some_iff.mp hA).1
    have hA' : (A ++ [Cell.lst (acc.map D.int)])[n]? = some (.lkt (dk t)) := by rw [List.getElem?_append_left hlen]; exact hA
    have s1 : ((wipeD S [v]).set v (some (.tup ((kp e.1).map kyD))))[j]? = some (some (.obj n)) := by simp [wipeD, List.getElem?_set_ne (Ne.symm hjv), hS]
    have s3 : ((wipeD S [v]).set v (some (.tup ((kp e.1).map kyD))))[v]? = some (some (.tup ((kp e.1).map kyD))) := by
      rw [List.getElem?_set_self]
      simp [wipeD, hv]
    have ek : (kp e.1).map kyD = [.int e.1.1, .int e.1.2] := rfl
    have hsz := sizeLine_eq
    simp only [List.length_cons] at hl
    refine ⟨trivial, ?_⟩
    simp only [dYes, if_true]
    show ∃ d, _
    refine ⟨_, s1, _, s3, n, _, _, kp e.1, .int (e.2 : Nat), rfl, hA', rfl, ?_, val_mem hn (hr e (by simp)), ?_⟩
    · rw [ek]; exact keys_kp e.1
    · refine ⟨acc.map D.int, by simp, by simp; omega, ?_⟩
      have e1 : (A ++ [Cell.lst (acc.map D.int)]).set A.length (.lst (acc.map D.int ++ [D.int (e.2 : Nat)])) = A ++ [.lst ((acc ++ [(e.2 : Int)]).map D.int)] := by simp
      rw [e1]
      refine cnt_go hn hS hv hjv hA r (acc ++ [(e.2 : Int)]) (fun x hx => hr x (List.mem_cons_of_mem _ hx)) (by simp; omega) ?_
      simpa using h
theorem p_cnt {n j v : Nat} {t : Tal} (hn : (t.map (·.1)).Nodup) (hl : t.length ≤ 1000) (hS : S[j]? = some (some (.obj n))) (hv : v < S.length) (hjv : j ≠ v) (hM : M[n]? = some (.dT (dk t)))
    (h : Q (.obj M.length) (M ++ [.lst ((t.map fun e => (e.2 : Int)).map D.int)])) :
    dLockT j (dLc (dKeysT (dVar j)) (dGN v) dYes (dOp ixLT (dVar j) (dVar v)) [v]) S M Q E := by
  have hlen : n < M.length := (List.getElem?_eq_some_iff.mp hM).1
  have hA : (M.set n (.lkt (dk t)))[n]? = some (.lkt (dk t)) := List.getElem?_set_self hlen
  refine ⟨n, _, hS, hM, ?_⟩
  show ∃ d, _
  refine ⟨_, hS, n, _, rfl, hA, ?_⟩
  have ek : (dk t).map (fun kv => D.tup (kv.1.map kyD)) = t.map fun e => .tup ((kp e.1).map kyD) := by simp [dk]
  rw [ek]
  refine cnt_go (Q := fun v M' => M'[n]? = some (.lkt (dk t)) ∧ Q v (M'.set n (.dT (dk t)))) hn hS hv hjv hA t [] (fun _ h => h) (by simpa using hl) ?_
  refine ⟨by rw [List.getElem?_append_left (by rw [List.length_set]; exact hlen)]; exact hA, ?_⟩
  have e2 : (M.set n (.lkt (dk t))).set n (.dT (dk t)) = M := by
    rw [List.set_set]
    exact List.ext_getElem? fun i => by
      by_cases hi : n = i
      · subst hi; rw [List.getElem?_set_self hlen, hM]
      · rw [List.getElem?_set_ne hi]
  rw [List.set_append_left _ _ (by rw [List.length_set]; exact hlen), e2, List.length_set]
  simpa using h
end
end Z03
set_option Elab.async false
set_option linter.all false
set_option maxRecDepth 100000
set_option maxHeartbeats 1000000
namespace Z03
open PySem PySem.Spec PyProof.Rows L2 GxR Gn Dl
theorem cutL_one {α : Type} (xs : List α) : cutL xs (some 1) none = xs.drop 1 := by
  unfold cutL HT.sIx
  cases xs with
  | nil => simp
  | cons x xs =>
    have : (1 : Int) ≤ (xs.length : Int) + 1 := by omega
    simp [HT.sIx]
theorem set_same {M : Mem} {n : Nat} {c : Cell} (h : M[n]? = some c) : M.set n c = M := by
  have hl := (List.getElem?_eq_some_iff.mp h).1
  exact List.ext_getElem? fun i => by
    by_cases hi : n = i
    · subst hi; rw [List.getElem?_set_self hl, h]
    · rw [List.getElem?_set_ne hi]
def cstep (ws : List Str) (t : Tal) (p : Int × Int) : Tal := if freshB ws p = true then bmp t p else t
theorem cstep_fold (ws : List Str) : ∀ (ps : List (Int × Int)) (t : Tal), ps.foldl (cstep ws) t = (ps.filter (freshB ws)).foldl bmp t
  | [], t => rfl
  | p :: ps, t => by
    rw [List.foldl_cons, cstep_fold ws ps]
    unfold cstep
    cases h : freshB ws p
    · rw [List.filter_cons_of_neg (by simp [h])]
      rfl
    · rw [List.filter_cons_of_pos h]
      rfl
theorem bmp_nd {t : Tal} (h : (t.map (·.1)).Nodup) (p : Int × Int) : ((bmp t p).map (·.1)).Nodup := by
  rw [bmp_keys]
  split
  · exact h
  · rename_i hn
    exact List.nodup_append.mpr ⟨h, by simp, fun x hx y hy => by
      rw [List.mem_singleton.mp hy]
      exact fun e => hn (e ▸ hx)⟩
theorem cstep_nd {ws : List Str} {t : Tal} (h : (t.map (·.1)).Nodup) (p : Int × Int) : ((cstep ws t p).map (·.1)).Nodup := by
  unfold cstep
  split
  · exact bmp_nd h p
  · exact h
theorem foldl_nd : ∀ (ps : List (Int × Int)) {t : Tal}, (t.map (·.1)).Nodup → ((ps.foldl bmp t).map (·.1)).Nodup
  | [], _, h => h
  | p :: ps, _, h => foldl_nd ps (bmp_nd h p)
theorem cstep_len {ws : List Str} (t : Tal) (p : Int × Int) : (cstep ws t p).length ≤ t.length + 1 := by
  unfold cstep
  split
  · exact bmp_len p t
  · omega
theorem foldl_len {ws : List Str} : ∀ (ps : List (Int × Int)) (t : Tal), (ps.foldl (cstep ws) t).length ≤ t.length + ps.length
  | [], t => Nat.le_refl _
  | p :: ps, t => by
    have a := foldl_len (ws := ws) ps (cstep ws t p)
    have b := cstep_len (ws := ws) t p
    simp only [List.foldl_cons, List.length_cons]
    omega
section
variable {M A : Mem} {Q : KD} {E : KE'} {D0 : EndsD} {R P C : Nat} {ws : List Str} {rows : List (List Int)}
def nmI : TSd := dIfS (dTest (dOp notInD (dOp addD (dOp ixA (dVar 1) (dVar 4)) (dOp ixA (dVar 1) (dVar 5))) (dVar 1))) (dPutT (dVar 2) (dTup (dCons (dVar 4) (dCons (dVar 5) (dNil)))) (dOp addD (dGetT (dVar 2) (dTup (dCons (dVar 4) (dCons (dVar 5) (dNil)))) (dC (.int 0))) (dC (.int 1)))) (dNext)
def nmG : TGd := (dGTup 2 (dGCons (dGN 4) (dGCons (dGN 5) (dGNil))))
def nmB : TSd := dFor (dZip (dCons (dVar 3) (dCons (dSl (dVar 3) (dPart (dC (.int 1))) (dNo)) (dNil)))) nmG nmI
theorem next_eq : r_next_merge = dSeq (dSet 2 (dNewT)) (dSeq (dFor (dWalk (dVar 0)) (dGN 3) nmB) (dSeq (dSet 6 (dMaxV 0 (dVar 2))) (dSeq (dIfS (dTest (dOp (cmpD true) (dVar 6) (dC (.int 2)))) (dRet (dC .non)) (dNext)) (dRet (dCB minPD (dCons (dLockT 2 (dLc (dKeysT (dVar 2)) (dGN 7) (dTest (dOp (eqA false) (dOp ixLT (dVar 2) (dVar 7)) (dVar 6))) (dVar 7) [7])) (dNil))))))) := rfl
abbrev nS (R P C : Nat) (s3 s4 s5 s6 s7 : Option D) : Sl := [some (.obj R), some (.obj P), some (.obj C), s3, s4, s5, s6, s7]
/-- the pieces that the law and the program look at -/
structure WsAt (P : Nat) (ws : List Str) (M : Mem) : Prop where
  at_ : M[P]? = some (.lst (ws.map D.str))
  lw : Lw 1024 ws
def InW (ws : List Str) (p : Int × Int) : Prop := (0 ≤ p.1 ∧ p.1 < ws.length) ∧ 0 ≤ p.2 ∧ p.2 < ws.length
theorem stp_lw {L : Nat} (hw : Lw L ws) (p : Int × Int) : lowB (stp ws p) = true := low_app (hw.getD _).1 (hw.getD _).1
theorem nm_one {t : Tal} {p : Int × Int} {s3 s6 s7 : Option D} (hP : WsAt P ws M) (hC : M[C]? = some (.dT (dk t))) (hn : (t.map (·.1)).Nodup) (hl : t.length ≤ 1000) (hb : InW ws p)
    (h : D0.nx (nS R P C s3 (some (.int p.1)) (some (.int p.2)) s6 s7) (M.set C (.dT (dk (cstep ws t p))))) : nmI D0 E (nS R P C s3 (some (.int p.1)) (some (.int p.2)) s6 s7) M := by
  have eA := at_str hb.1.1 hb.1.2
  have eB := at_str hb.2.1 hb.2.2
  have hPa := hP.at_
  have hsz : sizeLine = 16777216 := sizeLine_eq
  have l1 := (hP.lw.getD p.1.toNat).2
  have l2 := (hP.lw.getD p.2.toNat).2
  simp only [nmI, dIfS, dTest, dOp, dVar, nS]
  refine ⟨.obj P, rfl, .int p.1, rfl, (ixA_objI hPa).mpr ⟨_, eA, ?_⟩⟩
  refine ⟨.obj P, rfl, .int p.2, rfl, (ixA_objI hPa).mpr ⟨_, eB, ?_⟩⟩
  refine ⟨by omega, ?_⟩
  refine ⟨.obj P, rfl, ?_⟩
  show notInD (.str (stp ws p)) (.obj P) M _
  refine notin_lo hP.lw (stp_lw hP.lw p) hPa ?_
  refine ⟨_, rfl, ?_⟩
  show if freshB ws p = true then _ else _
  unfold cstep at h
  cases hf : freshB ws p with
  | false =>
    rw [hf] at h
    simp only [Bool.false_eq_true, if_false] at h ⊢
    rw [set_same hC] at h
    exact h
  | true =>
    rw [hf] at h
    simp only [if_true] at h ⊢
    refine ⟨_, rfl, C, dk t, rfl, hC, ?_⟩
    refine ⟨_, rfl, _, rfl, ?_⟩
    refine ⟨by show 2 ≤ sizeLine; omega, ?_⟩
    simp only [dC]
    refine get_dk hC p ?_
    refine ⟨_, rfl, _, rfl, _, rfl, ?_⟩
    refine ⟨by show 2 ≤ sizeLine; omega, ?_⟩
    exact setT_dk hC hn hl p h
theorem nm_in {s3 s6 s7 : Option D} (hP : WsAt P ws A) (hPC : P ≠ C) (hCl : C < A.length) : ∀ (ps : List (Int × Int)) (t : Tal) (s4 s5 : Option D), (t.map (·.1)).Nodup → t.length + ps.length ≤ 1000 → (∀ p ∈ ps, InW ws p) →
    (∀ s4 s5, D0.nx (nS R P C s3 s4 s5 s6 s7) (A.set C (.dT (dk (ps.foldl (cstep ws) t))))) → forD nmG nmI (fun _ => True) D0 E (ps.map pD) (nS R P C s3 s4 s5 s6 s7) (A.set C (.dT (dk t)))
  | [], t, s4, s5, _, _, _, h => ⟨trivial, h s4 s5⟩
  | p :: ps, t, s4, s5, hn, hl, hb, h => by
    refine ⟨trivial, _, rfl, rfl, ?_⟩
    refine ⟨_, _, rfl, _, _, rfl, rfl, ?_⟩
    refine nm_one (t := t) (p := p) ⟨by rw [List.getElem?_set_ne (Ne.symm hPC)]; exact hP.at_, hP.lw⟩ (List.getElem?_set_self hCl) hn (by simp at hl; omega) (hb p (by simp)) ?_
    rw [List.set_set]
    refine nm_in hP hPC hCl ps (cstep ws t p) _ _ (cstep_nd hn p) ?_ (fun q hq => hb q (List.mem_cons_of_mem _ hq)) h
    have := cstep_len (ws := ws) t p
    simp only [List.length_cons] at hl
    omega
theorem zip_adj : ∀ l : List Int, zipD (l.map D.int) ((l.map D.int).drop 1) = (adj l).map pD
  | [] => rfl
  | [a] => rfl
  | a :: b :: r => by
    have ih := zip_adj (b :: r)
    simp only [List.map_cons, List.drop_succ_cons, List.drop_zero, zipD, List.zipWith_cons_cons, adj] at ih ⊢
    rw [ih]
    rfl
theorem adj_len : ∀ l : List Int, (adj l).length ≤ l.length
  | [] => Nat.le_refl _
  | [a] => Nat.zero_le _
  | a :: b :: r => by
    have := adj_len (b :: r)
    simp only [adj, List.length_cons] at this ⊢
    omega
theorem nm_out {s6 s7 : Option D} (hP : WsAt P ws A) (hPC : P ≠ C) (hCl : C < A.length) (hRC : R ≠ C) {ds : List D} (hR : A[R]? = some (.lst ds)) : ∀ (rs : List (List Int)) (t : Tal) (s3 s4 s5 : Option D), (t.map (·.1)).Nodup → t.length + (rs.map (·.length)).sum ≤ 1000 → (∀ r ∈ rs, ∀ x ∈ r, 0 ≤ x ∧ x < (ws.length : Int)) →
    (∀ s3 s4 s5, D0.nx (nS R P C s3 s4 s5 s6 s7) (A.set C (.dT (dk ((rs.flatMap adj).foldl (cstep ws) t))))) → forD (dGN 3) nmB (fun M => M[R]? = some (.lst ds)) D0 E (rs.map vI) (nS R P C s3 s4 s5 s6 s7) (A.set C (.dT (dk t)))
  | [], t, s3, s4, s5, _, _, _, h => ⟨by show (A.set C _)[R]? = _; rw [List.getElem?_set_ne (Ne.symm hRC)]; exact hR, h s3 s4 s5⟩
  | r :: rs, t, s3, s4, s5, hn, hl, hb, h => by
    refine ⟨by show (A.set C _)[R]? = _; rw [List.getElem?_set_ne (Ne.symm hRC)]; exact hR, ?_⟩
    have hla := adj_len r
    simp only [List.map_cons, List.sum_cons] at hl
    show nmB _ _ [_, _, _, some (vI r), _, _, _, _] _
    simp only [nmB, dFor, dZip, dCons, dNil, dVar, dSl, dPart, dNo]
    refine ⟨_, rfl, _, rfl, 1, rfl, ?_⟩
    simp only [vI, slD]
    show zipRd [.tup (r.map D.int), .tup (cutL (r.map D.int) (some 1) none)] _ _
    rw [cutL_one, zipRd_tup, zip_adj]
    refine nm_in hP hPC hCl (adj r) t _ _ hn (by omega) (fun p hp => ?_) fun s4 s5 => ?_
    · have := adj_mem hp
      exact ⟨hb r (by simp) _ this.1, hb r (by simp) _ this.2⟩
    · refine nm_out hP hPC hCl hRC hR rs _ _ _ _ ?_ ?_ (fun q hq => hb q (List.mem_cons_of_mem _ hq)) ?_
      · rw [cstep_fold]
        exact (foldl_nd _ hn)
      · have := foldl_len (ws := ws) (adj r) t
        omega
      · intro s3 s4 s5
        have := h s3 s4 s5
        rw [List.flatMap_cons, List.foldl_append] at this
        exact this
end
end Z03
set_option Elab.async false
set_option linter.all false
set_option maxRecDepth 100000
set_option maxHeartbeats 1000000
namespace Z03
open PySem PySem.Spec PyProof.Rows L2 GxR Gn Dl
section
variable {M A : Mem} {Q : KD} {E : KE'} {D0 : EndsD} {R P C : Nat} {ws : List Str} {rows : List (List Int)}
def nxD : Option (Int × Int) → D
  | none => .non
  | some p => pD p
theorem occ_eq (ws : List Str) (rows : List (List Int)) : occ ws rows = (rows.flatMap adj).filter (freshB ws) := by
  unfold occ
  induction rows with
  | nil => rfl
  | cons r rs ih => rw [List.flatMap_cons, List.flatMap_cons, List.filter_append, ih]
theorem dk_vals (t : Tal) : (dk t).map (·.2) = (t.map fun e => (e.2 : Int)).map D.int := by simp [dk]
theorem p_next (hR : M[R]? = some (.lst (rows.map vI))) (hP : WsAt P ws M) (hb : ∀ r ∈ rows, ∀ x ∈ r, 0 ≤ x ∧ x < (ws.length : Int)) (hs : (rows.map (·.length)).sum ≤ 420)
    (h : ∀ r M', IsNx (occ ws rows) r → Ext M M' → Q (nxD r) M') : sp_next_merge [.obj R, .obj P] M Q E := by
  have hRl : R < M.length := (List.getElem?_eq_some_iff.mp hR).1
  have hPl : P < M.length := (List.getElem?_eq_some_iff.mp hP.at_).1
  show r_next_merge _ _ _ _
  rw [next_eq]
  simp only [dSeq, dSet, dNewT, dFor, dWalk, dVar]
  refine ⟨.obj R, rfl, ?_⟩
  have hR' : (M ++ [Cell.dT []])[R]? = some (.lst (rows.map vI)) := by rw [List.getElem?_append_left hRl]; exact hR
  refine ⟨_, hR', ?_⟩
  have e0 : M ++ [Cell.dT []] = (M ++ [Cell.dT []]).set M.length (.dT (dk [])) := (set_same at_end).symm
  have hP' : WsAt P ws (M ++ [Cell.dT []]) := ⟨by rw [List.getElem?_append_left hPl]; exact hP.at_, hP.lw⟩
  rw [e0]
  refine nm_out (A := M ++ [Cell.dT []]) hP' (Nat.ne_of_lt hPl) (by simp) (Nat.ne_of_lt hRl) hR' rows [] _ _ _ List.nodup_nil (by simp; omega) hb fun s3 s4 s5 => ?_
  rw [cstep_fold, ← occ_eq]
  have T : TOk ((occ ws rows).foldl bmp []) (occ ws rows) := by simpa using TOk.nil.all (occ ws rows)
  have tl : ((occ ws rows).foldl bmp []).length ≤ 1000 := by
    have a := foldl_len (ws := ws) (rows.flatMap adj) []
    rw [cstep_fold, ← occ_eq] at a
    have b : (rows.flatMap adj).length ≤ (rows.map (·.length)).sum := by
      clear hs hb h hR hR' e0 hP hP' T a
      induction rows with
      | nil => exact Nat.le_refl _
      | cons r rs ih =>
        have := adj_len r
        rw [List.flatMap_cons, List.length_append, List.map_cons, List.sum_cons]
        omega
    simp only [List.length_nil] at a
    omega
  generalize (occ ws rows).foldl bmp [] = t at T tl ⊢
  have eM : (M ++ [Cell.dT []]).set M.length (.dT (dk t)) = M ++ [.dT (dk t)] := by simp
  rw [eM]
  simp only [dMaxV, dVar]
  refine ⟨.obj M.length, rfl, M.length, dk t, t.map (fun e => (e.2 : Int)), rfl, at_end, dk_vals t, fun m m1 m2 => ?_⟩
  have hle : ∀ j ∈ t.map (fun e => (e.2 : Int)), j ≤ m := fun j hj => by
    have hne : t.map (fun e => (e.2 : Int)) ≠ [] := fun e => by rw [e] at hj; cases hj
    exact (m2 hne).2 j hj
  simp only [dIfS, dTest, dOp, dVar, dC]
  refine ⟨.int m, rfl, ?_⟩
  simp only [dC, cmpD]
  by_cases hm : m < 2
  · refine ⟨_, rfl, ?_⟩
    rw [if_pos (by simpa using hm)]
    exact h none _ (nx_none T (fun e => m1 (by simpa using e)) hle hm) (Ext.app M _)
  · refine ⟨_, rfl, ?_⟩
    rw [if_neg (by simpa using hm)]
    simp only [dNext, dRet, dCB, dCons, dNil]
    refine p_fil (n := M.length) (t := t) (m := m) T.nd tl rfl rfl (by simp) (by decide) (by decide) at_end ?_
    simp only [minPD_obj]
    have hne : t.map (fun e => (e.2 : Int)) ≠ [] := fun e => hm (by rw [m1 e]; decide)
    refine ⟨_, at_end, nx_ne (m2 hne).1, fun p hp hl => ?_⟩
    exact h (some p) _ (nx_some T (by omega) hle hp hl) ⟨_, by rw [List.append_assoc]⟩
end
end Z03
set_option Elab.async false
set_option linter.all false
set_option maxRecDepth 100000
set_option maxHeartbeats 1000000
namespace Z03
open PySem PySem.Spec PyProof.Rows L2 GxR Gn Dl
theorem join_cps : ∀ ws : List Str, (Txt.join "" ws).cps.toList = ws.flatMap (·.cps.toList)
  | [] => by rw [TL.join_eq]; rfl
  | [x] => by rw [TL.join_eq]; simp [Str.join]
  | x :: y :: r => by
    have ih := join_cps (y :: r)
    rw [TL.join_eq] at ih ⊢
    have e : Str.join "" (x :: y :: r) = x ++ "" ++ Str.join "" (y :: r) := rfl
    rw [e, app_cps, app_cps, ih]
    simp
    rfl
theorem join_len (ws : List Str) : (Txt.join "" ws).length = (ws.map (·.length)).sum := by
  rw [← cps_len, join_cps]
  induction ws with
  | nil => rfl
  | cons w ws ih => rw [List.flatMap_cons, List.length_append, ih, cps_len]; rfl
/-- the texts of training -/
structure TxOk (ts : List Str) : Prop where
  lo : ∀ t ∈ ts, lowB t = true ∧ t.length ≤ 60
  n : 1 ≤ ts.length ∧ ts.length ≤ 7
  ne : ∃ t ∈ ts, 0 < t.length
  few : ∃ few : List Nat, few.length ≤ 6 ∧ ∀ t ∈ ts, ∀ c ∈ t.cps.toList, c ∈ few
structure LtOf (z : Str) (ts : List Str) : Prop where
  asc : z.cps.toList.Pairwise (· < ·)
  mem : ∀ c, c ∈ z.cps.toList ↔ ∃ t ∈ ts, c ∈ t.cps.toList
theorem asc_ext : ∀ {a b : List Nat}, a.Pairwise (· < ·) → b.Pairwise (· < ·) → (∀ c, c ∈ a ↔ c ∈ b) → a = b
  | [], [], _, _, _ => rfl
  | [], y :: b, _, _, h => by have := (h y).mpr (by simp); cases this
  | x :: a, [], _, _, h => by have := (h x).mp (by simp); cases this
  | x :: a, y :: b, ha, hb, h => by
    obtain ⟨a1, a2⟩ := List.pairwise_cons.mp ha
    obtain ⟨b1, b2⟩ := List.pairwise_cons.mp hb
    have e : x = y := by
      rcases List.mem_cons.mp ((h x).mp (by simp)) with e | hx
      · exact e
      · rcases List.mem_cons.mp ((h y).mpr (by simp)) with e | hy
        · exact e.symm
        · have := a1 y hy; have := b1 x hx; omega
    subst e
    rw [asc_ext a2 b2 fun c => ?_]
    constructor
    · intro hc
      rcases List.mem_cons.mp ((h c).mp (List.mem_cons_of_mem _ hc)) with e | hc'
      · have := a1 c hc; omega
      · exact hc'
    · intro hc
      rcases List.mem_cons.mp ((h c).mpr (List.mem_cons_of_mem _ hc)) with e | hc'
      · have := b1 c hc; omega
      · exact hc'
theorem str_ext {a b : Str} (h : a.cps.toList = b.cps.toList) : a = b := by
  cases a; cases b
  simp only at h
  congr
  exact Array.toList_inj.mp h
theorem LtOf.uniq {z z' : Str} {ts ts' : List Str} (h : LtOf z ts) (h' : LtOf z' ts') (e : ∀ c, (∃ t ∈ ts, c ∈ t.cps.toList) ↔ ∃ t ∈ ts', c ∈ t.cps.toList) : z = z' :=
  str_ext (asc_ext h.asc h'.asc fun c => (h.mem c).trans ((e c).trans (h'.mem c).symm))
theorem LtOf.of {z : Str} {ts : List Str} (h : LtOf z ts) {t : Str} (ht : t ∈ ts) : OfZ z t := fun c hc => (h.mem c).mpr ⟨t, ht, hc⟩
theorem asc_nd {l : List Nat} (h : l.Pairwise (· < ·)) : l.Nodup := h.imp fun a e => by omega
theorem LtOf.vc {z : Str} {ts : List Str} (h : LtOf z ts) (H : TxOk ts) : Vc z [] := by
  have nd := asc_nd h.asc
  have lo : lowB z = true := List.all_eq_true.mpr fun c hc => by
    obtain ⟨t, ht, hc⟩ := (h.mem c).mp hc
    exact List.all_eq_true.mp (H.lo t ht).1 c hc
  refine ⟨lo, ⟨?_, ?_⟩, nd, Nat.zero_le _, trivial, bas_nd nd⟩
  · obtain ⟨t, ht, hl⟩ := H.ne
    rw [← cps_len] at hl ⊢
    obtain ⟨c, hc⟩ := List.exists_mem_of_length_pos hl
    exact List.length_pos_of_mem ((h.mem c).mpr ⟨t, ht, hc⟩)
  · obtain ⟨few, f1, f2⟩ := H.few
    rw [← cps_len]
    exact Nat.le_trans (Zn.nodup_len nd fun c hc => by
      obtain ⟨t, ht, hc⟩ := (h.mem c).mp hc
      exact f2 t ht c hc) f1
theorem ltk_rw {z : Str} {ts : List Str} (h : LtOf z ts) : RwB (1 + z.length + 0) (ts.map (ltk z)) := fun r hr x hx => by
  obtain ⟨t, ht, rfl⟩ := List.mem_map.mp hr
  have := (ltk_bd (h.of ht) x hx).2
  obtain ⟨c, hc, rfl⟩ := List.mem_map.mp hx
  refine ⟨by unfold ixZ; omega, by simpa using this⟩
section
variable {M : Mem} {Q : KD} {E : KE'} {D0 : EndsD}
theorem sum60 : ∀ {ts : List Str}, (∀ t ∈ ts, t.length ≤ 60) → (ts.map (·.length)).sum ≤ 60 * ts.length
  | [], _ => Nat.le_refl _
  | t :: ts, h => by
    have a := h t (by simp)
    have b := sum60 fun x hx => h x (List.mem_cons_of_mem _ hx)
    simp only [List.map_cons, List.sum_cons, List.length_cons]
    omega
theorem TxOk.sum {ts : List Str} (H : TxOk ts) : (ts.map (·.length)).sum ≤ 420 := by
  have := sum60 fun t ht => (H.lo t ht).2
  have := H.n.2
  omega
theorem join_tup {ts : List Str} (H : TxOk ts) (q : Q (.str (Txt.join "" ts)) M) : joinTD (.str "") [.tup (ts.map D.str)] M Q :=
  ⟨"", ts, rfl, .inr rfl, by have := H.sum; have e : ("" : Str).length = 0 := rfl; rw [e]; omega, q⟩
theorem join_lst {i : Nat} {ws : List Str} (hM : M[i]? = some (.lst (ws.map D.str))) (hl : (ws.map (·.length)).sum ≤ 100000) (q : Q (.str (Txt.join "" ws)) M) : joinTD (.str "") [.obj i] M Q :=
  ⟨"", ws, rfl, .inl ⟨i, rfl, hM⟩, by have e : ("" : Str).length = 0 := rfl; rw [e]; omega, q⟩
def srt : TEd := dBM isStr joinTD (dC (.str "")) (dCons (dSortSetX (dBM isStr joinTD (dC (.str "")) (dCons (dVar 0) (dNil)))) (dNil))
theorem p_srt {ts : List Str} {S : Sl} (hS : S[0]? = some (some (.tup (ts.map D.str)))) (H : TxOk ts) (h : ∀ z G, LtOf z ts → Q (.str z) (M ++ G)) : srt S M Q E := by
  have jl := join_len ts
  have hs := H.sum
  simp only [srt, dBM, dC, dCons, dNil, dSortSetX, dVar]
  refine ⟨⟨"", rfl⟩, ⟨"", rfl⟩, _, hS, ?_⟩
  refine join_tup H ⟨_, rfl, ?_, ?_, fun cs c1 c2 => ?_⟩
  · show (Txt.join "" ts).length ≤ 4000
    omega
  · obtain ⟨few, f1, f2⟩ := H.few
    refine ⟨few, by omega, fun c hc => ?_⟩
    rw [join_cps] at hc
    obtain ⟨t, ht, hc⟩ := List.mem_flatMap.mp hc
    exact f2 t ht c hc
  · have cl : cs.length ≤ 6 := by
      obtain ⟨few, f1, f2⟩ := H.few
      refine Nat.le_trans (Zn.nodup_len (asc_nd c1) fun c hc => ?_) f1
      have := (c2 c).mp hc
      rw [join_cps] at this
      obtain ⟨t, ht, hc⟩ := List.mem_flatMap.mp this
      exact f2 t ht c hc
    have e1 : cs.map (fun c => D.str ⟨#[c]⟩) = (cs.map chS).map D.str := by rw [List.map_map]; rfl
    rw [e1]
    have sm : ((cs.map chS).map (·.length)).sum = cs.length := by
      rw [List.map_map]
      clear c1 c2 cl e1
      induction cs with
      | nil => rfl
      | cons c cs ih => rw [List.map_cons, List.sum_cons, ih, List.length_cons]; show 1 + _ = _; omega
    refine join_lst at_end (by omega) (h _ _ ⟨?_, fun c => ?_⟩)
    · have e2 : (Txt.join "" (cs.map chS)).cps.toList = cs := by
        rw [join_cps, List.flatMap_map]
        clear c1 c2 cl e1 sm
        induction cs with
        | nil => rfl
        | cons c cs ih => rw [List.flatMap_cons, ih]; rfl
      rw [e2]
      exact c1
    · have e2 : (Txt.join "" (cs.map chS)).cps.toList = cs := by
        rw [join_cps, List.flatMap_map]
        clear c1 c2 cl e1 sm
        induction cs with
        | nil => rfl
        | cons c cs ih => rw [List.flatMap_cons, ih]; rfl
      rw [e2, c2 c, join_cps, List.mem_flatMap]
theorem dcnt_bd (xs : List Str) : ∀ i, i ≤ xs.length → ∃ l : List Str, l.Nodup ∧ l.length = Zn.dcnt xs i ∧ ∀ x, x ∈ l ↔ x ∈ xs.take i
  | 0, _ => ⟨[], List.nodup_nil, rfl, fun x => by simp⟩
  | i + 1, hi => by
    obtain ⟨l, l1, l2, l3⟩ := dcnt_bd xs i (by omega)
    have e1 : xs.getD i Str.empty = xs[i] := by simp [List.getD_eq_getElem?_getD, List.getElem?_eq_getElem (show i < xs.length by omega)]
    have e2 : xs.take (i + 1) = xs.take i ++ [xs.getD i Str.empty] := by
      rw [List.take_add_one, List.getD_eq_getElem?_getD, List.getElem?_eq_getElem (show i < xs.length by omega)]
      rfl
    unfold Zn.dcnt
    by_cases hm : (xs.take i).any (· == xs.getD i Str.empty) = true
    · rw [if_pos hm]
      obtain ⟨y, hy, ey⟩ := List.any_eq_true.mp hm
      have ey : y = xs.getD i Str.empty := by simpa using ey
      refine ⟨l, l1, l2, fun x => ?_⟩
      rw [e2, List.mem_append, l3 x, List.mem_singleton]
      exact ⟨.inl, fun z => z.elim id fun z => by rw [z, ← ey]; exact hy⟩
    · rw [if_neg hm]
      have hn : xs.getD i Str.empty ∉ l := fun z => hm (List.any_eq_true.mpr ⟨_, (l3 _).mp z, by simp⟩)
      refine ⟨xs.getD i Str.empty :: l, List.nodup_cons.mpr ⟨hn, l1⟩, by simp [l2], fun x => ?_⟩
      rw [e2, List.mem_append, List.mem_cons, l3 x, List.mem_singleton]
      exact Or.comm
theorem p_aretexts {ts : List Str} (H : TxOk ts) (h : ∀ G, Q (.bl true) (M ++ G)) : sp__are_texts [.tup (ts.map D.str)] M Q E := by
  have jl := join_len ts
  have hs := H.sum
  have hn := H.n
  simp [sp__are_texts, r__are_texts, isiD, kindD, kb_tt]
  refine all_any smB (fun a ha G Q' k => ?_) fun G => ?_
  · obtain ⟨t, ht, rfl⟩ := List.mem_map.mp ha
    simp [wipeD]
    exact p_small ⟨"str", rfl⟩ k
  · have e1 : (ts.map D.str).all smB = true := List.all_eq_true.mpr fun a ha => by
      obtain ⟨t, ht, rfl⟩ := List.mem_map.mp ha
      exact (H.lo t ht).1
    rw [e1]
    refine .inr ⟨rfl, join_tup H ⟨Zn.sgn (Txt.join "" ts), .inl ⟨_, rfl, rfl⟩, ?_, ?_⟩⟩
    · rw [sgn_len]
      omega
    · obtain ⟨l, l1, l2, l3⟩ := dcnt_bd (Zn.sgn (Txt.join "" ts)) _ (Nat.le_refl _)
      rw [List.take_of_length_le (Nat.le_refl _)] at l3
      have b6 : l.length ≤ 6 := by
        obtain ⟨few, f1, f2⟩ := H.few
        refine Nat.le_trans (Nat.le_trans (Zn.nodup_len (xs := few.map chS) l1 fun x hx => ?_) (by rw [List.length_map]; exact Nat.le_refl _)) f1
        obtain ⟨c, hc, rfl⟩ := List.mem_map.mp ((l3 x).mp hx)
        rw [join_cps] at hc
        obtain ⟨t, ht, hc⟩ := List.mem_flatMap.mp hc
        exact List.mem_map.mpr ⟨c, f2 t ht c hc, rfl⟩
      have b1 : 1 ≤ l.length := by
        obtain ⟨t, ht, hl⟩ := H.ne
        rw [← cps_len] at hl
        obtain ⟨c, hc⟩ := List.exists_mem_of_length_pos hl
        refine List.length_pos_of_mem ((l3 (chS c)).mpr (List.mem_map.mpr ⟨c, ?_, rfl⟩))
        rw [join_cps]
        exact List.mem_flatMap.mpr ⟨t, ht, hc⟩
      rw [l2] at b6 b1
      refine .inr ⟨by omega, ?_⟩
      rw [decide_eq_true (by omega)]
      exact h G
end
end Z03
set_option Elab.async false
set_option linter.all false
set_option maxRecDepth 100000
set_option maxHeartbeats 1000000
namespace Z03
open PySem PySem.Spec PyProof.Rows L2 GxR Gn Dl
section
variable {M M0 : Mem} {Q : KD} {E : KE'} {D0 : EndsD} {C : Nat → Addr}
theorem pcs_goL {alive : Mem → Prop} {a b : D} {k : Nat} {M0 : Mem} (hk : M0.length ≤ k) (al : ∀ M', Ext M0 M' → alive M') : ∀ (ps : List (Int × Int)) (l : List Str) (L : Nat) (M : Mem) (s3 s4 : Option D), M[k]? = some (.lst (l.map D.str)) → Ext M0 M → PsOk l.length ps → (∀ x ∈ l, x.length ≤ L) → L * 2 ^ ps.length ≤ 2 ^ 20 → l.length + ps.length ≤ 1000 →
    (∀ M' s3 s4, Ext M0 M' → M'[k]? = some (.lst ((pcs l ps).map D.str)) → D0.nx (pS a b k s3 s4) M') → forD pcG pcB alive D0 E (ps.map pD) (pS a b k s3 s4) M
  | [], l, L, M, s3, s4, hM, hE, _, _, _, _, h => ⟨al _ hE, h M s3 s4 hE hM⟩
  | p :: r, l, L, M, s3, s4, hM, hE, ho, hL, h20, hl, h => by
    refine ⟨al _ hE, ?_⟩
    obtain ⟨⟨i0, i1⟩, ⟨j0, j1⟩, ho⟩ := ho
    have hp : 1 ≤ 2 ^ r.length := Nat.one_le_two_pow
    have e20 : L * 2 ^ (p :: r).length = 2 * L * 2 ^ r.length := by
      rw [List.length_cons, Nat.pow_succ, Nat.mul_comm (2 ^ r.length) 2, ← Nat.mul_assoc, Nat.mul_comm L 2]
    rw [e20] at h20
    have hLL : 2 * L ≤ 2 ^ 20 := Nat.le_trans (by simpa using Nat.mul_le_mul_left (2 * L) hp) h20
    have h2 := getD_le hL p.1.toNat
    have h3 := getD_le hL p.2.toNat
    have hsz : sizeLine = 16777216 := sizeLine_eq
    have hkM : k < M.length := (List.getElem?_eq_some_iff.mp hM).1
    have eA := at_str i0 i1
    have eB := at_str j0 j1
    obtain ⟨xa, exa⟩ : ∃ xa, xa = l.getD p.1.toNat Str.empty := ⟨_, rfl⟩
    obtain ⟨xb, exb⟩ : ∃ xb, xb = l.getD p.2.toNat Str.empty := ⟨_, rfl⟩
    have es : stp l p = xa ++ xb := by rw [exa, exb]; rfl
    rw [← exa] at eA h2
    rw [← exb] at eB h3
    simp [pcG, pcB, pD, pS, dGTup, hM, ixA, ixD, eA, eB, addD]
    simp at hl
    refine ⟨⟨k, _, rfl, hM⟩, by omega, by omega, ?_⟩
    show forD pcG pcB alive D0 E (r.map pD) (pS a b k _ _) _
    refine pcs_goL hk al r (l ++ [stp l p]) (2 * L) _ _ _ ?_ (hE.set hk _) (by simpa using ho) (fun y hy => ?_) h20 (by simp; omega) h
    · rw [List.getElem?_set_self hkM]
      simp [es]
    · rcases List.mem_append.mp hy with hy | hy
      · have := hL y hy; omega
      · rw [List.mem_singleton.mp hy]
        exact stp_le hL p
theorem p_piecesL {z : Str} {ps : List (Int × Int)} {g : Nat} (hg : M[g]? = some (.lst (ps.map pD))) (hz : z.length ≤ 900) (hp : ps.length ≤ 20) (ho : PsOk (1 + z.length) ps) (h : ∀ k M', Ext M M' → M.length ≤ k → M'[k]? = some (.lst ((pcs (bas z) ps).map D.str)) → Q (.obj k) M') :
    sp__pieces [.str z, .obj g] M Q E := by
  have hsz : sizeLine = 16777216 := sizeLine_eq
  have hs : z.cps.size = z.length := rfl
  have hd : (sgD z).length = z.length := by rw [sgD_eq, List.length_map, sgn_len]
  have hgl : g < M.length := (List.getElem?_eq_some_iff.mp hg).1
  show r__pieces _ _ _ _
  rw [pieces_eq]
  simp
  refine ⟨by omega, by omega, ?_⟩
  have e0 : (M ++ [Cell.lst (D.str "" :: sgD z)])[M.length]? = some (.lst ((bas z).map D.str)) := by
    simp [bas, sgD_eq]
    rfl
  have h2p : 2 ^ ps.length ≤ 2 ^ 20 := Nat.pow_le_pow_right (by omega) hp
  refine ⟨_, by rw [List.getElem?_append_left hgl]; exact hg, ?_⟩
  exact pcs_goL (Nat.le_refl M.length) (fun M' x => x.at hg) ps (bas z) 1 _ none none e0 (Ext.app _ _) (by rw [bas_len]; exact ho) (bas_le z) (by simpa using h2p) (by rw [bas_len]; omega) fun M' s3 s4 x e => by
    have := h _ _ x (Nat.le_refl _) e
    simpa [pS] using this
theorem p_vocab (V : VocOk d z ps) (h : ∀ M', Ext M M' → Q (.bl true) M') : sp_is_vocabulary [d] M Q E := by
  have hk := V.hk M
  have hs := V.sz
  have hv := V.v
  rw [V.e] at hk hs hv ⊢
  simp [sp_is_vocabulary, r_is_vocabulary]
  refine p_tupleof_any hk.kn ?_
  rw [show tupN 3 (.tup [.str "vocabulary", .str z, .tup (ps.map pD)]) = true from rfl]
  refine .inr ⟨rfl, ?_⟩
  refine ⟨_, rfl, (eqA_str (neg := true)).mpr (.inl ⟨by simp, ?_⟩)⟩
  have hv2 : (isTxD "vocabulary" (.str "vocabulary") && (vLt (.str z) && mgB z (.tup (ps.map pD)))) = true := hv
  rw [Bool.and_eq_true, Bool.and_eq_true] at hv2
  refine p_letters (hk.of _ (by simp)).kn (hs.of _ (by simp)) fun G => ?_
  rw [hv2.2.1]
  refine .inr ⟨rfl, ?_⟩
  refine p_merges ((hk.of _ (by simp)).app G) (by have := V.z1; omega) (hs.of _ (by simp)) fun M' x => ?_
  rw [hv2.2.2]
  exact h M' ((Ext.app M G).tr x)
theorem p_need (V : VocOk d z ps) (h : ∀ M', Ext M M' → Q .non M') : sp__need_vocabulary C [d] M Q E := by
  simp [sp__need_vocabulary, r__need_vocabulary]
  exact p_vocab V fun M' x => .inr ⟨rfl, h M' x⟩
theorem p_size (V : VocOk d z ps) (h : ∀ M', Ext M M' → Q (.int (1 + z.length + ps.length : Nat)) M') : sp_size C [d] M Q E := by
  simp [sp_size, r_size]
  exact p_need V fun M' x => p_size_of V (h M' x)
theorem p_needtext (V : VocOk d z ps) (ht : OfZ z t) (h : ∀ M', Ext M M' → Q .non M') : sp__need_text C [d, .str t] M Q E := by
  have hd := V.e
  have e1 : ∀ (M : Mem) (Q : KD), Q (.str z) M → ixA d (.int 1) M Q := fun M Q q => by rw [hd]; exact ⟨_, rfl, q⟩
  simp [sp__need_text, r__need_text, kindD, kb_ss, seqD]
  refine all_any (fun _ => true) (fun a ha G Q' k => ?_) (fun G => ?_)
  · rw [sgD_map] at ha
    obtain ⟨c, hc, rfl⟩ := List.mem_map.mp ha
    simp
    refine e1 _ _ (.inr (.inr (.inl ⟨c, z, rfl, rfl, ?_⟩)))
    have k0 := k []
    rw [List.append_nil] at k0
    rw [decide_eq_true (ht c hc)]
    exact k0
  · have e : (sgD t).all (fun _ => true) = true := by simp
    rw [e]
    exact .inr ⟨rfl, h _ (Ext.app M G)⟩
theorem p_totok (V : VocOk d z ps) (ht : OfZ z t) (hl : t.length ≤ 60) (h : ∀ M', Ext M M' → Q (vI (toks z ps t)) M') : sp_to_tokens C [d, .str t] M Q E := by
  simp [sp_to_tokens, r_to_tokens]
  refine p_need V fun M1 x1 => ?_
  refine p_needtext V ht fun M2 x2 => ?_
  exact p_tokens V ht hl fun M3 x3 => h M3 ((x1.tr x2).tr x3)
end
end Z03
set_option Elab.async false
set_option linter.all false
set_option maxRecDepth 100000
set_option maxHeartbeats 1000000
namespace Z03
open PySem PySem.Spec PyProof.Rows L2 GxR Gn Dl
section
variable {M M0 : Mem} {Q : KD} {E : KE'} {D0 : EndsD} {C : Nat → Addr} {G : Nat} {z : Str}
def trC : TTd := (dTest (dOp (cmpD true) (dCB lenD (dCons (dVar 4) (dNil))) (dCB (max2D false) (dCons (dVar 1) (dCons (dC (.int 10)) (dNil))))))
def trB : TSd := dSeq (dSet 5 (dOp addD (dOp addD (dC (.int 1)) (dCB lenD (dCons (dVar 2) (dNil)))) (dCB lenD (dCons (dVar 4) (dNil))))) (dSeq (dSet 6 (dCall 2 sp_next_merge (dCons (dVar 3) (dCons (dCall 2 sp__pieces (dCons (dVar 2) (dCons (dVar 4) (dNil)))) (dNil))))) (dSeq (dIfS (dTest (dOp (isD false) (dVar 6) (dC .non))) (dBreak) (dNext)) (dSeq (dDrop (dBM isLst appendD (dVar 4) (dCons (dVar 6) (dNil)))) (dSet 3 (dLc (dWalk (dVar 3)) (dGN 8) (dYes) (dCall 3 sp__merged (dCons (dVar 8) (dCons (dVar 6) (dCons (dVar 5) (dNil))))) [8])))))
theorem trained_eq (cs : Nat → Addr) : r_trained cs = dSeq (dIfS (dNotT (dTest (dCall 1 sp__are_texts (dCons (dVar 0) (dNil))))) (dRaise (cs 6) (dVar 0)) (dNext)) (dSeq (dIfS (dNotT (dTest (dCall 2 sp_is_integer_from (dCons (dVar 1) (dCons (dC (.int 0)) (dNil)))))) (dRaise (cs 3) (dVar 1)) (dNext)) (dSeq (dSet 2 srt) (dSeq (dSet 3 (dLc (dWalk (dVar 0)) (dGN 7) (dYes) (dCall 2 sp__letter_tokens (dCons (dVar 2) (dCons (dVar 7) (dNil)))) [7])) (dSeq (dSet 4 (dLst (dNil))) (dSeq (dWhile trC trB) (dRet (dTup (dCons (dC (.str "vocabulary")) (dCons (dVar 2) (dCons (dCB tupOfD (dCons (dVar 4) (dNil))) (dNil))))))))))) := rfl
abbrev trS (a : D) (n : Int) (z : Str) (R G : Nat) (s5 s6 s7 s8 : Option D) : Sl := [some a, some (.int n), some (.str z), some (.obj R), some (.obj G), s5, s6, s7, s8]
/-- where training stands -/
structure TrI (M0 : Mem) (z : Str) (rows0 : List (List Int)) (K G R : Nat) (rows : List (List Int)) (ms : List (Int × Int)) (M : Mem) : Prop where
  r : M[R]? = some (.lst (rows.map vI))
  g : M[G]? = some (.lst (ms.map pD))
  ne : R ≠ G
  x : Ext M0 M
  v : Vc z ms
  b : RwB (1 + z.length + ms.length) rows
  s : (rows.map (·.length)).sum ≤ 420
  l : ∀ r ∈ rows, r.length ≤ 60
  n : rows.length ≤ 7
  k : ms.length ≤ K
  t : ∀ out, Tr z rows ms (K - ms.length) out → Tr z rows0 [] K out
theorem vps_at {z : Str} {ms : List (Int × Int)} (V : Vc z ms) {P : Nat} (h : M[P]? = some (.lst ((pcs (bas z) ms).map D.str))) : WsAt P (vps z ms) M := ⟨h, V.ok.low⟩
theorem map_sum (p : Int × Int) (m : Int) : ∀ {rows : List (List Int)} {B : Nat}, (rows.map (·.length)).sum ≤ B → ((rows.map (mrg p m)).map (·.length)).sum ≤ B := by
  intro rows
  have go : ((rows.map (mrg p m)).map (·.length)).sum ≤ (rows.map (·.length)).sum := by
    induction rows with
    | nil => exact Nat.le_refl _
    | cons r rs ih =>
      have := mrg_len p m r
      simp only [List.map_cons, List.sum_cons] at ih ⊢
      omega
  intro B h
  omega
theorem minK (n : Int) (hn : 0 ≤ n) : (if (10 : Int) < n then 10 else n) = ((min n.toNat 10 : Nat) : Int) := by
  split <;> omega
theorem tr_one {a : D} {n : Int} {rows0 : List (List Int)} {K R : Nat} {rows : List (List Int)} {ms : List (Int × Int)} {s5 s6 s7 s8 : Option D} (I : TrI M0 z rows0 K G R rows ms M) (hG : M0.length ≤ G) (hk : ms.length < K) (h10 : K ≤ 10)
    (hb : ∀ M' S', TrI M0 z rows0 K G R rows ms M' → IsNx (occ (vps z ms) rows) none → (∃ s5 s6, S' = trS a n z R G s5 s6 s7 s8) → D0.bk S' M')
    (hx : ∀ p R' M' S', TrI M0 z rows0 K G R' (rows.map (mrg p ((1 + z.length + ms.length : Nat) : Int))) (ms ++ [p]) M' → (∃ s5 s6, S' = trS a n z R' G s5 s6 s7 s8) → D0.nx S' M') : trB D0 E (trS a n z R G s5 s6 s7 s8) M := by
  have hsz := sizeLine_eq
  have hRl : R < M.length := (List.getElem?_eq_some_iff.mp I.r).1
  have hGl : G < M.length := (List.getElem?_eq_some_iff.mp I.g).1
  have hg := I.g
  have hml := I.v.m
  simp [trB, hg]
  refine ⟨by have := I.v.l; omega, ?_⟩
  refine p_piecesL I.g (by have := I.v.l; omega) (by omega) I.v.p.ok fun P M1 x1 hP e1 => ?_
  refine p_next (x1.at I.r) (vps_at I.v e1) (fun r hr y hy => ?_) I.s fun nx M2 hnx x2 => ?_
  · have := I.b r hr y hy
    rw [vps_len]
    omega
  · have I2 : TrI M0 z rows0 K G R rows ms M2 := ⟨x2.at (x1.at I.r), x2.at (x1.at I.g), I.ne, (I.x.tr x1).tr x2, I.v, I.b, I.s, I.l, I.n, I.k, I.t⟩
    have hg2 := I2.g
    cases nx with
    | none =>
      refine .inl ⟨rfl, .inr ⟨rfl, ?_⟩⟩
      exact hb M2 _ I2 hnx ⟨_, _, rfl⟩
    | some p =>
      refine .inl ⟨rfl, .inl ⟨rfl, ⟨G, _, rfl, hg2⟩, _, hg2, by simp; omega, ?_⟩⟩
      have hG2 : G < M2.length := (List.getElem?_eq_some_iff.mp hg2).1
      have hR2 : (M2.set G (.lst (ms.map pD ++ [pD p])))[R]? = some (.lst (rows.map vI)) := by
        rw [List.getElem?_set_ne (Ne.symm I.ne)]
        exact I2.r
      have hG3 : (M2.set G (.lst (ms.map pD ++ [pD p])))[G]? = some (.lst ((ms ++ [p]).map pD)) := by
        rw [List.getElem?_set_self hG2]
        simp
      have hlen : M2.length = (M2.set G (.lst (ms.map pD ++ [pD p]))).length := by rw [List.length_set]
      refine ⟨_, hR2, ?_⟩
      rw [hlen]
      have em : (1 + (z.length : Int) + (ms.length : Int)) = ((1 + z.length + ms.length : Nat) : Int) := by omega
      rw [em]
      refine lcD_ex vI (fun l => vI (mrg p ((1 + z.length + ms.length : Nat) : Int) l)) rows _ (fun M' x => x.at hR2) (fun r hr M3 Q' x k => ?_) (by have := I.n; omega) fun M3 x3 h3 => ?_
      · simp [wipeD]
        exact p_merged (by have := I.l r hr; omega) fun M' ⟨G', e⟩ => e ▸ k G'
      · have hml2 : M2.length ≤ M3.length := by
          obtain ⟨G', e⟩ := x3
          rw [e, List.length_append, List.length_set]
          omega
        have xx : Ext M0 M3 := (I2.x.set hG _).tr x3
        have vc := I.v.snoc I.b hnx (by omega)
        refine hx p _ M3 _ ⟨?_, x3.at hG3, ?_, xx, vc, ?_, map_sum p _ I.s, fun r hr => ?_, by rw [List.length_map]; exact I.n, by simp; omega, fun out ho => ?_⟩ ⟨_, _, rfl⟩
        · rw [h3, List.map_map]
          rfl
        · rw [List.length_set]
          omega
        · have := I.b.map p (by omega)
          simpa [Nat.add_assoc] using this
        · obtain ⟨r0, hr0, rfl⟩ := List.mem_map.mp hr
          have := mrg_len p ((1 + z.length + ms.length : Nat) : Int) r0
          have := I.l r0 hr0
          omega
        · refine I.t out ?_
          rw [show K - ms.length = (K - (ms ++ [p]).length) + 1 by simp; omega]
          exact .step hnx ho
end
end Z03
set_option Elab.async false
set_option linter.all false
set_option maxRecDepth 100000
set_option maxHeartbeats 1000000
namespace Z03
open PySem PySem.Spec PyProof.Rows L2 GxR Gn Dl
section
variable {M M0 : Mem} {Q : KD} {E : KE'} {D0 : EndsD} {C : Nat → Addr} {G : Nat} {z : Str}
theorem tr_loop {a : D} {n : Int} {rows0 : List (List Int)} {R : Nat} {s5 s6 s7 s8 : Option D} (hn : 0 ≤ n) (I : TrI M0 z rows0 (min n.toNat 10) G R rows0 [] M) (hG : M0.length ≤ G)
    (h : ∀ out M' R s5 s6, Tr z rows0 [] (min n.toNat 10) out → Ext M0 M' → M'[G]? = some (.lst (out.map pD)) → D0.nx (trS a n z R G s5 s6 s7 s8) M') : dWhile trC trB D0 E (trS a n z R G s5 s6 s7 s8) M := by
  refine ⟨fun m S M => ∃ R rows ms s5 s6, S = trS a n z R G s5 s6 s7 s8 ∧ TrI M0 z rows0 (min n.toNat 10) G R rows ms M ∧ m = min n.toNat 10 - ms.length, ⟨_, R, rows0, [], s5, s6, rfl, I, rfl⟩, ?_⟩
  rintro m S M ⟨R, rows, ms, s5, s6, rfl, I, rfl⟩
  have hg := I.g
  have mk := minK n hn
  have hk := I.k
  simp [trC, hg, max2D, mk, cmpD]
  by_cases c : ms.length < min n.toNat 10
  · rw [if_pos c]
    refine tr_one I hG c (Nat.min_le_right _ _) (fun M' S' I' hnx ⟨s5, s6, e⟩ => ?_) fun p R' M' S' I' ⟨s5, s6, e⟩ => ?_
    · subst e
      exact h ms M' R s5 s6 (I'.t ms (.none hnx)) I'.x I'.g
    · subst e
      exact ⟨_, by simp; omega, R', ⟨s5, s6, rfl⟩, _, _, I', rfl⟩
  · rw [if_neg c]
    have e0 : min n.toNat 10 - ms.length = 0 := by omega
    refine h ms M R s5 s6 (I.t ms (by rw [e0]; exact .stop)) I.x I.g
theorem p_trained {ts : List Str} {n : Int} (hn : 0 ≤ n) (H : TxOk ts) (h : ∀ z out M', LtOf z ts → Tr z (ts.map (ltk z)) [] (min n.toNat 10) out → Ext M M' → Q (vocD "vocabulary" z out) M') : sp_trained C [.tup (ts.map D.str), .int n] M Q E := by
  have hsz := sizeLine_eq
  have hn7 := H.n
  show r_trained C _ _ _ _
  rw [trained_eq]
  simp only [dSeq, dIfS]
  simp
  refine p_aretexts H fun G1 => .inr ⟨rfl, ?_⟩
  refine p_from_any ⟨"int", rfl⟩ ?_
  rw [show okF 0 (.int n) = true from decide_eq_true hn]
  refine .inr ⟨rfl, ?_⟩
  refine p_srt rfl H fun z G2 hz => ?_
  have V := hz.vc H
  refine lcD_ex D.str (fun t => vI (ltk z t)) ts (M ++ G1 ++ G2) (fun _ _ => trivial) (fun t ht M3 Q' x k => ?_) (by omega) fun M3 x3 h3 => ?_
  · simp [wipeD]
    exact p_ltk (hz.of ht) (H.lo t ht).2 fun M' ⟨G', e⟩ => e ▸ k G'
  · have hl3 : (M ++ G1 ++ G2).length < M3.length := (List.getElem?_eq_some_iff.mp h3).1
    have x0 : Ext M M3 := ((Ext.app M G1).tr (Ext.app _ G2)).tr x3
    have I : TrI M z (ts.map (ltk z)) (min n.toNat 10) M3.length (M ++ G1 ++ G2).length (ts.map (ltk z)) [] (M3 ++ [Cell.lst []]) := {
      r := by rw [List.getElem?_append_left hl3, h3, List.map_map]; rfl
      g := at_end
      ne := by omega
      x := x0.tr (Ext.app M3 _)
      v := V
      b := ltk_rw hz
      s := by
        have : ((ts.map (ltk z)).map (·.length)) = ts.map (·.length) := by
          rw [List.map_map]
          exact List.map_congr_left fun t _ => ltk_len z t
        rw [this]
        exact H.sum
      l := fun r hr => by
        obtain ⟨t, ht, rfl⟩ := List.mem_map.mp hr
        rw [ltk_len]
        exact (H.lo t ht).2
      n := by rw [List.length_map]; exact hn7.2
      k := Nat.zero_le _
      t := fun out ho => by simpa using ho }
    refine tr_loop hn I (by have := x0; obtain ⟨G', e⟩ := this; rw [e]; simp) fun out M4 R s5 s6 ht x4 h4 => ?_
    have ho : out.length ≤ 10 := by
      obtain ⟨e, e1, e2⟩ := ht.pre
      rw [e1]
      simp
      omega
    simp [h4]
    exact ⟨by omega, h z out M4 hz ht x4⟩
end
end Z03
set_option Elab.async false
set_option linter.all false
set_option maxRecDepth 100000
set_option maxHeartbeats 1000000
namespace Z03
open PySem PySem.Spec PyProof.Rows L2 GxR Gn Dl
section
variable {M A M0 : Mem} {Q : KD} {E : KE'} {D0 : EndsD} {R P C : Nat} {ws : List Str} {rows : List (List Int)} {z : Str}
/-- a list of lists of ints -/
structure RwAt (M : Mem) (R : Nat) (lo : Nat) (is : List Nat) (rows : List (List Int)) : Prop where
  r : M[R]? = some (.lst (is.map D.obj))
  n : is.length = rows.length
  e : ∀ (k : Nat) (i : Nat) (l : List Int), is[k]? = some i → rows[k]? = some l → M[i]? = some (.lst (l.map D.int)) ∧ lo ≤ i
/-- a comprehension that makes a list of new lists -/
theorem lcD_objs {α : Type} {gd : TGd} {te : TEd} {vs : List Nat} {alive : Mem → Prop} {S : Sl} (dd : α → D) (L : α → List Int) (n : Nat) (hn : n = M.length) (al : ∀ M', Ext M M' → alive M') : ∀ (as : List α) (is : List Nat) (pre : List (List Int)) (M1 : Mem), Ext M M1 → RwAt M1 n (M.length + 1) is pre →
    (∀ a ∈ as, ∀ (M2 : Mem) (Q' : KD), Ext M M2 → M.length < M2.length → (∀ M', Ext M2 M' → M'[M2.length]? = some (.lst ((L a).map D.int)) → Q' (.obj M2.length) M') → gd (dd a) (wipeD S vs) M2 fun S1 M3 => te S1 M3 Q' E00) → is.length + as.length ≤ 1000 →
    (∀ is' M', Ext M M' → RwAt M' n (M.length + 1) is' (pre ++ as.map L) → Q (.obj n) M') →
    lcD gd dYes te vs n alive Q S (as.map dd) M1
  | [], is, pre, M1, x, I, _, _, h => ⟨al _ x, h is M1 x (by simpa using I)⟩
  | a :: as, is, pre, M1, x, I, el, hl, h => by
    have hsz := sizeLine_eq
    have hnl : n < M1.length := (List.getElem?_eq_some_iff.mp I.r).1
    refine ⟨al _ x, ?_⟩
    simp only [dYes, if_true]
    refine el a (by simp) M1 _ x (by omega) fun M2 x2 h2 => ?_
    have hl2 : M1.length < M2.length := (List.getElem?_eq_some_iff.mp h2).1
    refine ⟨is.map D.obj, x2.at I.r, by simp at hl ⊢; omega, ?_⟩
    have hn2 : n < M2.length := by omega
    refine lcD_objs dd L n hn al as (is ++ [M1.length]) (pre ++ [L a]) _ ((x.tr x2).set (by omega) _) ⟨?_, by simp [I.n], fun k i l e1 e2 => ?_⟩ (fun b hb => el b (List.mem_cons_of_mem _ hb)) (by simp at hl ⊢; omega) (by simpa using h)
    · rw [List.getElem?_set_self hn2]
      simp
    · by_cases hk : k < is.length
      · rw [List.getElem?_append_left hk] at e1
        rw [List.getElem?_append_left (by rw [← I.n]; exact hk)] at e2
        obtain ⟨e3, e4⟩ := I.e k i l e1 e2
        have ne : n ≠ i := by omega
        exact ⟨by rw [List.getElem?_set_ne ne]; exact x2.at e3, e4⟩
      · have hk2 : k = is.length := by
          have := (List.getElem?_eq_some_iff.mp e1).1
          simp at this
          omega
        subst hk2
        rw [List.getElem?_append_right (Nat.le_refl _), Nat.sub_self] at e1
        rw [I.n, List.getElem?_append_right (Nat.le_refl _), Nat.sub_self] at e2
        cases e1
        cases e2
        have ne : n ≠ M1.length := by omega
        exact ⟨by rw [List.getElem?_set_ne ne]; exact h2, by omega⟩
def lcI : TSd := dSeq (dSet 10 (dTup (dCons (dOp ixA (dVar 8) (dVar 9)) (dCons (dOp ixA (dVar 8) (dOp addD (dVar 9) (dC (.int 1)))) (dNil))))) (dIfS (dTest (dOp notInD (dOp addD (dOp ixA (dVar 3) (dOp ixA (dVar 10) (dC (.int 0)))) (dOp ixA (dVar 3) (dOp ixA (dVar 10) (dC (.int 1))))) (dVar 3))) (dPutT (dVar 7) (dVar 10) (dOp addD (dGetT (dVar 7) (dVar 10) (dC (.int 0))) (dC (.int 1)))) (dNext))
def lcR : TSd := dFor (dRange1 (dCons (dOp subD (dCB lenD (dCons (dVar 8) (dNil))) (dC (.int 1))) (dNil))) (dGN 9) lcI
abbrev lS' (a : D) (n : Int) (z : Str) (P : Nat) (ms : D) (R : Nat) (s6 : Option D) (C : Nat) (s8 s9 s10 s11 s12 s13 s14 : Option D) : Sl := [some a, some (.int n), some (.str z), some (.obj P), some ms, some (.obj R), s6, some (.obj C), s8, s9, s10, s11, s12, s13, s14]
theorem lc_one {a ms : D} {n : Int} {t : Tal} {q at_ : Nat} {l : List Int} {p : Int × Int} {s6 s10 s11 s12 s13 s14 : Option D} (hq : M[q]? = some (.lst (l.map D.int))) (h1 : l[at_]? = some p.1) (h2 : l[at_ + 1]? = some p.2) (hP : WsAt P ws M) (hC : M[C]? = some (.dT (dk t))) (hn : (t.map (·.1)).Nodup) (hl : t.length ≤ 1000) (hb : InW ws p)
    (h : D0.nx (lS' a n z P ms R s6 C (some (.obj q)) (some (.int (at_ : Nat))) (some (pD p)) s11 s12 s13 s14) (M.set C (.dT (dk (cstep ws t p))))) : lcI D0 E (lS' a n z P ms R s6 C (some (.obj q)) (some (.int (at_ : Nat))) s10 s11 s12 s13 s14) M := by
  have eA := at_str hb.1.1 hb.1.2
  have eB := at_str hb.2.1 hb.2.2
  have hPa := hP.at_
  have hsz : sizeLine = 16777216 := sizeLine_eq
  have l1 := (hP.lw.getD p.1.toNat).2
  have l2 := (hP.lw.getD p.2.toNat).2
  have g1 : (l.map D.int)[at_]? = some (.int p.1) := by rw [List.getElem?_map, h1]; rfl
  have g2 : (l.map D.int)[at_ + 1]? = some (.int p.2) := by rw [List.getElem?_map, h2]; rfl
  have a1 := atI_nat g1
  have a2 := atI_nat g2
  have ea : ((at_ : Nat) : Int) + 1 = ((at_ + 1 : Nat) : Int) := by omega
  simp only [lcI, dSeq, dSet, dTup, dCons, dNil, dOp, dVar, dC, lS']
  refine ⟨_, rfl, _, rfl, (ixA_objI hq).mpr ⟨_, a1, ?_⟩⟩
  refine ⟨_, rfl, _, rfl, ?_⟩
  simp only [addD, ea]
  refine (ixA_objI hq).mpr ⟨_, a2, ?_⟩
  refine ⟨by show 2 ≤ sizeLine; omega, ?_⟩
  simp only [dIfS, dTest, dOp, dVar, dC]
  refine ⟨.obj P, rfl, _, rfl, ?_⟩
  refine ⟨_, rfl, (ixA_objI hPa).mpr ⟨_, eA, ?_⟩⟩
  refine ⟨.obj P, rfl, _, rfl, ?_⟩
  refine ⟨_, rfl, (ixA_objI hPa).mpr ⟨_, eB, ?_⟩⟩
  refine ⟨by omega, ?_⟩
  refine ⟨.obj P, rfl, ?_⟩
  show notInD (.str (stp ws p)) (.obj P) M _
  refine notin_lo hP.lw (stp_lw hP.lw p) hPa ?_
  refine ⟨_, rfl, ?_⟩
  show if freshB ws p = true then _ else _
  unfold cstep at h
  cases hf : freshB ws p with
  | false =>
    rw [hf] at h
    simp only [Bool.false_eq_true, if_false] at h ⊢
    rw [set_same hC] at h
    exact h
  | true =>
    rw [hf] at h
    simp only [if_true] at h ⊢
    refine ⟨_, rfl, C, dk t, rfl, hC, ?_⟩
    refine ⟨_, rfl, ?_⟩
    simp only [dC]
    refine get_dk hC p ?_
    refine ⟨_, rfl, _, rfl, ?_⟩
    exact setT_dk hC hn hl p h
end
end Z03
set_option Elab.async false
set_option linter.all false
set_option maxRecDepth 100000
set_option maxHeartbeats 1000000
namespace Z03
open PySem PySem.Spec PyProof.Rows L2 GxR Gn Dl
section
variable {M A M0 : Mem} {Q : KD} {E : KE'} {D0 : EndsD} {R P C : Nat} {ws : List Str} {rows : List (List Int)} {z : Str}
theorem rng_succ (k n : Nat) : rngD (k : Int) (n + 1) = .int (k : Nat) :: rngD ((k + 1 : Nat) : Int) n := by
  unfold rngD
  rw [List.range_succ_eq_map, List.map_cons, List.map_map]
  refine congr (congrArg _ ?_) (List.map_congr_left fun i _ => ?_)
  · simp
  · show D.int _ = D.int _
    congr 1
    simp
    omega
theorem adj_short {l : List Int} (h : l.length ≤ 1) : adj l = [] := by
  match l, h with
  | [], _ => rfl
  | [_], _ => rfl
theorem lc_in {a ms : D} {n : Int} {q : Nat} {l : List Int} {s6 s11 s12 s13 s14 : Option D} (hq : A[q]? = some (.lst (l.map D.int))) (hqC : q ≠ C) (hP : WsAt P ws A) (hPC : P ≠ C) (hCl : C < A.length) (hb : ∀ x ∈ l, 0 ≤ x ∧ x < (ws.length : Int)) : ∀ (m k : Nat) (t : Tal) (s9 s10 : Option D), k + m + 1 = l.length ∨ (m = 0 ∧ l.length ≤ k + 1) → (t.map (·.1)).Nodup → t.length + m ≤ 1000 →
    (∀ s9 s10, D0.nx (lS' a n z P ms R s6 C (some (.obj q)) s9 s10 s11 s12 s13 s14) (A.set C (.dT (dk ((adj (l.drop k)).foldl (cstep ws) t))))) →
    forD (dGN 9) lcI (fun _ => True) D0 E (rngD (k : Nat) m) (lS' a n z P ms R s6 C (some (.obj q)) s9 s10 s11 s12 s13 s14) (A.set C (.dT (dk t)))
  | 0, k, t, s9, s10, hk, hn, hl, h => by
    have e : adj (l.drop k) = [] := adj_short (by rw [List.length_drop]; omega)
    rw [e] at h
    exact ⟨trivial, h s9 s10⟩
  | m + 1, k, t, s9, s10, hk, hn, hl, h => by
    have hk' : k + 1 < l.length := by omega
    have g1 : l[k]? = some l[k] := List.getElem?_eq_getElem (by omega)
    have g2 : l[k + 1]? = some l[k + 1] := List.getElem?_eq_getElem hk'
    have e1 : l.drop k = l[k] :: l[k + 1] :: l.drop (k + 2) := by
      rw [List.drop_eq_getElem_cons (by omega), List.drop_eq_getElem_cons hk']
    have e2 : adj (l.drop k) = (l[k], l[k + 1]) :: adj (l.drop (k + 1)) := by
      rw [e1, List.drop_eq_getElem_cons hk']
      rfl
    rw [e2] at h
    rw [rng_succ]
    refine ⟨trivial, ?_⟩
    show lcI _ _ (lS' a n z P ms R s6 C (some (.obj q)) (some (.int (k : Nat))) s10 s11 s12 s13 s14) _
    refine lc_one (t := t) (p := (l[k], l[k + 1])) (l := l) (by rw [List.getElem?_set_ne (Ne.symm hqC)]; exact hq) g1 g2 ⟨by rw [List.getElem?_set_ne (Ne.symm hPC)]; exact hP.at_, hP.lw⟩ (List.getElem?_set_self hCl) hn (by omega) ⟨hb _ (List.getElem_mem ..), hb _ (List.getElem_mem ..)⟩ ?_
    rw [List.set_set]
    refine lc_in hq hqC hP hPC hCl hb m (k + 1) (cstep ws t (l[k], l[k + 1])) _ _ (by omega) (cstep_nd hn _) ?_ h
    have := cstep_len (ws := ws) t (l[k], l[k + 1])
    omega
theorem lc_out {a ms : D} {n : Int} {s6 s11 s12 s13 s14 : Option D} (hP : WsAt P ws A) (hPC : P ≠ C) (hCl : C < A.length) (hRC : R ≠ C) {ds : List D} (hR : A[R]? = some (.lst ds)) : ∀ (is : List Nat) (rs : List (List Int)) (t : Tal) (s8 s9 s10 : Option D), is.length = rs.length → (∀ (k i : Nat) (l : List Int), is[k]? = some i → rs[k]? = some l → A[i]? = some (.lst (l.map D.int)) ∧ i ≠ C) → (t.map (·.1)).Nodup → t.length + (rs.map (·.length)).sum ≤ 1000 → (∀ r ∈ rs, ∀ x ∈ r, 0 ≤ x ∧ x < (ws.length : Int)) →
    (∀ s8 s9 s10, D0.nx (lS' a n z P ms R s6 C s8 s9 s10 s11 s12 s13 s14) (A.set C (.dT (dk ((rs.flatMap adj).foldl (cstep ws) t))))) →
    forD (dGN 8) lcR (fun M => M[R]? = some (.lst ds)) D0 E (is.map D.obj) (lS' a n z P ms R s6 C s8 s9 s10 s11 s12 s13 s14) (A.set C (.dT (dk t)))
  | [], rs, t, s8, s9, s10, hl, he, hn, hs, hb, h => by
    have : rs = [] := List.length_eq_zero_iff.mp hl.symm
    subst this
    exact ⟨by show (A.set C _)[R]? = _; rw [List.getElem?_set_ne (Ne.symm hRC)]; exact hR, h s8 s9 s10⟩
  | i :: is, [], t, s8, s9, s10, hl, he, hn, hs, hb, h => by cases hl
  | i :: is, r :: rs, t, s8, s9, s10, hl, he, hn, hs, hb, h => by
    refine ⟨by show (A.set C _)[R]? = _; rw [List.getElem?_set_ne (Ne.symm hRC)]; exact hR, ?_⟩
    obtain ⟨e1, e2⟩ := he 0 i r rfl rfl
    have e3 : (A.set C (.dT (dk t)))[i]? = some (.lst (r.map D.int)) := by rw [List.getElem?_set_ne (Ne.symm e2)]; exact e1
    have hsz := sizeLine_eq
    simp only [List.map_cons, List.sum_cons] at hs
    show lcR _ _ (lS' a n z P ms R s6 C (some (.obj i)) s9 s10 s11 s12 s13 s14) _
    simp [lcR, e3]
    have e4 : rngD 0 (r.length - 1) = rngD ((0 : Nat) : Int) (r.length - 1) := rfl
    rw [e4]
    refine ⟨by omega, by omega, ?_⟩
    refine lc_in e1 e2 hP hPC hCl (hb r (by simp)) (r.length - 1) 0 t s9 s10 (by omega) hn (by omega) fun s9 s10 => ?_
    rw [List.drop_zero]
    refine lc_out hP hPC hCl hRC hR is rs _ _ _ _ (by simpa using hl) (fun k j l h1 h2 => he (k + 1) j l (by simpa using h1) (by simpa using h2)) ?_ ?_ (fun q hq => hb q (List.mem_cons_of_mem _ hq)) fun s8 s9 s10 => ?_
    · rw [cstep_fold]
      exact foldl_nd _ hn
    · have a := foldl_len (ws := ws) (adj r) t
      have b := adj_len r
      omega
    · have := h s8 s9 s10
      rw [List.flatMap_cons, List.foldl_append] at this
      exact this
end
end Z03
set_option Elab.async false
set_option linter.all false
set_option maxRecDepth 100000
set_option maxHeartbeats 1000000
namespace Z03
open PySem PySem.Spec PyProof.Rows L2 GxR Gn Dl
section
variable {M A M0 : Mem} {Q : KD} {E : KE'} {D0 : EndsD} {R P C : Nat} {ws : List Str} {rows : List (List Int)} {z : Str}
def lt1 : TSd := dSet 11 (dCB maxHD (dCons (dOp addD (dLockT 7 (dLc (dKeysT (dVar 7)) (dGN 10) (dYes) (dOp ixLT (dVar 7) (dVar 10)) [10])) (dLst (dCons (dC (.int 0)) (dNil)))) (dNil)))
def lt2 : TSd := dIfS (dTest (dOp (cmpD true) (dVar 11) (dC (.int 2)))) (dBreak) (dNext)
def lt3 : TSd := dSet 10 (dCB minPD (dCons (dLockT 7 (dLc (dKeysT (dVar 7)) (dGN 14) (dTest (dOp (eqA false) (dOp ixLT (dVar 7) (dVar 14)) (dVar 11))) (dVar 14) [14])) (dNil)))
def lt4 : TSd := dDrop (dBM isLst appendD (dVar 3) (dCons (dOp addD (dOp ixA (dVar 3) (dOp ixA (dVar 10) (dC (.int 0)))) (dOp ixA (dVar 3) (dOp ixA (dVar 10) (dC (.int 1))))) (dNil)))
def lt5 : TSd := dSet 4 (dOp addD (dVar 4) (dTup (dCons (dVar 10) (dNil))))
def lt6 : TSd := dSet 5 (dLc (dWalk (dVar 5)) (dGN 8) (dYes) (dCall 3 sp__law_merged (dCons (dVar 8) (dCons (dVar 10) (dCons (dOp subD (dCB lenD (dCons (dVar 3) (dNil))) (dC (.int 1))) (dNil))))) [8])
def ltT : TSd := dSeq (dSet 7 (dNewT)) (dSeq (dFor (dWalk (dVar 5)) (dGN 8) lcR) (dSeq lt1 (dSeq lt2 (dSeq lt3 (dSeq lt4 (dSeq lt5 lt6))))))
theorem ltrained_eq : r__law_trained = dSeq (dSet 2 srt) (dSeq (dAsg (dTup (dCons (dOp addD (dLst (dCons (dC (.str "")) (dNil))) (dCB lstOfD (dCons (dVar 2) (dNil)))) (dCons (dTup (dNil)) (dNil)))) (dGTup 2 (dGCons (dGN 3) (dGCons (dGN 4) (dGNil))))) (dSeq (dSet 5 (dLc (dWalk (dVar 0)) (dGN 12) (dYes) (dLc (dWalk (dVar 12)) (dGN 13) (dYes) (dOp addD (dC (.int 1)) (dBM isStr indexD (dVar 2) (dCons (dVar 13) (dNil)))) [13]) [12])) (dSeq (dFor (dRange1 (dCons (dCB (max2D false) (dCons (dVar 1) (dCons (dC (.int 10)) (dNil)))) (dNil))) (dGN 6) ltT) (dRet (dTup (dCons (dC (.str "vocabulary")) (dCons (dVar 2) (dCons (dVar 4) (dNil))))))))) := rfl
/-- where the law's training stands -/
structure LtI (M0 : Mem) (z : Str) (rows0 : List (List Int)) (K P R : Nat) (is : List Nat) (rows : List (List Int)) (ms : List (Int × Int)) (k : Nat) (M : Mem) : Prop where
  p : M[P]? = some (.lst ((vps z ms).map D.str))
  r : RwAt M R (P + 1) is rows
  pr : P < R
  hp : M0.length ≤ P
  x : Ext M0 M
  v : Vc z ms
  b : RwB (1 + z.length + ms.length) rows
  s : (rows.map (·.length)).sum ≤ 420
  l : ∀ r ∈ rows, r.length ≤ 60
  n : rows.length ≤ 7
  kk : ms.length + k ≤ 10
  t : ∀ out, Tr z rows ms k out → Tr z rows0 [] K out
theorem p_lt1 {a ms : D} {n : Int} {t : Tal} {s6 s8 s9 s10 s11 s12 s13 s14 : Option D} (hC : M[C]? = some (.dT (dk t))) (hn : (t.map (·.1)).Nodup) (hl : t.length ≤ 1000)
    (h : ∀ m M', Ext M M' → (t.map (·.2) = [] → m = 0) → (∀ j ∈ t.map (fun e => (e.2 : Int)), j ≤ m) → (t.map (fun e => (e.2 : Int)) ≠ [] → m ∈ t.map (fun e => (e.2 : Int)) ∨ m < 1) → D0.nx (lS' a n z P ms R s6 C s8 s9 s10 (some (.int m)) s12 s13 s14) M') : lt1 D0 E (lS' a n z P ms R s6 C s8 s9 s10 s11 s12 s13 s14) M := by
  have hsz := sizeLine_eq
  simp only [lt1, dSet, dCB, dCons, dNil, dOp]
  refine p_cnt (n := C) (j := 7) (v := 10) (t := t) hn hl rfl (by simp) (by decide) hC ?_
  simp only [dLst, dCons, dNil, dC]
  refine ⟨by simp; omega, ?_⟩
  have e1 : (M ++ [Cell.lst ((t.map fun e => (e.2 : Int)).map D.int)] ++ [Cell.lst [D.int 0]])[M.length]? = some (.lst ((t.map fun e => (e.2 : Int)).map D.int)) := by
    rw [List.append_assoc]
    exact at_end
  refine ⟨_, _, e1, at_end, by simp; omega, ?_⟩
  refine ⟨_, (t.map fun e => (e.2 : Int)) ++ [0], at_end, ?_, by simp, fun m hm hle => ?_⟩
  · have := intsOf_map ((t.map fun e => (e.2 : Int)) ++ [0])
    rw [List.map_append] at this
    exact this
  · refine h m _ (((Ext.app M _).tr (Ext.app _ _)).tr (Ext.app _ _)) (fun e => ?_) (fun j hj => hle j (List.mem_append_left _ hj)) fun _ => ?_
    · have : t = [] := by simpa using e
      subst this
      simpa using hm
    · rcases List.mem_append.mp hm with hm | hm
      · exact .inl hm
      · rw [List.mem_singleton.mp hm]
        exact .inr (by decide)
theorem lt_one {a : D} {n : Int} {rows0 : List (List Int)} {K k : Nat} {is : List Nat} {ms : List (Int × Int)} {s6 s7 s8 s9 s10 s11 s12 s13 s14 : Option D} (I : LtI M0 z rows0 K P R is rows ms (k + 1) M)
    (hb : ∀ M' S', Ext M M' → LtI M0 z rows0 K P R is rows ms (k + 1) M' → IsNx (occ (vps z ms) rows) none → (∃ C s6 s8 s9 s10 s11 s12 s13 s14, S' = lS' a n z P (.tup (ms.map pD)) R s6 C s8 s9 s10 s11 s12 s13 s14) → D0.bk S' M')
    (hx : ∀ p R' is' M' S', LtI M0 z rows0 K P R' is' (rows.map (mrg p ((1 + z.length + ms.length : Nat) : Int))) (ms ++ [p]) k M' → (∃ C s6 s8 s9 s10 s11 s12 s13 s14, S' = lS' a n z P (.tup ((ms ++ [p]).map pD)) R' s6 C s8 s9 s10 s11 s12 s13 s14) → D0.nx S' M') :
    ltT D0 E [some a, some (.int n), some (.str z), some (.obj P), some (.tup (ms.map pD)), some (.obj R), s6, s7, s8, s9, s10, s11, s12, s13, s14] M := by
  have hsz := sizeLine_eq
  have hRl : R < M.length := (List.getElem?_eq_some_iff.mp I.r.r).1
  have hPl : P < M.length := (List.getElem?_eq_some_iff.mp I.p).1
  have hml := I.v.m
  have x0 : Ext M (M ++ [Cell.dT []]) := Ext.app M _
  have W : WsAt P (vps z ms) (M ++ [Cell.dT []]) := ⟨x0.at I.p, I.v.ok.low⟩
  simp only [ltT, dSeq, dSet, dNewT, dFor, dWalk, dVar]
  refine ⟨.obj R, rfl, _, x0.at I.r.r, ?_⟩
  have e0 : M ++ [Cell.dT []] = (M ++ [Cell.dT []]).set M.length (.dT (dk [])) := (set_same at_end).symm
  rw [e0]
  refine lc_out (C := M.length) (A := M ++ [Cell.dT []]) W (Nat.ne_of_lt hPl) (by simp) (Nat.ne_of_lt hRl) (x0.at I.r.r) is rows [] s8 s9 s10 I.r.n (fun k i l h1 h2 => ?_) List.nodup_nil (by have := I.s; simp; omega) (fun r hr y hy => ?_) fun s8 s9 s10 => ?_
  · obtain ⟨h3, h4⟩ := I.r.e k i l h1 h2
    exact ⟨x0.at h3, Nat.ne_of_lt (List.getElem?_eq_some_iff.mp h3).1⟩
  · have := I.b r hr y hy
    rw [vps_len]
    omega
  rw [cstep_fold, ← occ_eq]
  have T : TOk ((occ (vps z ms) rows).foldl bmp []) (occ (vps z ms) rows) := by simpa using TOk.nil.all (occ (vps z ms) rows)
  have tl : ((occ (vps z ms) rows).foldl bmp []).length ≤ 1000 := by
    have a := foldl_len (ws := vps z ms) (rows.flatMap adj) []
    rw [cstep_fold, ← occ_eq] at a
    have b : ∀ rows : List (List Int), (rows.flatMap adj).length ≤ (rows.map (·.length)).sum := by
      intro rows
      induction rows with
      | nil => exact Nat.le_refl _
      | cons r rs ih =>
        have := adj_len r
        rw [List.flatMap_cons, List.length_append, List.map_cons, List.sum_cons]
        omega
    have := b rows
    have := I.s
    simp only [List.length_nil] at a
    omega
  generalize (occ (vps z ms) rows).foldl bmp [] = t at T tl ⊢
  have eM : (M ++ [Cell.dT []]).set M.length (.dT (dk t)) = M ++ [.dT (dk t)] := by simp
  rw [eM]
  refine p_lt1 (C := M.length) (t := t) at_end T.nd tl fun m M1 x1 m1 hle m2 => ?_
  have xM : Ext M M1 := (Ext.app M _).tr x1
  have I1 : LtI M0 z rows0 K P R is rows ms (k + 1) M1 := ⟨xM.at I.p, ⟨xM.at I.r.r, I.r.n, fun k i l h1 h2 => ⟨xM.at (I.r.e k i l h1 h2).1, (I.r.e k i l h1 h2).2⟩⟩, I.pr, I.hp, I.x.tr xM, I.v, I.b, I.s, I.l, I.n, I.kk, I.t⟩
  have hC1 : M1[M.length]? = some (.dT (dk t)) := x1.at at_end
  simp only [lt2, dIfS, dTest, dOp, dVar, dC]
  refine ⟨.int m, rfl, ?_⟩
  simp only [cmpD]
  by_cases hm : m < 2
  · refine ⟨_, rfl, ?_⟩
    rw [if_pos (by simpa using hm)]
    exact hb M1 _ xM I1 (nx_none T m1 hle hm) ⟨_, _, _, _, _, _, _, _, _, rfl⟩
  · refine ⟨_, rfl, ?_⟩
    rw [if_neg (by simpa using hm)]
    simp only [dNext, lt3, dSet, dCB, dCons, dNil]
    refine p_fil (E := E) (n := M.length) (j := 7) (v := 14) (g := 11) (t := t) (m := m) T.nd tl rfl rfl (by simp) (by decide) (by decide) hC1 ?_
    simp only [minPD_obj]
    have hne : t.map (fun e => (e.2 : Int)) ≠ [] := fun e => hm (by rw [m1 (by simpa using e)]; decide)
    have hmm : m ∈ t.map (fun e => (e.2 : Int)) := (m2 hne).elim id fun z => absurd z (by omega)
    refine ⟨_, at_end, nx_ne hmm, fun p hp hl => ?_⟩
    have hnx := nx_some T (by omega) hle hp hl
    have x2 : Ext M1 (M1 ++ [Cell.lst (((t.filter fun e => decide ((e.2 : Int) = m)).map (·.1)).map pD)]) := Ext.app M1 _
    generalize M1 ++ [Cell.lst (((t.filter fun e => decide ((e.2 : Int) = m)).map (·.1)).map pD)] = M2 at x2 ⊢
    have xM2 : Ext M M2 := xM.tr x2
    have hP2 : M2[P]? = some (.lst ((vps z ms).map D.str)) := x2.at I1.p
    have b1 := nx_mem hnx
    obtain ⟨⟨r0, hr0, q1, q2⟩, q3⟩ := b1
    have c1 := I.b r0 hr0 _ q1
    have c2 := I.b r0 hr0 _ q2
    have vl : (vps z ms).length = 1 + z.length + ms.length := vps_len z ms
    have eA := at_str (l := vps z ms) (i := p.1) (by omega) (by omega)
    have eB := at_str (l := vps z ms) (i := p.2) (by omega) (by omega)
    have l1 := (I.v.ok.low.getD p.1.toNat).2
    have l2 := (I.v.ok.low.getD p.2.toNat).2
    obtain ⟨xa, exa⟩ : ∃ xa, xa = (vps z ms).getD p.1.toNat Str.empty := ⟨_, rfl⟩
    obtain ⟨xb, exb⟩ : ∃ xb, xb = (vps z ms).getD p.2.toNat Str.empty := ⟨_, rfl⟩
    have es : stp (vps z ms) p = xa ++ xb := by rw [exa, exb]; rfl
    rw [← exa] at eA l1
    rw [← exb] at eB l2
    have ep : Dl.prD p = .tup [.int p.1, .int p.2] := rfl
    rw [ep]
    have hz := I.v.l
    have hPl2 : P < M2.length := (List.getElem?_eq_some_iff.mp hP2).1
    simp only [lt4, lt5, lt6, dDrop, dBM, dVar, dCons, dNil, dOp, dC, dSet, dLc, dWalk, dTup, dSeq]
    refine ⟨.obj P, rfl, ⟨P, _, rfl, hP2⟩, .obj P, rfl, _, rfl, _, rfl, (ixA_objI hP2).mpr ⟨_, eA, .obj P, rfl, _, rfl, _, rfl, (ixA_objI hP2).mpr ⟨_, eB, by omega, ?_⟩⟩⟩
    refine ⟨P, _, _, rfl, rfl, hP2, by rw [List.length_map]; omega, ?_⟩
    refine ⟨_, rfl, _, rfl, by show 1 ≤ sizeLine; omega, ?_⟩
    refine ⟨by rw [List.length_map]; show _ + 1 ≤ sizeLine; omega, ?_⟩
    have hR2 : M2[R]? = some (.lst (is.map D.obj)) := x2.at I1.r.r
    have hPR : P ≠ R := Nat.ne_of_lt I.pr
    have hR3 : (M2.set P (.lst ((vps z ms).map D.str ++ [.str (xa ++ xb)])))[R]? = some (.lst (is.map D.obj)) := by
      rw [List.getElem?_set_ne hPR]
      exact hR2
    have ev : (vps z ms).map D.str ++ [.str (xa ++ xb)] = (vps z (ms ++ [p])).map D.str := by
      rw [show vps z (ms ++ [p]) = vps z ms ++ [stp (vps z ms) p] from pcs_snoc _ _ _, es]
      simp
    rw [ev] at hR3 ⊢
    have hP3 : (M2.set P (.lst ((vps z (ms ++ [p])).map D.str)))[P]? = some (.lst ((vps z (ms ++ [p])).map D.str)) := List.getElem?_set_self hPl2
    have he3 : ∀ (k i : Nat) (l : List Int), is[k]? = some i → rows[k]? = some l → (M2.set P (.lst ((vps z (ms ++ [p])).map D.str)))[i]? = some (.lst (l.map D.int)) ∧ P + 1 ≤ i := fun k i l h1 h2 => by
      obtain ⟨h3, h4⟩ := I1.r.e k i l h1 h2
      exact ⟨by rw [List.getElem?_set_ne (by omega)]; exact x2.at h3, h4⟩
    have xM3 : Ext M0 (M2.set P (.lst ((vps z (ms ++ [p])).map D.str))) := (I1.x.tr x2).set I.hp _
    have hl3 : P < (M2.set P (.lst ((vps z (ms ++ [p])).map D.str))).length := by rw [List.length_set]; exact hPl2
    generalize M2.set P (.lst ((vps z (ms ++ [p])).map D.str)) = M3 at hR3 hP3 he3 xM3 hl3 ⊢
    refine ⟨.obj R, rfl, _, hR3, ?_⟩
    have vl2 : (vps z (ms ++ [p])).length = 1 + z.length + ms.length + 1 := by
      rw [vps_len]
      simp
      omega
    have em : (((vps z (ms ++ [p])).length : Nat) : Int) - 1 = ((1 + z.length + ms.length : Nat) : Int) := by omega
    have eis : is.map D.obj = (is.zip rows).map fun e => D.obj e.1 := by
      have : is = (is.zip rows).map Prod.fst := by
        rw [List.map_fst_zip]
        exact Nat.le_of_eq I.r.n
      rw [show (fun e : Nat × List Int => D.obj e.1) = D.obj ∘ Prod.fst from rfl, ← List.map_map, ← this]
    have ers : (is.zip rows).map (fun e => mrg p ((1 + z.length + ms.length : Nat) : Int) e.2) = rows.map (mrg p ((1 + z.length + ms.length : Nat) : Int)) := by
      have : rows = (is.zip rows).map Prod.snd := by
        rw [List.map_snd_zip]
        exact Nat.le_of_eq I.r.n.symm
      rw [show (fun e : Nat × List Int => mrg p ((1 + z.length + ms.length : Nat) : Int) e.2) = mrg p ((1 + z.length + ms.length : Nat) : Int) ∘ Prod.snd from rfl, ← List.map_map, ← this]
    rw [eis]
    have hzl : (is.zip rows).length ≤ 7 := by
      rw [List.length_zip]
      have := I.n
      omega
    refine lcD_objs (M := M3) (fun e : Nat × List Int => D.obj e.1) (fun e => mrg p ((1 + z.length + ms.length : Nat) : Int) e.2) M3.length rfl (fun M' x => by rw [← eis]; exact x.at hR3) (is.zip rows) [] [] _ (Ext.app M3 _) ⟨at_end, rfl, fun k i l h1 _ => by cases h1⟩ (fun e he M4 Q' x4 hl4 q => ?_) (by rw [List.length_nil]; omega) fun is' M4 x4 R4 => ?_
    · obtain ⟨k0, hk0⟩ := List.getElem?_of_mem he
      rw [List.getElem?_zip_eq_some] at hk0
      obtain ⟨h5, h6⟩ := he3 k0 e.1 e.2 hk0.1 hk0.2
      have hP4 := x4.at hP3
      simp [wipeD, hP4]
      rw [em]
      exact p_lmergedF (x4.at h5) (by have := I.l e.2 (List.mem_of_getElem? hk0.2); omega) q
    · rw [List.nil_append, ers] at R4
      have vc := I.v.snoc I.b hnx (by have := I.kk; omega)
      refine hx p _ is' M4 _ ⟨x4.at hP3, ⟨R4.r, R4.n, fun k i l h1 h2 => ?_⟩, by omega, I.hp, xM3.tr x4, vc, ?_, map_sum p _ I.s, fun r hr => ?_, by rw [List.length_map]; exact I.n, by have := I.kk; simp; omega, fun out ho => ?_⟩ ⟨_, _, _, _, _, _, _, _, _, by rw [List.map_append]; rfl⟩
      · obtain ⟨h3, h4⟩ := R4.e k i l h1 h2
        exact ⟨h3, by omega⟩
      · have := I.b.map p (by omega)
        simpa [Nat.add_assoc] using this
      · obtain ⟨r0, hr0, rfl⟩ := List.mem_map.mp hr
        have := mrg_len p ((1 + z.length + ms.length : Nat) : Int) r0
        have := I.l r0 hr0
        omega
      · exact I.t out (.step hnx ho)
end
end Z03
set_option Elab.async false
set_option linter.all false
set_option maxRecDepth 100000
set_option maxHeartbeats 1000000
namespace Z03
open PySem PySem.Spec PyProof.Rows L2 GxR Gn Dl
section
variable {M A M0 : Mem} {Q : KD} {E : KE'} {D0 : EndsD} {R P C : Nat} {ws : List Str} {rows : List (List Int)} {z : Str}
theorem lt_loop {a : D} {n : Int} {rows0 : List (List Int)} {K : Nat} : ∀ (ds : List D) (R : Nat) (is : List Nat) (rows : List (List Int)) (ms : List (Int × Int)) (M : Mem) (s6 s7 s8 s9 s10 s11 s12 s13 s14 : Option D), LtI M0 z rows0 K P R is rows ms ds.length M →
    (∀ out M' R s6 s7 s8 s9 s10 s11 s12 s13 s14, Tr z rows0 [] K out → Ext M0 M' → D0.nx [some a, some (.int n), some (.str z), some (.obj P), some (.tup (out.map pD)), some (.obj R), s6, s7, s8, s9, s10, s11, s12, s13, s14] M') →
    forD (dGN 6) ltT (fun _ => True) D0 E ds [some a, some (.int n), some (.str z), some (.obj P), some (.tup (ms.map pD)), some (.obj R), s6, s7, s8, s9, s10, s11, s12, s13, s14] M
  | [], R, is, rows, ms, M, s6, s7, s8, s9, s10, s11, s12, s13, s14, I, h => ⟨trivial, h ms M R _ _ _ _ _ _ _ _ _ (I.t ms .stop) I.x⟩
  | d :: ds, R, is, rows, ms, M, s6, s7, s8, s9, s10, s11, s12, s13, s14, I, h => by
    refine ⟨trivial, ?_⟩
    show ltT _ _ [some a, some (.int n), some (.str z), some (.obj P), some (.tup (ms.map pD)), some (.obj R), some d, s7, s8, s9, s10, s11, s12, s13, s14] M
    refine lt_one (k := ds.length) I (fun M' S' _ I' hnx ⟨_, _, _, _, _, _, _, _, _, e⟩ => ?_) fun p R' is' M' S' I' ⟨_, _, _, _, _, _, _, _, _, e⟩ => ?_
    · subst e
      exact h ms M' R _ _ _ _ _ _ _ _ _ (I'.t ms (.none hnx)) I'.x
    · subst e
      exact lt_loop ds R' is' _ _ M' _ _ _ _ _ _ _ _ _ I' h
theorem p_ltrained {ts : List Str} {n : Int} (hn : 0 ≤ n) (H : TxOk ts) (h : ∀ z out M', LtOf z ts → Tr z (ts.map (ltk z)) [] (min n.toNat 10) out → Ext M M' → Q (vocD "vocabulary" z out) M') : sp__law_trained [.tup (ts.map D.str), .int n] M Q E := by
  have hsz := sizeLine_eq
  have hn7 := H.n
  show r__law_trained _ _ _ _
  rw [ltrained_eq]
  simp
  refine p_srt rfl H fun z G1 hz => ?_
  have V := hz.vc H
  have hzl := V.l
  simp [dGTup, dAsg]
  have hd : (sgD z).length = z.length := by rw [sgD_eq, List.length_map, sgn_len]
  have hs : z.cps.size = z.length := rfl
  refine ⟨by omega, by omega, by omega, by omega, ?_⟩
  have eA : M ++ (G1 ++ [Cell.lst [D.str ""], Cell.lst (sgD z), Cell.lst (D.str "" :: sgD z), Cell.lst []]) = (M ++ G1 ++ [Cell.lst [D.str ""], Cell.lst (sgD z), Cell.lst (D.str "" :: sgD z)]) ++ [Cell.lst []] := by simp
  have lA : M.length + (G1.length + 3) = (M ++ G1 ++ [Cell.lst [D.str ""], Cell.lst (sgD z), Cell.lst (D.str "" :: sgD z)]).length := by simp
  have hP : (M ++ G1 ++ [Cell.lst [D.str ""], Cell.lst (sgD z), Cell.lst (D.str "" :: sgD z)])[M.length + (G1.length + 2)]? = some (.lst ((bas z).map D.str)) := by
    rw [List.getElem?_append_right (by rw [List.length_append]; omega)]
    rw [show M.length + (G1.length + 2) - (M ++ G1).length = 2 by simp; omega]
    simp [bas, sgD_eq]
    rfl
  have xA : Ext M (M ++ G1 ++ [Cell.lst [D.str ""], Cell.lst (sgD z), Cell.lst (D.str "" :: sgD z)]) := (Ext.app M G1).tr (Ext.app _ _)
  have hMl : M.length + (G1.length + 2) < (M ++ G1 ++ [Cell.lst [D.str ""], Cell.lst (sgD z), Cell.lst (D.str "" :: sgD z)]).length := by simp
  have hMP : M.length ≤ M.length + (G1.length + 2) := by omega
  rw [eA, lA]
  generalize M ++ G1 ++ [Cell.lst [D.str ""], Cell.lst (sgD z), Cell.lst (D.str "" :: sgD z)] = A at hP xA hMl ⊢
  generalize M.length + (G1.length + 2) = P at hP hMl hMP ⊢
  refine lcD_objs (M := A) D.str (ltk z) A.length rfl (fun _ _ => trivial) ts [] [] _ (Ext.app A _) ⟨at_end, rfl, fun k i l h1 _ => by cases h1⟩ (fun t ht M2 Q' x2 hl2 q => ?_) (by rw [List.length_nil]; omega) fun is M3 x3 R3 => ?_
  · have hto := hz.of ht
    have htl := (H.lo t ht).2
    simp [wipeD, seqD]
    rw [sgD_map]
    refine lcD_ex (fun c => D.str (chS c)) (fun c => D.int (ixZ z c)) t.cps.toList M2 (fun _ _ => trivial) (fun a ha M4 Q2 x4 q2 => ?_) (by rw [cps_len]; omega) fun M4 x4 h4 => ?_
    · simp [wipeD]
      refine ix_mem (hto a ha) ?_
      have := q2 []
      rw [List.append_nil] at this
      exact this
    · refine q M4 x4 ?_
      rw [h4]
      unfold ltk
      rw [List.map_map]
      rfl
  · rw [List.nil_append] at R3
    have mk := minK n hn
    rw [mk]
    refine ⟨by omega, by omega, ?_⟩
    have hrl : (rngD 0 ((min n.toNat 10 : Nat) : Int).toNat).length = min n.toNat 10 := by
      unfold rngD
      rw [List.length_map, List.length_range]
      omega
    refine lt_loop (M0 := M) (rows0 := ts.map (ltk z)) (K := min n.toNat 10) _ A.length is (ts.map (ltk z)) [] M3 none none none none none none none none none {
      p := x3.at hP
      r := ⟨R3.r, R3.n, fun k i l h1 h2 => ⟨(R3.e k i l h1 h2).1, by have := (R3.e k i l h1 h2).2; omega⟩⟩
      pr := hMl
      hp := hMP
      x := xA.tr x3
      v := V
      b := ltk_rw hz
      s := by
        have : ((ts.map (ltk z)).map (·.length)) = ts.map (·.length) := by
          rw [List.map_map]
          exact List.map_congr_left fun t _ => ltk_len z t
        rw [this]
        exact H.sum
      l := fun r hr => by
        obtain ⟨t, ht, rfl⟩ := List.mem_map.mp hr
        rw [ltk_len]
        exact (H.lo t ht).2
      n := by rw [List.length_map]; exact hn7.2
      kk := by rw [hrl]; simp; omega
      t := fun out ho => by rw [hrl] at ho; exact ho } ?_
    intro out M4 R4 s6 s7 s8 s9 s10 s11 s12 s13 s14 ht x4
    simp
    exact ⟨by omega, h z out M4 hz ht x4⟩
end
end Z03
set_option Elab.async false
set_option linter.all false
set_option maxRecDepth 100000
set_option maxHeartbeats 1000000
namespace Z03
open PySem PySem.Spec PyProof.Rows L2 GxR Gn Dl
section
variable {d : D} {M : Mem} {Q : KD} {E : KE'} {m l w : Int} {C : Nat → Addr} {z t : Str} {ps : List (Int × Int)}
def nbB (m : Int) : D → Bool
  | .int n => decide (0 ≤ n) && decide (n < m)
  | _ => false
theorem p_below_any (hk : Kn M d) (h : Q (.bl (nbB m d)) M) : sp_is_number_below [d, .int m] M Q E := by
  simp [sp_is_number_below, r_is_number_below]
  refine p_int_any hk ?_
  cases e : isI d with
  | false =>
    have : nbB m d = false := by cases d <;> first | rfl | cases e
    rw [this] at h
    exact .inl ⟨rfl, h⟩
  | true =>
    obtain ⟨n, rfl⟩ := isI_int e
    simp [nbB] at h
    refine .inr ⟨rfl, ?_⟩
    simp
    by_cases h0 : 0 ≤ n
    · simp [h0] at h ⊢
      exact .inr h
    · simp [h0] at h ⊢
      exact ⟨by omega, h⟩
theorem p_token_any (hk : Kn M d) (h : Q (.bl (nbB m d)) M) : sp_is_token [d, .int m] M Q E := by
  simp [sp_is_token, r_is_token]
  exact p_below_any hk h
def tksB (m : Int) : D → Bool
  | .tup ds => ds.all (nbB m)
  | _ => false
theorem p_tokens_any (hk : HK M d) (h : ∀ G, Q (.bl (tksB m d)) (M ++ G)) : sp_are_tokens [d, .int m] M Q E := by
  obtain ⟨k, hk1⟩ := hk.kn
  by_cases ht : ∃ ds, d = .tup ds
  · obtain ⟨ds, rfl⟩ := ht
    simp [sp_are_tokens, r_are_tokens, kindD, kb_tt]
    refine all_any (nbB m) (fun a ha G Q' k => ?_) h
    simp
    exact p_token_any (((hk.of a ha).kn).app G) (by simpa using k [])
  · have hn : ∀ ds, d ≠ .tup ds := fun ds z => ht ⟨ds, z⟩
    have hf : tksB m d = false := by cases d <;> first | rfl | exact absurd rfl (hn _)
    simp [sp_are_tokens, r_are_tokens]
    rw [hf] at h
    exact ⟨k, hk1, .inl ⟨kind_tup hk1 hn, by simpa using h []⟩⟩
end
section
variable {d : D} {M : Mem} {Q : KD} {E : KE'} {w : Int} {l : List Int} {C : Nat → Addr} {z t : Str} {ps : List (Int × Int)}
theorem tks_ok (hb : ∀ x ∈ l, 0 ≤ x ∧ x < w) : tksB w (vI l) = true := by
  show (l.map D.int).all (nbB w) = true
  rw [List.all_map, List.all_eq_true]
  intro x hx
  have := hb x hx
  simp [nbB]
  omega
theorem hk_vI (M : Mem) (l : List Int) : HK M (vI l) := .tup fun x hx => by
  obtain ⟨n, _, rfl⟩ := List.mem_map.mp hx
  exact .base ⟨_, rfl⟩ (fun _ e => by cases e)
theorem p_totext (V : VocOk d z ps) (hl : l.length ≤ 60) (hb : ∀ x ∈ l, 0 ≤ x ∧ x < ((1 + z.length + ps.length : Nat) : Int)) (h : ∀ M', Ext M M' → Q (.str (ttx z ps l)) M') : sp_to_text C [d, vI l] M Q E := by
  have hn := vps_len z ps
  simp [sp_to_text, r_to_text]
  refine p_need V fun M1 x1 => ?_
  refine p_size_of V ?_
  refine p_tokens_any (hk_vI M1 l) fun G => ?_
  rw [tks_ok hb]
  refine .inr ⟨rfl, ?_⟩
  refine p_pieces_of V fun k M2 x2 k0 hM1 => ?_
  simp [vI, seqD]
  refine lcD_ex (fun n => D.int n) (fun n => D.str (tpc z ps n)) l M2 (fun _ _ => trivial) (fun a ha M3 Q' x q => ?_) (by omega) fun M3 x3 hM3 => ?_
  · simp [wipeD]
    have hb := hb a ha
    refine (ixA_objI (x.at hM1)).mpr ⟨_, at_str (l := vps z ps) hb.1 (by rw [hn]; exact hb.2), ?_⟩
    have := q []
    rw [List.append_nil] at this
    exact this
  · have sl : ((l.map (tpc z ps)).map (·.length)).sum ≤ (l.map (tpc z ps)).length * 1024 := sum_le fun y hy => by
      obtain ⟨n, _, rfl⟩ := List.mem_map.mp hy
      exact (V.low.getD n.toNat).2
    rw [List.length_map] at sl
    exact join_lst (ws := l.map (tpc z ps)) (by rw [hM3, List.map_map]; rfl) (by omega) (h M3 ((x1.tr (Ext.app M1 G)).tr (x2.tr x3)))
def txl (z : Str) (ps : List (Int × Int)) (l : List Int) : List Nat := l.flatMap fun n => (tpc z ps n).cps.toList
theorem ttx_cps (z : Str) (ps : List (Int × Int)) (l : List Int) : (ttx z ps l).cps.toList = txl z ps l := by
  unfold ttx txl
  rw [join_cps, List.flatMap_map]
theorem mrg_txl {p : Int × Int} {m : Int} (h : tpc z ps m = tpc z ps p.1 ++ tpc z ps p.2) : ∀ (k : Nat) (l : List Int), l.length ≤ k → txl z ps (mrg p m l) = txl z ps l := by
  intro k
  induction k with
  | zero =>
    intro l hl
    rw [List.length_eq_zero_iff.mp (Nat.le_zero.mp hl), mrg_nil]
  | succ k ih =>
    intro l hl
    match l with
    | [] => rw [mrg_nil]
    | [a] => rfl
    | a :: b :: r =>
      simp only [List.length_cons] at hl
      by_cases c : a = p.1 ∧ b = p.2
      · rw [mrg_yes c]
        have := ih r (by omega)
        unfold txl at this ⊢
        rw [List.flatMap_cons, List.flatMap_cons, List.flatMap_cons, this, h, app_cps, c.1, c.2, List.append_assoc]
      · rw [mrg_no c]
        have := ih (b :: r) (by simp; omega)
        unfold txl at this ⊢
        rw [List.flatMap_cons, this]
        simp [List.flatMap_cons]
theorem pcs_app : ∀ (a b : List (Int × Int)) (l : List Str), pcs l (a ++ b) = pcs (pcs l a) b
  | [], _, _ => rfl
  | p :: a, b, l => pcs_app a b _
theorem pcs_pre : ∀ (a : List (Int × Int)) (l : List Str), ∃ e, pcs l a = l ++ e
  | [], l => ⟨[], by simp [pcs]⟩
  | p :: a, l => by
    obtain ⟨e, h⟩ := pcs_pre a (l ++ [stp l p])
    exact ⟨stp l p :: e, by rw [show pcs l (p :: a) = pcs (l ++ [stp l p]) a from rfl, h]; simp⟩
theorem getD_pre {a e : List Str} {i : Nat} (h : i < a.length) : (a ++ e).getD i Str.empty = a.getD i Str.empty := by
  simp [List.getD_eq_getElem?_getD, List.getElem?_append_left h]
theorem tkf_txl : ∀ (r pre : List (Int × Int)) (n : Nat) (l : List Int), n = 1 + z.length + pre.length → Ps1 n r → txl z (pre ++ r) (tkf n r l) = txl z (pre ++ r) l
  | [], _, _, _, _, _ => rfl
  | p :: r, pre, n, l, hn, ho => by
    obtain ⟨h1, h2, h3⟩ := ho
    have e1 : pre ++ p :: r = (pre ++ [p]) ++ r := by simp
    have ih := tkf_txl r (pre ++ [p]) (n + 1) (mrg p (n : Nat) l) (by simp; omega) h3
    rw [← e1] at ih
    rw [show tkf n (p :: r) l = tkf (n + 1) r (mrg p (n : Nat) l) from rfl, ih]
    have vl : (vps z pre).length = n := by rw [vps_len, hn]
    obtain ⟨e, he⟩ := pcs_pre r (vps z pre ++ [stp (vps z pre) p])
    have ev : vps z (pre ++ p :: r) = vps z pre ++ ([stp (vps z pre) p] ++ e) := by
      show pcs (bas z) _ = _
      rw [pcs_app]
      show pcs (vps z pre ++ [stp (vps z pre) p]) r = _
      rw [he]
      simp
    have t0 : tpc z (pre ++ p :: r) (n : Nat) = stp (vps z pre) p := by
      unfold tpc
      rw [ev, List.getD_eq_getElem?_getD, Int.toNat_natCast, List.getElem?_append_right (by omega), vl, Nat.sub_self]
      rfl
    have t1 : tpc z (pre ++ p :: r) p.1 = (vps z pre).getD p.1.toNat Str.empty := by
      unfold tpc
      rw [ev, getD_pre (by omega)]
    have t2 : tpc z (pre ++ p :: r) p.2 = (vps z pre).getD p.2.toNat Str.empty := by
      unfold tpc
      rw [ev, getD_pre (by omega)]
    exact mrg_txl (by rw [t0, t1, t2]; rfl) l.length l (Nat.le_refl _)
theorem ltk_txl (ht : OfZ z t) : txl z ps (ltk z t) = t.cps.toList := by
  unfold txl ltk
  rw [List.flatMap_map]
  have go : ∀ l : List Nat, (∀ c ∈ l, c ∈ z.cps.toList) → l.flatMap (fun c => (tpc z ps (ixZ z c)).cps.toList) = l := by
    intro l
    induction l with
    | nil => intro _; rfl
    | cons c l ih =>
      intro h
      rw [List.flatMap_cons, ih fun x hx => h x (List.mem_cons_of_mem _ hx)]
      have hc := h c (List.mem_cons_self ..)
      have hi : z.cps.toList.idxOf c < z.cps.toList.length := List.idxOf_lt_length_iff.mpr hc
      obtain ⟨e, he⟩ := pcs_pre ps (bas z)
      have : tpc z ps (ixZ z c) = chS c := by
        unfold tpc
        rw [show vps z ps = bas z ++ e from he, show (ixZ z c).toNat = z.cps.toList.idxOf c + 1 by unfold ixZ; omega]
        rw [getD_pre (by rw [bas_len, ← cps_len]; omega)]
        unfold bas
        rw [List.getD_eq_getElem?_getD, List.getElem?_cons_succ, sgn_map, List.getElem?_map, List.getElem?_eq_getElem hi]
        simp
      rw [this]
      rfl
  exact go _ ht
theorem ttx_toks (V : Vc z ps) (ht : OfZ z t) : ttx z ps (toks z ps t) = t :=
  str_ext (by
    rw [ttx_cps]
    have := tkf_txl (z := z) ps [] (1 + z.length) (ltk z t) (by simp) V.p
    rw [List.nil_append] at this
    unfold toks
    rw [this, ltk_txl ht])
end
end Z03
set_option Elab.async false
set_option linter.all false
set_option maxRecDepth 100000
set_option maxHeartbeats 1000000
namespace Z03
open PySem PySem.Spec PyProof.Rows L2 GxR Gn Dl
def w0 : TSd := dSet 3 (dCall 2 sp__law_letters (dCons (dVar 1) (dCons (dC (.int 6)) (dNil))))
def w1 : TSd := dSet 5 (dCB tupOfD (dCons (dLc (dRange1 (dCons (dOp addD (dC (.int 1)) (dCall 2 sp__law_draw (dCons (dVar 1) (dCons (dC (.int 5)) (dNil))))) (dNil))) (dGN 4) (dYes) (dCall 3 sp__law_drawn_text (dCons (dVar 1) (dCons (dVar 3) (dCons (dC (.int 60)) (dNil))))) [4]) (dNil)))
def w2 : TSd := dSet 5 (dIf (dTest (dOp (eqA true) (dBM isStr joinTD (dC (.str "")) (dCons (dVar 5) (dNil))) (dC (.str "")))) (dVar 5) (dOp addD (dVar 5) (dTup (dCons (dOp mulS (dSl (dVar 3) (dNo) (dPart (dC (.int 1)))) (dOp addD (dC (.int 1)) (dCall 2 sp__law_draw (dCons (dVar 1) (dCons (dC (.int 9)) (dNil)))))) (dNil)))))
def w3 : TSd := dSet 6 (dCall 2 sp__law_pick (dCons (dVar 1) (dCons (dLst (dCons (dC (.int 2)) (dCons (dC (.int 4)) (dCons (dC (.int 7)) (dCons (dC (.int 10)) (dCons (dC (.int 1)) (dCons (dC (.int 0)) (dCons (dCall 2 sp__law_draw (dCons (dVar 1) (dCons (dC (.int 11)) (dNil)))) (dCons (dC (.int 11)) (dCons (dOp powD (dC (.int 10)) (dC (.int 29))) (dNil))))))))))) (dNil))))
def w4 : TSd := dSet 7 (dCall 2 sp__law_trained (dCons (dVar 5) (dCons (dVar 6) (dNil))))
def w5 (cs : Nat → Addr) : TSd := dSet 8 (dCall 2 (sp_trained cs) (dCons (dVar 5) (dCons (dVar 6) (dNil))))
def w6 (cs : Nat → Addr) : TSd := dIfS (dOrT (dTest (dOp (eqA true) (dCB reprD (dCons (dTup (dCons (dVar 8) (dCons (dCallW 2 [1, 0] (sp_trained cs) (dCons (dVar 6) (dCons (dVar 5) (dNil)))) (dNil)))) (dNil))) (dCB reprD (dCons (dTup (dCons (dVar 7) (dCons (dVar 7) (dNil)))) (dNil))))) (dTest (dOp (isD true) (dCall 1 sp_is_vocabulary (dCons (dVar 8) (dNil))) (dC (.bl true))))) (dRet (dC (.bl false))) (dNext)
def w7 (cs : Nat → Addr) : TSd := dIfS (dTest (dOp (eqA true) (dCall 1 (sp_size cs) (dCons (dVar 8) (dNil))) (dOp addD (dOp addD (dC (.int 1)) (dCB lenD (dCons (dOp ixA (dVar 7) (dC (.int 1))) (dNil)))) (dCB lenD (dCons (dOp ixA (dVar 7) (dC (.int 2))) (dNil)))))) (dRet (dC (.bl false))) (dNext)
def w8 : TSd := dSet 9 (dCall 2 sp__law_draw (dCons (dVar 1) (dCons (dOp addD (dCB (max2D false) (dCons (dVar 6) (dCons (dC (.int 10)) (dNil)))) (dC (.int 1))) (dNil))))
def w9 (cs : Nat → Addr) : TSd := dIfS (dTest (dOp (eqA true) (dCB reprD (dCons (dCall 2 (sp_trained cs) (dCons (dVar 5) (dCons (dVar 9) (dNil)))) (dNil))) (dCB reprD (dCons (dOp addD (dSl (dVar 7) (dNo) (dPart (dC (.int 2)))) (dTup (dCons (dSl (dOp ixA (dVar 7) (dC (.int 2))) (dNo) (dPart (dVar 9))) (dNil)))) (dNil))))) (dRet (dC (.bl false))) (dNext)
def w10 : TSd := dPar 10 11 (dCons (dOp addD (dCB lstOfD (dCons (dVar 5) (dNil))) (dLst (dCons (dC (.str "")) (dNil)))) (dCons (dLst (dNil)) (dNil)))
def w11 : TSd := dFor (dRange1 (dCons (dOp addD (dCB lenD (dCons (dVar 5) (dNil))) (dC (.int 1))) (dNil))) (dGN 4) (dDrop (dBM isLst appendD (dVar 11) (dCons (dBM isLst popAtD (dVar 10) (dCons (dCall 2 sp__law_draw (dCons (dVar 1) (dCons (dCB lenD (dCons (dVar 10) (dNil))) (dNil)))) (dNil))) (dNil))))
def w12 (cs : Nat → Addr) : TSd := dIfS (dTest (dOp (eqA true) (dCB reprD (dCons (dCall 2 (sp_trained cs) (dCons (dCB tupOfD (dCons (dVar 11) (dNil))) (dCons (dVar 6) (dNil)))) (dNil))) (dCB reprD (dCons (dVar 7) (dNil))))) (dRet (dC (.bl false))) (dNext)
def w13 (cs : Nat → Addr) : TSd := dFor (dWalk (dVar 5)) (dGN 12) (dSeq (dSet 13 (dCall 2 (sp_to_tokens cs) (dCons (dVar 8) (dCons (dVar 12) (dNil))))) (dIfS (dOrT (dTest (dOp (eqA true) (dCB reprD (dCons (dVar 13) (dNil))) (dCB reprD (dCons (dCall 2 sp__law_tokens (dCons (dVar 7) (dCons (dVar 12) (dNil)))) (dNil))))) (dTest (dOp (eqA true) (dCall 2 (sp_to_text cs) (dCons (dVar 8) (dCons (dVar 13) (dNil)))) (dVar 12)))) (dRet (dC (.bl false))) (dNext)))
def wT (cs : Nat → Addr) : TSd := dSeq w0 (dSeq w1 (dSeq w2 (dSeq w3 (dSeq w4 (dSeq (w5 cs) (dSeq (w6 cs) (dSeq (w7 cs) (dSeq w8 (dSeq (w9 cs) (dSeq w10 (dSeq w11 (dSeq (w12 cs) (w13 cs)))))))))))))
theorem law_eq (cs : Nat → Addr) : r_law cs = dSeq (dSet 1 (dCall 2 sp__law_deck (dCons (dVar 0) (dCons (dC (.int 14408003)) (dNil))))) (dSeq (dFor (dRange1 (dCons (dC (.int 2)) (dNil))) (dGN 2) (wT cs)) (dRet (dC (.bl true)))) := rfl
theorem pics_ex {α : Type} {dd : α → D} {p : α → Prop} : ∀ {ds : List D}, (∀ d ∈ ds, ∃ n, d = dd n ∧ p n) → ∃ ns : List α, ds = ns.map dd ∧ ∀ n ∈ ns, p n
  | [], _ => ⟨[], rfl, by simp⟩
  | d :: ds, h => by
    obtain ⟨n, rfl, hn⟩ := h d (by simp)
    obtain ⟨ns, rfl, hs⟩ := pics_ex fun d hd => h d (List.mem_cons_of_mem _ hd)
    exact ⟨n :: ns, rfl, fun m hm => (List.mem_cons.mp hm).elim (fun e => e ▸ hn) (hs m)⟩
section
variable {M : Mem} {E : KE'} {D0 : EndsD} {i j f : Nat} {z : Str} {C : Nat → Addr}
abbrev wS (s0 : Option D) (i : Nat) (s2 s3 s4 s5 s6 s7 s8 s9 s10 s11 s12 s13 : Option D) : Sl := [s0, some (.obj i), s2, s3, s4, s5, s6, s7, s8, s9, s10, s11, s12, s13]
structure LetOk (z : Str) : Prop where
  lo : lowB z = true
  l : 1 ≤ z.length ∧ z.length ≤ 6
theorem w0_ok {s0 s2 s3 s4 s5 s6 s7 s8 s9 s10 s11 s12 s13 : Option D} (hD : Dk i j (f + 7) M) (h : ∀ z M', LetOk z → Dk i j f M' → Fr i j M M' → D0.nx (wS s0 i s2 (some (.str z)) s4 s5 s6 s7 s8 s9 s10 s11 s12 s13) M') : w0 D0 E (wS s0 i s2 s3 s4 s5 s6 s7 s8 s9 s10 s11 s12 s13) M := by
  simp [w0]
  exact p_lets (most := 6) (f := f) (by decide) hD fun z M' h1 h2 _ h4 h5 => h z M' ⟨h1, h2⟩ h4 h5
theorem w1_ok {s0 s2 s4 s5 s6 s7 s8 s9 s10 s11 s12 s13 : Option D} (hz : LetOk z) (hD : Dk i j (f + 201) M) (h : ∀ (ts : List Str) M' s4, (∀ t ∈ ts, OfZ z t ∧ t.length ≤ 60) → (1 ≤ ts.length ∧ ts.length ≤ 5) → Dk i j f M' → Fr i j M M' → D0.nx (wS s0 i s2 (some (.str z)) s4 (some (.tup (ts.map D.str))) s6 s7 s8 s9 s10 s11 s12 s13) M') : w1 D0 E (wS s0 i s2 (some (.str z)) s4 s5 s6 s7 s8 s9 s10 s11 s12 s13) M := by
  simp [w1]
  refine p__law_draw (f := f + 200) (hD.le (by omega)) (by omega) (by omega) fun r M1 r0 r1 D1 F1 => ?_
  simp
  refine ⟨by omega, by omega, ?_⟩
  have hr : (1 + r).toNat ≤ 5 := by omega
  rw [rngD_map]
  refine lcD_drawn (i := i) (j := j) (c := 40) (f := f) (fun k : Nat => D.int (0 + (k : Nat))) (fun d => ∃ t, d = .str t ∧ OfZ z t ∧ t.length ≤ 60) (List.range (1 + r).toNat) M1 (fun _ _ => trivial) (D1.le (by rw [List.length_range]; omega)) (by rw [List.length_range]; omega) (fun a ha g M2 Q' D2 F2 q => ?_) fun ds M2 h1 h2 D2 F2 hM => ?_
  · simp [wipeD]
    exact p_text hz.l D2 fun t M' t1 t2 D3 F3 => q _ M' ⟨t, rfl, t1, t2⟩ D3 F3
  · obtain ⟨ts, rfl, h3⟩ := pics_ex (dd := D.str) (p := fun t => OfZ z t ∧ t.length ≤ 60) h1
    rw [List.length_range, List.length_map] at h2
    simp [hM]
    exact h ts M2 _ h3 (by omega) D2 (F1.tr F2)
theorem cut_one {z : Str} (h : 1 ≤ z.length) : ∃ c, c ∈ z.cps.toList ∧ cutS z none (some 1) = chS c := by
  rw [← cps_len] at h
  cases e : z.cps.toList with
  | nil => rw [e] at h; simp at h
  | cons c r =>
    refine ⟨c, by simp, str_ext ?_⟩
    have hl : z.length = r.length + 1 := by rw [← cps_len, e]; rfl
    unfold L2.cutS
    simp [HT.sIx, hl, e, chS]
theorem app_str {ts : List Str} (h : ∃ t ∈ ts, 0 < t.length) : Txt.join "" ts ≠ "" := fun e => by
  obtain ⟨t, ht, hl⟩ := h
  have := congrArg (fun z : Str => z.cps.toList) e
  have this : (Txt.join "" ts).cps.toList = [] := this
  rw [join_cps] at this
  rw [← cps_len] at hl
  obtain ⟨c, hc⟩ := List.exists_mem_of_length_pos hl
  have hm : c ∈ ts.flatMap (·.cps.toList) := List.mem_flatMap.mpr ⟨t, ht, hc⟩
  rw [this] at hm
  cases hm
theorem w2_ok {ts : List Str} {s0 s2 s4 s6 s7 s8 s9 s10 s11 s12 s13 : Option D} (hz : LetOk z) (ht : ∀ t ∈ ts, OfZ z t ∧ t.length ≤ 60) (hl : 1 ≤ ts.length ∧ ts.length ≤ 5) (hD : Dk i j (f + 1) M)
    (h : ∀ (ts : List Str) M', TxOk ts → ts.length ≤ 6 → Dk i j f M' → Fr i j M M' → D0.nx (wS s0 i s2 (some (.str z)) s4 (some (.tup (ts.map D.str))) s6 s7 s8 s9 s10 s11 s12 s13) M') : w2 D0 E (wS s0 i s2 (some (.str z)) s4 (some (.tup (ts.map D.str))) s6 s7 s8 s9 s10 s11 s12 s13) M := by
  have few : ∀ ts : List Str, (∀ t ∈ ts, OfZ z t) → ∃ few : List Nat, few.length ≤ 6 ∧ ∀ t ∈ ts, ∀ c ∈ t.cps.toList, c ∈ few := fun ts h => ⟨z.cps.toList, by rw [cps_len]; exact hz.l.2, fun t ht c hc => h t ht c hc⟩
  have sz : (ts.map (·.length)).sum ≤ 60 * ts.length := sum60 fun t h => (ht t h).2
  have hsz := sizeLine_eq
  simp [w2]
  refine ⟨"", ts, rfl, .inr rfl, by show _ + ts.length * 0 ≤ _; omega, ?_⟩
  by_cases hne : ∃ t ∈ ts, 0 < t.length
  · refine (eqA_str (neg := true)).mpr ?_
    rw [decide_eq_false (app_str hne)]
    refine .inr ⟨rfl, ?_⟩
    exact h ts M ⟨fun t h => ⟨(ht t h).1.low hz.lo, (ht t h).2⟩, ⟨hl.1, by omega⟩, hne, few ts fun t h => (ht t h).1⟩ (by omega) (hD.le (by omega)) (Fr.refl _ _ _)
  · have e0 : Txt.join "" ts = "" := str_ext (by
      rw [join_cps]
      show _ = []
      rw [List.flatMap_eq_nil_iff]
      intro t h
      have : ¬ 0 < t.length := fun q => hne ⟨t, h, q⟩
      rw [← cps_len] at this
      exact List.length_eq_zero_iff.mp (by omega))
    refine (eqA_str (neg := true)).mpr ?_
    rw [decide_eq_true e0]
    refine .inl ⟨rfl, ?_⟩
    obtain ⟨c, hc, ec⟩ := cut_one hz.l.1
    rw [ec]
    refine ⟨by have := hz.l; omega, ?_⟩
    refine p__law_draw (f := f) hD (by omega) (by omega) fun r M1 r0 r1 D1 F1 => ?_
    have e1 : (1 : Int) + r = ((1 + r.toNat : Nat) : Int) := by omega
    simp only [addD, e1]
    refine ⟨c, _, rfl, rfl, by omega, by omega, by omega, by omega, ?_⟩
    have wl : (⟨(List.replicate (((1 + r.toNat : Nat) : Int)).toNat c).toArray⟩ : Str).cps.toList = List.replicate (1 + r.toNat) c := by rw [Int.toNat_natCast]
    have wn : (⟨(List.replicate (((1 + r.toNat : Nat) : Int)).toNat c).toArray⟩ : Str).length = 1 + r.toNat := by rw [← cps_len, wl]; simp
    have ww : OfZ z ⟨(List.replicate (((1 + r.toNat : Nat) : Int)).toNat c).toArray⟩ := fun y hy => by
      rw [wl] at hy
      rw [(List.mem_replicate.mp hy).2]
      exact hc
    generalize (⟨(List.replicate (((1 + r.toNat : Nat) : Int)).toNat c).toArray⟩ : Str) = w at wn ww ⊢
    have ht2 : ∀ t ∈ ts ++ [w], OfZ z t ∧ t.length ≤ 60 := fun t h => (List.mem_append.mp h).elim (ht t) fun h => by
      rw [List.mem_singleton.mp h]
      exact ⟨ww, by omega⟩
    have e2 : ts.map D.str ++ [.str w] = (ts ++ [w]).map D.str := by simp
    rw [e2]
    exact h (ts ++ [w]) M1 ⟨fun t h => ⟨(ht2 t h).1.low hz.lo, (ht2 t h).2⟩, by simp; omega, ⟨w, by simp, by omega⟩, few _ fun t h => (ht2 t h).1⟩ (by simp; omega) D1 F1
end
end Z03
set_option Elab.async false
set_option linter.all false
set_option maxRecDepth 100000
set_option maxHeartbeats 1000000
namespace Z03
open PySem PySem.Spec PyProof.Rows L2 GxR Gn Dl
theorem cutL_to {α : Type} (xs : List α) (k : Nat) : cutL xs none (some (k : Int)) = xs.take k := by
  unfold cutL
  rw [HT.sIx_none, HT.sIx_nat]
  simp
section
variable {M : Mem} {E : KE'} {D0 : EndsD} {i j f : Nat} {z : Str} {C : Nat → Addr} {ts : List Str} {n : Int} {out : List (Int × Int)}
theorem w3_ok {s0 s2 s3 s4 s5 s6 s7 s8 s9 s10 s11 s12 s13 : Option D} (hD : Dk i j (f + 2) M) (h : ∀ (n : Int) M', 0 ≤ n → Dk i j f M' → Fr i j M M' → D0.nx (wS s0 i s2 s3 s4 s5 (some (.int n)) s7 s8 s9 s10 s11 s12 s13) M') : w3 D0 E (wS s0 i s2 s3 s4 s5 s6 s7 s8 s9 s10 s11 s12 s13) M := by
  have hsz := sizeLine_eq
  simp [w3, powD]
  refine p__law_draw (f := f + 1) hD (by omega) (by omega) fun r M1 r0 r1 D1 F1 => ?_
  refine ⟨by unfold CPow; decide, by omega, ?_⟩
  have o := D1.out
  refine p__law_pick_l (f := f) (ds := [.int 2, .int 4, .int 7, .int 10, .int 1, .int 0, .int r, .int 11, .int 100000000000000000000000000000]) (n := M1.length) (D1.app _) at_end (by simp) (by simp) o.1 o.2 fun d M2 hd D2 F2 => ?_
  have hF : Fr i j M M2 := (F1.tr (Fr.app i j M1 _)).tr F2
  have : ∃ n : Int, d = .int n ∧ 0 ≤ n := by
    simp at hd
    rcases hd with e | e | e | e | e | e | e | e | e <;> exact ⟨_, e, by omega⟩
  obtain ⟨n, rfl, hn⟩ := this
  exact h n M2 hn D2 hF
theorem w4_ok {s0 s2 s3 s4 s7 s8 s9 s10 s11 s12 s13 : Option D} (H : TxOk ts) (hn : 0 ≤ n) (h : ∀ z out M', LtOf z ts → Tr z (ts.map (ltk z)) [] (min n.toNat 10) out → Ext M M' → D0.nx (wS s0 i s2 s3 s4 (some (.tup (ts.map D.str))) (some (.int n)) (some (vocD "vocabulary" z out)) s8 s9 s10 s11 s12 s13) M') : w4 D0 E (wS s0 i s2 s3 s4 (some (.tup (ts.map D.str))) (some (.int n)) s7 s8 s9 s10 s11 s12 s13) M := by
  simp [w4]
  exact p_ltrained hn H h
theorem w5_ok {s0 s2 s3 s4 s7 s8 s9 s10 s11 s12 s13 : Option D} (H : TxOk ts) (hn : 0 ≤ n) (hz : LtOf z ts) (ht : Tr z (ts.map (ltk z)) [] (min n.toNat 10) out) (h : ∀ M', Ext M M' → D0.nx (wS s0 i s2 s3 s4 (some (.tup (ts.map D.str))) (some (.int n)) s7 (some (vocD "vocabulary" z out)) s9 s10 s11 s12 s13) M') : w5 C D0 E (wS s0 i s2 s3 s4 (some (.tup (ts.map D.str))) (some (.int n)) s7 s8 s9 s10 s11 s12 s13) M := by
  simp [w5]
  refine p_trained hn H fun z' out' M' hz' ht' x => ?_
  cases hz'.uniq hz fun c => Iff.rfl
  cases ht'.det ht
  exact h M' x
def pP (p : Int × Int) : PyData := .tuple [.int p.1, .int p.2]
def vocP (z : Str) (ms : List (Int × Int)) : PyData := .tuple [.str "vocabulary", .str z, .tuple (ms.map pP)]
theorem py_voc {b : Nat} (V : Vc z out) : Py M b 2000 4 (vocD "vocabulary" z out) (vocP z out) := by
  have hm : ∀ p ∈ out, Py M b 27 1 (pD p) (pP p) := fun p hp => by
    have : ∀ (ms : List (Int × Int)) (n : Nat), Ps1 n ms → n + ms.length ≤ 100 → ∀ p ∈ ms, p.1.natAbs < 100000000 ∧ p.2.natAbs < 100000000 := by
      intro ms
      induction ms with
      | nil => intro n _ _ p hp; cases hp
      | cons q r ih =>
        intro n ho hl p hp
        obtain ⟨h1, h2, h3⟩ := ho
        simp only [List.length_cons] at hl
        rcases List.mem_cons.mp hp with rfl | hp
        · omega
        · exact ih (n + 1) h3 (by omega) p hp
    have hb := this out _ V.p (by have := V.l; have := V.m; omega) p hp
    exact (Py.tup (PyL.cons (Py.int hb.1) (PyL.cons (Py.int hb.2) PyL.nil)) : Py M b (24 + 3) (0 + 1) _ _)
  have h1 : Py M b (out.length * (27 + 2) + 3) 2 (.tup (out.map pD)) (.tuple (out.map pP)) := Py.tup (PyL.map hm)
  have h2 : Py M b 8 0 (.str z) (.str z) := py_low V.lo V.l.2
  have h3 : Py M b 20 2 (.str "vocabulary") (.str "vocabulary") := Py.str (by decide +kernel)
  exact (Py.tup (PyL.cons h3 (PyL.cons (h2.mono (Nat.le_refl _) (by omega)) (PyL.cons h1 PyL.nil)))).mono (by have := V.m; omega) (by omega)
theorem voc_repr {Q : KD} (V : Vc z out) (q : Q (.str (vocP z out).shown) M) : reprD [vocD "vocabulary" z out] M Q := py_repr (py_voc (b := 0) V) (by omega) (by omega) (.inl ⟨_, rfl⟩) q
theorem voc_repr2 {Q : KD} (V : Vc z out) (q : Q (.str (PyData.tuple [vocP z out, vocP z out]).shown) M) : reprD [.tup [vocD "vocabulary" z out, vocD "vocabulary" z out]] M Q :=
  py_repr (Py.tup (PyL.cons (py_voc (b := 0) V) (PyL.cons (py_voc V) PyL.nil))) (by omega) (by omega) (.inl ⟨_, rfl⟩) q
theorem tr_vc (H : TxOk ts) (hz : LtOf z ts) (ht : Tr z (ts.map (ltk z)) [] (min n.toNat 10) out) : Vc z out :=
  ht.vc (hz.vc H) (ltk_rw hz) (by simp; omega)
theorem w6_ok {s0 s2 s3 s4 s9 s10 s11 s12 s13 : Option D} (H : TxOk ts) (hn : 0 ≤ n) (hz : LtOf z ts) (ht : Tr z (ts.map (ltk z)) [] (min n.toNat 10) out) (h : ∀ M', Ext M M' → D0.nx (wS s0 i s2 s3 s4 (some (.tup (ts.map D.str))) (some (.int n)) (some (vocD "vocabulary" z out)) (some (vocD "vocabulary" z out)) s9 s10 s11 s12 s13) M') : w6 C D0 E (wS s0 i s2 s3 s4 (some (.tup (ts.map D.str))) (some (.int n)) (some (vocD "vocabulary" z out)) (some (vocD "vocabulary" z out)) s9 s10 s11 s12 s13) M := by
  have hsz := sizeLine_eq
  have V := tr_vc H hz ht
  simp [w6]
  refine ⟨rfl, ?_⟩
  refine p_trained hn H fun z' out' M1 hz' ht' x1 => ?_
  cases hz'.uniq hz fun c => Iff.rfl
  cases ht'.det ht
  refine ⟨by omega, voc_repr2 V ⟨by omega, voc_repr2 V ?_⟩⟩
  refine (eqA_str (neg := true)).mpr ?_
  simp
  refine p_vocab V.ok fun M2 x2 => ?_
  simp [isD]
  exact h M2 (x1.tr x2)
theorem w7_ok {s0 s2 s3 s4 s5 s6 s9 s10 s11 s12 s13 : Option D} (V : Vc z out) (h : ∀ M', Ext M M' → D0.nx (wS s0 i s2 s3 s4 s5 s6 (some (vocD "vocabulary" z out)) (some (vocD "vocabulary" z out)) s9 s10 s11 s12 s13) M') : w7 C D0 E (wS s0 i s2 s3 s4 s5 s6 (some (vocD "vocabulary" z out)) (some (vocD "vocabulary" z out)) s9 s10 s11 s12 s13) M := by
  simp [w7]
  refine p_size V.ok fun M1 x1 => ?_
  simp [vocD, ixA, ixD]
  refine ⟨_, rfl, ?_⟩
  simp only [lenD]
  refine ⟨by have := V.l; have := sizeLine_eq; omega, ?_⟩
  simp only [addD]
  refine ⟨_, rfl, ?_⟩
  simp only [lenD, addD, List.length_map]
  refine (eqA_int (neg := true)).mpr ?_
  simp
  exact h M1 x1
theorem w8_ok {s0 s2 s3 s4 s5 s7 s8 s9 s10 s11 s12 s13 : Option D} (hn : 0 ≤ n) (hD : Dk i j (f + 1) M) (h : ∀ (r : Nat) M', r ≤ min n.toNat 10 → Dk i j f M' → Fr i j M M' → D0.nx (wS s0 i s2 s3 s4 s5 (some (.int n)) s7 s8 (some (.int (r : Nat))) s10 s11 s12 s13) M') : w8 D0 E (wS s0 i s2 s3 s4 s5 (some (.int n)) s7 s8 s9 s10 s11 s12 s13) M := by
  simp [w8, max2D]
  rw [minK n hn]
  refine p__law_draw (f := f) hD (by omega) (by omega) fun r M1 r0 r1 D1 F1 => ?_
  have := h r.toNat M1 (by omega) D1 F1
  rw [show ((r.toNat : Nat) : Int) = r by omega] at this
  exact this
theorem w9_ok {r : Nat} {s0 s2 s3 s4 s6 s8 s10 s11 s12 s13 : Option D} (H : TxOk ts) (hz : LtOf z ts) (ht : Tr z (ts.map (ltk z)) [] (min n.toNat 10) out) (hr : r ≤ min n.toNat 10) (h : ∀ M', Ext M M' → D0.nx (wS s0 i s2 s3 s4 (some (.tup (ts.map D.str))) s6 (some (vocD "vocabulary" z out)) s8 (some (.int (r : Nat))) s10 s11 s12 s13) M') : w9 C D0 E (wS s0 i s2 s3 s4 (some (.tup (ts.map D.str))) s6 (some (vocD "vocabulary" z out)) s8 (some (.int (r : Nat))) s10 s11 s12 s13) M := by
  have hsz := sizeLine_eq
  have t2 := ht.less r hr
  have ek : min (((r : Nat) : Int)).toNat 10 = r := by omega
  simp [w9]
  refine p_trained (by omega) H fun z' out' M1 hz' ht' x1 => ?_
  cases hz'.uniq hz fun c => Iff.rfl
  rw [ek] at ht'
  have eo := ht'.det t2
  simp only [List.length_nil, Nat.zero_add] at eo
  subst eo
  have V : Vc z (out.take r) := tr_vc (n := (r : Int)) H hz (by rw [ek]; exact ht')
  refine voc_repr V ?_
  simp only [vocD, slD]
  have c2 : cutL [D.str "vocabulary", D.str z, D.tup (out.map pD)] none (some 2) = [D.str "vocabulary", D.str z] := cutL_to _ 2
  have c3 : cutL (out.map pD) none (some ((r : Nat) : Int)) = (out.take r).map pD := by rw [cutL_to, List.map_take]
  simp [ixA, ixD, vocD]
  refine ⟨_, rfl, ?_⟩
  simp only [c2, c3]
  refine ⟨by omega, by show 3 ≤ sizeLine; omega, ?_⟩
  refine voc_repr V ?_
  refine (eqA_str (neg := true)).mpr ?_
  simp
  exact h M1 x1
end
end Z03
set_option Elab.async false
set_option linter.all false
set_option maxRecDepth 100000
set_option maxHeartbeats 1000000
namespace Z03
open PySem PySem.Spec PyProof.Rows L2 GxR Gn Dl
section
variable {M M0 : Mem} {E : KE'} {D0 : EndsD} {i j f : Nat} {z : Str} {C : Nat → Addr} {ts : List Str} {n : Int} {out : List (Int × Int)}
theorem w10_ok {s0 s2 s3 s4 s6 s7 s8 s9 s10 s11 s12 s13 : Option D} (hl : ts.length ≤ 6) (h : ∀ M' L R, Ext M M' → M.length ≤ L → M.length ≤ R → L ≠ R → M'[L]? = some (.lst ((ts ++ [Str.empty]).map D.str)) → M'[R]? = some (.lst []) → D0.nx (wS s0 i s2 s3 s4 (some (.tup (ts.map D.str))) s6 s7 s8 s9 (some (.obj L)) (some (.obj R)) s12 s13) M') : w10 D0 E (wS s0 i s2 s3 s4 (some (.tup (ts.map D.str))) s6 s7 s8 s9 s10 s11 s12 s13) M := by
  have hsz := sizeLine_eq
  simp [w10]
  refine ⟨by omega, by omega, _, _, ⟨rfl, rfl⟩, ?_⟩
  have eM : M ++ [Cell.lst (ts.map D.str), Cell.lst [D.str (Str.ofString "")], Cell.lst (ts.map D.str ++ [D.str (Str.ofString "")]), Cell.lst []] = M ++ [Cell.lst (ts.map D.str), Cell.lst [D.str (Str.ofString "")]] ++ [Cell.lst (ts.map D.str ++ [D.str (Str.ofString "")]), Cell.lst []] := by simp
  refine h _ _ _ (Ext.app M _) (by omega) (by omega) (by omega) ?_ ?_
  · rw [List.getElem?_append_right (by omega)]
    rw [show M.length + 2 - M.length = 2 by omega]
    simp
    rfl
  · rw [List.getElem?_append_right (by omega)]
    rw [show M.length + 3 - M.length = 3 by omega]
    rfl
def shB : TSd := dDrop (dBM isLst appendD (dVar 11) (dCons (dBM isLst popAtD (dVar 10) (dCons (dCall 2 sp__law_draw (dCons (dVar 1) (dCons (dCB lenD (dCons (dVar 10) (dNil))) (dNil)))) (dNil))) (dNil)))
theorem w11_eq : w11 = dFor (dRange1 (dCons (dOp addD (dCB lenD (dCons (dVar 5) (dNil))) (dC (.int 1))) (dNil))) (dGN 4) shB := rfl
theorem sh_go {L R : Nat} {s0 s2 s3 s5 s6 s7 s8 s9 s12 s13 : Option D} : ∀ (ds : List D) (ls rs : List Str) (M : Mem) (s4 : Option D), M0.length ≤ L → M0.length ≤ R → L ≠ R → L ≠ i → L ≠ j → R ≠ i → R ≠ j → Fr i j M0 M → Dk i j (f + ds.length) M → M[L]? = some (.lst (ls.map D.str)) → M[R]? = some (.lst (rs.map D.str)) → ds.length = ls.length → ls.length + rs.length ≤ 100 →
    (∀ (rs' : List Str) M' s4, rs'.Perm (rs ++ ls) → Fr i j M0 M' → Dk i j f M' → M'[R]? = some (.lst (rs'.map D.str)) → D0.nx (wS s0 i s2 s3 s4 s5 s6 s7 s8 s9 (some (.obj L)) (some (.obj R)) s12 s13) M') →
    forD (dGN 4) shB (fun _ => True) D0 E ds (wS s0 i s2 s3 s4 s5 s6 s7 s8 s9 (some (.obj L)) (some (.obj R)) s12 s13) M
  | [], ls, rs, M, s4, h0, h1, hLR, hLi, hLj, hRi, hRj, hF, hD, hL, hR, hl, hz, h => by
    have : ls = [] := List.length_eq_zero_iff.mp hl.symm
    subst this
    exact ⟨trivial, h rs M s4 (by simp) hF hD hR⟩
  | d :: ds, ls, rs, M, s4, h0, h1, hLR, hLi, hLj, hRi, hRj, hF, hD, hL, hR, hl, hz, h => by
    refine ⟨trivial, ?_⟩
    have hsz : sizeLine = 16777216 := sizeLine_eq
    simp only [List.length_cons] at hl hD
    simp [shB, hL]
    refine ⟨⟨R, _, rfl, hR⟩, ⟨L, _, rfl, hL⟩, ?_⟩
    refine p__law_draw (f := f + ds.length) hD (by omega) (by omega) fun r M1 r0 r1 D1 F1 => ?_
    have hL1 := F1.at hLi hLj hL
    have hR1 := F1.at hRi hRj hR
    have hr : r.toNat < ls.length := by omega
    refine ⟨L, ls.map D.str, r, r.toNat, .str ls[r.toNat], rfl, rfl, hL1, by omega, by omega, idx_ok r0 (by simpa using r1), by simp [hr], ?_⟩
    have hL2 := (List.getElem?_eq_some_iff.mp hL1).1
    have hR2 : (M1.set L (.lst ((ls.map D.str).eraseIdx r.toNat)))[R]? = some (.lst (rs.map D.str)) := by
      rw [List.getElem?_set_ne hLR]
      exact hR1
    have hR3 := (List.getElem?_eq_some_iff.mp hR2).1
    have e9 : (ls.map D.str).eraseIdx r.toNat = (ls.eraseIdx r.toNat).map D.str := by
      rw [List.eraseIdx_eq_take_drop_succ, List.eraseIdx_eq_take_drop_succ, List.map_append, List.map_take, List.map_drop]
    have le := List.length_eraseIdx_of_lt hr
    have pm : ls.Perm (ls[r.toNat] :: ls.eraseIdx r.toNat) := by
      have e : ls = ls.take r.toNat ++ ls[r.toNat] :: ls.drop (r.toNat + 1) := by simp
      rw [List.eraseIdx_eq_take_drop_succ]
      conv => lhs; rw [e]
      exact List.perm_middle
    refine ⟨rs.map D.str, hR2, by rw [List.length_map]; omega, ?_⟩
    refine sh_go ds (ls.eraseIdx r.toNat) (rs ++ [ls[r.toNat]]) _ _ h0 h1 hLR hLi hLj hRi hRj (((hF.tr F1).set3 h0).set3 h1) ((D1.set hLi hLj).set hRi hRj) ?_ ?_ (by omega) (by simp; omega) fun rs' M' s4 p1 p2 p3 p4 => h rs' M' s4 ?_ p2 p3 p4
    · rw [List.getElem?_set_ne (Ne.symm hLR), List.getElem?_set_self hL2, e9]
    · rw [List.getElem?_set_self hR3]
      simp
    · refine p1.trans ?_
      rw [List.append_assoc]
      exact (List.Perm.append_left rs pm).symm
theorem w12_ok {rs : List Str} {R : Nat} {s0 s2 s3 s4 s5 s8 s9 s10 s12 s13 : Option D} (H : TxOk ts) (hl : ts.length ≤ 6) (hn : 0 ≤ n) (hz : LtOf z ts) (ht : Tr z (ts.map (ltk z)) [] (min n.toNat 10) out) (hp : rs.Perm (ts ++ [Str.empty])) (hR : M[R]? = some (.lst (rs.map D.str))) (h : ∀ M', Ext M M' → D0.nx (wS s0 i s2 s3 s4 s5 (some (.int n)) (some (vocD "vocabulary" z out)) s8 s9 s10 (some (.obj R)) s12 s13) M') : w12 C D0 E (wS s0 i s2 s3 s4 s5 (some (.int n)) (some (vocD "vocabulary" z out)) s8 s9 s10 (some (.obj R)) s12 s13) M := by
  have hsz := sizeLine_eq
  have V := tr_vc H hz ht
  have hmem : ∀ t, t ∈ rs ↔ t ∈ ts ∨ t = Str.empty := fun t => by rw [hp.mem_iff, List.mem_append, List.mem_singleton]
  have hlen : rs.length = ts.length + 1 := by rw [hp.length_eq]; simp
  have H2 : TxOk rs := by
    refine ⟨fun t h => ?_, by omega, ?_, ?_⟩
    · rcases (hmem t).mp h with h | h
      · exact H.lo t h
      · rw [h]
        exact ⟨low_nil, by decide⟩
    · obtain ⟨t, h1, h2⟩ := H.ne
      exact ⟨t, (hmem t).mpr (.inl h1), h2⟩
    · obtain ⟨few, f1, f2⟩ := H.few
      refine ⟨few, f1, fun t h c hc => ?_⟩
      rcases (hmem t).mp h with h | h
      · exact f2 t h c hc
      · rw [h] at hc
        cases hc
  have hc : ∀ c, (∃ t ∈ rs, c ∈ t.cps.toList) ↔ ∃ t ∈ ts, c ∈ t.cps.toList := fun c => by
    constructor
    · rintro ⟨t, h1, h2⟩
      rcases (hmem t).mp h1 with h | h
      · exact ⟨t, h, h2⟩
      · rw [h] at h2
        cases h2
    · rintro ⟨t, h1, h2⟩
      exact ⟨t, (hmem t).mpr (.inl h1), h2⟩
  simp [w12, hR]
  refine p_trained hn H2 fun z' out' M1 hz' ht' x1 => ?_
  cases hz'.uniq hz hc
  have pr : (rs.map (ltk z)).Perm ([] :: ts.map (ltk z)) := by
    have := (hp.trans (List.perm_append_singleton _ _)).map (ltk z)
    rw [List.map_cons] at this
    exact this
  cases ht'.det (ht.perm pr)
  refine voc_repr V (voc_repr V ?_)
  refine (eqA_str (neg := true)).mpr ?_
  simp
  exact h M1 x1
def w13B (cs : Nat → Addr) : TSd := dSeq (dSet 13 (dCall 2 (sp_to_tokens cs) (dCons (dVar 8) (dCons (dVar 12) (dNil))))) (dIfS (dOrT (dTest (dOp (eqA true) (dCB reprD (dCons (dVar 13) (dNil))) (dCB reprD (dCons (dCall 2 sp__law_tokens (dCons (dVar 7) (dCons (dVar 12) (dNil)))) (dNil))))) (dTest (dOp (eqA true) (dCall 2 (sp_to_text cs) (dCons (dVar 8) (dCons (dVar 13) (dNil)))) (dVar 12)))) (dRet (dC (.bl false))) (dNext))
theorem w13_eq (cs : Nat → Addr) : w13 cs = dFor (dWalk (dVar 5)) (dGN 12) (w13B cs) := rfl
theorem tk_go {s0 s2 s3 s4 s5 s6 s9 s10 s11 : Option D} (V : Vc z out) : ∀ (rs : List Str) (M : Mem) (s12 s13 : Option D), (∀ t ∈ rs, OfZ z t ∧ t.length ≤ 60) → (∀ M' s12 s13, Ext M M' → D0.nx (wS s0 i s2 s3 s4 s5 s6 (some (vocD "vocabulary" z out)) (some (vocD "vocabulary" z out)) s9 s10 s11 s12 s13) M') →
    forD (dGN 12) (w13B C) (fun _ => True) D0 E (rs.map D.str) (wS s0 i s2 s3 s4 s5 s6 (some (vocD "vocabulary" z out)) (some (vocD "vocabulary" z out)) s9 s10 s11 s12 s13) M
  | [], M, s12, s13, _, h => ⟨trivial, h M s12 s13 (Ext.refl M)⟩
  | t :: rs, M, s12, s13, ht, h => by
    obtain ⟨t1, t2⟩ := ht t (by simp)
    have tb := toks_bd t1 out
    have tl := toks_len z out t
    have hm := V.m
    have hz := V.l
    refine ⟨trivial, ?_⟩
    simp [w13B]
    refine p_totok V.ok t1 t2 fun M1 x1 => ?_
    have pv : ∀ M : Mem, Py M 0 ((toks z out t).length * 12 + 3) 1 (vI (toks z out t)) (pI (toks z out t)) := fun M => Py.vI (dp := 0) fun x hx => by have := tb x hx; omega
    refine py_repr (pv M1) (by omega) (by omega) (.inl ⟨_, rfl⟩) ?_
    refine p_ltokens V.ok t1 t2 fun M2 x2 => ?_
    refine py_repr (pv M2) (by omega) (by omega) (.inl ⟨_, rfl⟩) ?_
    refine (eqA_str (neg := true)).mpr ?_
    simp
    refine p_totext V.ok (by omega) tb fun M3 x3 => ?_
    rw [ttx_toks V t1]
    refine (eqA_str (neg := true)).mpr ?_
    simp
    exact tk_go V rs M3 _ _ (fun y hy => ht y (List.mem_cons_of_mem _ hy)) fun M' s12 s13 x4 => h M' s12 s13 (((x1.tr x2).tr x3).tr x4)
end
end Z03
set_option Elab.async false
set_option linter.all false
set_option maxRecDepth 100000
set_option maxHeartbeats 1000000
namespace Z03
open PySem PySem.Spec PyProof.Rows L2 GxR Gn Dl
section
variable {M M0 : Mem} {E : KE'} {D0 : EndsD} {i j f : Nat} {C : Nat → Addr}
theorem w11_ok {ts : List Str} {L R : Nat} {s0 s2 s3 s4 s6 s7 s8 s9 s12 s13 : Option D} (hl : ts.length ≤ 6) (h0 : M0.length ≤ L) (h1 : M0.length ≤ R) (hLR : L ≠ R) (hM0 : i < M0.length ∧ j < M0.length) (hF : Fr i j M0 M) (hD : Dk i j (f + 10) M) (hL : M[L]? = some (.lst ((ts ++ [Str.empty]).map D.str))) (hR : M[R]? = some (.lst []))
    (h : ∀ (rs : List Str) M' s4, rs.Perm (ts ++ [Str.empty]) → Fr i j M0 M' → Dk i j f M' → M'[R]? = some (.lst (rs.map D.str)) → D0.nx (wS s0 i s2 s3 s4 (some (.tup (ts.map D.str))) s6 s7 s8 s9 (some (.obj L)) (some (.obj R)) s12 s13) M') : w11 D0 E (wS s0 i s2 s3 s4 (some (.tup (ts.map D.str))) s6 s7 s8 s9 (some (.obj L)) (some (.obj R)) s12 s13) M := by
  rw [w11_eq]
  simp
  refine ⟨by omega, by omega, ?_⟩
  have hrl : (rngD 0 (ts.length + 1)).length = ts.length + 1 := by
    unfold rngD
    rw [List.length_map, List.length_range]
  refine sh_go (M0 := M0) (f := f) _ (ts ++ [Str.empty]) [] M s4 h0 h1 hLR (by omega) (by omega) (by omega) (by omega) hF (hD.le (by rw [hrl]; omega)) hL hR (by rw [hrl]; simp) (by simp; omega) fun rs M' s4 p1 p2 p3 p4 => h rs M' s4 (by simpa using p1) p2 p3 p4
theorem turn_ok {s0 s2 s3 s4 s5 s6 s7 s8 s9 s10 s11 s12 s13 : Option D} (hD : Dk i j (f + 400) M) (h : ∀ M' s3 s4 s5 s6 s7 s8 s9 s10 s11 s12 s13, Fr i j M M' → Dk i j f M' → D0.nx (wS s0 i s2 s3 s4 s5 s6 s7 s8 s9 s10 s11 s12 s13) M') : wT C D0 E (wS s0 i s2 s3 s4 s5 s6 s7 s8 s9 s10 s11 s12 s13) M := by
  have hlt := hD.lt
  simp only [wT, dSeq]
  refine w0_ok (f := f + 300) (hD.le (by omega)) fun z0 M1 hz0 D1 F1 => ?_
  refine w1_ok (f := f + 90) hz0 (D1.le (by omega)) fun ts0 M2 s4 ht0 hl0 D2 F2 => ?_
  refine w2_ok (f := f + 80) hz0 ht0 hl0 (D2.le (by omega)) fun ts M3 H hl D3 F3 => ?_
  refine w3_ok (f := f + 70) (D3.le (by omega)) fun n M4 hn D4 F4 => ?_
  refine w4_ok H hn fun z out M5 hz ht x5 => ?_
  have V := tr_vc H hz ht
  refine w5_ok H hn hz ht fun M6 x6 => ?_
  refine w6_ok H hn hz ht fun M7 x7 => ?_
  refine w7_ok V fun M8 x8 => ?_
  have x58 : Ext M4 M8 := ((x5.tr x6).tr x7).tr x8
  refine w8_ok (f := f + 60) hn ((D4.ld x58.ld).le (by omega)) fun r M9 hr D9 F9 => ?_
  refine w9_ok H hz ht hr fun M10 x10 => ?_
  refine w10_ok hl fun M11 L R x11 a1 a2 a3 a4 a5 => ?_
  have F10 : Fr i j M M10 := ((((F1.tr F2).tr F3).tr F4).tr x58.ld.fr).tr (F9.tr x10.ld.fr)
  have D10 : Dk i j (f + 60) M10 := D9.ld x10.ld
  have lt10 := D10.lt
  refine w11_ok (M0 := M10) (f := f + 50) hl a1 a2 a3 lt10 x11.ld.fr ((D10.ld x11.ld).le (by omega)) a4 a5 fun rs M12 s4 p1 F12 D12 p4 => ?_
  refine w12_ok H hl hn hz ht p1 p4 fun M13 x13 => ?_
  rw [w13_eq]
  simp only [dFor, dWalk, dVar]
  refine ⟨_, rfl, ?_⟩
  refine tk_go V ts M13 _ _ (fun t h => ⟨hz.of h, (H.lo t h).2⟩) fun M14 s12 s13 x14 => ?_
  exact h M14 _ _ _ _ _ _ _ _ _ _ _ ((F10.tr F12).tr (x13.tr x14).ld.fr) ((D12.ld (x13.tr x14).ld).le (by omega))
end
theorem law_true (cs : Nat → Addr) (ns : List Int) (hl : ns.length ≤ 63) : sp_law cs [.scr ns] [] (fun d _ => d = .bl true) E00 := by
  simp only [sp_law]
  rw [law_eq]
  simp
  refine p__law_deck hl (by decide) (by decide) fun i j M1 D1 => ?_
  have er : rngD 0 2 = [.int 0, .int 1] := rfl
  rw [er]
  refine ⟨trivial, ?_⟩
  refine turn_ok (s0 := some (.scr ns)) (f := 900000) (D1.le (by decide)) fun M2 s3 s4 s5 s6 s7 s8 s9 s10 s11 s12 s13 F2 D2 => ?_
  refine ⟨trivial, ?_⟩
  refine turn_ok (s0 := some (.scr ns)) (f := 100) (D2.le (by decide)) fun M3 s3 s4 s5 s6 s7 s8 s9 s10 s11 s12 s13 F3 D3 => ?_
  exact ⟨trivial, rfl⟩
end Z03
set_option Elab.async false
set_option linter.all false
set_option maxRecDepth 100000
set_option maxHeartbeats 4000000
namespace Z03
open PySem PySem.Spec PyProof.Rows L2 GxR Gn Dl
def tabNames : List Str := ["are_tokens", "are_small_letters", "_need_text", "_is_merge", "_are_texts"]
theorem all_mk (hl : ∀ (cs : Nat → Addr) (ns : List Int), ns.length ≤ 63 → sp_law cs [.scr ns] [] (fun d _ => d = .bl true) E00) {l : PySem.W.OpenLaw} {w : World} {K : PySem.W.Frag} {h : Heap} {mg : Str → Option Value} {fa f8 f9 f10 f11 f12 f13 f14 f18 f19 f20 f21 f22 f23 f24 f25 f26 f27 f28 f29 f30 f31 f32 f33 f34 f35 f37 f38 f39 f40 f41 f42 f43 f44 f45 f2_0 f3_0 f4_0 f5_0 f6_0 C2 C3 C4 C5 C6 : Addr} (X : K.In h) (G : h.Ns mainGlobals mg) (hfa : mg "law" = some (.ref fa)) (own : ∀ x ∈ tabNames, ∀ f, mg x = some (.ref f) → LamX.OwnTab K f h)
    {od8 an8 od9 an9 od10 an10 od11 an11 od12 an12 od13 an13 od14 an14 od18 an18 od19 an19 od20 an20 od21 an21 od22 an22 od23 an23 od24 an24 od25 an25 od26 an26 od27 an27 od28 an28 od29 an29 od30 an30 od31 an31 od32 an32 od33 an33 od34 an34 od35 an35 od37 an37 od38 an38 od39 an39 od40 an40 od41 an41 od42 an42 od43 an43 od44 an44 od45 an45 od2_0 an2_0 od3_0 an3_0 od4_0 an4_0 od5_0 an5_0 od6_0 an6_0 : Option Addr} {sl8 sl9 sl10 sl11 sl12 sl13 sl14 sl18 sl19 sl20 sl21 sl22 sl23 sl24 sl25 sl26 sl27 sl28 sl29 sl30 sl31 sl32 sl33 sl34 sl35 sl37 sl38 sl39 sl40 sl41 sl42 sl43 sl44 sl45 sl2_0 sl3_0 sl4_0 sl5_0 sl6_0 : Array (Option Value)} {oc8 kV8 dc8 pm8 cd8 ct8 oc9 kV9 dc9 pm9 cd9 ct9 oc10 kV10 dc10 pm10 cd10 ct10 oc11 kV11 dc11 pm11 cd11 ct11 oc12 kV12 dc12 pm12 ct12 oc13 kV13 dc13 pm13 ct13 oc14 kV14 dc14 pm14 cd14 ct14 oc18 kV18 dc18 pm18 cd18 ct18 oc19 kV19 dc19 pm19 cd19 ct19 oc20 kV20 dc20 pm20 cd20 ct20 oc21 kV21 dc21 pm21 cd21 ct21 oc22 kV22 dc22 pm22 cd22 ct22 oc23 kV23 dc23 pm23 cd23 ct23 oc24 kV24 dc24 pm24 cd24 ct24 oc25 kV25 dc25 pm25 cd25 ct25 oc26 kV26 dc26 pm26 cd26 ct26 oc27 kV27 dc27 pm27 ct27 oc28 kV28 dc28 pm28 cd28 ct28 oc29 kV29 dc29 pm29 cd29 ct29 oc30 kV30 dc30 pm30 ct30 oc31 kV31 dc31 pm31 ct31 oc32 kV32 dc32 pm32 cd32 ct32 oc33 kV33 dc33 pm33 cd33 ct33 oc34 kV34 dc34 pm34 cd34 ct34 oc35 kV35 dc35 pm35 cd35 ct35 oc37 kV37 dc37 pm37 cd37 ct37 oc38 kV38 dc38 pm38 cd38 ct38 oc39 kV39 dc39 pm39 cd39 ct39 oc40 kV40 dc40 pm40 cd40 ct40 oc41 kV41 dc41 pm41 cd41 ct41 oc42 kV42 dc42 pm42 cd42 ct42 oc43 kV43 dc43 pm43 cd43 ct43 oc44 kV44 dc44 pm44 cd44 ct44 oc45 kV45 dc45 pm45 cd45 ct45 oc2_0 kV2_0 dc2_0 pm2_0 cd2_0 ct2_0 oc3_0 kV3_0 dc3_0 pm3_0 cd3_0 ct3_0 oc4_0 kV4_0 dc4_0 pm4_0 cd4_0 ct4_0 oc5_0 kV5_0 dc5_0 pm5_0 cd5_0 ct5_0 oc6_0 kV6_0 dc6_0 pm6_0 cd6_0 ct6_0 : Value}
    {c12 P12 c13 P13 c27 P27 c30 P30 c31 P31 : Addr} {e12 e13 e27 e30 e31 : Value} {dd12 dd13 dd27 dd30 dd31 : Option Addr} {us12 us13 us27 us30 us31 : Array Value} {sc12 sc13 sc27 sc30 sc31 : Array (Option Value)}
    {tg0 tg1 : Tok}
    (g8 : PySem.W.nsIn K mainGlobals "is_integer" = some (some (.ref f8))) (l8 : K.lookup f8 = some ⟨oc8, od8, .func (PySem.W.fnOf "is_integer" "is_integer" (defArgs (top 8)) (defBody (top 8)) (defScope (top 8)) .none kV8 dc8 pm8 an8 cd8 ct8), sl8⟩) (q8 : PySem.W.codeIn K cd8 "is_integer" = true) (k8 : PySem.W.keepIn K (.ref f8) = true)
    (g9 : PySem.W.nsIn K mainGlobals "is_integer_from" = some (some (.ref f9))) (l9 : K.lookup f9 = some ⟨oc9, od9, .func (PySem.W.fnOf "is_integer_from" "is_integer_from" (defArgs (top 9)) (defBody (top 9)) (defScope (top 9)) .none kV9 dc9 pm9 an9 cd9 ct9), sl9⟩) (q9 : PySem.W.codeIn K cd9 "is_integer_from" = true) (k9 : PySem.W.keepIn K (.ref f9) = true)
    (g10 : PySem.W.nsIn K mainGlobals "is_number_below" = some (some (.ref f10))) (l10 : K.lookup f10 = some ⟨oc10, od10, .func (PySem.W.fnOf "is_number_below" "is_number_below" (defArgs (top 10)) (defBody (top 10)) (defScope (top 10)) .none kV10 dc10 pm10 an10 cd10 ct10), sl10⟩) (q10 : PySem.W.codeIn K cd10 "is_number_below" = true) (k10 : PySem.W.keepIn K (.ref f10) = true)
    (g11 : PySem.W.nsIn K mainGlobals "is_token" = some (some (.ref f11))) (l11 : K.lookup f11 = some ⟨oc11, od11, .func (PySem.W.fnOf "is_token" "is_token" (defArgs (top 11)) (defBody (top 11)) (defScope (top 11)) .none kV11 dc11 pm11 an11 cd11 ct11), sl11⟩) (q11 : PySem.W.codeIn K cd11 "is_token" = true) (k11 : PySem.W.keepIn K (.ref f11) = true)
    (g12 : PySem.W.nsIn K mainGlobals "are_tokens" = some (some (.ref f12))) (l12 : K.lookup f12 = some ⟨oc12, od12, .func (PySem.W.fnOf "are_tokens" "are_tokens" (defArgs (top 12)) (defBody (top 12)) (defScope (top 12)) .none kV12 dc12 pm12 an12 (.ref c12) ct12), sl12⟩) (q12 : PySem.W.codeIn K (.ref c12) "are_tokens" = true) (k12 : PySem.W.keepIn K (.ref f12) = true)
    (g13 : PySem.W.nsIn K mainGlobals "are_small_letters" = some (some (.ref f13))) (l13 : K.lookup f13 = some ⟨oc13, od13, .func (PySem.W.fnOf "are_small_letters" "are_small_letters" (defArgs (top 13)) (defBody (top 13)) (defScope (top 13)) .none kV13 dc13 pm13 an13 (.ref c13) ct13), sl13⟩) (q13 : PySem.W.codeIn K (.ref c13) "are_small_letters" = true) (k13 : PySem.W.keepIn K (.ref f13) = true)
    (g14 : PySem.W.nsIn K mainGlobals "is_tuple_of" = some (some (.ref f14))) (l14 : K.lookup f14 = some ⟨oc14, od14, .func (PySem.W.fnOf "is_tuple_of" "is_tuple_of" (defArgs (top 14)) (defBody (top 14)) (defScope (top 14)) .none kV14 dc14 pm14 an14 cd14 ct14), sl14⟩) (q14 : PySem.W.codeIn K cd14 "is_tuple_of" = true) (k14 : PySem.W.keepIn K (.ref f14) = true)
    (g18 : PySem.W.nsIn K mainGlobals "is_vocabulary" = some (some (.ref f18))) (l18 : K.lookup f18 = some ⟨oc18, od18, .func (PySem.W.fnOf "is_vocabulary" "is_vocabulary" (defArgs (top 18)) (defBody (top 18)) (defScope (top 18)) .none kV18 dc18 pm18 an18 cd18 ct18), sl18⟩) (q18 : PySem.W.codeIn K cd18 "is_vocabulary" = true) (k18 : PySem.W.keepIn K (.ref f18) = true)
    (g19 : PySem.W.nsIn K mainGlobals "size" = some (some (.ref f19))) (l19 : K.lookup f19 = some ⟨oc19, od19, .func (PySem.W.fnOf "size" "size" (defArgs (top 19)) (defBody (top 19)) (defScope (top 19)) .none kV19 dc19 pm19 an19 cd19 ct19), sl19⟩) (q19 : PySem.W.codeIn K cd19 "size" = true) (k19 : PySem.W.keepIn K (.ref f19) = true)
    (g20 : PySem.W.nsIn K mainGlobals "to_tokens" = some (some (.ref f20))) (l20 : K.lookup f20 = some ⟨oc20, od20, .func (PySem.W.fnOf "to_tokens" "to_tokens" (defArgs (top 20)) (defBody (top 20)) (defScope (top 20)) .none kV20 dc20 pm20 an20 cd20 ct20), sl20⟩) (q20 : PySem.W.codeIn K cd20 "to_tokens" = true) (k20 : PySem.W.keepIn K (.ref f20) = true)
    (g21 : PySem.W.nsIn K mainGlobals "to_text" = some (some (.ref f21))) (l21 : K.lookup f21 = some ⟨oc21, od21, .func (PySem.W.fnOf "to_text" "to_text" (defArgs (top 21)) (defBody (top 21)) (defScope (top 21)) .none kV21 dc21 pm21 an21 cd21 ct21), sl21⟩) (q21 : PySem.W.codeIn K cd21 "to_text" = true) (k21 : PySem.W.keepIn K (.ref f21) = true)
    (g22 : PySem.W.nsIn K mainGlobals "trained" = some (some (.ref f22))) (l22 : K.lookup f22 = some ⟨oc22, od22, .func (PySem.W.fnOf "trained" "trained" (defArgs (top 22)) (defBody (top 22)) (defScope (top 22)) .none kV22 dc22 pm22 an22 cd22 ct22), sl22⟩) (q22 : PySem.W.codeIn K cd22 "trained" = true) (k22 : PySem.W.keepIn K (.ref f22) = true)
    (g23 : PySem.W.nsIn K mainGlobals "pieces_of" = some (some (.ref f23))) (l23 : K.lookup f23 = some ⟨oc23, od23, .func (PySem.W.fnOf "pieces_of" "pieces_of" (defArgs (top 23)) (defBody (top 23)) (defScope (top 23)) .none kV23 dc23 pm23 an23 cd23 ct23), sl23⟩) (q23 : PySem.W.codeIn K cd23 "pieces_of" = true) (k23 : PySem.W.keepIn K (.ref f23) = true)
    (g24 : PySem.W.nsIn K mainGlobals "tokens_of" = some (some (.ref f24))) (l24 : K.lookup f24 = some ⟨oc24, od24, .func (PySem.W.fnOf "tokens_of" "tokens_of" (defArgs (top 24)) (defBody (top 24)) (defScope (top 24)) .none kV24 dc24 pm24 an24 cd24 ct24), sl24⟩) (q24 : PySem.W.codeIn K cd24 "tokens_of" = true) (k24 : PySem.W.keepIn K (.ref f24) = true)
    (g25 : PySem.W.nsIn K mainGlobals "next_merge" = some (some (.ref f25))) (l25 : K.lookup f25 = some ⟨oc25, od25, .func (PySem.W.fnOf "next_merge" "next_merge" (defArgs (top 25)) (defBody (top 25)) (defScope (top 25)) .none kV25 dc25 pm25 an25 cd25 ct25), sl25⟩) (q25 : PySem.W.codeIn K cd25 "next_merge" = true) (k25 : PySem.W.keepIn K (.ref f25) = true)
    (g26 : PySem.W.nsIn K mainGlobals "_need_vocabulary" = some (some (.ref f26))) (l26 : K.lookup f26 = some ⟨oc26, od26, .func (PySem.W.fnOf "_need_vocabulary" "_need_vocabulary" (defArgs (top 26)) (defBody (top 26)) (defScope (top 26)) .none kV26 dc26 pm26 an26 cd26 ct26), sl26⟩) (q26 : PySem.W.codeIn K cd26 "_need_vocabulary" = true) (k26 : PySem.W.keepIn K (.ref f26) = true)
    (g27 : PySem.W.nsIn K mainGlobals "_need_text" = some (some (.ref f27))) (l27 : K.lookup f27 = some ⟨oc27, od27, .func (PySem.W.fnOf "_need_text" "_need_text" (defArgs (top 27)) (defBody (top 27)) (defScope (top 27)) .none kV27 dc27 pm27 an27 (.ref c27) ct27), sl27⟩) (q27 : PySem.W.codeIn K (.ref c27) "_need_text" = true) (k27 : PySem.W.keepIn K (.ref f27) = true)
    (g28 : PySem.W.nsIn K mainGlobals "_are_letters" = some (some (.ref f28))) (l28 : K.lookup f28 = some ⟨oc28, od28, .func (PySem.W.fnOf "_are_letters" "_are_letters" (defArgs (top 28)) (defBody (top 28)) (defScope (top 28)) .none kV28 dc28 pm28 an28 cd28 ct28), sl28⟩) (q28 : PySem.W.codeIn K cd28 "_are_letters" = true) (k28 : PySem.W.keepIn K (.ref f28) = true)
    (g29 : PySem.W.nsIn K mainGlobals "_are_merges" = some (some (.ref f29))) (l29 : K.lookup f29 = some ⟨oc29, od29, .func (PySem.W.fnOf "_are_merges" "_are_merges" (defArgs (top 29)) (defBody (top 29)) (defScope (top 29)) .none kV29 dc29 pm29 an29 cd29 ct29), sl29⟩) (q29 : PySem.W.codeIn K cd29 "_are_merges" = true) (k29 : PySem.W.keepIn K (.ref f29) = true)
    (g30 : PySem.W.nsIn K mainGlobals "_is_merge" = some (some (.ref f30))) (l30 : K.lookup f30 = some ⟨oc30, od30, .func (PySem.W.fnOf "_is_merge" "_is_merge" (defArgs (top 30)) (defBody (top 30)) (defScope (top 30)) .none kV30 dc30 pm30 an30 (.ref c30) ct30), sl30⟩) (q30 : PySem.W.codeIn K (.ref c30) "_is_merge" = true) (k30 : PySem.W.keepIn K (.ref f30) = true)
    (g31 : PySem.W.nsIn K mainGlobals "_are_texts" = some (some (.ref f31))) (l31 : K.lookup f31 = some ⟨oc31, od31, .func (PySem.W.fnOf "_are_texts" "_are_texts" (defArgs (top 31)) (defBody (top 31)) (defScope (top 31)) .none kV31 dc31 pm31 an31 (.ref c31) ct31), sl31⟩) (q31 : PySem.W.codeIn K (.ref c31) "_are_texts" = true) (k31 : PySem.W.keepIn K (.ref f31) = true)
    (g32 : PySem.W.nsIn K mainGlobals "_size_of" = some (some (.ref f32))) (l32 : K.lookup f32 = some ⟨oc32, od32, .func (PySem.W.fnOf "_size_of" "_size_of" (defArgs (top 32)) (defBody (top 32)) (defScope (top 32)) .none kV32 dc32 pm32 an32 cd32 ct32), sl32⟩) (q32 : PySem.W.codeIn K cd32 "_size_of" = true) (k32 : PySem.W.keepIn K (.ref f32) = true)
    (g33 : PySem.W.nsIn K mainGlobals "_pieces" = some (some (.ref f33))) (l33 : K.lookup f33 = some ⟨oc33, od33, .func (PySem.W.fnOf "_pieces" "_pieces" (defArgs (top 33)) (defBody (top 33)) (defScope (top 33)) .none kV33 dc33 pm33 an33 cd33 ct33), sl33⟩) (q33 : PySem.W.codeIn K cd33 "_pieces" = true) (k33 : PySem.W.keepIn K (.ref f33) = true)
    (g34 : PySem.W.nsIn K mainGlobals "_letter_tokens" = some (some (.ref f34))) (l34 : K.lookup f34 = some ⟨oc34, od34, .func (PySem.W.fnOf "_letter_tokens" "_letter_tokens" (defArgs (top 34)) (defBody (top 34)) (defScope (top 34)) .none kV34 dc34 pm34 an34 cd34 ct34), sl34⟩) (q34 : PySem.W.codeIn K cd34 "_letter_tokens" = true) (k34 : PySem.W.keepIn K (.ref f34) = true)
    (g35 : PySem.W.nsIn K mainGlobals "_merged" = some (some (.ref f35))) (l35 : K.lookup f35 = some ⟨oc35, od35, .func (PySem.W.fnOf "_merged" "_merged" (defArgs (top 35)) (defBody (top 35)) (defScope (top 35)) .none kV35 dc35 pm35 an35 cd35 ct35), sl35⟩) (q35 : PySem.W.codeIn K cd35 "_merged" = true) (k35 : PySem.W.keepIn K (.ref f35) = true)
    (g37 : PySem.W.nsIn K mainGlobals "_law_deck" = some (some (.ref f37))) (l37 : K.lookup f37 = some ⟨oc37, od37, .func (PySem.W.fnOf "_law_deck" "_law_deck" (defArgs (top 37)) (defBody (top 37)) (defScope (top 37)) .none kV37 dc37 pm37 an37 cd37 ct37), sl37⟩) (q37 : PySem.W.codeIn K cd37 "_law_deck" = true) (k37 : PySem.W.keepIn K (.ref f37) = true)
    (g38 : PySem.W.nsIn K mainGlobals "_law_draw" = some (some (.ref f38))) (l38 : K.lookup f38 = some ⟨oc38, od38, .func (PySem.W.fnOf "_law_draw" "_law_draw" (defArgs (top 38)) (defBody (top 38)) (defScope (top 38)) .none kV38 dc38 pm38 an38 cd38 ct38), sl38⟩) (q38 : PySem.W.codeIn K cd38 "_law_draw" = true) (k38 : PySem.W.keepIn K (.ref f38) = true)
    (g39 : PySem.W.nsIn K mainGlobals "_law_pick" = some (some (.ref f39))) (l39 : K.lookup f39 = some ⟨oc39, od39, .func (PySem.W.fnOf "_law_pick" "_law_pick" (defArgs (top 39)) (defBody (top 39)) (defScope (top 39)) .none kV39 dc39 pm39 an39 cd39 ct39), sl39⟩) (q39 : PySem.W.codeIn K cd39 "_law_pick" = true) (k39 : PySem.W.keepIn K (.ref f39) = true)
    (g40 : PySem.W.nsIn K mainGlobals "_law_letters" = some (some (.ref f40))) (l40 : K.lookup f40 = some ⟨oc40, od40, .func (PySem.W.fnOf "_law_letters" "_law_letters" (defArgs (top 40)) (defBody (top 40)) (defScope (top 40)) .none kV40 dc40 pm40 an40 cd40 ct40), sl40⟩) (q40 : PySem.W.codeIn K cd40 "_law_letters" = true) (k40 : PySem.W.keepIn K (.ref f40) = true)
    (g41 : PySem.W.nsIn K mainGlobals "_law_drawn_text" = some (some (.ref f41))) (l41 : K.lookup f41 = some ⟨oc41, od41, .func (PySem.W.fnOf "_law_drawn_text" "_law_drawn_text" (defArgs (top 41)) (defBody (top 41)) (defScope (top 41)) .none kV41 dc41 pm41 an41 cd41 ct41), sl41⟩) (q41 : PySem.W.codeIn K cd41 "_law_drawn_text" = true) (k41 : PySem.W.keepIn K (.ref f41) = true)
    (g42 : PySem.W.nsIn K mainGlobals "_law_merged" = some (some (.ref f42))) (l42 : K.lookup f42 = some ⟨oc42, od42, .func (PySem.W.fnOf "_law_merged" "_law_merged" (defArgs (top 42)) (defBody (top 42)) (defScope (top 42)) .none kV42 dc42 pm42 an42 cd42 ct42), sl42⟩) (q42 : PySem.W.codeIn K cd42 "_law_merged" = true) (k42 : PySem.W.keepIn K (.ref f42) = true)
    (g43 : PySem.W.nsIn K mainGlobals "_law_tokens" = some (some (.ref f43))) (l43 : K.lookup f43 = some ⟨oc43, od43, .func (PySem.W.fnOf "_law_tokens" "_law_tokens" (defArgs (top 43)) (defBody (top 43)) (defScope (top 43)) .none kV43 dc43 pm43 an43 cd43 ct43), sl43⟩) (q43 : PySem.W.codeIn K cd43 "_law_tokens" = true) (k43 : PySem.W.keepIn K (.ref f43) = true)
    (g44 : PySem.W.nsIn K mainGlobals "_law_trained" = some (some (.ref f44))) (l44 : K.lookup f44 = some ⟨oc44, od44, .func (PySem.W.fnOf "_law_trained" "_law_trained" (defArgs (top 44)) (defBody (top 44)) (defScope (top 44)) .none kV44 dc44 pm44 an44 cd44 ct44), sl44⟩) (q44 : PySem.W.codeIn K cd44 "_law_trained" = true) (k44 : PySem.W.keepIn K (.ref f44) = true)
    (g45 : PySem.W.nsIn K mainGlobals "law" = some (some (.ref f45))) (l45 : K.lookup f45 = some ⟨oc45, od45, .func (PySem.W.fnOf "law" "law" (defArgs (top 45)) (defBody (top 45)) (defScope (top 45)) .none kV45 dc45 pm45 an45 cd45 ct45), sl45⟩) (q45 : PySem.W.codeIn K cd45 "law" = true) (k45 : PySem.W.keepIn K (.ref f45) = true)
    (lc12 : K.lookup c12 = some ⟨e12, dd12, .fields us12, sc12⟩) (v12 : us12[11]? = some (.ref P12)) (n12 : K.lookup P12 = none) (h12 : PySem.W.codeHdIn K c12 P12 = true)
    (lc13 : K.lookup c13 = some ⟨e13, dd13, .fields us13, sc13⟩) (v13 : us13[11]? = some (.ref P13)) (n13 : K.lookup P13 = none) (h13 : PySem.W.codeHdIn K c13 P13 = true)
    (lc27 : K.lookup c27 = some ⟨e27, dd27, .fields us27, sc27⟩) (v27 : us27[11]? = some (.ref P27)) (n27 : K.lookup P27 = none) (h27 : PySem.W.codeHdIn K c27 P27 = true)
    (lc30 : K.lookup c30 = some ⟨e30, dd30, .fields us30, sc30⟩) (v30 : us30[11]? = some (.ref P30)) (n30 : K.lookup P30 = none) (h30 : PySem.W.codeHdIn K c30 P30 = true)
    (lc31 : K.lookup c31 = some ⟨e31, dd31, .fields us31, sc31⟩) (v31 : us31[11]? = some (.ref P31)) (n31 : K.lookup P31 = none) (h31 : PySem.W.codeHdIn K c31 P31 = true)
    (l2_0 : K.lookup f2_0 = some ⟨oc2_0, od2_0, .func (PySem.W.fnOf "__init__" "BadVocabulary.__init__" (defArgs (inClass (top 2) 0)) (defBody (inClass (top 2) 0)) (defScope (inClass (top 2) 0)) .none kV2_0 dc2_0 pm2_0 an2_0 cd2_0 ct2_0), sl2_0⟩) (q2_0 : PySem.W.codeIn K cd2_0 "BadVocabulary.__init__" = true)
    (l3_0 : K.lookup f3_0 = some ⟨oc3_0, od3_0, .func (PySem.W.fnOf "__init__" "BadNumber.__init__" (defArgs (inClass (top 3) 0)) (defBody (inClass (top 3) 0)) (defScope (inClass (top 3) 0)) .none kV3_0 dc3_0 pm3_0 an3_0 cd3_0 ct3_0), sl3_0⟩) (q3_0 : PySem.W.codeIn K cd3_0 "BadNumber.__init__" = true)
    (l4_0 : K.lookup f4_0 = some ⟨oc4_0, od4_0, .func (PySem.W.fnOf "__init__" "BadTokens.__init__" (defArgs (inClass (top 4) 0)) (defBody (inClass (top 4) 0)) (defScope (inClass (top 4) 0)) .none kV4_0 dc4_0 pm4_0 an4_0 cd4_0 ct4_0), sl4_0⟩) (q4_0 : PySem.W.codeIn K cd4_0 "BadTokens.__init__" = true)
    (l5_0 : K.lookup f5_0 = some ⟨oc5_0, od5_0, .func (PySem.W.fnOf "__init__" "BadText.__init__" (defArgs (inClass (top 5) 0)) (defBody (inClass (top 5) 0)) (defScope (inClass (top 5) 0)) .none kV5_0 dc5_0 pm5_0 an5_0 cd5_0 ct5_0), sl5_0⟩) (q5_0 : PySem.W.codeIn K cd5_0 "BadText.__init__" = true)
    (l6_0 : K.lookup f6_0 = some ⟨oc6_0, od6_0, .func (PySem.W.fnOf "__init__" "BadTexts.__init__" (defArgs (inClass (top 6) 0)) (defBody (inClass (top 6) 0)) (defScope (inClass (top 6) 0)) .none kV6_0 dc6_0 pm6_0 an6_0 cd6_0 ct6_0), sl6_0⟩) (q6_0 : PySem.W.codeIn K cd6_0 "BadTexts.__init__" = true)
    (xn2 : PySem.W.nsIn K mainGlobals "BadVocabulary" = some (some (.ref C2)))
    (xn3 : PySem.W.nsIn K mainGlobals "BadNumber" = some (some (.ref C3)))
    (xn4 : PySem.W.nsIn K mainGlobals "BadTokens" = some (some (.ref C4)))
    (xn5 : PySem.W.nsIn K mainGlobals "BadText" = some (some (.ref C5)))
    (xn6 : PySem.W.nsIn K mainGlobals "BadTexts" = some (some (.ref C6)))
    (xe2 : TH.exOk K C2 f2_0 = true)
    (xe3 : TH.exOk K C3 f3_0 = true)
    (xe4 : TH.exOk K C4 f4_0 = true)
    (xe5 : TH.exOk K C5 f5_0 = true)
    (xe6 : TH.exOk K C6 f6_0 = true)
    (z_all : PySem.W.nsIn K mainGlobals "all" = some none)
    (z_bool : PySem.W.nsIn K mainGlobals "bool" = some none)
    (z_enumerate : PySem.W.nsIn K mainGlobals "enumerate" = some none)
    (z_int : PySem.W.nsIn K mainGlobals "int" = some none)
    (z_isinstance : PySem.W.nsIn K mainGlobals "isinstance" = some none)
    (z_len : PySem.W.nsIn K mainGlobals "len" = some none)
    (z_list : PySem.W.nsIn K mainGlobals "list" = some none)
    (z_max : PySem.W.nsIn K mainGlobals "max" = some none)
    (z_min : PySem.W.nsIn K mainGlobals "min" = some none)
    (z_range : PySem.W.nsIn K mainGlobals "range" = some none)
    (z_repr : PySem.W.nsIn K mainGlobals "repr" = some none)
    (z_set : PySem.W.nsIn K mainGlobals "set" = some none)
    (z_sorted : PySem.W.nsIn K mainGlobals "sorted" = some none)
    (z_str : PySem.W.nsIn K mainGlobals "str" = some none)
    (z_tuple : PySem.W.nsIn K mainGlobals "tuple" = some none)
    (z_zip : PySem.W.nsIn K mainGlobals "zip" = some none)
    (zg0 : PySem.W.nsIn K mainGlobals "MOST_LETTERS" = some (some (.int 6 tg0)))
    (zg1 : PySem.W.nsIn K mainGlobals "MOST_MERGES" = some (some (.int 10 tg1))) :
    ∃ Ts : Tbs, (∀ p ∈ Ts.all, h.get? p = some { cls := .none, data := .fields #[] } ∧ isCodeTable h p ∧ K.lookup p = none) ∧ RunD l.prog w K mg Ts fa := by
  have e := hfa.symm.trans (PySem.W.mg_of X G g45)
  cases e
  have F8 := fun_mk (K := K) (st := (top 8)) l8 q8 k8
  have F9 := fun_mk (K := K) (st := (top 9)) l9 q9 k9
  have F10 := fun_mk (K := K) (st := (top 10)) l10 q10 k10
  have F11 := fun_mk (K := K) (st := (top 11)) l11 q11 k11
  have F12 := fun_mk (K := K) (st := (top 12)) l12 q12 k12
  have F13 := fun_mk (K := K) (st := (top 13)) l13 q13 k13
  have F14 := fun_mk (K := K) (st := (top 14)) l14 q14 k14
  have F18 := fun_mk (K := K) (st := (top 18)) l18 q18 k18
  have F19 := fun_mk (K := K) (st := (top 19)) l19 q19 k19
  have F20 := fun_mk (K := K) (st := (top 20)) l20 q20 k20
  have F21 := fun_mk (K := K) (st := (top 21)) l21 q21 k21
  have F22 := fun_mk (K := K) (st := (top 22)) l22 q22 k22
  have F23 := fun_mk (K := K) (st := (top 23)) l23 q23 k23
  have F24 := fun_mk (K := K) (st := (top 24)) l24 q24 k24
  have F25 := fun_mk (K := K) (st := (top 25)) l25 q25 k25
  have F26 := fun_mk (K := K) (st := (top 26)) l26 q26 k26
  have F27 := fun_mk (K := K) (st := (top 27)) l27 q27 k27
  have F28 := fun_mk (K := K) (st := (top 28)) l28 q28 k28
  have F29 := fun_mk (K := K) (st := (top 29)) l29 q29 k29
  have F30 := fun_mk (K := K) (st := (top 30)) l30 q30 k30
  have F31 := fun_mk (K := K) (st := (top 31)) l31 q31 k31
  have F32 := fun_mk (K := K) (st := (top 32)) l32 q32 k32
  have F33 := fun_mk (K := K) (st := (top 33)) l33 q33 k33
  have F34 := fun_mk (K := K) (st := (top 34)) l34 q34 k34
  have F35 := fun_mk (K := K) (st := (top 35)) l35 q35 k35
  have F37 := fun_mk (K := K) (st := (top 37)) l37 q37 k37
  have F38 := fun_mk (K := K) (st := (top 38)) l38 q38 k38
  have F39 := fun_mk (K := K) (st := (top 39)) l39 q39 k39
  have F40 := fun_mk (K := K) (st := (top 40)) l40 q40 k40
  have F41 := fun_mk (K := K) (st := (top 41)) l41 q41 k41
  have F42 := fun_mk (K := K) (st := (top 42)) l42 q42 k42
  have F43 := fun_mk (K := K) (st := (top 43)) l43 q43 k43
  have F44 := fun_mk (K := K) (st := (top 44)) l44 q44 k44
  have F45 := fun_mk (K := K) (st := (top 45)) l45 q45 k45
  have T12 : h.get? P12 = some { cls := .none, data := .fields #[] } := own "are_tokens" (by unfold tabNames; simp) f12 (PySem.W.mg_of X G g12) c12 P12 _ _ _ _ _ _ l12 rfl rfl lc12 v12
  have T13 : h.get? P13 = some { cls := .none, data := .fields #[] } := own "are_small_letters" (by unfold tabNames; simp) f13 (PySem.W.mg_of X G g13) c13 P13 _ _ _ _ _ _ l13 rfl rfl lc13 v13
  have T27 : h.get? P27 = some { cls := .none, data := .fields #[] } := own "_need_text" (by unfold tabNames; simp) f27 (PySem.W.mg_of X G g27) c27 P27 _ _ _ _ _ _ l27 rfl rfl lc27 v27
  have T30 : h.get? P30 = some { cls := .none, data := .fields #[] } := own "_is_merge" (by unfold tabNames; simp) f30 (PySem.W.mg_of X G g30) c30 P30 _ _ _ _ _ _ l30 rfl rfl lc30 v30
  have T31 : h.get? P31 = some { cls := .none, data := .fields #[] } := own "_are_texts" (by unfold tabNames; simp) f31 (PySem.W.mg_of X G g31) c31 P31 _ _ _ _ _ _ l31 rfl rfl lc31 v31
  refine ⟨{ w := w, g := [P12, P13, P27, P30, P31] }, fun p hp => ?_, ?_⟩
  · simp only [Tbs.all, List.map_cons, List.map_nil, List.append_nil, List.cons_append, List.nil_append, List.mem_cons, List.not_mem_nil, or_false] at hp
    rcases hp with rfl | rfl | rfl | rfl | rfl
    · exact ⟨T12, ((PySem.W.codeHd_of_K X h12).tab T12).isCodeTable, n12⟩
    · exact ⟨T13, ((PySem.W.codeHd_of_K X h13).tab T13).isCodeTable, n13⟩
    · exact ⟨T27, ((PySem.W.codeHd_of_K X h27).tab T27).isCodeTable, n27⟩
    · exact ⟨T30, ((PySem.W.codeHd_of_K X h30).tab T30).isCodeTable, n30⟩
    · exact ⟨T31, ((PySem.W.codeHd_of_K X h31).tab T31).isCodeTable, n31⟩
  · intro base s H a ns kb nb bA e0 tk tl sq sh
    obtain ⟨W, eT, eA⟩ : ∃ W : Wd K mg base, W.Ts w = { w := w, g := [P12, P13, P27, P30, P31] } ∧ W.a45 = fa := ⟨{
      a8 := f8, d8 := _, D8 := ⟨F8, PySem.W.mg_of X G g8, F8.binds fun _ _ _ _ _ _ us hl => match us, hl with | [_], _ => rfl⟩,
      a9 := f9, d9 := _, D9 := ⟨F9, PySem.W.mg_of X G g9, F9.binds fun _ _ _ _ _ _ us hl => match us, hl with | [_, _], _ => rfl⟩,
      a10 := f10, d10 := _, D10 := ⟨F10, PySem.W.mg_of X G g10, F10.binds fun _ _ _ _ _ _ us hl => match us, hl with | [_, _], _ => rfl⟩,
      a11 := f11, d11 := _, D11 := ⟨F11, PySem.W.mg_of X G g11, F11.binds fun _ _ _ _ _ _ us hl => match us, hl with | [_, _], _ => rfl⟩,
      a12 := f12, d12 := _, D12 := ⟨F12, PySem.W.mg_of X G g12, F12.binds fun _ _ _ _ _ _ us hl => match us, hl with | [_, _], _ => rfl⟩,
      a13 := f13, d13 := _, D13 := ⟨F13, PySem.W.mg_of X G g13, F13.binds fun _ _ _ _ _ _ us hl => match us, hl with | [_], _ => rfl⟩,
      a14 := f14, d14 := _, D14 := ⟨F14, PySem.W.mg_of X G g14, F14.binds fun _ _ _ _ _ _ us hl => match us, hl with | [_, _], _ => rfl⟩,
      a18 := f18, d18 := _, D18 := ⟨F18, PySem.W.mg_of X G g18, F18.binds fun _ _ _ _ _ _ us hl => match us, hl with | [_], _ => rfl⟩,
      a19 := f19, d19 := _, D19 := ⟨F19, PySem.W.mg_of X G g19, F19.binds fun _ _ _ _ _ _ us hl => match us, hl with | [_], _ => rfl⟩,
      a20 := f20, d20 := _, D20 := ⟨F20, PySem.W.mg_of X G g20, F20.binds fun _ _ _ _ _ _ us hl => match us, hl with | [_, _], _ => rfl⟩,
      a21 := f21, d21 := _, D21 := ⟨F21, PySem.W.mg_of X G g21, F21.binds fun _ _ _ _ _ _ us hl => match us, hl with | [_, _], _ => rfl⟩,
      a22 := f22, d22 := _, D22 := ⟨F22, PySem.W.mg_of X G g22, F22.binds fun _ _ _ _ _ _ us hl => match us, hl with | [_, _], _ => rfl⟩,
      a23 := f23, d23 := _, D23 := ⟨F23, PySem.W.mg_of X G g23, F23.binds fun _ _ _ _ _ _ us hl => match us, hl with | [_], _ => rfl⟩,
      a24 := f24, d24 := _, D24 := ⟨F24, PySem.W.mg_of X G g24, F24.binds fun _ _ _ _ _ _ us hl => match us, hl with | [_, _], _ => rfl⟩,
      a25 := f25, d25 := _, D25 := ⟨F25, PySem.W.mg_of X G g25, F25.binds fun _ _ _ _ _ _ us hl => match us, hl with | [_, _], _ => rfl⟩,
      a26 := f26, d26 := _, D26 := ⟨F26, PySem.W.mg_of X G g26, F26.binds fun _ _ _ _ _ _ us hl => match us, hl with | [_], _ => rfl⟩,
      a27 := f27, d27 := _, D27 := ⟨F27, PySem.W.mg_of X G g27, F27.binds fun _ _ _ _ _ _ us hl => match us, hl with | [_, _], _ => rfl⟩,
      a28 := f28, d28 := _, D28 := ⟨F28, PySem.W.mg_of X G g28, F28.binds fun _ _ _ _ _ _ us hl => match us, hl with | [_], _ => rfl⟩,
      a29 := f29, d29 := _, D29 := ⟨F29, PySem.W.mg_of X G g29, F29.binds fun _ _ _ _ _ _ us hl => match us, hl with | [_, _], _ => rfl⟩,
      a30 := f30, d30 := _, D30 := ⟨F30, PySem.W.mg_of X G g30, F30.binds fun _ _ _ _ _ _ us hl => match us, hl with | [_, _], _ => rfl⟩,
      a31 := f31, d31 := _, D31 := ⟨F31, PySem.W.mg_of X G g31, F31.binds fun _ _ _ _ _ _ us hl => match us, hl with | [_], _ => rfl⟩,
      a32 := f32, d32 := _, D32 := ⟨F32, PySem.W.mg_of X G g32, F32.binds fun _ _ _ _ _ _ us hl => match us, hl with | [_], _ => rfl⟩,
      a33 := f33, d33 := _, D33 := ⟨F33, PySem.W.mg_of X G g33, F33.binds fun _ _ _ _ _ _ us hl => match us, hl with | [_, _], _ => rfl⟩,
      a34 := f34, d34 := _, D34 := ⟨F34, PySem.W.mg_of X G g34, F34.binds fun _ _ _ _ _ _ us hl => match us, hl with | [_, _], _ => rfl⟩,
      a35 := f35, d35 := _, D35 := ⟨F35, PySem.W.mg_of X G g35, F35.binds fun _ _ _ _ _ _ us hl => match us, hl with | [_, _, _], _ => rfl⟩,
      a37 := f37, d37 := _, D37 := ⟨F37, PySem.W.mg_of X G g37, F37.binds fun _ _ _ _ _ _ us hl => match us, hl with | [_, _], _ => rfl⟩,
      a38 := f38, d38 := _, D38 := ⟨F38, PySem.W.mg_of X G g38, F38.binds fun _ _ _ _ _ _ us hl => match us, hl with | [_, _], _ => rfl⟩,
      a39 := f39, d39 := _, D39 := ⟨F39, PySem.W.mg_of X G g39, F39.binds fun _ _ _ _ _ _ us hl => match us, hl with | [_, _], _ => rfl⟩,
      a40 := f40, d40 := _, D40 := ⟨F40, PySem.W.mg_of X G g40, F40.binds fun _ _ _ _ _ _ us hl => match us, hl with | [_, _], _ => rfl⟩,
      a41 := f41, d41 := _, D41 := ⟨F41, PySem.W.mg_of X G g41, F41.binds fun _ _ _ _ _ _ us hl => match us, hl with | [_, _, _], _ => rfl⟩,
      a42 := f42, d42 := _, D42 := ⟨F42, PySem.W.mg_of X G g42, F42.binds fun _ _ _ _ _ _ us hl => match us, hl with | [_, _, _], _ => rfl⟩,
      a43 := f43, d43 := _, D43 := ⟨F43, PySem.W.mg_of X G g43, F43.binds fun _ _ _ _ _ _ us hl => match us, hl with | [_, _], _ => rfl⟩,
      a44 := f44, d44 := _, D44 := ⟨F44, PySem.W.mg_of X G g44, F44.binds fun _ _ _ _ _ _ us hl => match us, hl with | [_, _], _ => rfl⟩,
      a45 := fa, d45 := _, D45 := ⟨F45, PySem.W.mg_of X G g45, F45.binds fun _ _ _ _ _ _ us hl => match us, hl with | [_], _ => rfl⟩,
      cs := fun | 2 => C2 | 3 => C3 | 4 => C4 | 5 => C5 | 6 => C6 | _ => C2,
      x2 := PySem.W.mg_of X G xn2,
      x3 := PySem.W.mg_of X G xn3,
      x4 := PySem.W.mg_of X G xn4,
      x5 := PySem.W.mg_of X G xn5,
      x6 := PySem.W.mg_of X G xn6,
      y2 := f2_0, e2 := have F := TH.exOk_of xe2; ⟨PySem.W.mg_of X G xn2, F.xi, F.xo, F.sa, F.ga, F.gg, F.no, F.iC, F.tI, F.kC, F.ex, F.tC, F.hd, ⟨_, _, _, _, _, _, _, _, _, _, _, _, _, _, _, _, l2_0, q2_0⟩⟩,
      y3 := f3_0, e3 := have F := TH.exOk_of xe3; ⟨PySem.W.mg_of X G xn3, F.xi, F.xo, F.sa, F.ga, F.gg, F.no, F.iC, F.tI, F.kC, F.ex, F.tC, F.hd, ⟨_, _, _, _, _, _, _, _, _, _, _, _, _, _, _, _, l3_0, q3_0⟩⟩,
      y4 := f4_0, e4 := have F := TH.exOk_of xe4; ⟨PySem.W.mg_of X G xn4, F.xi, F.xo, F.sa, F.ga, F.gg, F.no, F.iC, F.tI, F.kC, F.ex, F.tC, F.hd, ⟨_, _, _, _, _, _, _, _, _, _, _, _, _, _, _, _, l4_0, q4_0⟩⟩,
      y5 := f5_0, e5 := have F := TH.exOk_of xe5; ⟨PySem.W.mg_of X G xn5, F.xi, F.xo, F.sa, F.ga, F.gg, F.no, F.iC, F.tI, F.kC, F.ex, F.tC, F.hd, ⟨_, _, _, _, _, _, _, _, _, _, _, _, _, _, _, _, l5_0, q5_0⟩⟩,
      y6 := f6_0, e6 := have F := TH.exOk_of xe6; ⟨PySem.W.mg_of X G xn6, F.xi, F.xo, F.sa, F.ga, F.gg, F.no, F.iC, F.tI, F.kC, F.ex, F.tC, F.hd, ⟨_, _, _, _, _, _, _, _, _, _, _, _, _, _, _, _, l6_0, q6_0⟩⟩,
      eks := by
        intro j hj
        simp only [List.mem_cons, List.not_mem_nil, or_false] at hj
        rcases hj with rfl | rfl | rfl | rfl | rfl
        · exact have F := TH.exOk_of xe2; ⟨F.cl, F.ga, F.gg, F.ex, F.hd, F.ac, F.hn, F.ht, F.hm⟩
        · exact have F := TH.exOk_of xe3; ⟨F.cl, F.ga, F.gg, F.ex, F.hd, F.ac, F.hn, F.ht, F.hm⟩
        · exact have F := TH.exOk_of xe4; ⟨F.cl, F.ga, F.gg, F.ex, F.hd, F.ac, F.hn, F.ht, F.hm⟩
        · exact have F := TH.exOk_of xe5; ⟨F.cl, F.ga, F.gg, F.ex, F.hd, F.ac, F.hn, F.ht, F.hm⟩
        · exact have F := TH.exOk_of xe6; ⟨F.cl, F.ga, F.gg, F.ex, F.hd, F.ac, F.hn, F.ht, F.hm⟩,
      ens := by
        intro j hj
        simp only [List.mem_cons, List.not_mem_nil, or_false] at hj
        rcases hj with rfl | rfl | rfl | rfl | rfl
        · exact (TH.exOk_of xe2).no
        · exact (TH.exOk_of xe3).no
        · exact (TH.exOk_of xe4).no
        · exact (TH.exOk_of xe5).no
        · exact (TH.exOk_of xe6).no,
      c12 := c12, P12 := P12, T12 := ⟨rfl, ⟨PySem.W.codeHd_of_K kb h12, (bA P12 (by simp [Tbs.all])).1, (bA P12 (by simp [Tbs.all])).2⟩⟩,
      c13 := c13, P13 := P13, T13 := ⟨rfl, ⟨PySem.W.codeHd_of_K kb h13, (bA P13 (by simp [Tbs.all])).1, (bA P13 (by simp [Tbs.all])).2⟩⟩,
      c27 := c27, P27 := P27, T27 := ⟨rfl, ⟨PySem.W.codeHd_of_K kb h27, (bA P27 (by simp [Tbs.all])).1, (bA P27 (by simp [Tbs.all])).2⟩⟩,
      c30 := c30, P30 := P30, T30 := ⟨rfl, ⟨PySem.W.codeHd_of_K kb h30, (bA P30 (by simp [Tbs.all])).1, (bA P30 (by simp [Tbs.all])).2⟩⟩,
      c31 := c31, P31 := P31, T31 := ⟨rfl, ⟨PySem.W.codeHd_of_K kb h31, (bA P31 (by simp [Tbs.all])).1, (bA P31 (by simp [Tbs.all])).2⟩⟩,
      m_all := PySem.W.mg_none_of X G z_all,
      m_bool := PySem.W.mg_none_of X G z_bool,
      m_enumerate := PySem.W.mg_none_of X G z_enumerate,
      m_int := PySem.W.mg_none_of X G z_int,
      m_isinstance := PySem.W.mg_none_of X G z_isinstance,
      m_len := PySem.W.mg_none_of X G z_len,
      m_list := PySem.W.mg_none_of X G z_list,
      m_max := PySem.W.mg_none_of X G z_max,
      m_min := PySem.W.mg_none_of X G z_min,
      m_range := PySem.W.mg_none_of X G z_range,
      m_repr := PySem.W.mg_none_of X G z_repr,
      m_set := PySem.W.mg_none_of X G z_set,
      m_sorted := PySem.W.mg_none_of X G z_sorted,
      m_str := PySem.W.mg_none_of X G z_str,
      m_tuple := PySem.W.mg_none_of X G z_tuple,
      m_zip := PySem.W.mg_none_of X G z_zip,
      g_MOST_LETTERS := ⟨tg0, PySem.W.mg_of X G zg0⟩,
      g_MOST_MERGES := ⟨tg1, PySem.W.mg_of X G zg1⟩ }, rfl, rfl⟩
    subst eA
    exact run_top (ok_law W) ⟨rfl, by decide, by decide⟩ W.D45.b e0 kb (by rw [eT]; exact tk) (by rw [eT]; exact tl) sq (hl _ ns sh)
end Z03
set_option Elab.async false
set_option linter.all false
set_option maxRecDepth 100000
set_option maxHeartbeats 4000000
namespace Dl
open PySem PySem.Spec PyProof.Rows L2 GxR Gn
/-- walk_at, the part of the heap told behind the top -/
theorem walk_atE {l : PySem.W.OpenLaw} {q : Program} {loose : List Str} {XP : (Str → Option Value) → Heap → Prop} {YP : World → Heap → Prop} {d : DefRec} {Fc : PySem.W.Frag → Prop} (names : List Str) (most : l.most = some 63) (plain : d.params.defaults = [])
    (recs : (names.all fun x => (recsOf q).any fun e => e.name == x) = true) (inK : ∀ (w : World) (h : Heap), YP w h → ∃ K : PySem.W.Frag, K.In h ∧ Fc K)
    (F : ∀ (w : World) (mg : Str → Option Value) (fa : Addr) (h : Heap) (K : PySem.W.Frag), K.In h → Fc K → h.Ns mainGlobals mg → mg d.name = some (.ref fa) → (∀ x ∈ names, ∀ f, mg x = some (.ref f) → LamX.OwnTab K f h) →
      ∃ Ts : Tbs, (∀ p ∈ Ts.all, h.get? p = some { cls := .none, data := .fields #[] } ∧ isCodeTable h p ∧ K.lookup p = none) ∧ RunD l.prog w K mg Ts fa) :
    PySem.W.WalkO q loose XP YP l.row.toRowW d [] (fun f vs => PySem.call f vs) := by
  apply Att.attach_callB most plain
  intro w s0 s1 mg mb fa o pm cd doc a vs ns G Y _ _ _ atFa script numbers short _ gens
  obtain ⟨K, kin, fc⟩ := inK w _ Y
  have own : ∀ x ∈ names, ∀ f, mg x = some (.ref f) → LamX.OwnTab K f s1.heap := by
    intro x hx f hf c p o1 fd e dd us sl k1 k2 k3 k4 k5
    obtain ⟨r, hr, same⟩ := List.any_eq_true.mp (List.all_eq_true.mp recs x hx)
    obtain ⟨f', o', fd', c', p', m1, m2, m3, m4, _, ⟨⟨oc, uc, y1, _, y3, y4⟩, tab⟩⟩ := G.T.tab r hr
    rw [beq_iff_eq.mp same, hf] at m1
    cases m1
    rw [kin _ _ k1] at m2
    cases m2
    rw [k2] at m3
    cases m3
    rw [k3] at m4
    cases m4
    rw [kin _ _ k4] at y1
    cases y1
    cases y3
    rw [k5] at y4
    cases y4
    exact tab
  obtain ⟨Ts, hT, R⟩ := F w mg fa _ K kin fc G.T.g atFa own
  exact end_at kin G.T.g G.T.b G.T.builtins G.T.nolimit gens (fun p m => (hT p m).1) (fun p m => (hT p m).2.2) (fun p m => (hT p m).2.1) G.T.bmain script numbers short R
end Dl
set_option Elab.async false
set_option maxRecDepth 100000
open PySem PySem.W PyProof.Rows
set_option maxRecDepth 100000 in
set_option maxHeartbeats 0 in
theorem PySem.Challenge.cw_draftward_k03_whole_training_by_own_coun_holds : PySem.Challenge.rw_draftward_k03_whole_training_by_own_coun.Holds := by
  w_on; o_law
  refine TH.head (D := Z03.hD) (keep := Z03.hKeep) (loose := Z03.hLoose) (d := HeadRun.topDef PySem.Challenge.pw_draftward_k03_whole_training_by_own_coun 45) PySem.W.Fast.te2970791787987477860 Z03.run0 Z03.runF (by assumption) ?hdef ?hp ?hk ?ok ⟨rfl, rfl, rfl, rfl, rfl, by decide +kernel⟩ ?hw ?hc
  case hdef => kernel_rfl
  case hp => kernel_rfl
  case hk => kernel_rfl
  case ok => decide +kernel
  case hw => w_witness2
  case hc =>
    refine Dl.walk_atE (l := PySem.Challenge.rw_draftward_k03_whole_training_by_own_coun) (Fc := fun K => TH.seenAll Z03.hD K = TH.goodAll Z03.hD PySem.Challenge.pw_draftward_k03_whole_training_by_own_coun) Z03.tabNames rfl (by kernel_rfl) (by decide +kernel) (fun w h Y => Y) ?F
    intro w mg fa h K KX e G hmg own
    have D8 := TH.def_at (st := (Z03.top 8)) e 0 rfl rfl
    obtain ⟨oc8, od8, kV8, dc8, pm8, an8, ct8, sl8, l8⟩ := D8.look
    have D9 := TH.def_at (st := (Z03.top 9)) e 1 rfl rfl
    obtain ⟨oc9, od9, kV9, dc9, pm9, an9, ct9, sl9, l9⟩ := D9.look
    have D10 := TH.def_at (st := (Z03.top 10)) e 2 rfl rfl
    obtain ⟨oc10, od10, kV10, dc10, pm10, an10, ct10, sl10, l10⟩ := D10.look
    have D11 := TH.def_at (st := (Z03.top 11)) e 3 rfl rfl
    obtain ⟨oc11, od11, kV11, dc11, pm11, an11, ct11, sl11, l11⟩ := D11.look
    have D12 := TH.def_at (st := (Z03.top 12)) e 4 rfl rfl
    obtain ⟨oc12, od12, kV12, dc12, pm12, an12, ct12, sl12, l12⟩ := D12.look
    have D13 := TH.def_at (st := (Z03.top 13)) e 5 rfl rfl
    obtain ⟨oc13, od13, kV13, dc13, pm13, an13, ct13, sl13, l13⟩ := D13.look
    have D14 := TH.def_at (st := (Z03.top 14)) e 6 rfl rfl
    obtain ⟨oc14, od14, kV14, dc14, pm14, an14, ct14, sl14, l14⟩ := D14.look
    have D18 := TH.def_at (st := (Z03.top 18)) e 7 rfl rfl
    obtain ⟨oc18, od18, kV18, dc18, pm18, an18, ct18, sl18, l18⟩ := D18.look
    have D19 := TH.def_at (st := (Z03.top 19)) e 8 rfl rfl
    obtain ⟨oc19, od19, kV19, dc19, pm19, an19, ct19, sl19, l19⟩ := D19.look
    have D20 := TH.def_at (st := (Z03.top 20)) e 9 rfl rfl
    obtain ⟨oc20, od20, kV20, dc20, pm20, an20, ct20, sl20, l20⟩ := D20.look
    have D21 := TH.def_at (st := (Z03.top 21)) e 10 rfl rfl
    obtain ⟨oc21, od21, kV21, dc21, pm21, an21, ct21, sl21, l21⟩ := D21.look
    have D22 := TH.def_at (st := (Z03.top 22)) e 11 rfl rfl
    obtain ⟨oc22, od22, kV22, dc22, pm22, an22, ct22, sl22, l22⟩ := D22.look
    have D23 := TH.def_at (st := (Z03.top 23)) e 12 rfl rfl
    obtain ⟨oc23, od23, kV23, dc23, pm23, an23, ct23, sl23, l23⟩ := D23.look
    have D24 := TH.def_at (st := (Z03.top 24)) e 13 rfl rfl
    obtain ⟨oc24, od24, kV24, dc24, pm24, an24, ct24, sl24, l24⟩ := D24.look
    have D25 := TH.def_at (st := (Z03.top 25)) e 14 rfl rfl
    obtain ⟨oc25, od25, kV25, dc25, pm25, an25, ct25, sl25, l25⟩ := D25.look
    have D26 := TH.def_at (st := (Z03.top 26)) e 15 rfl rfl
    obtain ⟨oc26, od26, kV26, dc26, pm26, an26, ct26, sl26, l26⟩ := D26.look
    have D27 := TH.def_at (st := (Z03.top 27)) e 16 rfl rfl
    obtain ⟨oc27, od27, kV27, dc27, pm27, an27, ct27, sl27, l27⟩ := D27.look
    have D28 := TH.def_at (st := (Z03.top 28)) e 17 rfl rfl
    obtain ⟨oc28, od28, kV28, dc28, pm28, an28, ct28, sl28, l28⟩ := D28.look
    have D29 := TH.def_at (st := (Z03.top 29)) e 18 rfl rfl
    obtain ⟨oc29, od29, kV29, dc29, pm29, an29, ct29, sl29, l29⟩ := D29.look
    have D30 := TH.def_at (st := (Z03.top 30)) e 19 rfl rfl
    obtain ⟨oc30, od30, kV30, dc30, pm30, an30, ct30, sl30, l30⟩ := D30.look
    have D31 := TH.def_at (st := (Z03.top 31)) e 20 rfl rfl
    obtain ⟨oc31, od31, kV31, dc31, pm31, an31, ct31, sl31, l31⟩ := D31.look
    have D32 := TH.def_at (st := (Z03.top 32)) e 21 rfl rfl
    obtain ⟨oc32, od32, kV32, dc32, pm32, an32, ct32, sl32, l32⟩ := D32.look
    have D33 := TH.def_at (st := (Z03.top 33)) e 22 rfl rfl
    obtain ⟨oc33, od33, kV33, dc33, pm33, an33, ct33, sl33, l33⟩ := D33.look
    have D34 := TH.def_at (st := (Z03.top 34)) e 23 rfl rfl
    obtain ⟨oc34, od34, kV34, dc34, pm34, an34, ct34, sl34, l34⟩ := D34.look
    have D35 := TH.def_at (st := (Z03.top 35)) e 24 rfl rfl
    obtain ⟨oc35, od35, kV35, dc35, pm35, an35, ct35, sl35, l35⟩ := D35.look
    have D37 := TH.def_at (st := (Z03.top 37)) e 25 rfl rfl
    obtain ⟨oc37, od37, kV37, dc37, pm37, an37, ct37, sl37, l37⟩ := D37.look
    have D38 := TH.def_at (st := (Z03.top 38)) e 26 rfl rfl
    obtain ⟨oc38, od38, kV38, dc38, pm38, an38, ct38, sl38, l38⟩ := D38.look
    have D39 := TH.def_at (st := (Z03.top 39)) e 27 rfl rfl
    obtain ⟨oc39, od39, kV39, dc39, pm39, an39, ct39, sl39, l39⟩ := D39.look
    have D40 := TH.def_at (st := (Z03.top 40)) e 28 rfl rfl
    obtain ⟨oc40, od40, kV40, dc40, pm40, an40, ct40, sl40, l40⟩ := D40.look
    have D41 := TH.def_at (st := (Z03.top 41)) e 29 rfl rfl
    obtain ⟨oc41, od41, kV41, dc41, pm41, an41, ct41, sl41, l41⟩ := D41.look
    have D42 := TH.def_at (st := (Z03.top 42)) e 30 rfl rfl
    obtain ⟨oc42, od42, kV42, dc42, pm42, an42, ct42, sl42, l42⟩ := D42.look
    have D43 := TH.def_at (st := (Z03.top 43)) e 31 rfl rfl
    obtain ⟨oc43, od43, kV43, dc43, pm43, an43, ct43, sl43, l43⟩ := D43.look
    have D44 := TH.def_at (st := (Z03.top 44)) e 32 rfl rfl
    obtain ⟨oc44, od44, kV44, dc44, pm44, an44, ct44, sl44, l44⟩ := D44.look
    have D45 := TH.def_at (st := (Z03.top 45)) e 33 rfl rfl
    obtain ⟨oc45, od45, kV45, dc45, pm45, an45, ct45, sl45, l45⟩ := D45.look
    obtain ⟨e12, dd12, us12, sc12, lc12, v12, n12, h12⟩ := TH.tab_at e 0 rfl
    obtain ⟨e13, dd13, us13, sc13, lc13, v13, n13, h13⟩ := TH.tab_at e 1 rfl
    obtain ⟨e27, dd27, us27, sc27, lc27, v27, n27, h27⟩ := TH.tab_at e 2 rfl
    obtain ⟨e30, dd30, us30, sc30, lc30, v30, n30, h30⟩ := TH.tab_at e 3 rfl
    obtain ⟨e31, dd31, us31, sc31, lc31, v31, n31, h31⟩ := TH.tab_at e 4 rfl
    have D2_0 := TH.def_at (st := (L2.inClass (Z03.top 2) 0)) e 34 rfl rfl
    obtain ⟨oc2_0, od2_0, kV2_0, dc2_0, pm2_0, an2_0, ct2_0, sl2_0, l2_0⟩ := D2_0.look
    have D3_0 := TH.def_at (st := (L2.inClass (Z03.top 3) 0)) e 35 rfl rfl
    obtain ⟨oc3_0, od3_0, kV3_0, dc3_0, pm3_0, an3_0, ct3_0, sl3_0, l3_0⟩ := D3_0.look
    have D4_0 := TH.def_at (st := (L2.inClass (Z03.top 4) 0)) e 36 rfl rfl
    obtain ⟨oc4_0, od4_0, kV4_0, dc4_0, pm4_0, an4_0, ct4_0, sl4_0, l4_0⟩ := D4_0.look
    have D5_0 := TH.def_at (st := (L2.inClass (Z03.top 5) 0)) e 37 rfl rfl
    obtain ⟨oc5_0, od5_0, kV5_0, dc5_0, pm5_0, an5_0, ct5_0, sl5_0, l5_0⟩ := D5_0.look
    have D6_0 := TH.def_at (st := (L2.inClass (Z03.top 6) 0)) e 38 rfl rfl
    obtain ⟨oc6_0, od6_0, kV6_0, dc6_0, pm6_0, an6_0, ct6_0, sl6_0, l6_0⟩ := D6_0.look
    exact Z03.all_mk Z03.law_true KX G hmg own (TH.ns_at e 0 rfl) l8 D8.code D8.keep (TH.ns_at e 1 rfl) l9 D9.code D9.keep (TH.ns_at e 2 rfl) l10 D10.code D10.keep (TH.ns_at e 3 rfl) l11 D11.code D11.keep (TH.ns_at e 4 rfl) l12 D12.code D12.keep (TH.ns_at e 5 rfl) l13 D13.code D13.keep (TH.ns_at e 6 rfl) l14 D14.code D14.keep (TH.ns_at e 7 rfl) l18 D18.code D18.keep (TH.ns_at e 8 rfl) l19 D19.code D19.keep (TH.ns_at e 9 rfl) l20 D20.code D20.keep (TH.ns_at e 10 rfl) l21 D21.code D21.keep (TH.ns_at e 11 rfl) l22 D22.code D22.keep (TH.ns_at e 12 rfl) l23 D23.code D23.keep (TH.ns_at e 13 rfl) l24 D24.code D24.keep (TH.ns_at e 14 rfl) l25 D25.code D25.keep (TH.ns_at e 15 rfl) l26 D26.code D26.keep (TH.ns_at e 16 rfl) l27 D27.code D27.keep (TH.ns_at e 17 rfl) l28 D28.code D28.keep (TH.ns_at e 18 rfl) l29 D29.code D29.keep (TH.ns_at e 19 rfl) l30 D30.code D30.keep (TH.ns_at e 20 rfl) l31 D31.code D31.keep (TH.ns_at e 21 rfl) l32 D32.code D32.keep (TH.ns_at e 22 rfl) l33 D33.code D33.keep (TH.ns_at e 23 rfl) l34 D34.code D34.keep (TH.ns_at e 24 rfl) l35 D35.code D35.keep (TH.ns_at e 25 rfl) l37 D37.code D37.keep (TH.ns_at e 26 rfl) l38 D38.code D38.keep (TH.ns_at e 27 rfl) l39 D39.code D39.keep (TH.ns_at e 28 rfl) l40 D40.code D40.keep (TH.ns_at e 29 rfl) l41 D41.code D41.keep (TH.ns_at e 30 rfl) l42 D42.code D42.keep (TH.ns_at e 31 rfl) l43 D43.code D43.keep (TH.ns_at e 32 rfl) l44 D44.code D44.keep (TH.ns_at e 33 rfl) l45 D45.code D45.keep lc12 v12 n12 h12 lc13 v13 n13 h13 lc27 v27 n27 h27 lc30 v30 n30 h30 lc31 v31 n31 h31 l2_0 D2_0.code l3_0 D3_0.code l4_0 D4_0.code l5_0 D5_0.code l6_0 D6_0.code (TH.ns_at e 34 rfl) (TH.ns_at e 35 rfl) (TH.ns_at e 36 rfl) (TH.ns_at e 37 rfl) (TH.ns_at e 38 rfl) (TH.chk_at e 0 rfl) (TH.chk_at e 1 rfl) (TH.chk_at e 2 rfl) (TH.chk_at e 3 rfl) (TH.chk_at e 4 rfl) (TH.ns_at e 39 rfl) (TH.ns_at e 40 rfl) (TH.ns_at e 41 rfl) (TH.ns_at e 42 rfl) (TH.ns_at e 43 rfl) (TH.ns_at e 44 rfl) (TH.ns_at e 45 rfl) (TH.ns_at e 46 rfl) (TH.ns_at e 47 rfl) (TH.ns_at e 48 rfl) (TH.ns_at e 49 rfl) (TH.ns_at e 50 rfl) (TH.ns_at e 51 rfl) (TH.ns_at e 52 rfl) (TH.ns_at e 53 rfl) (TH.ns_at e 54 rfl) (TH.ns_at e 55 rfl) (TH.ns_at e 56 rfl)
